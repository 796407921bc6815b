/- What is asked of each type, by its number. -/
import Derived.Test.YtgnaiphdnecghaaAbsO
namespace Go.Proofs.Ytgnaiphdnecghaa.Abs
open Go.RowKit
@[go_sem] theorem ti2 : tinfo Try.prog 2 = some ⟨1, 8, false, [.c (.v (.int .i64 0))], .int .i64⟩ := by kernel_rfl
@[go_sem] theorem ti3 : tinfo Try.prog 3 = some ⟨1, 8, false, [.c (.v (.int .i64 0))], .int .i64⟩ := by kernel_rfl
@[go_sem] theorem ti4 : tinfo Try.prog 4 = some ⟨1, 1, false, [.c (.v (.bool false))], .bool⟩ := by kernel_rfl
@[go_sem] theorem ti5 : tinfo Try.prog 5 = some ⟨1, 1, false, [.c (.v (.int .u8 0))], .int .u8⟩ := by kernel_rfl
@[go_sem] theorem ti9 : tinfo Try.prog 9 = some ⟨1, 16, false, [.c (.v (.string ⟨#[]⟩))], .str⟩ := by kernel_rfl
@[go_sem] theorem ti12 : tinfo Try.prog 12 = some ⟨1, 8, false, [.c (.v (.int .u64 0))], .int .u64⟩ := by kernel_rfl
@[go_sem] theorem ti21 : tinfo Try.prog 21 = some ⟨1, 4, false, [.c (.v (.int .i32 0))], .int .i32⟩ := by kernel_rfl
@[go_sem] theorem ti22 : tinfo Try.prog 22 = some ⟨1, 24, false, [.nil], .slice 25 9⟩ := by kernel_rfl
@[go_sem] theorem ti23 : tinfo Try.prog 23 = some ⟨1, 4, false, [.c (.v (.int .u32 0))], .int .u32⟩ := by kernel_rfl
@[go_sem] theorem ti24 : tinfo Try.prog 24 = some ⟨9, 48, true, [.c (.v (.int .i64 0)), .c (.v (.int .i64 0)), .c (.v (.int .u32 0)), .c (.v (.int .u32 0)), .c (.v (.int .u32 0)), .c (.v (.int .u32 0)), .c (.v (.int .u32 0)), .c (.v (.int .u32 0)), .c (.v (.int .i64 0))], .struct [(0, 1, false), (1, 1, false), (2, 1, false), (3, 1, false), (4, 1, false), (5, 1, false), (6, 1, false), (7, 1, false), (8, 1, false)]⟩ := by kernel_rfl
@[go_sem] theorem ti25 : tinfo Try.prog 25 = some ⟨9, 48, true, [.c (.v (.int .i64 0)), .c (.v (.int .i64 0)), .c (.v (.int .u32 0)), .c (.v (.int .u32 0)), .c (.v (.int .u32 0)), .c (.v (.int .u32 0)), .c (.v (.int .u32 0)), .c (.v (.int .u32 0)), .c (.v (.int .i64 0))], .struct [(0, 1, false), (1, 1, false), (2, 1, false), (3, 1, false), (4, 1, false), (5, 1, false), (6, 1, false), (7, 1, false), (8, 1, false)]⟩ := by kernel_rfl
@[go_sem] theorem ti29 : tinfo Try.prog 29 = some ⟨1, 8, false, [.c (.v (.int .i64 0))], .int .i64⟩ := by kernel_rfl
@[go_sem] theorem ti44 : tinfo Try.prog 44 = some ⟨1, 24, false, [.nil], .slice 22 1⟩ := by kernel_rfl
end Go.Proofs.Ytgnaiphdnecghaa.Abs

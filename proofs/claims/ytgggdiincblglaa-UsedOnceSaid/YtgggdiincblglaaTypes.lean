/- What is asked of each type, by its number. -/
import Derived.Test.YtgggdiincblglaaAbsO
namespace Go.Proofs.Ytgggdiincblglaa.Abs
open Go.RowKit
@[go_sem] theorem ti2 : tinfo Try.prog 2 = some ⟨1, 8, false, [.c (.v (.int .i64 0))], .int .i64⟩ := by kernel_rfl
@[go_sem] theorem ti3 : tinfo Try.prog 3 = some ⟨1, 8, false, [.c (.v (.int .i64 0))], .int .i64⟩ := by kernel_rfl
@[go_sem] theorem ti4 : tinfo Try.prog 4 = some ⟨1, 1, false, [.c (.v (.bool false))], .bool⟩ := by kernel_rfl
@[go_sem] theorem ti5 : tinfo Try.prog 5 = some ⟨1, 1, false, [.c (.v (.int .u8 0))], .int .u8⟩ := by kernel_rfl
@[go_sem] theorem ti9 : tinfo Try.prog 9 = some ⟨1, 16, false, [.c (.v (.string ⟨#[]⟩))], .str⟩ := by kernel_rfl
@[go_sem] theorem ti12 : tinfo Try.prog 12 = some ⟨1, 8, false, [.c (.v (.int .u64 0))], .int .u64⟩ := by kernel_rfl
@[go_sem] theorem ti21 : tinfo Try.prog 21 = some ⟨1, 4, false, [.c (.v (.int .i32 0))], .int .i32⟩ := by kernel_rfl
@[go_sem] theorem ti22 : tinfo Try.prog 22 = some ⟨1, 24, false, [.nil], .slice 23 1⟩ := by kernel_rfl
@[go_sem] theorem ti23 : tinfo Try.prog 23 = some ⟨1, 4, false, [.c (.v (.int .u32 0))], .int .u32⟩ := by kernel_rfl
@[go_sem] theorem ti26 : tinfo Try.prog 26 = some ⟨1, 8, false, [.c (.v (.int .i64 0))], .int .i64⟩ := by kernel_rfl
@[go_sem] theorem ti38 : tinfo Try.prog 38 = some ⟨1, 24, false, [.nil], .slice 22 1⟩ := by kernel_rfl
end Go.Proofs.Ytgggdiincblglaa.Abs

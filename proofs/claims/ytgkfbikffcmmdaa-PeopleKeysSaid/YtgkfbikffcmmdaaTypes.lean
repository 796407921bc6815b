/- What is asked of each type, by its number. -/
import Derived.Test.YtgkfbikffcmmdaaAbsO
namespace Go.Proofs.Ytgkfbikffcmmdaa.Abs
open Go.RowKit
@[go_sem] theorem ti1 : tinfo Try.prog 1 = some ⟨1, 8, false, [.c (.v (.nilFunc))], .other⟩ := by kernel_rfl
@[go_sem] theorem ti2 : tinfo Try.prog 2 = some ⟨1, 8, false, [.c (.v (.int .i64 0))], .int .i64⟩ := by kernel_rfl
@[go_sem] theorem ti3 : tinfo Try.prog 3 = some ⟨1, 8, false, [.c (.v (.int .i64 0))], .int .i64⟩ := by kernel_rfl
@[go_sem] theorem ti4 : tinfo Try.prog 4 = some ⟨1, 1, false, [.c (.v (.bool false))], .bool⟩ := by kernel_rfl
@[go_sem] theorem ti5 : tinfo Try.prog 5 = some ⟨1, 1, false, [.c (.v (.int .u8 0))], .int .u8⟩ := by kernel_rfl
@[go_sem] theorem ti9 : tinfo Try.prog 9 = some ⟨1, 16, false, [.c (.v (.string ⟨#[]⟩))], .str⟩ := by kernel_rfl
@[go_sem] theorem ti12 : tinfo Try.prog 12 = some ⟨1, 8, false, [.c (.v (.int .u64 0))], .int .u64⟩ := by kernel_rfl
@[go_sem] theorem ti15 : tinfo Try.prog 15 = some ⟨1, 8, false, [.c (.v (.pointer none))], .other⟩ := by kernel_rfl
@[go_sem] theorem ti16 : tinfo Try.prog 16 = some ⟨1, 8, false, [.c (.v (.pointer none))], .other⟩ := by kernel_rfl
@[go_sem] theorem ti19 : tinfo Try.prog 19 = some ⟨1, 8, true, [.c (.v (.pointer none))], .struct [(0, 1, false)]⟩ := by kernel_rfl
@[go_sem] theorem ti20 : tinfo Try.prog 20 = some ⟨1, 16, false, [.c (.v (.nilIface))], .other⟩ := by kernel_rfl
@[go_sem] theorem ti21 : tinfo Try.prog 21 = some ⟨1, 4, false, [.c (.v (.int .i32 0))], .int .i32⟩ := by kernel_rfl
@[go_sem] theorem ti22 : tinfo Try.prog 22 = some ⟨1, 24, false, [.nil], .slice 36 1⟩ := by kernel_rfl
@[go_sem] theorem ti23 : tinfo Try.prog 23 = some ⟨2, 32, true, [.nil, .c (.v (.int .i64 0))], .struct [(0, 1, false), (1, 1, false)]⟩ := by kernel_rfl
@[go_sem] theorem ti24 : tinfo Try.prog 24 = some ⟨2, 32, true, [.nil, .c (.v (.int .i64 0))], .struct [(0, 1, false), (1, 1, false)]⟩ := by kernel_rfl
@[go_sem] theorem ti25 : tinfo Try.prog 25 = some ⟨1, 24, false, [.nil], .slice 39 6⟩ := by kernel_rfl
@[go_sem] theorem ti26 : tinfo Try.prog 26 = some ⟨1, 8, false, [.c (.v (.nilFunc))], .other⟩ := by kernel_rfl
@[go_sem] theorem ti27 : tinfo Try.prog 27 = some ⟨1, 8, false, [.c (.v (.nilFunc))], .other⟩ := by kernel_rfl
@[go_sem] theorem ti28 : tinfo Try.prog 28 = some ⟨1, 8, false, [.c (.v (.int .i64 0))], .int .i64⟩ := by kernel_rfl
@[go_sem] theorem ti30 : tinfo Try.prog 30 = some ⟨1, 8, false, [.c (.v (.nilFunc))], .other⟩ := by kernel_rfl
@[go_sem] theorem ti31 : tinfo Try.prog 31 = some ⟨1, 8, false, [.c (.v (.nilFunc))], .other⟩ := by kernel_rfl
@[go_sem] theorem ti33 : tinfo Try.prog 33 = some ⟨1, 8, false, [.c (.v (.nilFunc))], .other⟩ := by kernel_rfl
@[go_sem] theorem ti34 : tinfo Try.prog 34 = some ⟨1, 8, false, [.c (.v (.nilFunc))], .other⟩ := by kernel_rfl
@[go_sem] theorem ti35 : tinfo Try.prog 35 = some ⟨1, 8, false, [.c (.v (.nilFunc))], .other⟩ := by kernel_rfl
@[go_sem] theorem ti36 : tinfo Try.prog 36 = some ⟨1, 4, false, [.c (.v (.int .u32 0))], .int .u32⟩ := by kernel_rfl
@[go_sem] theorem ti37 : tinfo Try.prog 37 = some ⟨1, 24, false, [.nil], .slice 65 9⟩ := by kernel_rfl
@[go_sem] theorem ti38 : tinfo Try.prog 38 = some ⟨6, 72, true, [.c (.v (.int .u32 0)), .c (.v (.int .u32 0)), .c (.v (.int .u32 0)), .nil, .nil, .c (.v (.bool false))], .struct [(0, 1, false), (1, 1, false), (2, 1, false), (3, 1, false), (4, 1, false), (5, 1, false)]⟩ := by kernel_rfl
@[go_sem] theorem ti39 : tinfo Try.prog 39 = some ⟨6, 72, true, [.c (.v (.int .u32 0)), .c (.v (.int .u32 0)), .c (.v (.int .u32 0)), .nil, .nil, .c (.v (.bool false))], .struct [(0, 1, false), (1, 1, false), (2, 1, false), (3, 1, false), (4, 1, false), (5, 1, false)]⟩ := by kernel_rfl
@[go_sem] theorem ti41 : tinfo Try.prog 41 = some ⟨1, 8, false, [.c (.v (.nilFunc))], .other⟩ := by kernel_rfl
@[go_sem] theorem ti43 : tinfo Try.prog 43 = some ⟨1, 8, false, [.c (.v (.nilFunc))], .other⟩ := by kernel_rfl
@[go_sem] theorem ti45 : tinfo Try.prog 45 = some ⟨1, 8, false, [.c (.v (.nilFunc))], .other⟩ := by kernel_rfl
@[go_sem] theorem ti46 : tinfo Try.prog 46 = some ⟨1, 8, false, [.c (.v (.nilFunc))], .other⟩ := by kernel_rfl
@[go_sem] theorem ti47 : tinfo Try.prog 47 = some ⟨1, 8, false, [.c (.v (.nilFunc))], .other⟩ := by kernel_rfl
@[go_sem] theorem ti48 : tinfo Try.prog 48 = some ⟨1, 8, false, [.c (.v (.nilFunc))], .other⟩ := by kernel_rfl
@[go_sem] theorem ti49 : tinfo Try.prog 49 = some ⟨1, 8, false, [.c (.v (.nilFunc))], .other⟩ := by kernel_rfl
@[go_sem] theorem ti50 : tinfo Try.prog 50 = some ⟨1, 8, false, [.c (.v (.nilFunc))], .other⟩ := by kernel_rfl
@[go_sem] theorem ti51 : tinfo Try.prog 51 = some ⟨1, 8, false, [.c (.v (.nilFunc))], .other⟩ := by kernel_rfl
@[go_sem] theorem ti52 : tinfo Try.prog 52 = some ⟨1, 8, false, [.c (.v (.nilFunc))], .other⟩ := by kernel_rfl
@[go_sem] theorem ti53 : tinfo Try.prog 53 = some ⟨1, 8, false, [.c (.v (.nilFunc))], .other⟩ := by kernel_rfl
@[go_sem] theorem ti54 : tinfo Try.prog 54 = some ⟨1, 8, false, [.c (.v (.nilFunc))], .other⟩ := by kernel_rfl
@[go_sem] theorem ti55 : tinfo Try.prog 55 = some ⟨1, 8, false, [.c (.v (.nilFunc))], .other⟩ := by kernel_rfl
@[go_sem] theorem ti57 : tinfo Try.prog 57 = some ⟨1, 8, false, [.c (.v (.nilFunc))], .other⟩ := by kernel_rfl
@[go_sem] theorem ti59 : tinfo Try.prog 59 = some ⟨1, 8, false, [.c (.v (.nilFunc))], .other⟩ := by kernel_rfl
@[go_sem] theorem ti60 : tinfo Try.prog 60 = some ⟨1, 8, false, [.c (.v (.nilFunc))], .other⟩ := by kernel_rfl
@[go_sem] theorem ti61 : tinfo Try.prog 61 = some ⟨1, 8, false, [.c (.v (.nilFunc))], .other⟩ := by kernel_rfl
@[go_sem] theorem ti62 : tinfo Try.prog 62 = some ⟨1, 8, false, [.c (.v (.nilFunc))], .other⟩ := by kernel_rfl
@[go_sem] theorem ti63 : tinfo Try.prog 63 = some ⟨1, 8, false, [.c (.v (.nilFunc))], .other⟩ := by kernel_rfl
@[go_sem] theorem ti64 : tinfo Try.prog 64 = some ⟨9, 48, true, [.c (.v (.int .i64 0)), .c (.v (.int .i64 0)), .c (.v (.int .u32 0)), .c (.v (.int .u32 0)), .c (.v (.int .u32 0)), .c (.v (.int .u32 0)), .c (.v (.int .u32 0)), .c (.v (.int .u32 0)), .c (.v (.int .i64 0))], .struct [(0, 1, false), (1, 1, false), (2, 1, false), (3, 1, false), (4, 1, false), (5, 1, false), (6, 1, false), (7, 1, false), (8, 1, false)]⟩ := by kernel_rfl
@[go_sem] theorem ti65 : tinfo Try.prog 65 = some ⟨9, 48, true, [.c (.v (.int .i64 0)), .c (.v (.int .i64 0)), .c (.v (.int .u32 0)), .c (.v (.int .u32 0)), .c (.v (.int .u32 0)), .c (.v (.int .u32 0)), .c (.v (.int .u32 0)), .c (.v (.int .u32 0)), .c (.v (.int .i64 0))], .struct [(0, 1, false), (1, 1, false), (2, 1, false), (3, 1, false), (4, 1, false), (5, 1, false), (6, 1, false), (7, 1, false), (8, 1, false)]⟩ := by kernel_rfl
@[go_sem] theorem ti66 : tinfo Try.prog 66 = some ⟨1, 8, false, [.c (.v (.nilFunc))], .other⟩ := by kernel_rfl
@[go_sem] theorem ti67 : tinfo Try.prog 67 = some ⟨1, 8, false, [.c (.v (.nilFunc))], .other⟩ := by kernel_rfl
@[go_sem] theorem ti68 : tinfo Try.prog 68 = some ⟨1, 8, false, [.c (.v (.nilFunc))], .other⟩ := by kernel_rfl
@[go_sem] theorem ti69 : tinfo Try.prog 69 = some ⟨1, 8, false, [.c (.v (.nilFunc))], .other⟩ := by kernel_rfl
@[go_sem] theorem ti70 : tinfo Try.prog 70 = some ⟨1, 8, false, [.c (.v (.nilFunc))], .other⟩ := by kernel_rfl
@[go_sem] theorem ti71 : tinfo Try.prog 71 = some ⟨1, 8, false, [.c (.v (.nilFunc))], .other⟩ := by kernel_rfl
@[go_sem] theorem ti72 : tinfo Try.prog 72 = some ⟨1, 8, false, [.c (.v (.nilFunc))], .other⟩ := by kernel_rfl
@[go_sem] theorem ti75 : tinfo Try.prog 75 = some ⟨0, 0, true, [], .arr 0 16 1⟩ := by kernel_rfl
@[go_sem] theorem ti78 : tinfo Try.prog 78 = some ⟨1, 8, false, [.c (.v (.nilFunc))], .other⟩ := by kernel_rfl
@[go_sem] theorem ti81 : tinfo Try.prog 81 = some ⟨1, 8, false, [.c (.v (.nilFunc))], .other⟩ := by kernel_rfl
@[go_sem] theorem ti82 : tinfo Try.prog 82 = some ⟨1, 8, false, [.c (.v (.pointer none))], .other⟩ := by kernel_rfl
end Go.Proofs.Ytgkfbikffcmmdaa.Abs

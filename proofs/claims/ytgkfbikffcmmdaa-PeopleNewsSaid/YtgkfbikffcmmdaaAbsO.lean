/- What each operation makes of values without addresses. -/
import Derived.Test.YtgkfbikffcmmdaaAbsT
import Derived.OrdersIn
set_option linter.unusedSimpArgs false
set_option linter.unusedVariables false
set_option maxRecDepth 100000
namespace Go.Proofs.Ytgkfbikffcmmdaa.Abs
open Go.RowKit

def ofCell : Value → A
  | .slice none 0 0 => .nil
  | x => .c (.v x)
/-- A pointer by its address. -/
def rawP : Value → Option (Nat × Nat)
  | .pointer (some ⟨b, off, none⟩) => some (b, off)
  | _ => none
def ofVal : Value → AV
  | .agg cs => bif cs.toList.all okV then .agg (cs.toList.map ofCell) else .junk
  | .tuple _ => .junk
  | x => bif okV x then .one (ofCell x) else .junk

/-! Types. -/
inductive Knd where
  | int (k : IntKind)
  | bool
  | str
  | slice (e esz : Nat)
  | arr (n e esz : Nat)
  | struct (fs : List (Nat × Nat × Bool))
  | other
structure TI where
  size : Nat
  bytes : Nat
  agg : Bool
  zero : List A
  knd : Knd
def isAggD : TypeDesc → Bool
  | .struct _ => true
  | .array _ _ => true
  | _ => false
def fldOf (P : Program) (f : Field) : Nat × Nat × Bool := (f.offset, P.cellsOf f.type, match P.underlying f.type with | some d => isAggD d | none => true)
def kndOf (P : Program) : TypeDesc → Knd
  | .int k => .int k
  | .bool => .bool
  | .string => .str
  | .slice e => match P.info? e with
    | some ie => match ie.zero with
      | some z => bif decide (ie.bytes ≤ 131072) && decide (z.cells.size = ie.size) && decide (0 < ie.size) && z.cells.toList.all okV then .slice e ie.size else .other
      | none => .other
    | none => .other
  | .array n e => .arr n e (P.cellsOf e)
  | .struct fs => bif fs.toList.all (fun f => (P.info? f.type).isSome && (P.underlying f.type).isSome) then .struct (fs.toList.map (fldOf P)) else .other
  | _ => .other
/-- What is asked of a type. -/
def TIs (P : Program) (t : TypeId) (ti : TI) : Prop :=
  ∃ i d z, P.info? t = some i ∧ P.underlying t = some d ∧ i.zero = some z ∧ z.cells.toList.all okV = true ∧ ti = ⟨i.size, i.bytes, isAggD d, z.cells.toList.map ofCell, kndOf P d⟩
def tinfo (P : Program) (t : TypeId) : Option TI :=
  match P.info? t with
  | some i => match P.underlying t with
    | some d => match i.zero with
      | some z => bif z.cells.toList.all okV then some ⟨i.size, i.bytes, isAggD d, z.cells.toList.map ofCell, kndOf P d⟩ else none
      | none => none
    | none => none
  | none => none
theorem tinfo_is {P : Program} {t : TypeId} {ti : TI} (h : tinfo P t = some ti) : TIs P t ti := by
  unfold tinfo at h
  split at h
  · rename_i i hi
    split at h
    · rename_i d hd
      split at h
      · rename_i z hz
        cases hc : z.cells.toList.all okV with
        | false => rw [hc] at h; simp at h
        | true =>
          rw [hc] at h
          cases h
          exact ⟨i, d, z, hi, hd, hz, hc, rfl⟩
      · simp at h
    · simp at h
  · simp at h

/-! States, and what an operation asks of the memory, and makes. -/
structure St where
  n : Nat
  t : Nat → AV
  m : Mem
def ev (σ : St) : Operand → AV
  | .tmp t => bif decide (t < σ.n) then σ.t t else .junk
  | .const v => ofVal v
  | .func f => .one (.c (.fn f false [] []))
  | .global g => match tabsV g with
    | some vs => .one (.c (.ptrc 0 (vs.map .v) 0))
    | none => .junk
def hasN : List Nat → Nat → Bool
  | [], _ => false
  | x :: l, i => x == i || hasN l i
theorem hasN_iff {l : List Nat} {i : Nat} : hasN l i = true ↔ i ∈ l := by
  induction l with
  | nil => simp [hasN]
  | cons x l ih => simp [hasN, ih]; exact ⟨fun h => h.imp Eq.symm (fun h => h), fun h => h.imp Eq.symm (fun h => h)⟩
/-- The memory, of these blocks alone. -/
def only (ids : List Nat) (m : Mem) : Mem := fun i => bif hasN ids i then m i else none
/-- The memory, with these blocks anew. -/
def mrg (ids : List Nat) (nw m : Mem) : Mem := fun i => bif hasN ids i then nw i else m i
structure Eff where
  ok : Prop
  val : AV
  new : Mem
structure Req where
  ids : List Nat
  wr : Bool
  f : Mem → Eff
def Req.bad : Req := ⟨[], false, fun _ => ⟨False, .junk, fun _ => none⟩⟩
def Req.val (ok : Prop) (v : AV) : Req := ⟨[], false, fun _ => ⟨ok, v, fun _ => none⟩⟩
def Req.read (ids : List Nat) (f : Mem → Prop × AV) : Req := ⟨ids, false, fun m => ⟨(f m).1, (f m).2, fun _ => none⟩⟩
def Req.eff (r : Req) (m : Mem) : Eff := r.f (only r.ids m)
def Req.mem (r : Req) (m : Mem) : Mem := bif r.wr then mrg r.ids (r.eff m).new m else m

/-- A cell of what a function gives: it may be a row that nobody else knows of. -/
inductive RE where
  | c (x : CV)
  | own (e : TypeId) (sz : Nat) (xs : List (List CV))
/-- What a function gives. -/
inductive RV where
  | one (x : CA)
  | tup (rs : List CA)
  | own (e : TypeId) (sz : Nat) (xs : List (List CV))
  | mix (rs : List (Bool × List RE))
  | bx (ins outs : List (Nat × OC)) (rs : List CA)
def CA.av : CA → AV
  | .one x => .one (.c x)
  | .agg cs => .agg (cs.map .c)
  | .nil => .one .nil
/-- A row that nobody else knows of: it may be written, and put behind. -/
def RO (base : Nat) (S : Sh) (w : World) (e : TypeId) (sz : Nat) (xs : List (List CV)) (v : Value) : Prop :=
  (∀ us ∈ xs, us.length = sz) ∧ 0 < sz ∧ xs.length ≤ 1073741824 ∧ (∀ g, v.ownBlock = some g → ∀ k, ¬ S k g) ∧ ∃ vss : List (List Value), F2 (F2 (R S w)) xs vss ∧ w.ownsRow base e sz v xs.length vss.flatten
def RRE (base : Nat) (S : Sh) (w : World) : RE → Value → Prop
  | .c x, u => R S w x u
  | .own e sz xs, u => RO base S w e sz xs u
/-- Results, by their cells, and each cell beside its value. -/
inductive MixR (base : Nat) (S : Sh) (w : World) : List (Bool × List RE) → List Value → List (RE × Value) → Prop
  | nil : MixR base S w [] [] []
  | agg {cs : List RE} {us : List Value} {rs : List (Bool × List RE)} {vs : List Value} {ps : List (RE × Value)} : F2 (RRE base S w) cs us → MixR base S w rs vs ps → MixR base S w ((true, cs) :: rs) (.agg us.toArray :: vs) (cs.zip us ++ ps)
  | one {r : RE} {u : Value} {rs : List (Bool × List RE)} {vs : List Value} {ps : List (RE × Value)} : RRE base S w r u → MixR base S w rs vs ps → MixR base S w ((false, [r]) :: rs) (u :: vs) ((r, u) :: ps)
/-- Rows that nobody else knows of lie in blocks of their own. -/
def apartP (p q : RE × Value) : Prop := match p.1, q.1 with
  | .own _ _ _, .own _ _ _ => ∀ b, p.2.ownBlock = some b → q.2.ownBlock ≠ some b
  | _, _ => True
def valOf : List Value → Value
  | [x] => x
  | l => .tuple l.toArray
def RRs (S : Sh) (w : World) : List CA → Value → Prop
  | [x], v => RC S w x v
  | l, v => ∃ vs : List Value, v = .tuple vs.toArray ∧ F2 (RC S w) l vs
/-- Which boxes are handed over. -/
def insOf : RV → List (Nat × OC)
  | .bx ins _ _ => ins
  | _ => []
def outsOf : RV → List (Nat × OC)
  | .bx _ outs _ => outs
  | _ => []
def lentR (r : RV) (b : Nat) : Prop := ∃ cs, (b, cs) ∈ insOf r
def RR (base : Nat) (S : Sh) (w : World) : RV → Value → Prop
  | .one x, v => RC S w x v
  | .tup rs, v => ∃ vs : List Value, v = .tuple vs.toArray ∧ F2 (RC S w) rs vs
  | .own e sz xs, v => RO base S w e sz xs v
  | .mix rs, v => ∃ vs ps, MixR base S w rs vs ps ∧ ps.Pairwise apartP ∧ v = valOf vs
  | .bx _ outs rs, v => RRs S w rs v ∧ ∀ p ∈ outs, BoxAt S w p
/-- A function of the program: it has a body, and is none of the model's own. -/
def FnOK (P : Program) (f : FuncId) : Prop := ∃ fn, P.funcs[f]? = some fn ∧ fn.body.isNone = false ∧ (fn.name == "runtime.NumGoroutine") = false
/-- Of whatever these stand for, in whatever world, the function gives what that stands for, and writes nothing that was. -/
def ACalls (P : Program) (f : FuncId) (args : List CA) (r : RV) : Prop :=
  FnOK P f ∧ ∀ (S : Sh) (w : World) (vs : List Value), (∀ k b, S k b → b < w.heap.size) → Gl S w → F2 (RC S w) args vs → (∀ p ∈ insOf r, BoxAt S w p) →
    Calls P f vs.toArray w fun e w' => ∃ (v : Value) (T : Sh), e = .returned v ∧ (∀ k b, T k b → S k b ∨ (w.heap.size ≤ b ∧ b < w'.heap.size)) ∧ RR w.heap.size (fun k b => S k b ∨ T k b) w' r v ∧ BelowX w.heap.size (lentR r) w w'

/-- No bounds; in a round of a loop over a function, or in none. -/
abbrev Fw (ro : Option Nat) : Fence := { Fence.wide with round := ro }
/-- What a round starts from. -/
def roundTmps (R : Loop) (vs : List Value) : Array Value := (R.params.zip vs.toArray).foldl (fun tmps (t, a) => tmps.setIfInBounds t a) R.tmps
/-- Of whatever these stand for, in whatever world, a round of the loop gives what that stands for; it writes what it was lent, and its record. -/
def AYields (P : Program) (l : Nat) (args : List CA) (r : RV) : Prop :=
  (∃ rc, rc.pend = none ∧ (l, OC.loop rc) ∈ insOf r) ∧ ∀ (ro : Option Nat) (S : Sh) (w : World) (vs : List Value), (∀ k b, S k b → b < w.heap.size) → Gl S w → F2 (RC S w) args vs → (∀ p ∈ insOf r, BoxAt S w p) →
    ∀ R : Loop, w.heap[l]? = some (.loop R) → vs.length = R.params.size ∧ RoundIn (Fw ro) 0 P l R.fn (roundTmps R vs) R.assign R.body w fun e w' => ∃ (v : Value) (T : Sh), e = .returned v ∧ (∀ k b, T k b → S k b ∨ (w.heap.size ≤ b ∧ b < w'.heap.size)) ∧
      RR w.heap.size (fun k b => S k b ∨ T k b) w' r v ∧ BelowX w.heap.size (lentR r) w w'
/-- A loop's yield. -/
def yieldOf : Value → Option Nat
  | .func (.yield l) ⟨[]⟩ ⟨[]⟩ => some l
  | _ => none
theorem yieldOf_func (l : Nat) : yieldOf (.func (.yield l) #[] #[]) = some l := rfl
theorem yieldOf_eq {v : Value} {l : Nat} (h : yieldOf v = some l) : v = .func (.yield l) #[] #[] := by
  unfold yieldOf at h
  split at h
  · cases h; rfl
  · simp at h
/-! Cells that are shown. -/
def ownIds : List A → List Nat
  | [] => []
  | .own id _ :: l => id :: ownIds l
  | .mp id :: l => id :: ownIds l
  | _ :: l => ownIds l
def clo (m : Mem) : A → CV
  | .c x => x
  | .own id _ => match m id with
    | some (.rows _ _ xs) => .row xs
    | some (.froz xs) => .row xs
    | some (.lent j _ _ xs) => .rowc j xs
    | _ => .row []
  | .mp id => match m id with
    | some (.mapb a ks xs) => .mapc a ks xs
    | some (.fmap a ks xs) => .mapc a ks xs
    | _ => .row []
  | .full k xs => .rowc k xs
  | .el k cs off => .ptrc k cs off
  | .nil => .row []
  | .bare => .row []
  | _ => .row []
def cloOK (m : Mem) : A → Prop
  | .c _ => True
  | .own id n => match m id with
    | some (.rows _ _ xs) => xs.length = n
    | some (.froz xs) => xs.length = n
    | some (.lent _ _ _ xs) => xs.length = n
    | _ => False
  | .mp id => match m id with
    | some (.mapb _ _ _) => True
    | some (.fmap _ _ _) => True
    | _ => False
  | .full _ _ => True
  | .el _ _ _ => True
  | .nil => True
  | .bare => True
  | _ => False
def cloAll (m : Mem) : List A → Prop
  | [] => True
  | [a] => cloOK m a
  | a :: l => cloOK m a ∧ cloAll m l
def frzB : Option Blk → Option Blk
  | some (.rows _ _ xs) => some (.froz xs)
  | some (.mapb a ks xs) => some (.fmap a ks xs)
  | b => b
def frz (m : Mem) : Mem := fun i => frzB (m i)
def AV.cells : AV → List A
  | .one a => [a]
  | .agg cs => cs
  | _ => []
def AV.flat : AV → Bool
  | .one _ => true
  | .agg _ => true
  | _ => false
def cloAV (m : Mem) : AV → CA
  | .one a => .one (clo m a)
  | .agg cs => .agg (cs.map (clo m))
  | _ => .agg []
/-- What is handed over: nothing stays nothing. -/
def cloArg (m : Mem) : AV → CA
  | .one .nil => .nil
  | .one a => .one (clo m a)
  | .agg cs => .agg (cs.map (clo m))
  | _ => .agg []
def splice {α : Type} (cs : List α) (off : Nat) (us : List α) : List α := cs.take off ++ us ++ cs.drop (off + us.length)

/-! Numbers. -/
def icmp : BinOp → Int → Int → Option Bool
  | .eql, a, b => some (a == b)
  | .neq, a, b => some (a != b)
  | .lss, a, b => some (decide (a < b))
  | .leq, a, b => some (decide (a ≤ b))
  | .gtr, a, b => some (decide (a > b))
  | .geq, a, b => some (decide (a ≥ b))
  | _, _, _ => none
def iari : BinOp → IntKind → Int → Int → Option Int
  | .add, k, a, b => some (k.wrap (a + b))
  | .sub, k, a, b => some (k.wrap (a - b))
  | .mul, k, a, b => some (k.wrap (a * b))
  | .quo, k, a, b => bif decide (b = 0) then none else some (k.wrap (a.tdiv b))
  | .and, k, a, b => some (k.wrap (BitVec.ofInt k.bits a &&& BitVec.ofInt k.bits b).toNat)
  | .or, k, a, b => some (k.wrap (BitVec.ofInt k.bits a ||| BitVec.ofInt k.bits b).toNat)
  | .xor, k, a, b => some (k.wrap (BitVec.ofInt k.bits a ^^^ BitVec.ofInt k.bits b).toNat)
  | .andNot, k, a, b => some (k.wrap (BitVec.ofInt k.bits a &&& ~~~ BitVec.ofInt k.bits b).toNat)
  | _, _, _, _ => none
def vbin (op : BinOp) : Value → Value → Option Value
  | .int k a, .int k' b => bif decide (k = k') then match icmp op a b with
    | some c => some (.bool c)
    | none => match iari op k a b with
      | some c => some (.int k c)
      | none => none
    else none
  | _, _ => none
def eqCV : CV → CV → Option Bool
  | .v (.int k a), .v (.int k' b) => bif decide (k = k') then some (a == b) else none
  | .v (.bool a), .v (.bool b) => some (a == b)
  | _, _ => none
def eqA : A → A → Option Bool
  | .c x, .c y => eqCV x y
  | _, _ => none
def eqL : List A → List A → Option Bool
  | [], [] => some true
  | [x], [y] => eqA x y
  | x :: xs, y :: ys => match eqA x y with
    | some b => match eqL xs ys with
      | some c => some (b && c)
      | none => none
    | none => none
  | _, _ => none
def shV : Value → Option (Option IntKind)
  | .int k _ => some (some k)
  | .bool _ => some none
  | _ => none
def shA : A → Option (Option IntKind)
  | .c (.v x) => shV x
  | _ => none
def eqV : Value → Value → Bool
  | .int _ a, .int _ b => a == b
  | .bool a, .bool b => a == b
  | _, _ => false
def eqVs : List Value → List Value → Bool
  | x :: xs, y :: ys => eqV x y && eqVs xs ys
  | _, _ => true
/-- Values of the type are held against one another cell by cell. -/
def EqOK (P : Program) (t : TypeId) (sh : List (Option (Option IntKind))) : Prop := P.eqGuardType P.depth t = false ∧ ∀ (us vs : List Value) (w : World), us.map shV = sh → vs.map shV = sh →
  (Op.equal t (.agg us.toArray) (.agg vs.toArray)).run P w = .ok (eqVs us vs) w

/-! The operations. -/
def rd (ti : TI) (cs : List A) (off : Nat) : Prop × AV :=
  bif ti.agg then (off + ti.size ≤ cs.length, .agg ((cs.drop off).take ti.size)) else match cs[off]? with
    | some a => (True, .one a)
    | none => (False, .junk)
def rLoad (P : Program) (T : TypeId) (x : AV) : Req := match tinfo P T with
  | none => .bad
  | some ti => match x with
    | .one (.ptr id off) => .read [id] fun m => match m id with
      | some (.box cs) => rd ti cs off
      | some (.fbox cs) => rd ti (cs.map .c) off
      | _ => (False, .junk)
    | .one (.el _ cs off) => .val (rd ti (cs.map .c) off).1 (rd ti (cs.map .c) off).2
    | .one (.c (.ptrc _ cs off)) => .val (rd ti (cs.map .c) off).1 (rd ti (cs.map .c) off).2
    | .one (.c (.v x)) => match rawP x with
      | some (b, off) => .read [1000000 + b] fun m => match m (1000000 + b) with
        | some (.obox cs) => rd ti (cs.map .c) off
        | _ => (False, .junk)
      | none => .bad
    | .one (.pel id n i off) => .read [id] fun m => match rowsOf m id with
      | some (_, _, xs) => (xs.length = n ∧ i < n ∧ (rd ti ((xs.getD i []).map .c) off).1, (rd ti ((xs.getD i []).map .c) off).2)
      | _ => (False, .junk)
    | _ => .bad
def rStore (P : Program) (T : TypeId) (x u : AV) : Req := match tinfo P T with
  | none => .bad
  | some ti => match x with
    | .one (.ptr id off) => ⟨[id], true, fun m => match m id with
      | some (.box cs) => ⟨u.flat = true ∧ u.cells.length = ti.size ∧ off + u.cells.length ≤ cs.length, .junk, fun _ => some (.box (splice cs off u.cells))⟩
      | _ => ⟨False, .junk, fun _ => none⟩⟩
    | .one (.pel id n i off) => ⟨id :: ownIds u.cells, true, fun m => match m id with
      | some (.rows e sz xs) => ⟨u.flat = true ∧ u.cells.length = ti.size ∧ xs.length = n ∧ i < n ∧ off + ti.size ≤ sz ∧ cloAll m u.cells ∧ hasN (ownIds u.cells) id = false, .junk, fun j => bif j == id then some (.rows e sz (xs.set i (bif off == 0 && ti.size == sz then u.cells.map (clo m) else splice (xs.getD i []) off (u.cells.map (clo m))))) else frz m j⟩
      | _ => ⟨False, .junk, fun _ => none⟩⟩
    | .one (.c (.v x)) => match rawP x with
      | some (b, off) => ⟨(1000000 + b) :: ownIds u.cells, true, fun m => match m (1000000 + b) with
        | some (.obox cs) => ⟨u.flat = true ∧ u.cells.length = ti.size ∧ off + u.cells.length ≤ cs.length ∧ cloAll m u.cells ∧ hasN (ownIds u.cells) (1000000 + b) = false, .junk, fun j => bif j == 1000000 + b then some (.obox (splice cs off (u.cells.map (clo m)))) else frz m j⟩
        | _ => ⟨False, .junk, fun _ => none⟩⟩
      | none => .bad
    | _ => .bad
def rField (P : Program) (T : TypeId) (x : AV) (f : Nat) : Req := match tinfo P T with
  | some ⟨_, _, _, _, .struct fs⟩ => match fs[f]?, x with
    | some (o, sz, _), .one (.ptr id off) => .val (sz ≠ 0) (.one (.ptr id (off + o)))
    | some (o, sz, _), .one (.el k cs off) => .val (sz ≠ 0) (.one (.el k cs (off + o)))
    | some (o, sz, _), .one (.c (.ptrc k cs off)) => .val (sz ≠ 0) (.one (.el k cs (off + o)))
    | some (o, sz, _), .one (.pel id n i off) => .read [id] fun m => match rowsOf m id with
      | some (_, _, xs) => (xs.length = n ∧ sz ≠ 0, .one (.pel id n i (off + o)))
      | _ => (False, .junk)
    | some (o, sz, _), .one (.c (.v x)) => match rawP x with
      | some (b, off) => .val (sz ≠ 0) (.one (.c (.v (.pointer (some ⟨b, off + o, none⟩)))))
      | none => .bad
    | _, _ => .bad
  | _ => .bad
def rFieldV (P : Program) (T : TypeId) (x : AV) (f : Nat) : Req := match tinfo P T with
  | some ⟨_, _, _, _, .struct fs⟩ => match fs[f]?, x with
    | some (o, sz, ag), .agg cs => bif ag then .val True (.agg ((cs.drop o).take sz)) else match cs[o]? with
      | some a => .val True (.one a)
      | none => .bad
    | _, _ => .bad
  | _ => .bad
def rIndex (P : Program) (T : TypeId) (x i : AV) : Req := match tinfo P T with
  | some ⟨_, _, _, _, .slice _ esz⟩ => match x, i with
    | .one (.c (.rowc k xs)), .one (.c (.v (.int _ i))) => .val (0 ≤ i ∧ i.toNat < xs.length ∧ (xs.getD i.toNat []).length = esz ∧ esz ≠ 0) (.one (.el k (xs.getD i.toNat []) 0))
    | .one (.full k xs), .one (.c (.v (.int _ i))) => .val (0 ≤ i ∧ i.toNat < xs.length ∧ (xs.getD i.toNat []).length = esz ∧ esz ≠ 0) (.one (.el k (xs.getD i.toNat []) 0))
    | .one (.own id n), .one (.c (.v (.int _ i))) => .read [id] fun m => match m id with
      | some (.rows _ sz xs) => (xs.length = n ∧ 0 ≤ i ∧ i.toNat < xs.length ∧ sz = esz, .one (.pel id n i.toNat 0))
      | some (.froz xs) => (xs.length = n ∧ 0 ≤ i ∧ i.toNat < xs.length ∧ (xs.getD i.toNat []).length = esz ∧ esz ≠ 0, .one (.el 0 (xs.getD i.toNat []) 0))
      | some (.lent _ _ sz xs) => (xs.length = n ∧ 0 ≤ i ∧ i.toNat < xs.length ∧ sz = esz, .one (.pel id n i.toNat 0))
      | _ => (False, .junk)
    | _, _ => .bad
  | some ⟨_, _, _, _, .arr len _ esz⟩ => match x, i with
    | .one (.ptr id off), .one (.c (.v (.int _ i))) => .val (0 ≤ i ∧ i.toNat < len ∧ esz ≠ 0) (.one (.ptr id (off + i.toNat * esz)))
    | .one (.el k cs off), .one (.c (.v (.int _ i))) => .val (0 ≤ i ∧ i.toNat < len ∧ esz ≠ 0) (.one (.el k cs (off + i.toNat * esz)))
    | .one (.c (.ptrc k cs off)), .one (.c (.v (.int _ i))) => .val (0 ≤ i ∧ i.toNat < len ∧ esz ≠ 0) (.one (.el k cs (off + i.toNat * esz)))
    | .one (.c (.v x)), .one (.c (.v (.int _ i))) => match rawP x with
      | some (b, off) => .val (0 ≤ i ∧ i.toNat < len ∧ esz ≠ 0) (.one (.c (.v (.pointer (some ⟨b, off + i.toNat * esz, none⟩)))))
      | none => .bad
    | _, _ => .bad
  | _ => .bad
/-- An element of an array that is a value. -/
def rIndexV (P : Program) (T : TypeId) (x i : AV) : Req := match tinfo P T with
  | some ⟨_, _, _, _, .arr len e esz⟩ => match tinfo P e with
    | some ti => match x, i with
      | .agg cs, .one (.c (.v (.int _ i))) => .val (0 ≤ i ∧ i.toNat < len ∧ ti.size = esz ∧ (rd ti cs (i.toNat * esz)).1) (rd ti cs (i.toNat * esz)).2
      | _, _ => .bad
    | none => .bad
  | _ => .bad
def rLen (P : Program) (T : TypeId) (x : AV) : Req := match tinfo P T with
  | some ⟨_, _, _, _, .slice _ _⟩ => match x with
    | .one (.c (.rowc _ xs)) => .val True (.one (.c (.v (.int .i64 xs.length))))
    | .one (.full _ xs) => .val True (.one (.c (.v (.int .i64 xs.length))))
    | .one .nil => .val True (.one (.c (.v (.int .i64 0))))
    | .one .bare => .val True (.one (.c (.v (.int .i64 0))))
    | .one (.own _ n) => .val True (.one (.c (.v (.int .i64 n))))
    | _ => .bad
  | some ⟨_, _, _, _, .str⟩ => match x with
    | .one (.c (.v (.string s))) => .val (inK .i64 s.size = true) (.one (.c (.v (.int .i64 s.size))))
    | _ => .bad
  | _ => .bad
/-- What is put behind: its elements. -/
def srcOf (m : Mem) : AV → Option (List (List CV))
  | .one (.c (.rowc _ ys)) => some ys
  | .one (.full _ ys) => some ys
  | .one .nil => some []
  | .one .bare => some []
  | .one (.own id _) => match m id with
    | some (.rows _ _ ys) => some ys
    | some (.froz ys) => some ys
    | some (.lent _ _ _ ys) => some ys
    | _ => none
  | _ => none
def srcOK (m : Mem) : AV → Prop
  | .one (.own id n) => match m id with
    | some (.rows _ _ ys) => ys.length = n
    | some (.froz ys) => ys.length = n
    | some (.lent _ _ _ ys) => ys.length = n
    | _ => False
  | _ => True
def rAppend (P : Program) (dst : Option Nat) (T T' : TypeId) (s x : AV) : Req := match tinfo P T with
  | some ⟨_, _, _, _, .slice e esz⟩ => match s with
    | .one (.own id n) => ⟨id :: ownIds x.cells, true, fun m => match m id with
      | some (.rows e' sz xs) => match srcOf m x with
        | some ys => ⟨T' = T ∧ e' = e ∧ sz = esz ∧ xs.length = n ∧ srcOK m x ∧ hasN (ownIds x.cells) id = false ∧ (∀ us ∈ ys, us.length = esz) ∧ xs.length + ys.length ≤ 1073741824, .one (.own id (xs.length + ys.length)), fun i => bif i == id then some (.rows e sz (xs ++ ys)) else m i⟩
        | none => ⟨False, .junk, fun _ => none⟩
      | _ => ⟨False, .junk, fun _ => none⟩⟩
    | .one .nil => match dst with
      | some d => ⟨d :: ownIds x.cells, true, fun m => match m d with
        | none => match srcOf m x with
          | some ys => ⟨T' = T ∧ 0 < esz ∧ srcOK m x ∧ (∀ us ∈ ys, us.length = esz) ∧ ys.length ≤ 1073741824, .one (.own d ys.length), fun i => bif i == d then some (.rows e esz ys) else m i⟩
          | none => ⟨False, .junk, fun _ => none⟩
        | some _ => ⟨False, .junk, fun _ => none⟩⟩
      | none => .bad
    | .one (.full k xs) => match dst with
      | some d => ⟨d :: ownIds x.cells, true, fun m => match m d with
        | none => match srcOf m x with
          | some [] => ⟨T' = T ∧ srcOK m x ∧ (∀ us ∈ xs, us.length = esz), .one (.full k xs), m⟩
          | some ys => ⟨T' = T ∧ 0 < esz ∧ srcOK m x ∧ ys ≠ [] ∧ (∀ us ∈ xs, us.length = esz) ∧ (∀ us ∈ ys, us.length = esz) ∧ xs.length + ys.length ≤ 1073741824, .one (.own d (xs.length + ys.length)), fun i => bif i == d then some (.rows e esz (xs ++ ys)) else m i⟩
          | none => ⟨False, .junk, fun _ => none⟩
        | some _ => ⟨False, .junk, fun _ => none⟩⟩
      | none => .bad
    | _ => .bad
  | _ => .bad
def partsA (g : Operand → AV) (ps : List (Nat × Operand)) : List (Nat × AV) := ps.map fun p => (p.1, g p.2)
def fillA {α : Type} (place : Nat → Option (Nat × Nat)) (cs : List α) : List (Nat × List α) → Option (List α)
  | [] => some cs
  | (i, us) :: rest => match place i with
    | none => none
    | some (off, size) => bif decide (us.length = size) && decide (off + us.length ≤ cs.length) then fillA place (splice cs off us) rest else none
def allFlat : List (Nat × AV) → Bool
  | [] => true
  | (_, x) :: l => x.flat && allFlat l
def rBuild (P : Program) (T : TypeId) (ps : List (Nat × AV)) : Req := match tinfo P T with
  | some ⟨_, _, _, zero, .struct fs⟩ => match fillA (fun i => match fs[i]? with | some (o, sz, _) => some (o, sz) | none => none) zero (ps.map fun p => (p.1, p.2.cells)) with
    | some cs => .val (allFlat ps = true) (.agg cs)
    | none => .bad
  | some ⟨_, _, _, zero, .arr _ _ esz⟩ => match fillA (fun i => some (i * esz, esz)) zero (ps.map fun p => (p.1, p.2.cells)) with
    | some cs => .val (allFlat ps = true ∧ esz ≠ 0) (.agg cs)
    | none => .bad
  | _ => .bad
def idxOK : List (Nat × AV) → Nat → Bool
  | [], _ => true
  | (i, _) :: l, k => i == k && idxOK l (k + 1)
def rowsOK (m : Mem) (esz : Nat) : List (Nat × AV) → Prop
  | [] => True
  | [(_, x)] => x.cells.length = esz ∧ cloAll m x.cells
  | (_, x) :: l => (x.cells.length = esz ∧ cloAll m x.cells) ∧ rowsOK m esz l
def rBuildSlice (P : Program) (dst : Option Nat) (T : TypeId) (len : Nat) (ps : List (Nat × AV)) : Req := match tinfo P T with
  | some ⟨_, _, _, _, .slice e esz⟩ => match dst with
    | some d => ⟨d :: ownIds (ps.map fun p => p.2.cells).flatten, true, fun m => match m d with
      | none => ⟨allFlat ps = true ∧ idxOK ps 0 = true ∧ ps.length = len ∧ len * esz ≤ 16777216 ∧ rowsOK m esz ps,
          .one (.own d len), fun i => bif i == d then some (.rows e esz (ps.map fun p => p.2.cells.map (clo m))) else frz m i⟩
      | some _ => ⟨False, .junk, fun _ => none⟩⟩
    | none => .bad
  | _ => .bad
/-- Is it nothing? -/
def nilA : A → Option Bool
  | .nil => some true
  | .bare => some false
  | .c (.rowc _ (_ :: _)) => some false
  | .full _ (_ :: _) => some false
  | _ => none
def rBin (P : Program) (op : BinOp) (T : TypeId) (x y : AV) : Req := match x, y with
  | .one (.c (.v a)), .one (.c (.v b)) => match vbin op a b with
    | some v => .val True (.one (.c (.v v)))
    | none => match a, b, tinfo P T with
      | .bool a, .bool b, some ⟨_, _, _, _, .bool⟩ => match op with
        | .eql => .val True (.one (.c (.v (.bool (a == b)))))
        | .neq => .val True (.one (.c (.v (.bool (!(a == b))))))
        | _ => .bad
      | .string a, .string b, _ => match op with
        | .eql => .val True (.one (.c (.v (.bool (a.toList == b.toList)))))
        | .neq => .val True (.one (.c (.v (.bool (!(a.toList == b.toList))))))
        | _ => .bad
      | .int k a, .int k' b, _ => match op with
        | .rem => .val (k = k' ∧ b ≠ 0 ∧ inK k (a.tmod b) = true) (.one (.c (.v (.int k (a.tmod b)))))
        | .shl => .val (0 ≤ b) (.one (.c (.v (.int k (k.wrap (a * 2 ^ min b.toNat k.bits))))))
        | .shr => .val (0 ≤ b ∧ inK k (a.fdiv (2 ^ min b.toNat k.bits)) = true) (.one (.c (.v (.int k (a.fdiv (2 ^ min b.toNat k.bits))))))
        | _ => .bad
      | _, _, _ => .bad
  | .one a, .one .nil => match tinfo P T, nilA a with
    | some ⟨_, _, _, _, .slice _ _⟩, some b => match op with
      | .eql => .val True (.one (.c (.v (.bool b))))
      | .neq => .val True (.one (.c (.v (.bool (!b)))))
      | _ => .bad
    | _, _ => .bad
  | .agg cs, .agg ds => match eqL cs ds with
    | some b => match op with
      | .eql => .val (EqOK P T (cs.map shA)) (.one (.c (.v (.bool b))))
      | .neq => .val (EqOK P T (cs.map shA)) (.one (.c (.v (.bool (!b)))))
      | _ => .bad
    | none => .bad
  | _, _ => .bad
def bndOf (v : Option AV) (d : Nat) : Option Int := match v with
  | none => some d
  | some (.one (.c (.v (.int _ i)))) => some i
  | _ => none
def partOf (xs : List (List CV)) (l h : Int) : List (List CV) := (xs.drop l.toNat).take (h.toNat - l.toNat)
def rSlice (P : Program) (dst : Option Nat) (T : TypeId) (x : AV) (lo hi : Option AV) : Req := match tinfo P T with
  | some ⟨_, _, _, _, .slice _ esz⟩ =>
    match x with
    | .one (.c (.rowc k xs)) => match bndOf lo 0, bndOf hi xs.length with
      | some l, some h => .val (0 ≤ l ∧ l ≤ h ∧ h ≤ xs.length ∧ (∀ us ∈ xs, us.length = esz)) (.one (.c (.rowc k (partOf xs l h))))
      | _, _ => .bad
    | .one (.full k xs) => match bndOf lo 0, bndOf hi xs.length with
      | some l, some h => .val (0 ≤ l ∧ l ≤ h ∧ h ≤ xs.length ∧ (∀ us ∈ xs, us.length = esz)) (.one (.c (.rowc k (partOf xs l h))))
      | _, _ => .bad
    | .one .nil => match bndOf lo 0, bndOf hi 0 with
      | some l, some h => .val (l = 0 ∧ h = 0) (.one .nil)
      | _, _ => .bad
    | .one (.own id n) => match lo with
      | none => match dst, bndOf hi n with
        | some d, some h => ⟨[id, d], true, fun m => match m id, m d with
          | some (.rows e sz xs), none => ⟨xs.length = n ∧ 0 ≤ h ∧ h ≤ n, .one (.own d h.toNat), fun i => bif i == d then some (.rows e sz (xs.take h.toNat)) else some (.gone (n + 1))⟩
          | some (.froz xs), _ => ⟨xs.length = n ∧ 0 ≤ h ∧ h ≤ n ∧ (∀ us ∈ xs, us.length = esz), .one (.c (.row (partOf xs 0 h))), m⟩
          | some (.lent j _ sz xs), _ => ⟨xs.length = n ∧ 0 ≤ h ∧ h ≤ n ∧ sz = esz, .one (.c (.rowc j (partOf xs 0 h))), m⟩
          | _, _ => ⟨False, .junk, fun _ => none⟩⟩
        | _, _ => .bad
      | some _ => match bndOf lo 0, bndOf hi n with
        | some l, some h => ⟨[id], true, fun m => match m id with
          | some (.rows _ sz xs) => ⟨xs.length = n ∧ 0 ≤ l ∧ l ≤ h ∧ h ≤ n ∧ sz = esz, .one (.c (.row (partOf xs l h))), frz m⟩
          | some (.froz xs) => ⟨xs.length = n ∧ 0 ≤ l ∧ l ≤ h ∧ h ≤ n ∧ (∀ us ∈ xs, us.length = esz), .one (.c (.row (partOf xs l h))), frz m⟩
          | some (.lent j _ sz xs) => ⟨xs.length = n ∧ 0 ≤ l ∧ l ≤ h ∧ h ≤ n ∧ sz = esz, .one (.c (.rowc j (partOf xs l h))), frz m⟩
          | _ => ⟨False, .junk, fun _ => none⟩⟩
        | _, _ => .bad
    | _ => .bad
  | _ => .bad
def rSlice3 (P : Program) (T : TypeId) (x : AV) (lo hi : Option AV) (mx : AV) : Req := match tinfo P T with
  | some ⟨_, _, _, _, .slice _ esz⟩ =>
    match x with
    | .one (.c (.rowc k xs)) => match bndOf lo 0, bndOf hi xs.length, bndOf (some mx) 0 with
      | some l, some h, some m => .val (hi.isSome = true ∧ 0 ≤ l ∧ l ≤ h ∧ h = m ∧ m ≤ xs.length ∧ (∀ us ∈ xs, us.length = esz)) (.one (.full k (partOf xs l h)))
      | _, _, _ => .bad
    | .one (.full k xs) => match bndOf lo 0, bndOf hi xs.length, bndOf (some mx) 0 with
      | some l, some h, some m => .val (hi.isSome = true ∧ 0 ≤ l ∧ l ≤ h ∧ h = m ∧ m ≤ xs.length ∧ (∀ us ∈ xs, us.length = esz)) (.one (.full k (partOf xs l h)))
      | _, _, _ => .bad
    | .one .nil => match bndOf lo 0, bndOf hi 0, bndOf (some mx) 0 with
      | some l, some h, some m => .val (hi.isSome = true ∧ l = 0 ∧ h = 0 ∧ m = 0) (.one .nil)
      | _, _, _ => .bad
    | .one (.own id n) => match bndOf lo 0, bndOf hi n, bndOf (some mx) 0 with
      | some l, some h, some k => ⟨[id], true, fun m => match m id with
          | some (.rows _ sz xs) => ⟨hi.isSome = true ∧ xs.length = n ∧ 0 ≤ l ∧ l ≤ h ∧ h = k ∧ k ≤ n ∧ sz = esz, .one (.full 0 (partOf xs l h)), frz m⟩
          | some (.froz xs) => ⟨hi.isSome = true ∧ xs.length = n ∧ 0 ≤ l ∧ l ≤ h ∧ h = k ∧ k ≤ n ∧ (∀ us ∈ xs, us.length = esz), .one (.full 0 (partOf xs l h)), frz m⟩
          | some (.lent j _ sz xs) => ⟨hi.isSome = true ∧ xs.length = n ∧ 0 ≤ l ∧ l ≤ h ∧ h = k ∧ k ≤ n ∧ sz = esz, .one (.full j (partOf xs l h)), frz m⟩
          | _ => ⟨False, .junk, fun _ => none⟩⟩
      | _, _, _ => .bad
    | _ => .bad
  | _ => .bad
def rCap (P : Program) (T : TypeId) (x : AV) : Req := match tinfo P T with
  | some ⟨_, _, _, _, .slice _ _⟩ => match x with
    | .one (.full _ xs) => .val True (.one (.c (.v (.int .i64 xs.length))))
    | .one .nil => .val True (.one (.c (.v (.int .i64 0))))
    | _ => .bad
  | _ => .bad
/-- A row of zeros. -/
def rMake (P : Program) (dst : Option Nat) (T : TypeId) (l k : AV) : Req := match tinfo P T with
  | some ⟨_, _, _, _, .slice e esz⟩ => match tinfo P e, dst with
    | some ⟨_, _, _, zero, _⟩, some d => match l, k with
      | .one (.c (.v (.int _ l))), .one (.c (.v (.int _ k))) => ⟨[d], true, fun m => match m d with
        | none => ⟨0 ≤ l ∧ l ≤ k ∧ k ≤ 1073741824, .one (.own d l.toNat), fun _ => some (.rows e esz (List.replicate l.toNat (zero.map (clo fun _ => none))))⟩
        | some _ => ⟨False, .junk, fun _ => none⟩⟩
      | _, _ => .bad
    | _, _ => .bad
  | _ => .bad
/-- So many zeros behind nothing; or what is put behind. -/
def rAppendX (P : Program) (dst : Option Nat) (T T' : TypeId) (s x : AV) : Req := match x with
  | .one (.c (.v (.int _ n))) => match tinfo P T, tinfo P T' with
    | some ⟨_, _, _, _, .slice e esz⟩, some ⟨_, _, _, _, .int _⟩ => match tinfo P e, dst with
      | some ⟨_, _, _, zero, _⟩, some d => match s with
        | .one .nil => ⟨[d], true, fun m => match m d with
          | none => ⟨0 < n ∧ n ≤ 1073741824, .one (.own d n.toNat), fun _ => some (.rows e esz (List.replicate n.toNat (zero.map (clo fun _ => none))))⟩
          | some _ => ⟨False, .junk, fun _ => none⟩⟩
        | _ => .bad
      | _, _ => .bad
    | _, _ => .bad
  | x => rAppend P dst T T' s x
/-- A row of the call's own takes over what stands first in another one. -/
def rCopy (P : Program) (T : TypeId) (s x : AV) : Req := match tinfo P T with
  | some ⟨_, _, _, _, .slice _ esz⟩ => match s with
    | .one (.own id n) => ⟨id :: ownIds x.cells, true, fun m => match m id with
      | some (.rows e sz xs) => match srcOf m x with
        | some ys => ⟨sz = esz ∧ xs.length = n ∧ srcOK m x ∧ hasN (ownIds x.cells) id = false ∧ (∀ us ∈ ys, us.length = esz), .one (.c (.v (.int .i64 (Nat.min ys.length n)))), fun i => bif i == id then some (.rows e sz (ys.take xs.length ++ xs.drop ys.length)) else m i⟩
        | none => ⟨False, .junk, fun _ => none⟩
      | _ => ⟨False, .junk, fun _ => none⟩⟩
    | _ => .bad
  | _ => .bad
def argsOK (m : Mem) : List AV → Prop
  | [] => True
  | [x] => x.flat = true ∧ cloAll m x.cells
  | x :: l => (x.flat = true ∧ cloAll m x.cells) ∧ argsOK m l
def dstL : Option Nat → List Nat
  | some d => [d]
  | none => []
/-! Results with rows of their own in them: the rows' names, and the memory. -/
def nOwn : List RE → Nat
  | [] => 0
  | .c _ :: l => nOwn l
  | .own _ _ _ :: l => nOwn l + 1
def mixC (d : Nat) : Nat → List RE → List A
  | _, [] => []
  | k, .c x :: l => .c x :: mixC d k l
  | k, .own _ _ xs :: l => .own (d + 1000 * k) xs.length :: mixC d (k + 1) l
def mixM (d : Nat) : Nat → List RE → Mem → Mem
  | _, [], m => m
  | k, .c _ :: l, m => mixM d k l m
  | k, .own e sz xs :: l, m => mixM d (k + 1) l (upd m (d + 1000 * k) (some (.rows e sz xs)))
def mixI (d : Nat) : Nat → List RE → List Nat
  | _, [] => []
  | k, .c _ :: l => mixI d k l
  | k, .own _ _ _ :: l => (d + 1000 * k) :: mixI d (k + 1) l
def mixV (d : Nat) : Nat → List (Bool × List RE) → List (Bool × List A)
  | _, [] => []
  | k, (b, cs) :: l => (b, mixC d k cs) :: mixV d (k + nOwn cs) l
def mixL : List (Bool × List RE) → List RE
  | [] => []
  | (_, cs) :: l => cs ++ mixL l
def freeAll (m : Mem) : List Nat → Bool
  | [] => true
  | i :: l => (match m i with | some _ => false | none => true) && freeAll m l
def avM : Bool × List A → AV
  | (true, cs) => .agg cs
  | (false, [a]) => .one a
  | _ => .junk
def mixAV : List (Bool × List A) → AV
  | [x] => avM x
  | l => .tupo l
def callIn (m : Mem) : RV → Prop
  | .bx ins outs _ => insAt m ins ∧ sameBs ins outs
  | .one _ => True
  | .tup _ => True
  | .own _ _ _ => True
  | .mix _ => True
def resIds (dst : Option Nat) : RV → List Nat
  | .bx ins _ _ => opnIds ins
  | .mix rs => match dst with
    | some d => mixI d 0 (mixL rs)
    | none => []
  | .one _ => []
  | .tup _ => []
  | .own _ _ _ => []
def callVal (dst : Option Nat) (m : Mem) : RV → AV
  | .bx _ _ rs => (match rs with
    | [x] => x.av
    | l => .tup l)
  | .one x => x.av
  | .tup rs => .tup rs
  | .own _ _ xs => match dst with
    | some d => match m d with
      | none => .one (.own d xs.length)
      | some _ => .junk
    | none => .junk
  | .mix rs => match dst with
    | some d => bif freeAll m (mixI d 0 (mixL rs)) then mixAV (mixV d 0 rs) else .junk
    | none => .junk
def callMem (dst : Option Nat) (m : Mem) : RV → Mem
  | .bx _ outs _ => setBs (frz m) outs
  | .own e sz xs => match dst with
    | some d => match m d with
      | none => fun i => bif i == d then some (.rows e sz xs) else frz m i
      | some _ => frz m
    | none => frz m
  | .one _ => frz m
  | .tup _ => frz m
  | .mix rs => match dst with
    | some d => bif freeAll m (mixI d 0 (mixL rs)) then mixM d 0 (mixL rs) (frz m) else frz m
    | none => frz m
def rCall (P : Program) (dst : Option Nat) (f : FuncId) (pre post : List CA) (args : List AV) (r : RV) : Req :=
  ⟨dstL dst ++ (ownIds (args.map AV.cells).flatten ++ resIds dst r), true, fun m => ⟨argsOK m args ∧ (ACalls P f (pre ++ args.map (cloArg m) ++ post) r ∧ callIn m r), callVal dst m r, callMem dst m r⟩⟩
/-- A round is done. -/
def rYield (P : Program) (dst : Option Nat) (l : Nat) (args : List AV) (r : RV) : Req :=
  ⟨dstL dst ++ (ownIds (args.map AV.cells).flatten ++ resIds dst r), true, fun m => ⟨argsOK m args ∧ (AYields P l (args.map (cloArg m)) r ∧ callIn m r), callVal dst m r, callMem dst m r⟩⟩
def fnFirst : Bool → List CV → List CA
  | true, cs => [.agg cs]
  | false, cs => cs.map .one
/-! Functions as values: what they have of the call's own is written no more. -/
def plainA : A → Prop
  | .c _ => True
  | .full _ _ => True
  | .el _ _ _ => True
  | .nil => True
  | .bare => True
  | _ => False
def plainL : List A → Prop
  | [] => True
  | a :: l => plainA a ∧ plainL l
def clo0 : A → CV := clo fun _ => none
def capOK (m : Mem) : AV → Prop
  | .one (.ptr id 0) => match m id with
    | some (.box cs) => plainL cs
    | some (.fbox _) => True
    | _ => False
  | .one (.c _) => True
  | _ => False
def capsOK (m : Mem) : List AV → Prop
  | [] => True
  | x :: l => capOK m x ∧ capsOK m l
def capCV (m : Mem) : AV → CV
  | .one (.ptr id _) => match m id with
    | some (.box cs) => .ptrc 0 (cs.map clo0) 0
    | some (.fbox cs) => .ptrc 0 cs 0
    | _ => .row []
  | .one (.c x) => x
  | _ => .row []
def capIds : List AV → List Nat
  | [] => []
  | .one (.ptr id _) :: l => id :: capIds l
  | _ :: l => capIds l
def shutB : Option Blk → Option Blk
  | some (.box cs) => some (.fbox (cs.map clo0))
  | b => b
def firstOK : List AV → Prop
  | [] => True
  | [.agg cs] => plainL cs
  | [.one (.c _)] => True
  | _ => False
def firstAgg : List AV → Bool
  | [.agg _] => true
  | _ => false
def firstCV : List AV → List CV
  | [.agg cs] => cs.map clo0
  | [.one (.c x)] => [x]
  | _ => []
def rMakeFunc (f : FuncId) (first caps : List AV) : Req :=
  ⟨capIds caps, true, fun m => ⟨capsOK m caps ∧ firstOK first, .one (.c (.fn f (firstAgg first) (firstCV first) (caps.map (capCV m)))), fun i => shutB (m i)⟩⟩
/-- The less, or the greater, of two numbers. -/
def rMM (lo : Bool) (x y : AV) : Req := match x, y with
  | .one (.c (.v (.int k a))), .one (.c (.v (.int k' b))) => .val (k = k') (.one (.c (.v (.int k (bif lo then (if b < a then b else a) else (if b > a then b else a))))))
  | _, _ => .bad
/-! Maps, whose keys are numbers. -/
def isAggV : Value → Bool
  | .agg _ => true
  | _ => false
def mapTI (P : Program) (T : TypeId) : Option (IntKind × TypeId) := match P.underlying T with
  | some (.map k e) => match P.underlying k with
    | some (.int q) => match P.info? e with
      | some i => match P.underlying e with
        | some d => match i.zero with
          | some z => bif isAggV z == isAggD d then some (q, e) else none
          | none => none
        | none => none
      | none => none
    | _ => none
  | _ => none
def keysK (q : IntKind) : List Value → Bool
  | [] => true
  | .int j _ :: l => decide (j = q) && keysK q l
  | _ => false
/-- Where a key is. -/
def keyIx (n : Int) : List Value → Nat → Option Nat
  | [], _ => none
  | .int _ b :: l, i => bif n == b then some i else keyIx n l (i + 1)
  | _ :: l, i => keyIx n l (i + 1)
def avAgg : AV → Option Bool
  | .one _ => some false
  | .agg _ => some true
  | _ => none
def putKs (q : IntKind) (n : Int) (ks : List Value) : List Value := match keyIx n ks 0 with
  | some _ => ks
  | none => ks ++ [.int q n]
def putXs (n : Int) (ks : List Value) (xs : List (List CV)) (us : List CV) : List (List CV) := match keyIx n ks 0 with
  | some p => xs.set p us
  | none => xs ++ [us]
def rMakeMap (P : Program) (dst : Option Nat) (T : TypeId) : Req := match mapTI P T, dst with
  | some (_, e), some d => match tinfo P e with
    | some ti => ⟨[d], true, fun m => match m d with
      | none => ⟨True, .one (.mp d), fun _ => some (.mapb ti.agg [] [])⟩
      | some _ => ⟨False, .junk, fun _ => none⟩⟩
    | none => .bad
  | _, _ => .bad
def rInsert (P : Program) (T : TypeId) (x k v : AV) : Req := match mapTI P T with
  | some (q, e) => match x, k with
    | .one (.mp id), .one (.c (.v (.int j n))) => ⟨id :: ownIds v.cells, true, fun m => match m id with
      | some (.mapb agg ks xs) => ⟨j = q ∧ keysK q ks = true ∧ v.flat = true ∧ avAgg v = some agg ∧ cloAll m v.cells ∧ hasN (ownIds v.cells) id = false, .junk,
          fun i => bif i == id then some (.mapb agg (putKs q n ks) (putXs n ks xs (v.cells.map (clo m)))) else frz m i⟩
      | _ => ⟨False, .junk, fun _ => none⟩⟩
    | _, _ => .bad
  | none => .bad
def lookCA (agg : Bool) (us : List CV) : CA := bif agg then .agg us else .one (us.headD (.row []))
def zeroCA (agg : Bool) (zs : List A) : CA := bif agg then .agg (zs.map (clo fun _ => none)) else match zs with
  | [.nil] => .nil
  | [a] => .one (clo (fun _ => none) a)
  | _ => .agg []
def lookOut (ok there : Bool) (x : CA) : AV := bif ok then .tup [x, .one (.v (.bool there))] else x.av
def lookAt (q j : IntKind) (n : Int) (ok : Bool) (ti : TI) (agg : Bool) (ks : List Value) (xs : List (List CV)) : Prop × AV :=
  (j = q ∧ agg = ti.agg ∧ keysK q ks = true, match keyIx n ks 0 with
    | some p => lookOut ok true (lookCA agg (xs.getD p []))
    | none => lookOut ok false (zeroCA ti.agg ti.zero))
def rLookup (P : Program) (T : TypeId) (x k : AV) (ok : Bool) : Req := match mapTI P T with
  | some (q, e) => match tinfo P e with
    | some ti => match k with
      | .one (.c (.v (.int j n))) => match x with
        | .one (.mp id) => .read [id] fun m => match m id with
          | some (.mapb agg ks xs) => lookAt q j n ok ti agg ks xs
          | some (.fmap agg ks xs) => lookAt q j n ok ti agg ks xs
          | _ => (False, .junk)
        | .one (.c (.mapc agg ks xs)) => .val (lookAt q j n ok ti agg ks xs).1 (lookAt q j n ok ti agg ks xs).2
        | _ => .bad
      | _ => .bad
    | none => .bad
  | none => .bad
/-- What isn't nothing stays as it is. -/
def rNil (x : AV) : Req := match x with
  | .one (.ptr id off) => .val True (.one (.ptr id off))
  | .one (.el k cs off) => .val True (.one (.el k cs off))
  | .one (.pel id n i off) => .read [id] fun m => match rowsOf m id with
    | some (_, _, xs) => (xs.length = n, .one (.pel id n i off))
    | _ => (False, .junk)
  | .one (.c (.ptrc k cs off)) => .val True (.one (.c (.ptrc k cs off)))
  | .one (.c (.fn f a first caps)) => .val True (.one (.c (.fn f a first caps)))
  | .one (.c (.v x)) => match rawP x with
    | some _ => .val True (.one (.c (.v x)))
    | none => .bad
  | _ => .bad
def areq (P : Program) (dst : Option Nat) (r : RV) (g : Operand → AV) : Op → Req
  | .move x => .val True (g x)
  | .assign x => .val True (g x)
  | .pick c x y => match g c with
    | .one (.c (.v (.bool b))) => .val True (bif b then g x else g y)
    | _ => .bad
  | .alloc T => match tinfo P T, dst with
    | some ti, some d => ⟨[d], true, fun m => match m d with
      | none => ⟨True, .one (.ptr d 0), fun _ => some (.box ti.zero)⟩
      | some _ => ⟨False, .junk, fun _ => none⟩⟩
    | _, _ => .bad
  | .box _ x => match dst with
    | some d => ⟨[d], true, fun m => match m d with
      | none => ⟨(g x).flat = true, .one (.ptr d 0), fun _ => some (.box (g x).cells)⟩
      | some _ => ⟨False, .junk, fun _ => none⟩⟩
    | none => .bad
  | .load T x => rLoad P T (g x)
  | .store T x u => rStore P T (g x) (g u)
  | .fieldAddr T x f => rField P T (g x) f
  | .field T x f => rFieldV P T (g x) f
  | .extract x i => match g x with
    | .tup rs => match rs[i]? with
      | some u => .val True u.av
      | none => .bad
    | .tupo rs => match rs[i]? with
      | some u => .val True (avM u)
      | none => .bad
    | _ => .bad
  | .indexAddr T x i => rIndex P T (g x) (g i)
  | .index T x i => rIndexV P T (g x) (g i)
  | .binOp op T x y _ => rBin P op T (g x) (g y)
  | .unOp .not _ x => match g x with
    | .one (.c (.v (.bool b))) => .val True (.one (.c (.v (.bool (!b)))))
    | _ => .bad
  | .makeFunc (.func f) first caps => rMakeFunc f (first.toList.map g) (caps.toList.map g)
  | .makeSlice T l k => rMake P dst T (g l) (g k)
  | .convert S T x => match tinfo P S, tinfo P T with
    | some _, some ⟨_, _, _, _, .int k⟩ => match g x with
      | .one (.c (.v (.int _ n))) => .val True (.one (.c (.v (.int k (k.wrap n)))))
      | _ => .bad
    | _, _ => .bad
  | .nilCheck x => rNil (g x)
  | .makeMap T none => rMakeMap P dst T
  | .insert T x k v => rInsert P T (g x) (g k) (g v)
  | .mapUpdate T x k v => rInsert P T (g x) (g k) (g v)
  | .lookup T x k ok => rLookup P T (g x) (g k) ok
  | .build T ps => rBuild P T (partsA g ps.toList)
  | .buildSlice T len ps => rBuildSlice P dst T len (partsA g ps.toList)
  | .slice T x lo hi none => rSlice P dst T (g x) (lo.map g) (hi.map g)
  | .slice T x lo hi (some mx) => rSlice3 P T (g x) (lo.map g) (hi.map g) (g mx)
  | .call c => match c.callee, c.args.toList, c.argTypes.toList with
    | .builtin .len, [x], [T] => rLen P T (g x)
    | .builtin .append, [s, x], [T, T'] => rAppendX P dst T T' (g s) (g x)
    | .builtin .cap, [x], [T] => rCap P T (g x)
    | .builtin .copy, [s, x], [T, _] => rCopy P T (g s) (g x)
    | .builtin .min, [x, y], _ => rMM true (g x) (g y)
    | .builtin .max, [x, y], _ => rMM false (g x) (g y)
    | .value (.func f), args, _ => rCall P dst f [] [] (args.map g) r
    | .value x, args, _ => match g x with
      | .one (.c (.fn f a first caps)) => rCall P dst f (fnFirst a first) (caps.map .one) (args.map g) r
      | .one (.c (.v v)) => match yieldOf v with
        | some l => rYield P dst l (args.map g) r
        | none => .bad
      | _ => .bad
    | _, _, _ => .bad
  | _ => .bad
end Go.Proofs.Ytgkfbikffcmmdaa.Abs

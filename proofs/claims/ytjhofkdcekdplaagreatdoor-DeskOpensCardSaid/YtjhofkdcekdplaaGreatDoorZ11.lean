/- Texts that were merged: L12s, L12p, L07m, L12o, L12opens, Open, OpenNet, OpenBox, OpenWld, LaidN. -/
import Derived.Test.YtjhofkdcekdplaaGreatDoorZ10
import Derived.Test.YtjhofkdcekdplaaGreatDoorZ8
import Derived.Test.YtjhofkdcekdplaaGreatDoorZ4
import Derived.Test.YtjhofkdcekdplaaGreatDoorRows
import Derived.Test.YtjhofkdcekdplaaGreatDoorZ3
import Derived.OpenShut
import Derived.ShutString
import Derived.ChangeOld
import Derived.ChangeVars
import Derived.JoinedOf
import Derived.RowKit
section
/- What the desk's sending makes of a world. -/
set_option linter.unusedSimpArgs false
set_option linter.unusedVariables false
set_option maxRecDepth 100000
namespace Go.Proofs.YtjhofkdcekdplaaGreatDoor.Abs
open Go.RowKit
theorem formW_mk {w : Wld} (a1 : mayC w.conf = true) (a2 : rightB w.box = true) (a3 : w.box.room = w.conf.box) (a4 : rightN w.net = true) (a5 : w.net.room = w.conf.net) (b1 : rightPl w.people = true) (b2 : (w.people.length : Int) = w.conf.people + 1) (b3 : (w.regs.length : Int) = w.conf.regs) (b4 : 0 ≤ w.draws.next ∧ w.draws.next ≤ 1048576)
    (c1 : w.people.all (personB w.conf) = true) (c2 : w.regs.all shB = true) (c3 : w.net.seen.all shB = true) (c4 : w.net.grams.all gramB = true) : formW w = true := by
  unfold formW formA formB
  simp only [a1, a2, a3, a4, a5, b1, c1, c2, c3, c4, decide_eq_true b2, decide_eq_true b3, decide_eq_true b4, beq_self_eq_true, Bool.and_true]
theorem putL_len (m : Mssg) : (putL m).length ≤ 18 := by
  unfold putL
  split
  · rw [putM_length]; have := kindTags_len m.kind; omega
  · simp
theorem sendW_cases (w : Wld) (to : Int) (m : Mssg) : (mayM m = false ∧ sendW w to m = (w, 1)) ∨ (mayM m = true ∧ w.net.room ≤ (w.net.grams.length : Int) ∧ sendW w to m = (w, 10)) ∨
    (mayM m = true ∧ ¬ w.net.room ≤ (w.net.grams.length : Int) ∧ sendW w to m = ({ w with net := ⟨w.net.room, w.net.grams ++ [⟨to, putL m⟩], w.net.seen ++ [putL m]⟩ }, 0)) := by
  unfold sendW putE sendN
  cases hm : mayM m
  · exact .inl ⟨rfl, by simp⟩
  · by_cases hr : w.net.room ≤ (w.net.grams.length : Int)
    · exact .inr (.inl ⟨rfl, hr, by simp [hr]⟩)
    · exact .inr (.inr ⟨rfl, hr, by simp [hr]⟩)
theorem send_form {w : Wld} {to : Int} {l : List Int} (h : formW w = true) (hr : ¬ w.net.room ≤ (w.net.grams.length : Int)) (hl : l.length ≤ 64) : formW { w with net := ⟨w.net.room, w.net.grams ++ [⟨to, l⟩], w.net.seen ++ [l]⟩ } = true := by
  obtain ⟨a1, a2, a3, a4, a5, b1, b2, b3, b4, c1, c2, c3, c4⟩ := formW_iff h
  have a4' := of_decide_eq_true a4
  have hl' : ((l.length : Int) ≤ 64) := by omega
  refine formW_mk a1 a2 a3 (decide_eq_true ⟨a4'.1, a4'.2.1, ?_⟩) a5 b1 b2 b3 b4 c1 c2 ?_ ?_
  · simp only [List.length_append, List.length_singleton]; omega
  · simp only [List.all_append, c3, Bool.true_and, List.all_cons, List.all_nil, Bool.and_true]; exact decide_eq_true hl'
  · simp only [List.all_append, c4, Bool.true_and, List.all_cons, List.all_nil, Bool.and_true]; exact decide_eq_true hl'
end Go.Proofs.YtjhofkdcekdplaaGreatDoor.Abs
end
section
/- What sealing makes of a world: plain mathematics. -/
set_option linter.unusedSimpArgs false
set_option linter.unusedVariables false
set_option maxRecDepth 100000
namespace Go.Proofs.YtjhofkdcekdplaaGreatDoor.Abs
open Go.RowKit
theorem bitI_ge {x : Int} (h : 0 ≤ x) : 2147483648 ≤ bitI x := by unfold bitI; split <;> omega
theorem dAt_ge {l : List Int} (h : ∀ x ∈ l, 0 ≤ x) (i : Nat) : 2147483648 ≤ dAt l i := by
  unfold dAt
  split
  · rename_i x hx; exact bitI_ge (h x (List.mem_of_getElem? hx))
  · exact bitI_ge (u32_range _).1
theorem putP_ok {label : Int} {p : Prt} (h : (putP label p).2 = 0) : mayP label p = true ∧ (putP label p).1 = wordsP label p ∧ getP label (wordsP label p) = (p, 0) := by
  unfold putP at h ⊢
  split
  · rename_i hm; exact ⟨hm, rfl, of_decide_eq_true hm⟩
  · rename_i hm; rw [if_neg hm] at h; simp at h
theorem wordsP_len (label : Int) (p : Prt) : (wordsP label p).length ≤ 5 := by
  rcases label_cases label with rfl | rfl | rfl | rfl | rfl | rfl | rfl | rfl | hh <;> first | (rw [wordsP_none (by assumption)]; simp; done) | simp [wordsP]
/-- What sealing makes of a world: nothing, with an error, or an entry more. -/
theorem sealW_cases (w : Wld) (key label : Int) (p : Prt) : (∃ e, e ≠ 0 ∧ sealW w key label p = (w, 0, e)) ∨
    (getP label (wordsP label p) = (p, 0) ∧ thereB w.box.entries (drawnW w) = false ∧ (w.box.entries.length : Int) < w.box.room ∧
      sealW w key label p = ({ drawW w with box := ⟨w.box.room, w.box.entries ++ [⟨drawnW w, key, label, wordsP label p⟩]⟩ }, drawnW w, 0)) := by
  unfold sealW
  by_cases g1 : (putP label p).2 = 0
  · obtain ⟨_, e1, e2⟩ := putP_ok g1
    rw [if_neg (fun h => h g1)]
    unfold sealedW
    rw [e1]
    have hl := wordsP_len label p
    have n64 : ¬ (64 : Int) < ((wordsP label p).length : Int) := by omega
    by_cases ht : thereB w.box.entries (drawnW w) = true
    · have es : sealB w.box (drawnW w) key label (wordsP label p) = (w.box, 8) := by simp [sealB, n64, ht]
      rw [es]; exact .inl ⟨8, by decide, by simp⟩
    · by_cases hr : w.box.room ≤ (w.box.entries.length : Int)
      · have es : sealB w.box (drawnW w) key label (wordsP label p) = (w.box, 10) := by simp [sealB, n64, ht, hr]
        rw [es]; exact .inl ⟨10, by decide, by simp⟩
      · have es : sealB w.box (drawnW w) key label (wordsP label p) = (⟨w.box.room, w.box.entries ++ [⟨drawnW w, key, label, wordsP label p⟩]⟩, 0) := by simp [sealB, n64, ht, hr]
        rw [es]
        exact .inr ⟨e2, by simpa using ht, by omega, by simp⟩
  · rw [if_pos g1]; exact .inl ⟨_, g1, rfl⟩
end Go.Proofs.YtjhofkdcekdplaaGreatDoor.Abs
end
section
/- Of boxes: what is sealed, and opened. -/
set_option linter.unusedSimpArgs false
set_option linter.unusedVariables false
set_option maxRecDepth 100000
namespace Go.Proofs.YtjhofkdcekdplaaGreatDoor.Abs
open Go.RowKit
theorem sealB_cases (b : Box) (h k l : Int) (p : List Int) (hp : p.length ≤ 64) : (∃ e, e ≠ 0 ∧ sealB b h k l p = (b, e) ∧ IntKind.i64.wrap e = e ∧ (thereB b.entries h = true ∨ b.room ≤ (b.entries.length : Int)) ∧ (thereB b.entries h = true → e = 8) ∧ (thereB b.entries h = false → e = 10)) ∨
    (thereB b.entries h = false ∧ (b.entries.length : Int) < b.room ∧ sealB b h k l p = (⟨b.room, b.entries ++ [⟨h, k, l, p⟩]⟩, 0)) := by
  have n1 : ¬ (64 < (p.length : Int)) := by omega
  cases ht : thereB b.entries h with
  | true => exact .inl ⟨8, by decide, by simp [sealB, n1, ht], by decide, .inl rfl, fun _ => rfl, fun h => by simp at h⟩
  | false =>
    by_cases hr : b.room ≤ (b.entries.length : Int)
    · exact .inl ⟨10, by decide, by simp [sealB, n1, ht, hr], by decide, .inr hr, fun h => by simp at h, fun _ => rfl⟩
    · exact .inr ⟨rfl, by omega, by simp [sealB, n1, ht, hr]⟩
theorem openP_snoc (r : Int) (es : List Sealed) (s : Sealed) (k l h : Int) : openP ⟨r, es ++ [s]⟩ k l h = if thereB es h = true then openP ⟨r, es⟩ k l h else if s.handle = h then (if s.key = k ∧ s.label = l then (s.plain, true) else ([], false)) else ([], false) := by
  unfold openP
  simp only [List.find?_append]
  cases ht : thereB es h with
  | true =>
    obtain ⟨x, hx, hh⟩ := thereB_iff.1 ht
    rw [if_pos rfl]
    cases hf : es.find? (fun s => s.handle == h) with
    | none => exact absurd (by simp [hh]) (List.find?_eq_none.1 hf x hx)
    | some y => rfl
  | false =>
    have : es.find? (fun s => s.handle == h) = none := List.find?_eq_none.2 fun s hs => by simpa using thereB_no.1 ht s hs
    rw [this, if_neg (by simp)]
    by_cases hh : s.handle = h
    · simp [hh]
    · simp [hh]
theorem right_snoc {r : Int} {es : List Sealed} {s : Sealed} (h : rightB ⟨r, es⟩ = true) (hr : (es.length : Int) < r) (hp : s.plain.length ≤ 64) (ht : thereB es s.handle = false) : rightB ⟨r, es ++ [s]⟩ = true := by
  obtain ⟨h1, h2, h3, h4⟩ := right_room h
  unfold rightB
  rw [Bool.and_eq_true]
  refine ⟨decide_eq_true ⟨h1, h2, by simp only [List.length_append, List.length_singleton]; omega⟩, entriesB_iff.2 fun i x hx => ?_⟩
  simp only at h1 h2 h3 h4 hx ⊢
  by_cases hi : i < es.length
  · rw [List.getElem?_append_left hi] at hx
    rw [List.take_append_of_le_length (by omega)]
    exact h4 i x hx
  · rw [List.getElem?_append_right (by omega)] at hx
    have hi' : i = es.length := by
      rcases Nat.lt_or_ge (i - es.length) 1 with h | h
      · omega
      · rw [List.getElem?_eq_none (by simpa using h)] at hx; simp at hx
    subst hi'
    simp at hx
    subst hx
    rw [List.take_append_of_le_length (Nat.le_refl _), List.take_length]
    exact ⟨by omega, ht⟩
theorem seal_room (b : Box) (h k l : Int) (p : List Int) : (sealB b h k l p).1.room = b.room ∧ (sealB b h k l p).1.entries.length ≤ b.entries.length + 1 := by
  unfold sealB
  split
  · exact ⟨rfl, by simp⟩
  · split
    · exact ⟨rfl, by simp⟩
    · split
      · exact ⟨rfl, by simp⟩
      · exact ⟨rfl, by simp⟩
theorem thereB_snoc (es : List Sealed) (s : Sealed) (h : Int) : thereB (es ++ [s]) h = (thereB es h || s.handle == h) := by
  simp [thereB]
end Go.Proofs.YtjhofkdcekdplaaGreatDoor.Abs
end
section
/- What the desk's seals and openings make of a world. -/
set_option linter.unusedSimpArgs false
set_option linter.unusedVariables false
set_option maxRecDepth 100000
namespace Go.Proofs.YtjhofkdcekdplaaGreatDoor.Abs
open Go.RowKit
theorem openW_of {w : Wld} (h : rightB w.box = true) (k l hh : Int) : openW w k l hh = if (openP w.box k l hh).2 = true ∧ (getP l (openP w.box k l hh).1).2 = 0 then ((getP l (openP w.box k l hh).1).1, true) else (prt0, false) := by
  unfold openW; rw [open_eq h]
theorem opened_new {r : Int} {es : List Sealed} {key label hd : Int} {p : Prt} {A : Wld} (hA : A.box = ⟨r, es ++ [⟨hd, key, label, wordsP label p⟩]⟩) (hr : rightB A.box = true) (ht : thereB es hd = false) (hg : getP label (wordsP label p) = (p, 0)) (k l : Int) :
    openW A k l hd = if key = k ∧ label = l then (p, true) else (prt0, false) := by
  have e : openP A.box k l hd = if key = k ∧ label = l then (wordsP label p, true) else ([], false) := by
    rw [hA, openP_snoc]; simp [ht]
  by_cases hk : key = k ∧ label = l
  · obtain ⟨rfl, rfl⟩ := hk
    have e' : openP A.box key label hd = (wordsP label p, true) := by rw [e, if_pos ⟨rfl, rfl⟩]
    have g : ((wordsP label p, true) : List Int × Bool).2 = true ∧ (getP label ((wordsP label p, true) : List Int × Bool).1).2 = 0 := ⟨rfl, by show (getP label (wordsP label p)).2 = 0; rw [hg]⟩
    rw [openW_of hr, e', if_pos g, if_pos ⟨rfl, rfl⟩]
    show ((getP label (wordsP label p)).1, true) = (p, true)
    rw [hg]
  · have e' : openP A.box k l hd = ([], false) := by rw [e, if_neg hk]
    rw [openW_of hr, e', if_neg (fun h => by simp at h), if_neg hk]
theorem opened_old {r : Int} {es : List Sealed} {s : Sealed} {A w : Wld} (hA : A.box = ⟨r, es ++ [s]⟩) (hw : w.box = ⟨r, es⟩) (hr : rightB A.box = true) (hr' : rightB w.box = true) {hh : Int} (hne : s.handle ≠ hh) (k l : Int) : openW A k l hh = openW w k l hh := by
  have e : openP A.box k l hh = openP w.box k l hh := by
    rw [hA, hw, openP_snoc]
    by_cases ht : thereB es hh = true
    · rw [if_pos ht]
    · rw [if_neg ht, if_neg hne, openP_none (by simpa using ht)]
  rw [openW_of hr, openW_of hr', e]
theorem seal_form {w : Wld} {key label : Int} {l : List Int} (h : formW w = true) (hn : w.draws.next < 1048576) (ht : thereB w.box.entries (drawnW w) = false) (hr : (w.box.entries.length : Int) < w.box.room) (hl : l.length ≤ 64) :
    formW { drawW w with box := ⟨w.box.room, w.box.entries ++ [⟨drawnW w, key, label, l⟩]⟩ } = true := by
  obtain ⟨a1, a2, a3, a4, a5, b1, b2, b3, b4, c1, c2, c3, c4⟩ := formW_iff h
  refine formW_mk a1 (right_snoc (s := ⟨drawnW w, key, label, l⟩) (by simpa using a2) hr hl ht) a3 a4 a5 b1 b2 b3 ⟨by show 0 ≤ w.draws.next + 1; omega, by show w.draws.next + 1 ≤ 1048576; omega⟩ c1 c2 c3 c4
end Go.Proofs.YtjhofkdcekdplaaGreatDoor.Abs
end
section
/- The laws of layer desk, over values without addresses: DeskOpens. -/
set_option linter.unusedSimpArgs false
set_option linter.unusedVariables false
set_option maxRecDepth 100000
namespace Go.Proofs.YtjhofkdcekdplaaGreatDoor.Abs
open Go.RowKit
set_option maxHeartbeats 32000000 in
theorem l12_opens (w : Wld) (key label : Int) (p : Prt) (kk ll handle : Int) : ACalls Tryz.prog 6 [.agg (eWld w), .one (u32 key), .one (u32 label), .agg (ePrt p), .one (u32 kk), .one (u32 ll), .one (u32 handle)] (rB true) := by
  refine ACalls.introF (fn := Tryz.f6) Tryz.func6 rfl rfl (by simp [Tryz.f6]) fun hf => ?_
  have hq0 := (hf (.agg (eWld w)) (by simp) : FineCA (.agg (eWld w)))
  have hr := (fineWords (hq0 (eWords w.draws.list) (by simp [eWld]))).2
  clear hq0 hf
  have hge := dAt_ge (l := w.draws.list) (fun x hx => (hr x hx).1) w.draws.next.toNat
  clear hr
  change 2147483648 ≤ drawnW w at hge
  have aw := l12_awake
  have ft := l12_fits w
  unfold Tryz.f6
  cases hF : fitsW w
  · rw [hF] at ft
    simp only [eWld, ePrt, eSealeds, eGrams, ePeople, eEvents, eRows, eWords, eLeaks, rB] at *
    repeat' (first
    | (refine hC ?_ ?_ ?_ ?_ ?_
       rotate_left
       · rfl
       · simp only [go_sem, ↓reduceIte, reduceCtorEq, Nat.reduceLT, Nat.reduceEqDiff, Nat.reduceBEq, Nat.reduceAdd, Nat.reduceSub, Nat.reduceMul, Nat.reduceLeDiff, Int.reduceLE, Int.reduceLT, Int.reduceNeg, Int.reduceEq, Int.reduceBEq, Int.reduceBNe, Int.reduceToNat]
       · simp only [go_sem, ↓reduceIte, reduceCtorEq, Nat.reduceLT, Nat.reduceEqDiff, Nat.reduceBEq, Nat.reduceAdd, Nat.reduceSub, Nat.reduceMul, Nat.reduceLeDiff, Int.reduceLE, Int.reduceLT, Int.reduceNeg, Int.reduceEq, Int.reduceBEq, Int.reduceBNe, Int.reduceToNat]
         first | (refine And.intro ?_ ?_; exact aw; first | exact trivial | (simp only [go_sem, ↓reduceIte, reduceCtorEq, Nat.reduceLT, Nat.reduceEqDiff, Nat.reduceBEq, Nat.reduceAdd, Nat.reduceSub, Nat.reduceMul, Nat.reduceLeDiff, Int.reduceLE, Int.reduceLT, Int.reduceNeg, Int.reduceEq, Int.reduceBEq, Int.reduceBNe, Int.reduceToNat]; done)) | (refine And.intro (ACalls.args (k := ?_) ?_ ?_) ?_; rotate_left; exact aw; repeat' (first | exact trivial | exact Or.inl ⟨rfl, rfl⟩ | exact Or.inr rfl | apply And.intro))
       simp only [go_sem, ↓reduceIte, reduceCtorEq, Nat.reduceLT, Nat.reduceEqDiff, Nat.reduceBEq, Nat.reduceAdd, Nat.reduceSub, Nat.reduceMul, Nat.reduceLeDiff, Int.reduceLE, Int.reduceLT, Int.reduceNeg, Int.reduceEq, Int.reduceBEq, Int.reduceBNe, Int.reduceToNat])
    | (refine hC ?_ ?_ ?_ ?_ ?_
       rotate_left
       · rfl
       · simp only [go_sem, ↓reduceIte, reduceCtorEq, Nat.reduceLT, Nat.reduceEqDiff, Nat.reduceBEq, Nat.reduceAdd, Nat.reduceSub, Nat.reduceMul, Nat.reduceLeDiff, Int.reduceLE, Int.reduceLT, Int.reduceNeg, Int.reduceEq, Int.reduceBEq, Int.reduceBNe, Int.reduceToNat]
       · simp only [go_sem, ↓reduceIte, reduceCtorEq, Nat.reduceLT, Nat.reduceEqDiff, Nat.reduceBEq, Nat.reduceAdd, Nat.reduceSub, Nat.reduceMul, Nat.reduceLeDiff, Int.reduceLE, Int.reduceLT, Int.reduceNeg, Int.reduceEq, Int.reduceBEq, Int.reduceBNe, Int.reduceToNat]
         first | (refine And.intro ?_ ?_; exact ft; first | exact trivial | (simp only [go_sem, ↓reduceIte, reduceCtorEq, Nat.reduceLT, Nat.reduceEqDiff, Nat.reduceBEq, Nat.reduceAdd, Nat.reduceSub, Nat.reduceMul, Nat.reduceLeDiff, Int.reduceLE, Int.reduceLT, Int.reduceNeg, Int.reduceEq, Int.reduceBEq, Int.reduceBNe, Int.reduceToNat]; done)) | (refine And.intro (ACalls.args (k := ?_) ?_ ?_) ?_; rotate_left; exact ft; repeat' (first | exact trivial | exact Or.inl ⟨rfl, rfl⟩ | exact Or.inr rfl | apply And.intro))
       simp only [go_sem, ↓reduceIte, reduceCtorEq, Nat.reduceLT, Nat.reduceEqDiff, Nat.reduceBEq, Nat.reduceAdd, Nat.reduceSub, Nat.reduceMul, Nat.reduceLeDiff, Int.reduceLE, Int.reduceLT, Int.reduceNeg, Int.reduceEq, Int.reduceBEq, Int.reduceBNe, Int.reduceToNat])
    | (refine hK _ _ ?_; clear hK hC; clear K C)
    | (refine hK _ _ rfl ?_; clear hK hC; clear K C)
    | (refine hK _ _ (by simp only [crs, crsI, alfO, alfL, Nat.reduceLT]; rfl) ?_; clear hK hC; clear K C)
    | (refine AW.seqR fun K C hK hC => ?_; simp only [go_sem, ↓reduceIte, reduceCtorEq, Nat.reduceLT, Nat.reduceEqDiff, Nat.reduceBEq, Nat.reduceAdd, Nat.reduceSub, Nat.reduceMul, Nat.reduceLeDiff, Int.reduceLE, Int.reduceLT, Int.reduceNeg, Int.reduceEq, Int.reduceBEq, Int.reduceBNe, Int.reduceToNat])
    | (refine AW.seqD rfl fun K C hK hC => ?_; simp only [go_sem, ↓reduceIte, reduceCtorEq, Nat.reduceLT, Nat.reduceEqDiff, Nat.reduceBEq, Nat.reduceAdd, Nat.reduceSub, Nat.reduceMul, Nat.reduceLeDiff, Int.reduceLE, Int.reduceLT, Int.reduceNeg, Int.reduceEq, Int.reduceBEq, Int.reduceBNe, Int.reduceToNat])
    | (refine AW.reg fun K C hK hC => ?_; simp only [go_sem, ↓reduceIte, reduceCtorEq, Nat.reduceLT, Nat.reduceEqDiff, Nat.reduceBEq, Nat.reduceAdd, Nat.reduceSub, Nat.reduceMul, Nat.reduceLeDiff, Int.reduceLE, Int.reduceLT, Int.reduceNeg, Int.reduceEq, Int.reduceBEq, Int.reduceBNe, Int.reduceToNat])
    | (refine AW.regD rfl fun K C hK hC => ?_; simp only [go_sem, ↓reduceIte, reduceCtorEq, Nat.reduceLT, Nat.reduceEqDiff, Nat.reduceBEq, Nat.reduceAdd, Nat.reduceSub, Nat.reduceMul, Nat.reduceLeDiff, Int.reduceLE, Int.reduceLT, Int.reduceNeg, Int.reduceEq, Int.reduceBEq, Int.reduceBNe, Int.reduceToNat])
    | refine AW.seqS ?_
    | (refine AW.ret ?_; simp only [go_sem, ↓reduceIte, reduceCtorEq, Nat.reduceLT, Nat.reduceEqDiff, Nat.reduceBEq, Nat.reduceAdd, Nat.reduceSub, Nat.reduceMul, Nat.reduceLeDiff, Int.reduceLE, Int.reduceLT, Int.reduceNeg, Int.reduceEq, Int.reduceBEq, Int.reduceBNe, Int.reduceToNat])
    | (refine AW.cond rfl (fun h => ?_) (fun h => ?_) <;> (try simp only [decide_eq_true_eq, decide_eq_false_iff_not, bne_iff_ne, beq_iff_eq, bne_eq_false_iff_eq, beq_eq_false_iff_ne, ne_eq, ge_iff_le, gt_iff_lt, Bool.not_eq_true, Bool.not_eq_false, Bool.not_not, Bool.not_true, Bool.not_false, Int.not_le, Int.not_lt, not_true_eq_false, not_false_eq_true, reduceCtorEq, Bool.false_eq_true, Bool.not_eq_true', Bool.not_eq_false'] at h) <;> first | (exfalso; omega) | skip)
    | refine AW.skip ?_
    | refine AW.seq ?_
    | refine AW.block ?_
    | (refine AW.exit ?_; simp only [go_sem, ↓reduceIte, reduceCtorEq, Nat.reduceLT, Nat.reduceEqDiff, Nat.reduceBEq, Nat.reduceAdd, Nat.reduceSub, Nat.reduceMul, Nat.reduceLeDiff, Int.reduceLE, Int.reduceLT, Int.reduceNeg, Int.reduceEq, Int.reduceBEq, Int.reduceBNe, Int.reduceToNat])
    | (refine ite_on (fun h => ?_) (fun h => ?_) <;> (try simp only [decide_eq_true_eq, decide_eq_false_iff_not, bne_iff_ne, beq_iff_eq, bne_eq_false_iff_eq, beq_eq_false_iff_ne, ne_eq, ge_iff_le, gt_iff_lt, Bool.not_eq_true, Bool.not_eq_false, Bool.not_not, Bool.not_true, Bool.not_false, Int.not_le, Int.not_lt, not_true_eq_false, not_false_eq_true, reduceCtorEq, Bool.false_eq_true, Bool.not_eq_true', Bool.not_eq_false'] at h) <;> first | (exfalso; omega) | skip)
    | rw [thenN]
    | rw [blockN]
    | rw [scopeN]
    | refine AW.scope ?_
    | refine AW.label ?_
    | refine And.intro ?_ ?_
    | refine lcons rfl ?_
    | exact lGram _
    | exact lSeen _
    | exact lWord _
    | exact lSealed _
    | exact lRun _
    | exact lPerson _
    | exact lEvent _
    | exact lLeak _
    | exact lNum _
    | exact lOprn _
    | exact in64 (by omega) (by omega)
    | exact in32 (by omega) (by omega)
    | omega)
    all_goals trace "W#0"
  · rw [hF] at ft
    by_cases hnx : 1048576 ≤ w.draws.next
    · simp only [eWld, ePrt, eSealeds, eGrams, ePeople, eEvents, eRows, eWords, eLeaks, rB] at *
      repeat' (first
    | (refine hC ?_ ?_ ?_ ?_ ?_
       rotate_left
       · rfl
       · simp only [go_sem, ↓reduceIte, reduceCtorEq, Nat.reduceLT, Nat.reduceEqDiff, Nat.reduceBEq, Nat.reduceAdd, Nat.reduceSub, Nat.reduceMul, Nat.reduceLeDiff, Int.reduceLE, Int.reduceLT, Int.reduceNeg, Int.reduceEq, Int.reduceBEq, Int.reduceBNe, Int.reduceToNat, hnx]
       · simp only [go_sem, ↓reduceIte, reduceCtorEq, Nat.reduceLT, Nat.reduceEqDiff, Nat.reduceBEq, Nat.reduceAdd, Nat.reduceSub, Nat.reduceMul, Nat.reduceLeDiff, Int.reduceLE, Int.reduceLT, Int.reduceNeg, Int.reduceEq, Int.reduceBEq, Int.reduceBNe, Int.reduceToNat, hnx]
         first | (refine And.intro ?_ ?_; exact aw; first | exact trivial | (simp only [go_sem, ↓reduceIte, reduceCtorEq, Nat.reduceLT, Nat.reduceEqDiff, Nat.reduceBEq, Nat.reduceAdd, Nat.reduceSub, Nat.reduceMul, Nat.reduceLeDiff, Int.reduceLE, Int.reduceLT, Int.reduceNeg, Int.reduceEq, Int.reduceBEq, Int.reduceBNe, Int.reduceToNat, hnx]; done)) | (refine And.intro (ACalls.args (k := ?_) ?_ ?_) ?_; rotate_left; exact aw; repeat' (first | exact trivial | exact Or.inl ⟨rfl, rfl⟩ | exact Or.inr rfl | apply And.intro))
       simp only [go_sem, ↓reduceIte, reduceCtorEq, Nat.reduceLT, Nat.reduceEqDiff, Nat.reduceBEq, Nat.reduceAdd, Nat.reduceSub, Nat.reduceMul, Nat.reduceLeDiff, Int.reduceLE, Int.reduceLT, Int.reduceNeg, Int.reduceEq, Int.reduceBEq, Int.reduceBNe, Int.reduceToNat, hnx])
    | (refine hC ?_ ?_ ?_ ?_ ?_
       rotate_left
       · rfl
       · simp only [go_sem, ↓reduceIte, reduceCtorEq, Nat.reduceLT, Nat.reduceEqDiff, Nat.reduceBEq, Nat.reduceAdd, Nat.reduceSub, Nat.reduceMul, Nat.reduceLeDiff, Int.reduceLE, Int.reduceLT, Int.reduceNeg, Int.reduceEq, Int.reduceBEq, Int.reduceBNe, Int.reduceToNat, hnx]
       · simp only [go_sem, ↓reduceIte, reduceCtorEq, Nat.reduceLT, Nat.reduceEqDiff, Nat.reduceBEq, Nat.reduceAdd, Nat.reduceSub, Nat.reduceMul, Nat.reduceLeDiff, Int.reduceLE, Int.reduceLT, Int.reduceNeg, Int.reduceEq, Int.reduceBEq, Int.reduceBNe, Int.reduceToNat, hnx]
         first | (refine And.intro ?_ ?_; exact ft; first | exact trivial | (simp only [go_sem, ↓reduceIte, reduceCtorEq, Nat.reduceLT, Nat.reduceEqDiff, Nat.reduceBEq, Nat.reduceAdd, Nat.reduceSub, Nat.reduceMul, Nat.reduceLeDiff, Int.reduceLE, Int.reduceLT, Int.reduceNeg, Int.reduceEq, Int.reduceBEq, Int.reduceBNe, Int.reduceToNat, hnx]; done)) | (refine And.intro (ACalls.args (k := ?_) ?_ ?_) ?_; rotate_left; exact ft; repeat' (first | exact trivial | exact Or.inl ⟨rfl, rfl⟩ | exact Or.inr rfl | apply And.intro))
       simp only [go_sem, ↓reduceIte, reduceCtorEq, Nat.reduceLT, Nat.reduceEqDiff, Nat.reduceBEq, Nat.reduceAdd, Nat.reduceSub, Nat.reduceMul, Nat.reduceLeDiff, Int.reduceLE, Int.reduceLT, Int.reduceNeg, Int.reduceEq, Int.reduceBEq, Int.reduceBNe, Int.reduceToNat, hnx])
    | (refine hK _ _ ?_; clear hK hC; clear K C)
    | (refine hK _ _ rfl ?_; clear hK hC; clear K C)
    | (refine hK _ _ (by simp only [crs, crsI, alfO, alfL, Nat.reduceLT]; rfl) ?_; clear hK hC; clear K C)
    | (refine AW.seqR fun K C hK hC => ?_; simp only [go_sem, ↓reduceIte, reduceCtorEq, Nat.reduceLT, Nat.reduceEqDiff, Nat.reduceBEq, Nat.reduceAdd, Nat.reduceSub, Nat.reduceMul, Nat.reduceLeDiff, Int.reduceLE, Int.reduceLT, Int.reduceNeg, Int.reduceEq, Int.reduceBEq, Int.reduceBNe, Int.reduceToNat, hnx])
    | (refine AW.seqD rfl fun K C hK hC => ?_; simp only [go_sem, ↓reduceIte, reduceCtorEq, Nat.reduceLT, Nat.reduceEqDiff, Nat.reduceBEq, Nat.reduceAdd, Nat.reduceSub, Nat.reduceMul, Nat.reduceLeDiff, Int.reduceLE, Int.reduceLT, Int.reduceNeg, Int.reduceEq, Int.reduceBEq, Int.reduceBNe, Int.reduceToNat, hnx])
    | (refine AW.reg fun K C hK hC => ?_; simp only [go_sem, ↓reduceIte, reduceCtorEq, Nat.reduceLT, Nat.reduceEqDiff, Nat.reduceBEq, Nat.reduceAdd, Nat.reduceSub, Nat.reduceMul, Nat.reduceLeDiff, Int.reduceLE, Int.reduceLT, Int.reduceNeg, Int.reduceEq, Int.reduceBEq, Int.reduceBNe, Int.reduceToNat, hnx])
    | (refine AW.regD rfl fun K C hK hC => ?_; simp only [go_sem, ↓reduceIte, reduceCtorEq, Nat.reduceLT, Nat.reduceEqDiff, Nat.reduceBEq, Nat.reduceAdd, Nat.reduceSub, Nat.reduceMul, Nat.reduceLeDiff, Int.reduceLE, Int.reduceLT, Int.reduceNeg, Int.reduceEq, Int.reduceBEq, Int.reduceBNe, Int.reduceToNat, hnx])
    | refine AW.seqS ?_
    | (refine AW.ret ?_; simp only [go_sem, ↓reduceIte, reduceCtorEq, Nat.reduceLT, Nat.reduceEqDiff, Nat.reduceBEq, Nat.reduceAdd, Nat.reduceSub, Nat.reduceMul, Nat.reduceLeDiff, Int.reduceLE, Int.reduceLT, Int.reduceNeg, Int.reduceEq, Int.reduceBEq, Int.reduceBNe, Int.reduceToNat, hnx])
    | (refine AW.cond rfl (fun h => ?_) (fun h => ?_) <;> (try simp only [decide_eq_true_eq, decide_eq_false_iff_not, bne_iff_ne, beq_iff_eq, bne_eq_false_iff_eq, beq_eq_false_iff_ne, ne_eq, ge_iff_le, gt_iff_lt, Bool.not_eq_true, Bool.not_eq_false, Bool.not_not, Bool.not_true, Bool.not_false, Int.not_le, Int.not_lt, not_true_eq_false, not_false_eq_true, reduceCtorEq, Bool.false_eq_true, Bool.not_eq_true', Bool.not_eq_false'] at h) <;> first | (exfalso; omega) | skip)
    | refine AW.skip ?_
    | refine AW.seq ?_
    | refine AW.block ?_
    | (refine AW.exit ?_; simp only [go_sem, ↓reduceIte, reduceCtorEq, Nat.reduceLT, Nat.reduceEqDiff, Nat.reduceBEq, Nat.reduceAdd, Nat.reduceSub, Nat.reduceMul, Nat.reduceLeDiff, Int.reduceLE, Int.reduceLT, Int.reduceNeg, Int.reduceEq, Int.reduceBEq, Int.reduceBNe, Int.reduceToNat, hnx])
    | (refine ite_on (fun h => ?_) (fun h => ?_) <;> (try simp only [decide_eq_true_eq, decide_eq_false_iff_not, bne_iff_ne, beq_iff_eq, bne_eq_false_iff_eq, beq_eq_false_iff_ne, ne_eq, ge_iff_le, gt_iff_lt, Bool.not_eq_true, Bool.not_eq_false, Bool.not_not, Bool.not_true, Bool.not_false, Int.not_le, Int.not_lt, not_true_eq_false, not_false_eq_true, reduceCtorEq, Bool.false_eq_true, Bool.not_eq_true', Bool.not_eq_false'] at h) <;> first | (exfalso; omega) | skip)
    | rw [thenN]
    | rw [blockN]
    | rw [scopeN]
    | refine AW.scope ?_
    | refine AW.label ?_
    | refine And.intro ?_ ?_
    | refine lcons rfl ?_
    | exact lGram _
    | exact lSeen _
    | exact lWord _
    | exact lSealed _
    | exact lRun _
    | exact lPerson _
    | exact lEvent _
    | exact lLeak _
    | exact lNum _
    | exact lOprn _
    | exact in64 (by omega) (by omega)
    | exact in32 (by omega) (by omega)
    | omega)
      all_goals trace "W#1"
    · unfold fitsW at hF
      rw [Bool.and_eq_true] at hF
      have sm := small_of hF.1 hF.2
      have hform := hF.2
      have hb := (formW_iff hF.2).2.1
      have c1 := p12_seal w key label p sm hb
      rcases sealW_cases w key label p with ⟨e, he, ee⟩ | ⟨hg, ht, hr, ee⟩
      · rw [ee] at c1
        have s1 := q12_same w w
        rw [decide_eq_true rfl] at s1
        have he' : (e != 0) = true := by simp [he]
        clear hF sm hform hb ee
        simp only [eWld, ePrt, eSealeds, eGrams, ePeople, eEvents, eRows, eWords, eLeaks, rB] at *
        repeat' (first
    | (refine hC ?_ ?_ ?_ ?_ ?_
       rotate_left
       · rfl
       · simp only [go_sem, ↓reduceIte, reduceCtorEq, Nat.reduceLT, Nat.reduceEqDiff, Nat.reduceBEq, Nat.reduceAdd, Nat.reduceSub, Nat.reduceMul, Nat.reduceLeDiff, Int.reduceLE, Int.reduceLT, Int.reduceNeg, Int.reduceEq, Int.reduceBEq, Int.reduceBNe, Int.reduceToNat, hnx, he']
       · simp only [go_sem, ↓reduceIte, reduceCtorEq, Nat.reduceLT, Nat.reduceEqDiff, Nat.reduceBEq, Nat.reduceAdd, Nat.reduceSub, Nat.reduceMul, Nat.reduceLeDiff, Int.reduceLE, Int.reduceLT, Int.reduceNeg, Int.reduceEq, Int.reduceBEq, Int.reduceBNe, Int.reduceToNat, hnx, he']
         first | (refine And.intro ?_ ?_; exact aw; first | exact trivial | (simp only [go_sem, ↓reduceIte, reduceCtorEq, Nat.reduceLT, Nat.reduceEqDiff, Nat.reduceBEq, Nat.reduceAdd, Nat.reduceSub, Nat.reduceMul, Nat.reduceLeDiff, Int.reduceLE, Int.reduceLT, Int.reduceNeg, Int.reduceEq, Int.reduceBEq, Int.reduceBNe, Int.reduceToNat, hnx, he']; done)) | (refine And.intro (ACalls.args (k := ?_) ?_ ?_) ?_; rotate_left; exact aw; repeat' (first | exact trivial | exact Or.inl ⟨rfl, rfl⟩ | exact Or.inr rfl | apply And.intro))
       simp only [go_sem, ↓reduceIte, reduceCtorEq, Nat.reduceLT, Nat.reduceEqDiff, Nat.reduceBEq, Nat.reduceAdd, Nat.reduceSub, Nat.reduceMul, Nat.reduceLeDiff, Int.reduceLE, Int.reduceLT, Int.reduceNeg, Int.reduceEq, Int.reduceBEq, Int.reduceBNe, Int.reduceToNat, hnx, he'])
    | (refine hC ?_ ?_ ?_ ?_ ?_
       rotate_left
       · rfl
       · simp only [go_sem, ↓reduceIte, reduceCtorEq, Nat.reduceLT, Nat.reduceEqDiff, Nat.reduceBEq, Nat.reduceAdd, Nat.reduceSub, Nat.reduceMul, Nat.reduceLeDiff, Int.reduceLE, Int.reduceLT, Int.reduceNeg, Int.reduceEq, Int.reduceBEq, Int.reduceBNe, Int.reduceToNat, hnx, he']
       · simp only [go_sem, ↓reduceIte, reduceCtorEq, Nat.reduceLT, Nat.reduceEqDiff, Nat.reduceBEq, Nat.reduceAdd, Nat.reduceSub, Nat.reduceMul, Nat.reduceLeDiff, Int.reduceLE, Int.reduceLT, Int.reduceNeg, Int.reduceEq, Int.reduceBEq, Int.reduceBNe, Int.reduceToNat, hnx, he']
         first | (refine And.intro ?_ ?_; exact ft; first | exact trivial | (simp only [go_sem, ↓reduceIte, reduceCtorEq, Nat.reduceLT, Nat.reduceEqDiff, Nat.reduceBEq, Nat.reduceAdd, Nat.reduceSub, Nat.reduceMul, Nat.reduceLeDiff, Int.reduceLE, Int.reduceLT, Int.reduceNeg, Int.reduceEq, Int.reduceBEq, Int.reduceBNe, Int.reduceToNat, hnx, he']; done)) | (refine And.intro (ACalls.args (k := ?_) ?_ ?_) ?_; rotate_left; exact ft; repeat' (first | exact trivial | exact Or.inl ⟨rfl, rfl⟩ | exact Or.inr rfl | apply And.intro))
       simp only [go_sem, ↓reduceIte, reduceCtorEq, Nat.reduceLT, Nat.reduceEqDiff, Nat.reduceBEq, Nat.reduceAdd, Nat.reduceSub, Nat.reduceMul, Nat.reduceLeDiff, Int.reduceLE, Int.reduceLT, Int.reduceNeg, Int.reduceEq, Int.reduceBEq, Int.reduceBNe, Int.reduceToNat, hnx, he'])
    | (refine hC ?_ ?_ ?_ ?_ ?_
       rotate_left
       · rfl
       · simp only [go_sem, ↓reduceIte, reduceCtorEq, Nat.reduceLT, Nat.reduceEqDiff, Nat.reduceBEq, Nat.reduceAdd, Nat.reduceSub, Nat.reduceMul, Nat.reduceLeDiff, Int.reduceLE, Int.reduceLT, Int.reduceNeg, Int.reduceEq, Int.reduceBEq, Int.reduceBNe, Int.reduceToNat, hnx, he']
       · simp only [go_sem, ↓reduceIte, reduceCtorEq, Nat.reduceLT, Nat.reduceEqDiff, Nat.reduceBEq, Nat.reduceAdd, Nat.reduceSub, Nat.reduceMul, Nat.reduceLeDiff, Int.reduceLE, Int.reduceLT, Int.reduceNeg, Int.reduceEq, Int.reduceBEq, Int.reduceBNe, Int.reduceToNat, hnx, he']
         first | (refine And.intro ?_ ?_; exact c1; first | exact trivial | (simp only [go_sem, ↓reduceIte, reduceCtorEq, Nat.reduceLT, Nat.reduceEqDiff, Nat.reduceBEq, Nat.reduceAdd, Nat.reduceSub, Nat.reduceMul, Nat.reduceLeDiff, Int.reduceLE, Int.reduceLT, Int.reduceNeg, Int.reduceEq, Int.reduceBEq, Int.reduceBNe, Int.reduceToNat, hnx, he']; done)) | (refine And.intro (ACalls.args (k := ?_) ?_ ?_) ?_; rotate_left; exact c1; repeat' (first | exact trivial | exact Or.inl ⟨rfl, rfl⟩ | exact Or.inr rfl | apply And.intro))
       simp only [go_sem, ↓reduceIte, reduceCtorEq, Nat.reduceLT, Nat.reduceEqDiff, Nat.reduceBEq, Nat.reduceAdd, Nat.reduceSub, Nat.reduceMul, Nat.reduceLeDiff, Int.reduceLE, Int.reduceLT, Int.reduceNeg, Int.reduceEq, Int.reduceBEq, Int.reduceBNe, Int.reduceToNat, hnx, he'])
    | (refine hC ?_ ?_ ?_ ?_ ?_
       rotate_left
       · rfl
       · simp only [go_sem, ↓reduceIte, reduceCtorEq, Nat.reduceLT, Nat.reduceEqDiff, Nat.reduceBEq, Nat.reduceAdd, Nat.reduceSub, Nat.reduceMul, Nat.reduceLeDiff, Int.reduceLE, Int.reduceLT, Int.reduceNeg, Int.reduceEq, Int.reduceBEq, Int.reduceBNe, Int.reduceToNat, hnx, he']
       · simp only [go_sem, ↓reduceIte, reduceCtorEq, Nat.reduceLT, Nat.reduceEqDiff, Nat.reduceBEq, Nat.reduceAdd, Nat.reduceSub, Nat.reduceMul, Nat.reduceLeDiff, Int.reduceLE, Int.reduceLT, Int.reduceNeg, Int.reduceEq, Int.reduceBEq, Int.reduceBNe, Int.reduceToNat, hnx, he']
         first | (refine And.intro ?_ ?_; exact s1; first | exact trivial | (simp only [go_sem, ↓reduceIte, reduceCtorEq, Nat.reduceLT, Nat.reduceEqDiff, Nat.reduceBEq, Nat.reduceAdd, Nat.reduceSub, Nat.reduceMul, Nat.reduceLeDiff, Int.reduceLE, Int.reduceLT, Int.reduceNeg, Int.reduceEq, Int.reduceBEq, Int.reduceBNe, Int.reduceToNat, hnx, he']; done)) | (refine And.intro (ACalls.args (k := ?_) ?_ ?_) ?_; rotate_left; exact s1; repeat' (first | exact trivial | exact Or.inl ⟨rfl, rfl⟩ | exact Or.inr rfl | apply And.intro))
       simp only [go_sem, ↓reduceIte, reduceCtorEq, Nat.reduceLT, Nat.reduceEqDiff, Nat.reduceBEq, Nat.reduceAdd, Nat.reduceSub, Nat.reduceMul, Nat.reduceLeDiff, Int.reduceLE, Int.reduceLT, Int.reduceNeg, Int.reduceEq, Int.reduceBEq, Int.reduceBNe, Int.reduceToNat, hnx, he'])
    | (refine hK _ _ ?_; clear hK hC; clear K C)
    | (refine hK _ _ rfl ?_; clear hK hC; clear K C)
    | (refine hK _ _ (by simp only [crs, crsI, alfO, alfL, Nat.reduceLT]; rfl) ?_; clear hK hC; clear K C)
    | (refine AW.seqR fun K C hK hC => ?_; simp only [go_sem, ↓reduceIte, reduceCtorEq, Nat.reduceLT, Nat.reduceEqDiff, Nat.reduceBEq, Nat.reduceAdd, Nat.reduceSub, Nat.reduceMul, Nat.reduceLeDiff, Int.reduceLE, Int.reduceLT, Int.reduceNeg, Int.reduceEq, Int.reduceBEq, Int.reduceBNe, Int.reduceToNat, hnx, he'])
    | (refine AW.seqD rfl fun K C hK hC => ?_; simp only [go_sem, ↓reduceIte, reduceCtorEq, Nat.reduceLT, Nat.reduceEqDiff, Nat.reduceBEq, Nat.reduceAdd, Nat.reduceSub, Nat.reduceMul, Nat.reduceLeDiff, Int.reduceLE, Int.reduceLT, Int.reduceNeg, Int.reduceEq, Int.reduceBEq, Int.reduceBNe, Int.reduceToNat, hnx, he'])
    | (refine AW.reg fun K C hK hC => ?_; simp only [go_sem, ↓reduceIte, reduceCtorEq, Nat.reduceLT, Nat.reduceEqDiff, Nat.reduceBEq, Nat.reduceAdd, Nat.reduceSub, Nat.reduceMul, Nat.reduceLeDiff, Int.reduceLE, Int.reduceLT, Int.reduceNeg, Int.reduceEq, Int.reduceBEq, Int.reduceBNe, Int.reduceToNat, hnx, he'])
    | (refine AW.regD rfl fun K C hK hC => ?_; simp only [go_sem, ↓reduceIte, reduceCtorEq, Nat.reduceLT, Nat.reduceEqDiff, Nat.reduceBEq, Nat.reduceAdd, Nat.reduceSub, Nat.reduceMul, Nat.reduceLeDiff, Int.reduceLE, Int.reduceLT, Int.reduceNeg, Int.reduceEq, Int.reduceBEq, Int.reduceBNe, Int.reduceToNat, hnx, he'])
    | refine AW.seqS ?_
    | (refine AW.ret ?_; simp only [go_sem, ↓reduceIte, reduceCtorEq, Nat.reduceLT, Nat.reduceEqDiff, Nat.reduceBEq, Nat.reduceAdd, Nat.reduceSub, Nat.reduceMul, Nat.reduceLeDiff, Int.reduceLE, Int.reduceLT, Int.reduceNeg, Int.reduceEq, Int.reduceBEq, Int.reduceBNe, Int.reduceToNat, hnx, he'])
    | (refine AW.cond rfl (fun h => ?_) (fun h => ?_) <;> (try simp only [decide_eq_true_eq, decide_eq_false_iff_not, bne_iff_ne, beq_iff_eq, bne_eq_false_iff_eq, beq_eq_false_iff_ne, ne_eq, ge_iff_le, gt_iff_lt, Bool.not_eq_true, Bool.not_eq_false, Bool.not_not, Bool.not_true, Bool.not_false, Int.not_le, Int.not_lt, not_true_eq_false, not_false_eq_true, reduceCtorEq, Bool.false_eq_true, Bool.not_eq_true', Bool.not_eq_false'] at h) <;> first | (exfalso; omega) | skip)
    | refine AW.skip ?_
    | refine AW.seq ?_
    | refine AW.block ?_
    | (refine AW.exit ?_; simp only [go_sem, ↓reduceIte, reduceCtorEq, Nat.reduceLT, Nat.reduceEqDiff, Nat.reduceBEq, Nat.reduceAdd, Nat.reduceSub, Nat.reduceMul, Nat.reduceLeDiff, Int.reduceLE, Int.reduceLT, Int.reduceNeg, Int.reduceEq, Int.reduceBEq, Int.reduceBNe, Int.reduceToNat, hnx, he'])
    | (refine ite_on (fun h => ?_) (fun h => ?_) <;> (try simp only [decide_eq_true_eq, decide_eq_false_iff_not, bne_iff_ne, beq_iff_eq, bne_eq_false_iff_eq, beq_eq_false_iff_ne, ne_eq, ge_iff_le, gt_iff_lt, Bool.not_eq_true, Bool.not_eq_false, Bool.not_not, Bool.not_true, Bool.not_false, Int.not_le, Int.not_lt, not_true_eq_false, not_false_eq_true, reduceCtorEq, Bool.false_eq_true, Bool.not_eq_true', Bool.not_eq_false'] at h) <;> first | (exfalso; omega) | skip)
    | rw [thenN]
    | rw [blockN]
    | rw [scopeN]
    | refine AW.scope ?_
    | refine AW.label ?_
    | refine And.intro ?_ ?_
    | refine lcons rfl ?_
    | exact lGram _
    | exact lSeen _
    | exact lWord _
    | exact lSealed _
    | exact lRun _
    | exact lPerson _
    | exact lEvent _
    | exact lLeak _
    | exact lNum _
    | exact lOprn _
    | exact in64 (by omega) (by omega)
    | exact in32 (by omega) (by omega)
    | omega)
        all_goals trace "W#2"
      · rw [ee] at c1
        have hff := seal_form (key := key) (label := label) (l := wordsP label p) hform (by omega) ht hr (by have := wordsP_len label p; omega)
        obtain ⟨A, hA⟩ : ∃ A : Wld, A = { drawW w with box := ⟨w.box.room, w.box.entries ++ [⟨drawnW w, key, label, wordsP label p⟩]⟩ } := ⟨_, rfl⟩
        rw [← hA] at c1 hff
        have hAb : A.box = ⟨w.box.room, w.box.entries ++ [⟨drawnW w, key, label, wordsP label p⟩]⟩ := by rw [hA]
        have hAr := (formW_iff hff).2.1
        have c2 := p12_open A key label (drawnW w) hAr
        have c3 := p12_open A kk ll (drawnW w) hAr
        have c4 := p12_form A
        have c5 := p12_open w kk ll handle hb
        have c6 := p12_open A kk ll handle hAr
        rw [opened_new hAb hAr ht hg, if_pos ⟨rfl, rfl⟩] at c2
        rw [opened_new hAb hAr ht hg] at c3
        rw [hff] at c4
        have hlt : ¬ drawnW w < 2147483648 := by omega
        have heq := eqok_prt
        have hold : drawnW w ≠ handle → openW A kk ll handle = openW w kk ll handle := fun hne => opened_old (r := w.box.room) (es := w.box.entries) hAb rfl hAr hb hne kk ll
        clear hF sm hform hff hA hAb hAr hb ee hge hg ht hr
        generalize drawnW w = hd at *
        by_cases hh : hd = handle
        · have hh' : (handle == hd) = true := by simp [hh]
          generalize openW A kk ll handle = o1 at *
          generalize openW w kk ll handle = o2 at *
          obtain ⟨q1, b1⟩ := o1
          obtain ⟨q2, b2⟩ := o2
          clear hold hh
          by_cases hk : key = kk ∧ label = ll
          · obtain ⟨rfl, rfl⟩ := hk
            rw [if_pos ⟨rfl, rfl⟩] at c3
            simp only [eWld, ePrt, eSealeds, eGrams, ePeople, eEvents, eRows, eWords, eLeaks, rB] at *
            repeat' (first
    | (refine hC ?_ ?_ ?_ ?_ ?_
       rotate_left
       · rfl
       · simp only [go_sem, ↓reduceIte, reduceCtorEq, Nat.reduceLT, Nat.reduceEqDiff, Nat.reduceBEq, Nat.reduceAdd, Nat.reduceSub, Nat.reduceMul, Nat.reduceLeDiff, Int.reduceLE, Int.reduceLT, Int.reduceNeg, Int.reduceEq, Int.reduceBEq, Int.reduceBNe, Int.reduceToNat, List.append_eq, hnx, hlt, hh', heq, beq_self_eq_true, bne_self_eq_false]
       · simp only [go_sem, ↓reduceIte, reduceCtorEq, Nat.reduceLT, Nat.reduceEqDiff, Nat.reduceBEq, Nat.reduceAdd, Nat.reduceSub, Nat.reduceMul, Nat.reduceLeDiff, Int.reduceLE, Int.reduceLT, Int.reduceNeg, Int.reduceEq, Int.reduceBEq, Int.reduceBNe, Int.reduceToNat, List.append_eq, hnx, hlt, hh', heq, beq_self_eq_true, bne_self_eq_false]
         first | (refine And.intro ?_ ?_; exact aw; first | exact trivial | (simp only [go_sem, ↓reduceIte, reduceCtorEq, Nat.reduceLT, Nat.reduceEqDiff, Nat.reduceBEq, Nat.reduceAdd, Nat.reduceSub, Nat.reduceMul, Nat.reduceLeDiff, Int.reduceLE, Int.reduceLT, Int.reduceNeg, Int.reduceEq, Int.reduceBEq, Int.reduceBNe, Int.reduceToNat, List.append_eq, hnx, hlt, hh', heq, beq_self_eq_true, bne_self_eq_false]; done)) | (refine And.intro (ACalls.args (k := ?_) ?_ ?_) ?_; rotate_left; exact aw; repeat' (first | exact trivial | exact Or.inl ⟨rfl, rfl⟩ | exact Or.inr rfl | apply And.intro))
       simp only [go_sem, ↓reduceIte, reduceCtorEq, Nat.reduceLT, Nat.reduceEqDiff, Nat.reduceBEq, Nat.reduceAdd, Nat.reduceSub, Nat.reduceMul, Nat.reduceLeDiff, Int.reduceLE, Int.reduceLT, Int.reduceNeg, Int.reduceEq, Int.reduceBEq, Int.reduceBNe, Int.reduceToNat, List.append_eq, hnx, hlt, hh', heq, beq_self_eq_true, bne_self_eq_false])
    | (refine hC ?_ ?_ ?_ ?_ ?_
       rotate_left
       · rfl
       · simp only [go_sem, ↓reduceIte, reduceCtorEq, Nat.reduceLT, Nat.reduceEqDiff, Nat.reduceBEq, Nat.reduceAdd, Nat.reduceSub, Nat.reduceMul, Nat.reduceLeDiff, Int.reduceLE, Int.reduceLT, Int.reduceNeg, Int.reduceEq, Int.reduceBEq, Int.reduceBNe, Int.reduceToNat, List.append_eq, hnx, hlt, hh', heq, beq_self_eq_true, bne_self_eq_false]
       · simp only [go_sem, ↓reduceIte, reduceCtorEq, Nat.reduceLT, Nat.reduceEqDiff, Nat.reduceBEq, Nat.reduceAdd, Nat.reduceSub, Nat.reduceMul, Nat.reduceLeDiff, Int.reduceLE, Int.reduceLT, Int.reduceNeg, Int.reduceEq, Int.reduceBEq, Int.reduceBNe, Int.reduceToNat, List.append_eq, hnx, hlt, hh', heq, beq_self_eq_true, bne_self_eq_false]
         first | (refine And.intro ?_ ?_; exact ft; first | exact trivial | (simp only [go_sem, ↓reduceIte, reduceCtorEq, Nat.reduceLT, Nat.reduceEqDiff, Nat.reduceBEq, Nat.reduceAdd, Nat.reduceSub, Nat.reduceMul, Nat.reduceLeDiff, Int.reduceLE, Int.reduceLT, Int.reduceNeg, Int.reduceEq, Int.reduceBEq, Int.reduceBNe, Int.reduceToNat, List.append_eq, hnx, hlt, hh', heq, beq_self_eq_true, bne_self_eq_false]; done)) | (refine And.intro (ACalls.args (k := ?_) ?_ ?_) ?_; rotate_left; exact ft; repeat' (first | exact trivial | exact Or.inl ⟨rfl, rfl⟩ | exact Or.inr rfl | apply And.intro))
       simp only [go_sem, ↓reduceIte, reduceCtorEq, Nat.reduceLT, Nat.reduceEqDiff, Nat.reduceBEq, Nat.reduceAdd, Nat.reduceSub, Nat.reduceMul, Nat.reduceLeDiff, Int.reduceLE, Int.reduceLT, Int.reduceNeg, Int.reduceEq, Int.reduceBEq, Int.reduceBNe, Int.reduceToNat, List.append_eq, hnx, hlt, hh', heq, beq_self_eq_true, bne_self_eq_false])
    | (refine hC ?_ ?_ ?_ ?_ ?_
       rotate_left
       · rfl
       · simp only [go_sem, ↓reduceIte, reduceCtorEq, Nat.reduceLT, Nat.reduceEqDiff, Nat.reduceBEq, Nat.reduceAdd, Nat.reduceSub, Nat.reduceMul, Nat.reduceLeDiff, Int.reduceLE, Int.reduceLT, Int.reduceNeg, Int.reduceEq, Int.reduceBEq, Int.reduceBNe, Int.reduceToNat, List.append_eq, hnx, hlt, hh', heq, beq_self_eq_true, bne_self_eq_false]
       · simp only [go_sem, ↓reduceIte, reduceCtorEq, Nat.reduceLT, Nat.reduceEqDiff, Nat.reduceBEq, Nat.reduceAdd, Nat.reduceSub, Nat.reduceMul, Nat.reduceLeDiff, Int.reduceLE, Int.reduceLT, Int.reduceNeg, Int.reduceEq, Int.reduceBEq, Int.reduceBNe, Int.reduceToNat, List.append_eq, hnx, hlt, hh', heq, beq_self_eq_true, bne_self_eq_false]
         first | (refine And.intro ?_ ?_; exact c1; first | exact trivial | (simp only [go_sem, ↓reduceIte, reduceCtorEq, Nat.reduceLT, Nat.reduceEqDiff, Nat.reduceBEq, Nat.reduceAdd, Nat.reduceSub, Nat.reduceMul, Nat.reduceLeDiff, Int.reduceLE, Int.reduceLT, Int.reduceNeg, Int.reduceEq, Int.reduceBEq, Int.reduceBNe, Int.reduceToNat, List.append_eq, hnx, hlt, hh', heq, beq_self_eq_true, bne_self_eq_false]; done)) | (refine And.intro (ACalls.args (k := ?_) ?_ ?_) ?_; rotate_left; exact c1; repeat' (first | exact trivial | exact Or.inl ⟨rfl, rfl⟩ | exact Or.inr rfl | apply And.intro))
       simp only [go_sem, ↓reduceIte, reduceCtorEq, Nat.reduceLT, Nat.reduceEqDiff, Nat.reduceBEq, Nat.reduceAdd, Nat.reduceSub, Nat.reduceMul, Nat.reduceLeDiff, Int.reduceLE, Int.reduceLT, Int.reduceNeg, Int.reduceEq, Int.reduceBEq, Int.reduceBNe, Int.reduceToNat, List.append_eq, hnx, hlt, hh', heq, beq_self_eq_true, bne_self_eq_false])
    | (refine hC ?_ ?_ ?_ ?_ ?_
       rotate_left
       · rfl
       · simp only [go_sem, ↓reduceIte, reduceCtorEq, Nat.reduceLT, Nat.reduceEqDiff, Nat.reduceBEq, Nat.reduceAdd, Nat.reduceSub, Nat.reduceMul, Nat.reduceLeDiff, Int.reduceLE, Int.reduceLT, Int.reduceNeg, Int.reduceEq, Int.reduceBEq, Int.reduceBNe, Int.reduceToNat, List.append_eq, hnx, hlt, hh', heq, beq_self_eq_true, bne_self_eq_false]
       · simp only [go_sem, ↓reduceIte, reduceCtorEq, Nat.reduceLT, Nat.reduceEqDiff, Nat.reduceBEq, Nat.reduceAdd, Nat.reduceSub, Nat.reduceMul, Nat.reduceLeDiff, Int.reduceLE, Int.reduceLT, Int.reduceNeg, Int.reduceEq, Int.reduceBEq, Int.reduceBNe, Int.reduceToNat, List.append_eq, hnx, hlt, hh', heq, beq_self_eq_true, bne_self_eq_false]
         first | (refine And.intro ?_ ?_; exact c2; first | exact trivial | (simp only [go_sem, ↓reduceIte, reduceCtorEq, Nat.reduceLT, Nat.reduceEqDiff, Nat.reduceBEq, Nat.reduceAdd, Nat.reduceSub, Nat.reduceMul, Nat.reduceLeDiff, Int.reduceLE, Int.reduceLT, Int.reduceNeg, Int.reduceEq, Int.reduceBEq, Int.reduceBNe, Int.reduceToNat, List.append_eq, hnx, hlt, hh', heq, beq_self_eq_true, bne_self_eq_false]; done)) | (refine And.intro (ACalls.args (k := ?_) ?_ ?_) ?_; rotate_left; exact c2; repeat' (first | exact trivial | exact Or.inl ⟨rfl, rfl⟩ | exact Or.inr rfl | apply And.intro))
       simp only [go_sem, ↓reduceIte, reduceCtorEq, Nat.reduceLT, Nat.reduceEqDiff, Nat.reduceBEq, Nat.reduceAdd, Nat.reduceSub, Nat.reduceMul, Nat.reduceLeDiff, Int.reduceLE, Int.reduceLT, Int.reduceNeg, Int.reduceEq, Int.reduceBEq, Int.reduceBNe, Int.reduceToNat, List.append_eq, hnx, hlt, hh', heq, beq_self_eq_true, bne_self_eq_false])
    | (refine hC ?_ ?_ ?_ ?_ ?_
       rotate_left
       · rfl
       · simp only [go_sem, ↓reduceIte, reduceCtorEq, Nat.reduceLT, Nat.reduceEqDiff, Nat.reduceBEq, Nat.reduceAdd, Nat.reduceSub, Nat.reduceMul, Nat.reduceLeDiff, Int.reduceLE, Int.reduceLT, Int.reduceNeg, Int.reduceEq, Int.reduceBEq, Int.reduceBNe, Int.reduceToNat, List.append_eq, hnx, hlt, hh', heq, beq_self_eq_true, bne_self_eq_false]
       · simp only [go_sem, ↓reduceIte, reduceCtorEq, Nat.reduceLT, Nat.reduceEqDiff, Nat.reduceBEq, Nat.reduceAdd, Nat.reduceSub, Nat.reduceMul, Nat.reduceLeDiff, Int.reduceLE, Int.reduceLT, Int.reduceNeg, Int.reduceEq, Int.reduceBEq, Int.reduceBNe, Int.reduceToNat, List.append_eq, hnx, hlt, hh', heq, beq_self_eq_true, bne_self_eq_false]
         first | (refine And.intro ?_ ?_; exact c3; first | exact trivial | (simp only [go_sem, ↓reduceIte, reduceCtorEq, Nat.reduceLT, Nat.reduceEqDiff, Nat.reduceBEq, Nat.reduceAdd, Nat.reduceSub, Nat.reduceMul, Nat.reduceLeDiff, Int.reduceLE, Int.reduceLT, Int.reduceNeg, Int.reduceEq, Int.reduceBEq, Int.reduceBNe, Int.reduceToNat, List.append_eq, hnx, hlt, hh', heq, beq_self_eq_true, bne_self_eq_false]; done)) | (refine And.intro (ACalls.args (k := ?_) ?_ ?_) ?_; rotate_left; exact c3; repeat' (first | exact trivial | exact Or.inl ⟨rfl, rfl⟩ | exact Or.inr rfl | apply And.intro))
       simp only [go_sem, ↓reduceIte, reduceCtorEq, Nat.reduceLT, Nat.reduceEqDiff, Nat.reduceBEq, Nat.reduceAdd, Nat.reduceSub, Nat.reduceMul, Nat.reduceLeDiff, Int.reduceLE, Int.reduceLT, Int.reduceNeg, Int.reduceEq, Int.reduceBEq, Int.reduceBNe, Int.reduceToNat, List.append_eq, hnx, hlt, hh', heq, beq_self_eq_true, bne_self_eq_false])
    | (refine hC ?_ ?_ ?_ ?_ ?_
       rotate_left
       · rfl
       · simp only [go_sem, ↓reduceIte, reduceCtorEq, Nat.reduceLT, Nat.reduceEqDiff, Nat.reduceBEq, Nat.reduceAdd, Nat.reduceSub, Nat.reduceMul, Nat.reduceLeDiff, Int.reduceLE, Int.reduceLT, Int.reduceNeg, Int.reduceEq, Int.reduceBEq, Int.reduceBNe, Int.reduceToNat, List.append_eq, hnx, hlt, hh', heq, beq_self_eq_true, bne_self_eq_false]
       · simp only [go_sem, ↓reduceIte, reduceCtorEq, Nat.reduceLT, Nat.reduceEqDiff, Nat.reduceBEq, Nat.reduceAdd, Nat.reduceSub, Nat.reduceMul, Nat.reduceLeDiff, Int.reduceLE, Int.reduceLT, Int.reduceNeg, Int.reduceEq, Int.reduceBEq, Int.reduceBNe, Int.reduceToNat, List.append_eq, hnx, hlt, hh', heq, beq_self_eq_true, bne_self_eq_false]
         first | (refine And.intro ?_ ?_; exact c4; first | exact trivial | (simp only [go_sem, ↓reduceIte, reduceCtorEq, Nat.reduceLT, Nat.reduceEqDiff, Nat.reduceBEq, Nat.reduceAdd, Nat.reduceSub, Nat.reduceMul, Nat.reduceLeDiff, Int.reduceLE, Int.reduceLT, Int.reduceNeg, Int.reduceEq, Int.reduceBEq, Int.reduceBNe, Int.reduceToNat, List.append_eq, hnx, hlt, hh', heq, beq_self_eq_true, bne_self_eq_false]; done)) | (refine And.intro (ACalls.args (k := ?_) ?_ ?_) ?_; rotate_left; exact c4; repeat' (first | exact trivial | exact Or.inl ⟨rfl, rfl⟩ | exact Or.inr rfl | apply And.intro))
       simp only [go_sem, ↓reduceIte, reduceCtorEq, Nat.reduceLT, Nat.reduceEqDiff, Nat.reduceBEq, Nat.reduceAdd, Nat.reduceSub, Nat.reduceMul, Nat.reduceLeDiff, Int.reduceLE, Int.reduceLT, Int.reduceNeg, Int.reduceEq, Int.reduceBEq, Int.reduceBNe, Int.reduceToNat, List.append_eq, hnx, hlt, hh', heq, beq_self_eq_true, bne_self_eq_false])
    | (refine hC ?_ ?_ ?_ ?_ ?_
       rotate_left
       · rfl
       · simp only [go_sem, ↓reduceIte, reduceCtorEq, Nat.reduceLT, Nat.reduceEqDiff, Nat.reduceBEq, Nat.reduceAdd, Nat.reduceSub, Nat.reduceMul, Nat.reduceLeDiff, Int.reduceLE, Int.reduceLT, Int.reduceNeg, Int.reduceEq, Int.reduceBEq, Int.reduceBNe, Int.reduceToNat, List.append_eq, hnx, hlt, hh', heq, beq_self_eq_true, bne_self_eq_false]
       · simp only [go_sem, ↓reduceIte, reduceCtorEq, Nat.reduceLT, Nat.reduceEqDiff, Nat.reduceBEq, Nat.reduceAdd, Nat.reduceSub, Nat.reduceMul, Nat.reduceLeDiff, Int.reduceLE, Int.reduceLT, Int.reduceNeg, Int.reduceEq, Int.reduceBEq, Int.reduceBNe, Int.reduceToNat, List.append_eq, hnx, hlt, hh', heq, beq_self_eq_true, bne_self_eq_false]
         first | (refine And.intro ?_ ?_; exact c5; first | exact trivial | (simp only [go_sem, ↓reduceIte, reduceCtorEq, Nat.reduceLT, Nat.reduceEqDiff, Nat.reduceBEq, Nat.reduceAdd, Nat.reduceSub, Nat.reduceMul, Nat.reduceLeDiff, Int.reduceLE, Int.reduceLT, Int.reduceNeg, Int.reduceEq, Int.reduceBEq, Int.reduceBNe, Int.reduceToNat, List.append_eq, hnx, hlt, hh', heq, beq_self_eq_true, bne_self_eq_false]; done)) | (refine And.intro (ACalls.args (k := ?_) ?_ ?_) ?_; rotate_left; exact c5; repeat' (first | exact trivial | exact Or.inl ⟨rfl, rfl⟩ | exact Or.inr rfl | apply And.intro))
       simp only [go_sem, ↓reduceIte, reduceCtorEq, Nat.reduceLT, Nat.reduceEqDiff, Nat.reduceBEq, Nat.reduceAdd, Nat.reduceSub, Nat.reduceMul, Nat.reduceLeDiff, Int.reduceLE, Int.reduceLT, Int.reduceNeg, Int.reduceEq, Int.reduceBEq, Int.reduceBNe, Int.reduceToNat, List.append_eq, hnx, hlt, hh', heq, beq_self_eq_true, bne_self_eq_false])
    | (refine hC ?_ ?_ ?_ ?_ ?_
       rotate_left
       · rfl
       · simp only [go_sem, ↓reduceIte, reduceCtorEq, Nat.reduceLT, Nat.reduceEqDiff, Nat.reduceBEq, Nat.reduceAdd, Nat.reduceSub, Nat.reduceMul, Nat.reduceLeDiff, Int.reduceLE, Int.reduceLT, Int.reduceNeg, Int.reduceEq, Int.reduceBEq, Int.reduceBNe, Int.reduceToNat, List.append_eq, hnx, hlt, hh', heq, beq_self_eq_true, bne_self_eq_false]
       · simp only [go_sem, ↓reduceIte, reduceCtorEq, Nat.reduceLT, Nat.reduceEqDiff, Nat.reduceBEq, Nat.reduceAdd, Nat.reduceSub, Nat.reduceMul, Nat.reduceLeDiff, Int.reduceLE, Int.reduceLT, Int.reduceNeg, Int.reduceEq, Int.reduceBEq, Int.reduceBNe, Int.reduceToNat, List.append_eq, hnx, hlt, hh', heq, beq_self_eq_true, bne_self_eq_false]
         first | (refine And.intro ?_ ?_; exact c6; first | exact trivial | (simp only [go_sem, ↓reduceIte, reduceCtorEq, Nat.reduceLT, Nat.reduceEqDiff, Nat.reduceBEq, Nat.reduceAdd, Nat.reduceSub, Nat.reduceMul, Nat.reduceLeDiff, Int.reduceLE, Int.reduceLT, Int.reduceNeg, Int.reduceEq, Int.reduceBEq, Int.reduceBNe, Int.reduceToNat, List.append_eq, hnx, hlt, hh', heq, beq_self_eq_true, bne_self_eq_false]; done)) | (refine And.intro (ACalls.args (k := ?_) ?_ ?_) ?_; rotate_left; exact c6; repeat' (first | exact trivial | exact Or.inl ⟨rfl, rfl⟩ | exact Or.inr rfl | apply And.intro))
       simp only [go_sem, ↓reduceIte, reduceCtorEq, Nat.reduceLT, Nat.reduceEqDiff, Nat.reduceBEq, Nat.reduceAdd, Nat.reduceSub, Nat.reduceMul, Nat.reduceLeDiff, Int.reduceLE, Int.reduceLT, Int.reduceNeg, Int.reduceEq, Int.reduceBEq, Int.reduceBNe, Int.reduceToNat, List.append_eq, hnx, hlt, hh', heq, beq_self_eq_true, bne_self_eq_false])
    | (refine hK _ _ ?_; clear hK hC; clear K C)
    | (refine hK _ _ rfl ?_; clear hK hC; clear K C)
    | (refine hK _ _ (by simp only [crs, crsI, alfO, alfL, Nat.reduceLT]; rfl) ?_; clear hK hC; clear K C)
    | (refine AW.seqR fun K C hK hC => ?_; simp only [go_sem, ↓reduceIte, reduceCtorEq, Nat.reduceLT, Nat.reduceEqDiff, Nat.reduceBEq, Nat.reduceAdd, Nat.reduceSub, Nat.reduceMul, Nat.reduceLeDiff, Int.reduceLE, Int.reduceLT, Int.reduceNeg, Int.reduceEq, Int.reduceBEq, Int.reduceBNe, Int.reduceToNat, List.append_eq, hnx, hlt, hh', heq, beq_self_eq_true, bne_self_eq_false])
    | (refine AW.seqD rfl fun K C hK hC => ?_; simp only [go_sem, ↓reduceIte, reduceCtorEq, Nat.reduceLT, Nat.reduceEqDiff, Nat.reduceBEq, Nat.reduceAdd, Nat.reduceSub, Nat.reduceMul, Nat.reduceLeDiff, Int.reduceLE, Int.reduceLT, Int.reduceNeg, Int.reduceEq, Int.reduceBEq, Int.reduceBNe, Int.reduceToNat, List.append_eq, hnx, hlt, hh', heq, beq_self_eq_true, bne_self_eq_false])
    | (refine AW.reg fun K C hK hC => ?_; simp only [go_sem, ↓reduceIte, reduceCtorEq, Nat.reduceLT, Nat.reduceEqDiff, Nat.reduceBEq, Nat.reduceAdd, Nat.reduceSub, Nat.reduceMul, Nat.reduceLeDiff, Int.reduceLE, Int.reduceLT, Int.reduceNeg, Int.reduceEq, Int.reduceBEq, Int.reduceBNe, Int.reduceToNat, List.append_eq, hnx, hlt, hh', heq, beq_self_eq_true, bne_self_eq_false])
    | (refine AW.regD rfl fun K C hK hC => ?_; simp only [go_sem, ↓reduceIte, reduceCtorEq, Nat.reduceLT, Nat.reduceEqDiff, Nat.reduceBEq, Nat.reduceAdd, Nat.reduceSub, Nat.reduceMul, Nat.reduceLeDiff, Int.reduceLE, Int.reduceLT, Int.reduceNeg, Int.reduceEq, Int.reduceBEq, Int.reduceBNe, Int.reduceToNat, List.append_eq, hnx, hlt, hh', heq, beq_self_eq_true, bne_self_eq_false])
    | refine AW.seqS ?_
    | (refine AW.ret ?_; simp only [go_sem, ↓reduceIte, reduceCtorEq, Nat.reduceLT, Nat.reduceEqDiff, Nat.reduceBEq, Nat.reduceAdd, Nat.reduceSub, Nat.reduceMul, Nat.reduceLeDiff, Int.reduceLE, Int.reduceLT, Int.reduceNeg, Int.reduceEq, Int.reduceBEq, Int.reduceBNe, Int.reduceToNat, List.append_eq, hnx, hlt, hh', heq, beq_self_eq_true, bne_self_eq_false])
    | (refine AW.cond rfl (fun h => ?_) (fun h => ?_) <;> (try simp only [decide_eq_true_eq, decide_eq_false_iff_not, bne_iff_ne, beq_iff_eq, bne_eq_false_iff_eq, beq_eq_false_iff_ne, ne_eq, ge_iff_le, gt_iff_lt, Bool.not_eq_true, Bool.not_eq_false, Bool.not_not, Bool.not_true, Bool.not_false, Int.not_le, Int.not_lt, not_true_eq_false, not_false_eq_true, reduceCtorEq, Bool.false_eq_true, Bool.not_eq_true', Bool.not_eq_false'] at h) <;> first | (exfalso; omega) | skip)
    | refine AW.skip ?_
    | refine AW.seq ?_
    | refine AW.block ?_
    | (refine AW.exit ?_; simp only [go_sem, ↓reduceIte, reduceCtorEq, Nat.reduceLT, Nat.reduceEqDiff, Nat.reduceBEq, Nat.reduceAdd, Nat.reduceSub, Nat.reduceMul, Nat.reduceLeDiff, Int.reduceLE, Int.reduceLT, Int.reduceNeg, Int.reduceEq, Int.reduceBEq, Int.reduceBNe, Int.reduceToNat, List.append_eq, hnx, hlt, hh', heq, beq_self_eq_true, bne_self_eq_false])
    | (refine ite_on (fun h => ?_) (fun h => ?_) <;> (try simp only [decide_eq_true_eq, decide_eq_false_iff_not, bne_iff_ne, beq_iff_eq, bne_eq_false_iff_eq, beq_eq_false_iff_ne, ne_eq, ge_iff_le, gt_iff_lt, Bool.not_eq_true, Bool.not_eq_false, Bool.not_not, Bool.not_true, Bool.not_false, Int.not_le, Int.not_lt, not_true_eq_false, not_false_eq_true, reduceCtorEq, Bool.false_eq_true, Bool.not_eq_true', Bool.not_eq_false'] at h) <;> first | (exfalso; omega) | skip)
    | rw [thenN]
    | rw [blockN]
    | rw [scopeN]
    | refine AW.scope ?_
    | refine AW.label ?_
    | refine And.intro ?_ ?_
    | refine lcons rfl ?_
    | exact lGram _
    | exact lSeen _
    | exact lWord _
    | exact lSealed _
    | exact lRun _
    | exact lPerson _
    | exact lEvent _
    | exact lLeak _
    | exact lNum _
    | exact lOprn _
    | exact in64 (by omega) (by omega)
    | exact in32 (by omega) (by omega)
    | omega)
            all_goals trace "W#3"
          · rw [if_neg hk] at c3
            simp only [eWld, ePrt, prt0, eSealeds, eGrams, ePeople, eEvents, eRows, eWords, eLeaks, rB] at *
            repeat' (first
    | (refine hC ?_ ?_ ?_ ?_ ?_
       rotate_left
       · rfl
       · simp only [go_sem, ↓reduceIte, reduceCtorEq, Nat.reduceLT, Nat.reduceEqDiff, Nat.reduceBEq, Nat.reduceAdd, Nat.reduceSub, Nat.reduceMul, Nat.reduceLeDiff, Int.reduceLE, Int.reduceLT, Int.reduceNeg, Int.reduceEq, Int.reduceBEq, Int.reduceBNe, Int.reduceToNat, List.append_eq, hnx, hlt, hh', heq, beq_self_eq_true, bne_self_eq_false]
       · simp only [go_sem, ↓reduceIte, reduceCtorEq, Nat.reduceLT, Nat.reduceEqDiff, Nat.reduceBEq, Nat.reduceAdd, Nat.reduceSub, Nat.reduceMul, Nat.reduceLeDiff, Int.reduceLE, Int.reduceLT, Int.reduceNeg, Int.reduceEq, Int.reduceBEq, Int.reduceBNe, Int.reduceToNat, List.append_eq, hnx, hlt, hh', heq, beq_self_eq_true, bne_self_eq_false]
         first | (refine And.intro ?_ ?_; exact aw; first | exact trivial | (simp only [go_sem, ↓reduceIte, reduceCtorEq, Nat.reduceLT, Nat.reduceEqDiff, Nat.reduceBEq, Nat.reduceAdd, Nat.reduceSub, Nat.reduceMul, Nat.reduceLeDiff, Int.reduceLE, Int.reduceLT, Int.reduceNeg, Int.reduceEq, Int.reduceBEq, Int.reduceBNe, Int.reduceToNat, List.append_eq, hnx, hlt, hh', heq, beq_self_eq_true, bne_self_eq_false]; done)) | (refine And.intro (ACalls.args (k := ?_) ?_ ?_) ?_; rotate_left; exact aw; repeat' (first | exact trivial | exact Or.inl ⟨rfl, rfl⟩ | exact Or.inr rfl | apply And.intro))
       simp only [go_sem, ↓reduceIte, reduceCtorEq, Nat.reduceLT, Nat.reduceEqDiff, Nat.reduceBEq, Nat.reduceAdd, Nat.reduceSub, Nat.reduceMul, Nat.reduceLeDiff, Int.reduceLE, Int.reduceLT, Int.reduceNeg, Int.reduceEq, Int.reduceBEq, Int.reduceBNe, Int.reduceToNat, List.append_eq, hnx, hlt, hh', heq, beq_self_eq_true, bne_self_eq_false])
    | (refine hC ?_ ?_ ?_ ?_ ?_
       rotate_left
       · rfl
       · simp only [go_sem, ↓reduceIte, reduceCtorEq, Nat.reduceLT, Nat.reduceEqDiff, Nat.reduceBEq, Nat.reduceAdd, Nat.reduceSub, Nat.reduceMul, Nat.reduceLeDiff, Int.reduceLE, Int.reduceLT, Int.reduceNeg, Int.reduceEq, Int.reduceBEq, Int.reduceBNe, Int.reduceToNat, List.append_eq, hnx, hlt, hh', heq, beq_self_eq_true, bne_self_eq_false]
       · simp only [go_sem, ↓reduceIte, reduceCtorEq, Nat.reduceLT, Nat.reduceEqDiff, Nat.reduceBEq, Nat.reduceAdd, Nat.reduceSub, Nat.reduceMul, Nat.reduceLeDiff, Int.reduceLE, Int.reduceLT, Int.reduceNeg, Int.reduceEq, Int.reduceBEq, Int.reduceBNe, Int.reduceToNat, List.append_eq, hnx, hlt, hh', heq, beq_self_eq_true, bne_self_eq_false]
         first | (refine And.intro ?_ ?_; exact ft; first | exact trivial | (simp only [go_sem, ↓reduceIte, reduceCtorEq, Nat.reduceLT, Nat.reduceEqDiff, Nat.reduceBEq, Nat.reduceAdd, Nat.reduceSub, Nat.reduceMul, Nat.reduceLeDiff, Int.reduceLE, Int.reduceLT, Int.reduceNeg, Int.reduceEq, Int.reduceBEq, Int.reduceBNe, Int.reduceToNat, List.append_eq, hnx, hlt, hh', heq, beq_self_eq_true, bne_self_eq_false]; done)) | (refine And.intro (ACalls.args (k := ?_) ?_ ?_) ?_; rotate_left; exact ft; repeat' (first | exact trivial | exact Or.inl ⟨rfl, rfl⟩ | exact Or.inr rfl | apply And.intro))
       simp only [go_sem, ↓reduceIte, reduceCtorEq, Nat.reduceLT, Nat.reduceEqDiff, Nat.reduceBEq, Nat.reduceAdd, Nat.reduceSub, Nat.reduceMul, Nat.reduceLeDiff, Int.reduceLE, Int.reduceLT, Int.reduceNeg, Int.reduceEq, Int.reduceBEq, Int.reduceBNe, Int.reduceToNat, List.append_eq, hnx, hlt, hh', heq, beq_self_eq_true, bne_self_eq_false])
    | (refine hC ?_ ?_ ?_ ?_ ?_
       rotate_left
       · rfl
       · simp only [go_sem, ↓reduceIte, reduceCtorEq, Nat.reduceLT, Nat.reduceEqDiff, Nat.reduceBEq, Nat.reduceAdd, Nat.reduceSub, Nat.reduceMul, Nat.reduceLeDiff, Int.reduceLE, Int.reduceLT, Int.reduceNeg, Int.reduceEq, Int.reduceBEq, Int.reduceBNe, Int.reduceToNat, List.append_eq, hnx, hlt, hh', heq, beq_self_eq_true, bne_self_eq_false]
       · simp only [go_sem, ↓reduceIte, reduceCtorEq, Nat.reduceLT, Nat.reduceEqDiff, Nat.reduceBEq, Nat.reduceAdd, Nat.reduceSub, Nat.reduceMul, Nat.reduceLeDiff, Int.reduceLE, Int.reduceLT, Int.reduceNeg, Int.reduceEq, Int.reduceBEq, Int.reduceBNe, Int.reduceToNat, List.append_eq, hnx, hlt, hh', heq, beq_self_eq_true, bne_self_eq_false]
         first | (refine And.intro ?_ ?_; exact c1; first | exact trivial | (simp only [go_sem, ↓reduceIte, reduceCtorEq, Nat.reduceLT, Nat.reduceEqDiff, Nat.reduceBEq, Nat.reduceAdd, Nat.reduceSub, Nat.reduceMul, Nat.reduceLeDiff, Int.reduceLE, Int.reduceLT, Int.reduceNeg, Int.reduceEq, Int.reduceBEq, Int.reduceBNe, Int.reduceToNat, List.append_eq, hnx, hlt, hh', heq, beq_self_eq_true, bne_self_eq_false]; done)) | (refine And.intro (ACalls.args (k := ?_) ?_ ?_) ?_; rotate_left; exact c1; repeat' (first | exact trivial | exact Or.inl ⟨rfl, rfl⟩ | exact Or.inr rfl | apply And.intro))
       simp only [go_sem, ↓reduceIte, reduceCtorEq, Nat.reduceLT, Nat.reduceEqDiff, Nat.reduceBEq, Nat.reduceAdd, Nat.reduceSub, Nat.reduceMul, Nat.reduceLeDiff, Int.reduceLE, Int.reduceLT, Int.reduceNeg, Int.reduceEq, Int.reduceBEq, Int.reduceBNe, Int.reduceToNat, List.append_eq, hnx, hlt, hh', heq, beq_self_eq_true, bne_self_eq_false])
    | (refine hC ?_ ?_ ?_ ?_ ?_
       rotate_left
       · rfl
       · simp only [go_sem, ↓reduceIte, reduceCtorEq, Nat.reduceLT, Nat.reduceEqDiff, Nat.reduceBEq, Nat.reduceAdd, Nat.reduceSub, Nat.reduceMul, Nat.reduceLeDiff, Int.reduceLE, Int.reduceLT, Int.reduceNeg, Int.reduceEq, Int.reduceBEq, Int.reduceBNe, Int.reduceToNat, List.append_eq, hnx, hlt, hh', heq, beq_self_eq_true, bne_self_eq_false]
       · simp only [go_sem, ↓reduceIte, reduceCtorEq, Nat.reduceLT, Nat.reduceEqDiff, Nat.reduceBEq, Nat.reduceAdd, Nat.reduceSub, Nat.reduceMul, Nat.reduceLeDiff, Int.reduceLE, Int.reduceLT, Int.reduceNeg, Int.reduceEq, Int.reduceBEq, Int.reduceBNe, Int.reduceToNat, List.append_eq, hnx, hlt, hh', heq, beq_self_eq_true, bne_self_eq_false]
         first | (refine And.intro ?_ ?_; exact c2; first | exact trivial | (simp only [go_sem, ↓reduceIte, reduceCtorEq, Nat.reduceLT, Nat.reduceEqDiff, Nat.reduceBEq, Nat.reduceAdd, Nat.reduceSub, Nat.reduceMul, Nat.reduceLeDiff, Int.reduceLE, Int.reduceLT, Int.reduceNeg, Int.reduceEq, Int.reduceBEq, Int.reduceBNe, Int.reduceToNat, List.append_eq, hnx, hlt, hh', heq, beq_self_eq_true, bne_self_eq_false]; done)) | (refine And.intro (ACalls.args (k := ?_) ?_ ?_) ?_; rotate_left; exact c2; repeat' (first | exact trivial | exact Or.inl ⟨rfl, rfl⟩ | exact Or.inr rfl | apply And.intro))
       simp only [go_sem, ↓reduceIte, reduceCtorEq, Nat.reduceLT, Nat.reduceEqDiff, Nat.reduceBEq, Nat.reduceAdd, Nat.reduceSub, Nat.reduceMul, Nat.reduceLeDiff, Int.reduceLE, Int.reduceLT, Int.reduceNeg, Int.reduceEq, Int.reduceBEq, Int.reduceBNe, Int.reduceToNat, List.append_eq, hnx, hlt, hh', heq, beq_self_eq_true, bne_self_eq_false])
    | (refine hC ?_ ?_ ?_ ?_ ?_
       rotate_left
       · rfl
       · simp only [go_sem, ↓reduceIte, reduceCtorEq, Nat.reduceLT, Nat.reduceEqDiff, Nat.reduceBEq, Nat.reduceAdd, Nat.reduceSub, Nat.reduceMul, Nat.reduceLeDiff, Int.reduceLE, Int.reduceLT, Int.reduceNeg, Int.reduceEq, Int.reduceBEq, Int.reduceBNe, Int.reduceToNat, List.append_eq, hnx, hlt, hh', heq, beq_self_eq_true, bne_self_eq_false]
       · simp only [go_sem, ↓reduceIte, reduceCtorEq, Nat.reduceLT, Nat.reduceEqDiff, Nat.reduceBEq, Nat.reduceAdd, Nat.reduceSub, Nat.reduceMul, Nat.reduceLeDiff, Int.reduceLE, Int.reduceLT, Int.reduceNeg, Int.reduceEq, Int.reduceBEq, Int.reduceBNe, Int.reduceToNat, List.append_eq, hnx, hlt, hh', heq, beq_self_eq_true, bne_self_eq_false]
         first | (refine And.intro ?_ ?_; exact c3; first | exact trivial | (simp only [go_sem, ↓reduceIte, reduceCtorEq, Nat.reduceLT, Nat.reduceEqDiff, Nat.reduceBEq, Nat.reduceAdd, Nat.reduceSub, Nat.reduceMul, Nat.reduceLeDiff, Int.reduceLE, Int.reduceLT, Int.reduceNeg, Int.reduceEq, Int.reduceBEq, Int.reduceBNe, Int.reduceToNat, List.append_eq, hnx, hlt, hh', heq, beq_self_eq_true, bne_self_eq_false]; done)) | (refine And.intro (ACalls.args (k := ?_) ?_ ?_) ?_; rotate_left; exact c3; repeat' (first | exact trivial | exact Or.inl ⟨rfl, rfl⟩ | exact Or.inr rfl | apply And.intro))
       simp only [go_sem, ↓reduceIte, reduceCtorEq, Nat.reduceLT, Nat.reduceEqDiff, Nat.reduceBEq, Nat.reduceAdd, Nat.reduceSub, Nat.reduceMul, Nat.reduceLeDiff, Int.reduceLE, Int.reduceLT, Int.reduceNeg, Int.reduceEq, Int.reduceBEq, Int.reduceBNe, Int.reduceToNat, List.append_eq, hnx, hlt, hh', heq, beq_self_eq_true, bne_self_eq_false])
    | (refine hC ?_ ?_ ?_ ?_ ?_
       rotate_left
       · rfl
       · simp only [go_sem, ↓reduceIte, reduceCtorEq, Nat.reduceLT, Nat.reduceEqDiff, Nat.reduceBEq, Nat.reduceAdd, Nat.reduceSub, Nat.reduceMul, Nat.reduceLeDiff, Int.reduceLE, Int.reduceLT, Int.reduceNeg, Int.reduceEq, Int.reduceBEq, Int.reduceBNe, Int.reduceToNat, List.append_eq, hnx, hlt, hh', heq, beq_self_eq_true, bne_self_eq_false]
       · simp only [go_sem, ↓reduceIte, reduceCtorEq, Nat.reduceLT, Nat.reduceEqDiff, Nat.reduceBEq, Nat.reduceAdd, Nat.reduceSub, Nat.reduceMul, Nat.reduceLeDiff, Int.reduceLE, Int.reduceLT, Int.reduceNeg, Int.reduceEq, Int.reduceBEq, Int.reduceBNe, Int.reduceToNat, List.append_eq, hnx, hlt, hh', heq, beq_self_eq_true, bne_self_eq_false]
         first | (refine And.intro ?_ ?_; exact c4; first | exact trivial | (simp only [go_sem, ↓reduceIte, reduceCtorEq, Nat.reduceLT, Nat.reduceEqDiff, Nat.reduceBEq, Nat.reduceAdd, Nat.reduceSub, Nat.reduceMul, Nat.reduceLeDiff, Int.reduceLE, Int.reduceLT, Int.reduceNeg, Int.reduceEq, Int.reduceBEq, Int.reduceBNe, Int.reduceToNat, List.append_eq, hnx, hlt, hh', heq, beq_self_eq_true, bne_self_eq_false]; done)) | (refine And.intro (ACalls.args (k := ?_) ?_ ?_) ?_; rotate_left; exact c4; repeat' (first | exact trivial | exact Or.inl ⟨rfl, rfl⟩ | exact Or.inr rfl | apply And.intro))
       simp only [go_sem, ↓reduceIte, reduceCtorEq, Nat.reduceLT, Nat.reduceEqDiff, Nat.reduceBEq, Nat.reduceAdd, Nat.reduceSub, Nat.reduceMul, Nat.reduceLeDiff, Int.reduceLE, Int.reduceLT, Int.reduceNeg, Int.reduceEq, Int.reduceBEq, Int.reduceBNe, Int.reduceToNat, List.append_eq, hnx, hlt, hh', heq, beq_self_eq_true, bne_self_eq_false])
    | (refine hC ?_ ?_ ?_ ?_ ?_
       rotate_left
       · rfl
       · simp only [go_sem, ↓reduceIte, reduceCtorEq, Nat.reduceLT, Nat.reduceEqDiff, Nat.reduceBEq, Nat.reduceAdd, Nat.reduceSub, Nat.reduceMul, Nat.reduceLeDiff, Int.reduceLE, Int.reduceLT, Int.reduceNeg, Int.reduceEq, Int.reduceBEq, Int.reduceBNe, Int.reduceToNat, List.append_eq, hnx, hlt, hh', heq, beq_self_eq_true, bne_self_eq_false]
       · simp only [go_sem, ↓reduceIte, reduceCtorEq, Nat.reduceLT, Nat.reduceEqDiff, Nat.reduceBEq, Nat.reduceAdd, Nat.reduceSub, Nat.reduceMul, Nat.reduceLeDiff, Int.reduceLE, Int.reduceLT, Int.reduceNeg, Int.reduceEq, Int.reduceBEq, Int.reduceBNe, Int.reduceToNat, List.append_eq, hnx, hlt, hh', heq, beq_self_eq_true, bne_self_eq_false]
         first | (refine And.intro ?_ ?_; exact c5; first | exact trivial | (simp only [go_sem, ↓reduceIte, reduceCtorEq, Nat.reduceLT, Nat.reduceEqDiff, Nat.reduceBEq, Nat.reduceAdd, Nat.reduceSub, Nat.reduceMul, Nat.reduceLeDiff, Int.reduceLE, Int.reduceLT, Int.reduceNeg, Int.reduceEq, Int.reduceBEq, Int.reduceBNe, Int.reduceToNat, List.append_eq, hnx, hlt, hh', heq, beq_self_eq_true, bne_self_eq_false]; done)) | (refine And.intro (ACalls.args (k := ?_) ?_ ?_) ?_; rotate_left; exact c5; repeat' (first | exact trivial | exact Or.inl ⟨rfl, rfl⟩ | exact Or.inr rfl | apply And.intro))
       simp only [go_sem, ↓reduceIte, reduceCtorEq, Nat.reduceLT, Nat.reduceEqDiff, Nat.reduceBEq, Nat.reduceAdd, Nat.reduceSub, Nat.reduceMul, Nat.reduceLeDiff, Int.reduceLE, Int.reduceLT, Int.reduceNeg, Int.reduceEq, Int.reduceBEq, Int.reduceBNe, Int.reduceToNat, List.append_eq, hnx, hlt, hh', heq, beq_self_eq_true, bne_self_eq_false])
    | (refine hC ?_ ?_ ?_ ?_ ?_
       rotate_left
       · rfl
       · simp only [go_sem, ↓reduceIte, reduceCtorEq, Nat.reduceLT, Nat.reduceEqDiff, Nat.reduceBEq, Nat.reduceAdd, Nat.reduceSub, Nat.reduceMul, Nat.reduceLeDiff, Int.reduceLE, Int.reduceLT, Int.reduceNeg, Int.reduceEq, Int.reduceBEq, Int.reduceBNe, Int.reduceToNat, List.append_eq, hnx, hlt, hh', heq, beq_self_eq_true, bne_self_eq_false]
       · simp only [go_sem, ↓reduceIte, reduceCtorEq, Nat.reduceLT, Nat.reduceEqDiff, Nat.reduceBEq, Nat.reduceAdd, Nat.reduceSub, Nat.reduceMul, Nat.reduceLeDiff, Int.reduceLE, Int.reduceLT, Int.reduceNeg, Int.reduceEq, Int.reduceBEq, Int.reduceBNe, Int.reduceToNat, List.append_eq, hnx, hlt, hh', heq, beq_self_eq_true, bne_self_eq_false]
         first | (refine And.intro ?_ ?_; exact c6; first | exact trivial | (simp only [go_sem, ↓reduceIte, reduceCtorEq, Nat.reduceLT, Nat.reduceEqDiff, Nat.reduceBEq, Nat.reduceAdd, Nat.reduceSub, Nat.reduceMul, Nat.reduceLeDiff, Int.reduceLE, Int.reduceLT, Int.reduceNeg, Int.reduceEq, Int.reduceBEq, Int.reduceBNe, Int.reduceToNat, List.append_eq, hnx, hlt, hh', heq, beq_self_eq_true, bne_self_eq_false]; done)) | (refine And.intro (ACalls.args (k := ?_) ?_ ?_) ?_; rotate_left; exact c6; repeat' (first | exact trivial | exact Or.inl ⟨rfl, rfl⟩ | exact Or.inr rfl | apply And.intro))
       simp only [go_sem, ↓reduceIte, reduceCtorEq, Nat.reduceLT, Nat.reduceEqDiff, Nat.reduceBEq, Nat.reduceAdd, Nat.reduceSub, Nat.reduceMul, Nat.reduceLeDiff, Int.reduceLE, Int.reduceLT, Int.reduceNeg, Int.reduceEq, Int.reduceBEq, Int.reduceBNe, Int.reduceToNat, List.append_eq, hnx, hlt, hh', heq, beq_self_eq_true, bne_self_eq_false])
    | (refine hK _ _ ?_; clear hK hC; clear K C)
    | (refine hK _ _ rfl ?_; clear hK hC; clear K C)
    | (refine hK _ _ (by simp only [crs, crsI, alfO, alfL, Nat.reduceLT]; rfl) ?_; clear hK hC; clear K C)
    | (refine AW.seqR fun K C hK hC => ?_; simp only [go_sem, ↓reduceIte, reduceCtorEq, Nat.reduceLT, Nat.reduceEqDiff, Nat.reduceBEq, Nat.reduceAdd, Nat.reduceSub, Nat.reduceMul, Nat.reduceLeDiff, Int.reduceLE, Int.reduceLT, Int.reduceNeg, Int.reduceEq, Int.reduceBEq, Int.reduceBNe, Int.reduceToNat, List.append_eq, hnx, hlt, hh', heq, beq_self_eq_true, bne_self_eq_false])
    | (refine AW.seqD rfl fun K C hK hC => ?_; simp only [go_sem, ↓reduceIte, reduceCtorEq, Nat.reduceLT, Nat.reduceEqDiff, Nat.reduceBEq, Nat.reduceAdd, Nat.reduceSub, Nat.reduceMul, Nat.reduceLeDiff, Int.reduceLE, Int.reduceLT, Int.reduceNeg, Int.reduceEq, Int.reduceBEq, Int.reduceBNe, Int.reduceToNat, List.append_eq, hnx, hlt, hh', heq, beq_self_eq_true, bne_self_eq_false])
    | (refine AW.reg fun K C hK hC => ?_; simp only [go_sem, ↓reduceIte, reduceCtorEq, Nat.reduceLT, Nat.reduceEqDiff, Nat.reduceBEq, Nat.reduceAdd, Nat.reduceSub, Nat.reduceMul, Nat.reduceLeDiff, Int.reduceLE, Int.reduceLT, Int.reduceNeg, Int.reduceEq, Int.reduceBEq, Int.reduceBNe, Int.reduceToNat, List.append_eq, hnx, hlt, hh', heq, beq_self_eq_true, bne_self_eq_false])
    | (refine AW.regD rfl fun K C hK hC => ?_; simp only [go_sem, ↓reduceIte, reduceCtorEq, Nat.reduceLT, Nat.reduceEqDiff, Nat.reduceBEq, Nat.reduceAdd, Nat.reduceSub, Nat.reduceMul, Nat.reduceLeDiff, Int.reduceLE, Int.reduceLT, Int.reduceNeg, Int.reduceEq, Int.reduceBEq, Int.reduceBNe, Int.reduceToNat, List.append_eq, hnx, hlt, hh', heq, beq_self_eq_true, bne_self_eq_false])
    | refine AW.seqS ?_
    | (refine AW.ret ?_; simp only [go_sem, ↓reduceIte, reduceCtorEq, Nat.reduceLT, Nat.reduceEqDiff, Nat.reduceBEq, Nat.reduceAdd, Nat.reduceSub, Nat.reduceMul, Nat.reduceLeDiff, Int.reduceLE, Int.reduceLT, Int.reduceNeg, Int.reduceEq, Int.reduceBEq, Int.reduceBNe, Int.reduceToNat, List.append_eq, hnx, hlt, hh', heq, beq_self_eq_true, bne_self_eq_false])
    | (refine AW.cond rfl (fun h => ?_) (fun h => ?_) <;> (try simp only [decide_eq_true_eq, decide_eq_false_iff_not, bne_iff_ne, beq_iff_eq, bne_eq_false_iff_eq, beq_eq_false_iff_ne, ne_eq, ge_iff_le, gt_iff_lt, Bool.not_eq_true, Bool.not_eq_false, Bool.not_not, Bool.not_true, Bool.not_false, Int.not_le, Int.not_lt, not_true_eq_false, not_false_eq_true, reduceCtorEq, Bool.false_eq_true, Bool.not_eq_true', Bool.not_eq_false'] at h) <;> first | (exfalso; omega) | skip)
    | refine AW.skip ?_
    | refine AW.seq ?_
    | refine AW.block ?_
    | (refine AW.exit ?_; simp only [go_sem, ↓reduceIte, reduceCtorEq, Nat.reduceLT, Nat.reduceEqDiff, Nat.reduceBEq, Nat.reduceAdd, Nat.reduceSub, Nat.reduceMul, Nat.reduceLeDiff, Int.reduceLE, Int.reduceLT, Int.reduceNeg, Int.reduceEq, Int.reduceBEq, Int.reduceBNe, Int.reduceToNat, List.append_eq, hnx, hlt, hh', heq, beq_self_eq_true, bne_self_eq_false])
    | (refine ite_on (fun h => ?_) (fun h => ?_) <;> (try simp only [decide_eq_true_eq, decide_eq_false_iff_not, bne_iff_ne, beq_iff_eq, bne_eq_false_iff_eq, beq_eq_false_iff_ne, ne_eq, ge_iff_le, gt_iff_lt, Bool.not_eq_true, Bool.not_eq_false, Bool.not_not, Bool.not_true, Bool.not_false, Int.not_le, Int.not_lt, not_true_eq_false, not_false_eq_true, reduceCtorEq, Bool.false_eq_true, Bool.not_eq_true', Bool.not_eq_false'] at h) <;> first | (exfalso; omega) | skip)
    | rw [thenN]
    | rw [blockN]
    | rw [scopeN]
    | refine AW.scope ?_
    | refine AW.label ?_
    | refine And.intro ?_ ?_
    | refine lcons rfl ?_
    | exact lGram _
    | exact lSeen _
    | exact lWord _
    | exact lSealed _
    | exact lRun _
    | exact lPerson _
    | exact lEvent _
    | exact lLeak _
    | exact lNum _
    | exact lOprn _
    | exact in64 (by omega) (by omega)
    | exact in32 (by omega) (by omega)
    | omega)
            all_goals trace "W#4"
        · have hh' : (handle == hd) = false := by rw [beq_eq_false_iff_ne]; exact fun h => hh h.symm
          rw [hold hh] at c6
          generalize openW w kk ll handle = o2 at *
          obtain ⟨q2, b2⟩ := o2
          clear hold hh
          by_cases hk : key = kk ∧ label = ll
          · obtain ⟨rfl, rfl⟩ := hk
            rw [if_pos ⟨rfl, rfl⟩] at c3
            simp only [eWld, ePrt, eSealeds, eGrams, ePeople, eEvents, eRows, eWords, eLeaks, rB] at *
            repeat' (first
    | (refine hC ?_ ?_ ?_ ?_ ?_
       rotate_left
       · rfl
       · simp only [go_sem, ↓reduceIte, reduceCtorEq, Nat.reduceLT, Nat.reduceEqDiff, Nat.reduceBEq, Nat.reduceAdd, Nat.reduceSub, Nat.reduceMul, Nat.reduceLeDiff, Int.reduceLE, Int.reduceLT, Int.reduceNeg, Int.reduceEq, Int.reduceBEq, Int.reduceBNe, Int.reduceToNat, List.append_eq, hnx, hlt, hh', heq, beq_self_eq_true, bne_self_eq_false]
       · simp only [go_sem, ↓reduceIte, reduceCtorEq, Nat.reduceLT, Nat.reduceEqDiff, Nat.reduceBEq, Nat.reduceAdd, Nat.reduceSub, Nat.reduceMul, Nat.reduceLeDiff, Int.reduceLE, Int.reduceLT, Int.reduceNeg, Int.reduceEq, Int.reduceBEq, Int.reduceBNe, Int.reduceToNat, List.append_eq, hnx, hlt, hh', heq, beq_self_eq_true, bne_self_eq_false]
         first | (refine And.intro ?_ ?_; exact aw; first | exact trivial | (simp only [go_sem, ↓reduceIte, reduceCtorEq, Nat.reduceLT, Nat.reduceEqDiff, Nat.reduceBEq, Nat.reduceAdd, Nat.reduceSub, Nat.reduceMul, Nat.reduceLeDiff, Int.reduceLE, Int.reduceLT, Int.reduceNeg, Int.reduceEq, Int.reduceBEq, Int.reduceBNe, Int.reduceToNat, List.append_eq, hnx, hlt, hh', heq, beq_self_eq_true, bne_self_eq_false]; done)) | (refine And.intro (ACalls.args (k := ?_) ?_ ?_) ?_; rotate_left; exact aw; repeat' (first | exact trivial | exact Or.inl ⟨rfl, rfl⟩ | exact Or.inr rfl | apply And.intro))
       simp only [go_sem, ↓reduceIte, reduceCtorEq, Nat.reduceLT, Nat.reduceEqDiff, Nat.reduceBEq, Nat.reduceAdd, Nat.reduceSub, Nat.reduceMul, Nat.reduceLeDiff, Int.reduceLE, Int.reduceLT, Int.reduceNeg, Int.reduceEq, Int.reduceBEq, Int.reduceBNe, Int.reduceToNat, List.append_eq, hnx, hlt, hh', heq, beq_self_eq_true, bne_self_eq_false])
    | (refine hC ?_ ?_ ?_ ?_ ?_
       rotate_left
       · rfl
       · simp only [go_sem, ↓reduceIte, reduceCtorEq, Nat.reduceLT, Nat.reduceEqDiff, Nat.reduceBEq, Nat.reduceAdd, Nat.reduceSub, Nat.reduceMul, Nat.reduceLeDiff, Int.reduceLE, Int.reduceLT, Int.reduceNeg, Int.reduceEq, Int.reduceBEq, Int.reduceBNe, Int.reduceToNat, List.append_eq, hnx, hlt, hh', heq, beq_self_eq_true, bne_self_eq_false]
       · simp only [go_sem, ↓reduceIte, reduceCtorEq, Nat.reduceLT, Nat.reduceEqDiff, Nat.reduceBEq, Nat.reduceAdd, Nat.reduceSub, Nat.reduceMul, Nat.reduceLeDiff, Int.reduceLE, Int.reduceLT, Int.reduceNeg, Int.reduceEq, Int.reduceBEq, Int.reduceBNe, Int.reduceToNat, List.append_eq, hnx, hlt, hh', heq, beq_self_eq_true, bne_self_eq_false]
         first | (refine And.intro ?_ ?_; exact ft; first | exact trivial | (simp only [go_sem, ↓reduceIte, reduceCtorEq, Nat.reduceLT, Nat.reduceEqDiff, Nat.reduceBEq, Nat.reduceAdd, Nat.reduceSub, Nat.reduceMul, Nat.reduceLeDiff, Int.reduceLE, Int.reduceLT, Int.reduceNeg, Int.reduceEq, Int.reduceBEq, Int.reduceBNe, Int.reduceToNat, List.append_eq, hnx, hlt, hh', heq, beq_self_eq_true, bne_self_eq_false]; done)) | (refine And.intro (ACalls.args (k := ?_) ?_ ?_) ?_; rotate_left; exact ft; repeat' (first | exact trivial | exact Or.inl ⟨rfl, rfl⟩ | exact Or.inr rfl | apply And.intro))
       simp only [go_sem, ↓reduceIte, reduceCtorEq, Nat.reduceLT, Nat.reduceEqDiff, Nat.reduceBEq, Nat.reduceAdd, Nat.reduceSub, Nat.reduceMul, Nat.reduceLeDiff, Int.reduceLE, Int.reduceLT, Int.reduceNeg, Int.reduceEq, Int.reduceBEq, Int.reduceBNe, Int.reduceToNat, List.append_eq, hnx, hlt, hh', heq, beq_self_eq_true, bne_self_eq_false])
    | (refine hC ?_ ?_ ?_ ?_ ?_
       rotate_left
       · rfl
       · simp only [go_sem, ↓reduceIte, reduceCtorEq, Nat.reduceLT, Nat.reduceEqDiff, Nat.reduceBEq, Nat.reduceAdd, Nat.reduceSub, Nat.reduceMul, Nat.reduceLeDiff, Int.reduceLE, Int.reduceLT, Int.reduceNeg, Int.reduceEq, Int.reduceBEq, Int.reduceBNe, Int.reduceToNat, List.append_eq, hnx, hlt, hh', heq, beq_self_eq_true, bne_self_eq_false]
       · simp only [go_sem, ↓reduceIte, reduceCtorEq, Nat.reduceLT, Nat.reduceEqDiff, Nat.reduceBEq, Nat.reduceAdd, Nat.reduceSub, Nat.reduceMul, Nat.reduceLeDiff, Int.reduceLE, Int.reduceLT, Int.reduceNeg, Int.reduceEq, Int.reduceBEq, Int.reduceBNe, Int.reduceToNat, List.append_eq, hnx, hlt, hh', heq, beq_self_eq_true, bne_self_eq_false]
         first | (refine And.intro ?_ ?_; exact c1; first | exact trivial | (simp only [go_sem, ↓reduceIte, reduceCtorEq, Nat.reduceLT, Nat.reduceEqDiff, Nat.reduceBEq, Nat.reduceAdd, Nat.reduceSub, Nat.reduceMul, Nat.reduceLeDiff, Int.reduceLE, Int.reduceLT, Int.reduceNeg, Int.reduceEq, Int.reduceBEq, Int.reduceBNe, Int.reduceToNat, List.append_eq, hnx, hlt, hh', heq, beq_self_eq_true, bne_self_eq_false]; done)) | (refine And.intro (ACalls.args (k := ?_) ?_ ?_) ?_; rotate_left; exact c1; repeat' (first | exact trivial | exact Or.inl ⟨rfl, rfl⟩ | exact Or.inr rfl | apply And.intro))
       simp only [go_sem, ↓reduceIte, reduceCtorEq, Nat.reduceLT, Nat.reduceEqDiff, Nat.reduceBEq, Nat.reduceAdd, Nat.reduceSub, Nat.reduceMul, Nat.reduceLeDiff, Int.reduceLE, Int.reduceLT, Int.reduceNeg, Int.reduceEq, Int.reduceBEq, Int.reduceBNe, Int.reduceToNat, List.append_eq, hnx, hlt, hh', heq, beq_self_eq_true, bne_self_eq_false])
    | (refine hC ?_ ?_ ?_ ?_ ?_
       rotate_left
       · rfl
       · simp only [go_sem, ↓reduceIte, reduceCtorEq, Nat.reduceLT, Nat.reduceEqDiff, Nat.reduceBEq, Nat.reduceAdd, Nat.reduceSub, Nat.reduceMul, Nat.reduceLeDiff, Int.reduceLE, Int.reduceLT, Int.reduceNeg, Int.reduceEq, Int.reduceBEq, Int.reduceBNe, Int.reduceToNat, List.append_eq, hnx, hlt, hh', heq, beq_self_eq_true, bne_self_eq_false]
       · simp only [go_sem, ↓reduceIte, reduceCtorEq, Nat.reduceLT, Nat.reduceEqDiff, Nat.reduceBEq, Nat.reduceAdd, Nat.reduceSub, Nat.reduceMul, Nat.reduceLeDiff, Int.reduceLE, Int.reduceLT, Int.reduceNeg, Int.reduceEq, Int.reduceBEq, Int.reduceBNe, Int.reduceToNat, List.append_eq, hnx, hlt, hh', heq, beq_self_eq_true, bne_self_eq_false]
         first | (refine And.intro ?_ ?_; exact c2; first | exact trivial | (simp only [go_sem, ↓reduceIte, reduceCtorEq, Nat.reduceLT, Nat.reduceEqDiff, Nat.reduceBEq, Nat.reduceAdd, Nat.reduceSub, Nat.reduceMul, Nat.reduceLeDiff, Int.reduceLE, Int.reduceLT, Int.reduceNeg, Int.reduceEq, Int.reduceBEq, Int.reduceBNe, Int.reduceToNat, List.append_eq, hnx, hlt, hh', heq, beq_self_eq_true, bne_self_eq_false]; done)) | (refine And.intro (ACalls.args (k := ?_) ?_ ?_) ?_; rotate_left; exact c2; repeat' (first | exact trivial | exact Or.inl ⟨rfl, rfl⟩ | exact Or.inr rfl | apply And.intro))
       simp only [go_sem, ↓reduceIte, reduceCtorEq, Nat.reduceLT, Nat.reduceEqDiff, Nat.reduceBEq, Nat.reduceAdd, Nat.reduceSub, Nat.reduceMul, Nat.reduceLeDiff, Int.reduceLE, Int.reduceLT, Int.reduceNeg, Int.reduceEq, Int.reduceBEq, Int.reduceBNe, Int.reduceToNat, List.append_eq, hnx, hlt, hh', heq, beq_self_eq_true, bne_self_eq_false])
    | (refine hC ?_ ?_ ?_ ?_ ?_
       rotate_left
       · rfl
       · simp only [go_sem, ↓reduceIte, reduceCtorEq, Nat.reduceLT, Nat.reduceEqDiff, Nat.reduceBEq, Nat.reduceAdd, Nat.reduceSub, Nat.reduceMul, Nat.reduceLeDiff, Int.reduceLE, Int.reduceLT, Int.reduceNeg, Int.reduceEq, Int.reduceBEq, Int.reduceBNe, Int.reduceToNat, List.append_eq, hnx, hlt, hh', heq, beq_self_eq_true, bne_self_eq_false]
       · simp only [go_sem, ↓reduceIte, reduceCtorEq, Nat.reduceLT, Nat.reduceEqDiff, Nat.reduceBEq, Nat.reduceAdd, Nat.reduceSub, Nat.reduceMul, Nat.reduceLeDiff, Int.reduceLE, Int.reduceLT, Int.reduceNeg, Int.reduceEq, Int.reduceBEq, Int.reduceBNe, Int.reduceToNat, List.append_eq, hnx, hlt, hh', heq, beq_self_eq_true, bne_self_eq_false]
         first | (refine And.intro ?_ ?_; exact c3; first | exact trivial | (simp only [go_sem, ↓reduceIte, reduceCtorEq, Nat.reduceLT, Nat.reduceEqDiff, Nat.reduceBEq, Nat.reduceAdd, Nat.reduceSub, Nat.reduceMul, Nat.reduceLeDiff, Int.reduceLE, Int.reduceLT, Int.reduceNeg, Int.reduceEq, Int.reduceBEq, Int.reduceBNe, Int.reduceToNat, List.append_eq, hnx, hlt, hh', heq, beq_self_eq_true, bne_self_eq_false]; done)) | (refine And.intro (ACalls.args (k := ?_) ?_ ?_) ?_; rotate_left; exact c3; repeat' (first | exact trivial | exact Or.inl ⟨rfl, rfl⟩ | exact Or.inr rfl | apply And.intro))
       simp only [go_sem, ↓reduceIte, reduceCtorEq, Nat.reduceLT, Nat.reduceEqDiff, Nat.reduceBEq, Nat.reduceAdd, Nat.reduceSub, Nat.reduceMul, Nat.reduceLeDiff, Int.reduceLE, Int.reduceLT, Int.reduceNeg, Int.reduceEq, Int.reduceBEq, Int.reduceBNe, Int.reduceToNat, List.append_eq, hnx, hlt, hh', heq, beq_self_eq_true, bne_self_eq_false])
    | (refine hC ?_ ?_ ?_ ?_ ?_
       rotate_left
       · rfl
       · simp only [go_sem, ↓reduceIte, reduceCtorEq, Nat.reduceLT, Nat.reduceEqDiff, Nat.reduceBEq, Nat.reduceAdd, Nat.reduceSub, Nat.reduceMul, Nat.reduceLeDiff, Int.reduceLE, Int.reduceLT, Int.reduceNeg, Int.reduceEq, Int.reduceBEq, Int.reduceBNe, Int.reduceToNat, List.append_eq, hnx, hlt, hh', heq, beq_self_eq_true, bne_self_eq_false]
       · simp only [go_sem, ↓reduceIte, reduceCtorEq, Nat.reduceLT, Nat.reduceEqDiff, Nat.reduceBEq, Nat.reduceAdd, Nat.reduceSub, Nat.reduceMul, Nat.reduceLeDiff, Int.reduceLE, Int.reduceLT, Int.reduceNeg, Int.reduceEq, Int.reduceBEq, Int.reduceBNe, Int.reduceToNat, List.append_eq, hnx, hlt, hh', heq, beq_self_eq_true, bne_self_eq_false]
         first | (refine And.intro ?_ ?_; exact c4; first | exact trivial | (simp only [go_sem, ↓reduceIte, reduceCtorEq, Nat.reduceLT, Nat.reduceEqDiff, Nat.reduceBEq, Nat.reduceAdd, Nat.reduceSub, Nat.reduceMul, Nat.reduceLeDiff, Int.reduceLE, Int.reduceLT, Int.reduceNeg, Int.reduceEq, Int.reduceBEq, Int.reduceBNe, Int.reduceToNat, List.append_eq, hnx, hlt, hh', heq, beq_self_eq_true, bne_self_eq_false]; done)) | (refine And.intro (ACalls.args (k := ?_) ?_ ?_) ?_; rotate_left; exact c4; repeat' (first | exact trivial | exact Or.inl ⟨rfl, rfl⟩ | exact Or.inr rfl | apply And.intro))
       simp only [go_sem, ↓reduceIte, reduceCtorEq, Nat.reduceLT, Nat.reduceEqDiff, Nat.reduceBEq, Nat.reduceAdd, Nat.reduceSub, Nat.reduceMul, Nat.reduceLeDiff, Int.reduceLE, Int.reduceLT, Int.reduceNeg, Int.reduceEq, Int.reduceBEq, Int.reduceBNe, Int.reduceToNat, List.append_eq, hnx, hlt, hh', heq, beq_self_eq_true, bne_self_eq_false])
    | (refine hC ?_ ?_ ?_ ?_ ?_
       rotate_left
       · rfl
       · simp only [go_sem, ↓reduceIte, reduceCtorEq, Nat.reduceLT, Nat.reduceEqDiff, Nat.reduceBEq, Nat.reduceAdd, Nat.reduceSub, Nat.reduceMul, Nat.reduceLeDiff, Int.reduceLE, Int.reduceLT, Int.reduceNeg, Int.reduceEq, Int.reduceBEq, Int.reduceBNe, Int.reduceToNat, List.append_eq, hnx, hlt, hh', heq, beq_self_eq_true, bne_self_eq_false]
       · simp only [go_sem, ↓reduceIte, reduceCtorEq, Nat.reduceLT, Nat.reduceEqDiff, Nat.reduceBEq, Nat.reduceAdd, Nat.reduceSub, Nat.reduceMul, Nat.reduceLeDiff, Int.reduceLE, Int.reduceLT, Int.reduceNeg, Int.reduceEq, Int.reduceBEq, Int.reduceBNe, Int.reduceToNat, List.append_eq, hnx, hlt, hh', heq, beq_self_eq_true, bne_self_eq_false]
         first | (refine And.intro ?_ ?_; exact c5; first | exact trivial | (simp only [go_sem, ↓reduceIte, reduceCtorEq, Nat.reduceLT, Nat.reduceEqDiff, Nat.reduceBEq, Nat.reduceAdd, Nat.reduceSub, Nat.reduceMul, Nat.reduceLeDiff, Int.reduceLE, Int.reduceLT, Int.reduceNeg, Int.reduceEq, Int.reduceBEq, Int.reduceBNe, Int.reduceToNat, List.append_eq, hnx, hlt, hh', heq, beq_self_eq_true, bne_self_eq_false]; done)) | (refine And.intro (ACalls.args (k := ?_) ?_ ?_) ?_; rotate_left; exact c5; repeat' (first | exact trivial | exact Or.inl ⟨rfl, rfl⟩ | exact Or.inr rfl | apply And.intro))
       simp only [go_sem, ↓reduceIte, reduceCtorEq, Nat.reduceLT, Nat.reduceEqDiff, Nat.reduceBEq, Nat.reduceAdd, Nat.reduceSub, Nat.reduceMul, Nat.reduceLeDiff, Int.reduceLE, Int.reduceLT, Int.reduceNeg, Int.reduceEq, Int.reduceBEq, Int.reduceBNe, Int.reduceToNat, List.append_eq, hnx, hlt, hh', heq, beq_self_eq_true, bne_self_eq_false])
    | (refine hC ?_ ?_ ?_ ?_ ?_
       rotate_left
       · rfl
       · simp only [go_sem, ↓reduceIte, reduceCtorEq, Nat.reduceLT, Nat.reduceEqDiff, Nat.reduceBEq, Nat.reduceAdd, Nat.reduceSub, Nat.reduceMul, Nat.reduceLeDiff, Int.reduceLE, Int.reduceLT, Int.reduceNeg, Int.reduceEq, Int.reduceBEq, Int.reduceBNe, Int.reduceToNat, List.append_eq, hnx, hlt, hh', heq, beq_self_eq_true, bne_self_eq_false]
       · simp only [go_sem, ↓reduceIte, reduceCtorEq, Nat.reduceLT, Nat.reduceEqDiff, Nat.reduceBEq, Nat.reduceAdd, Nat.reduceSub, Nat.reduceMul, Nat.reduceLeDiff, Int.reduceLE, Int.reduceLT, Int.reduceNeg, Int.reduceEq, Int.reduceBEq, Int.reduceBNe, Int.reduceToNat, List.append_eq, hnx, hlt, hh', heq, beq_self_eq_true, bne_self_eq_false]
         first | (refine And.intro ?_ ?_; exact c6; first | exact trivial | (simp only [go_sem, ↓reduceIte, reduceCtorEq, Nat.reduceLT, Nat.reduceEqDiff, Nat.reduceBEq, Nat.reduceAdd, Nat.reduceSub, Nat.reduceMul, Nat.reduceLeDiff, Int.reduceLE, Int.reduceLT, Int.reduceNeg, Int.reduceEq, Int.reduceBEq, Int.reduceBNe, Int.reduceToNat, List.append_eq, hnx, hlt, hh', heq, beq_self_eq_true, bne_self_eq_false]; done)) | (refine And.intro (ACalls.args (k := ?_) ?_ ?_) ?_; rotate_left; exact c6; repeat' (first | exact trivial | exact Or.inl ⟨rfl, rfl⟩ | exact Or.inr rfl | apply And.intro))
       simp only [go_sem, ↓reduceIte, reduceCtorEq, Nat.reduceLT, Nat.reduceEqDiff, Nat.reduceBEq, Nat.reduceAdd, Nat.reduceSub, Nat.reduceMul, Nat.reduceLeDiff, Int.reduceLE, Int.reduceLT, Int.reduceNeg, Int.reduceEq, Int.reduceBEq, Int.reduceBNe, Int.reduceToNat, List.append_eq, hnx, hlt, hh', heq, beq_self_eq_true, bne_self_eq_false])
    | (refine hK _ _ ?_; clear hK hC; clear K C)
    | (refine hK _ _ rfl ?_; clear hK hC; clear K C)
    | (refine hK _ _ (by simp only [crs, crsI, alfO, alfL, Nat.reduceLT]; rfl) ?_; clear hK hC; clear K C)
    | (refine AW.seqR fun K C hK hC => ?_; simp only [go_sem, ↓reduceIte, reduceCtorEq, Nat.reduceLT, Nat.reduceEqDiff, Nat.reduceBEq, Nat.reduceAdd, Nat.reduceSub, Nat.reduceMul, Nat.reduceLeDiff, Int.reduceLE, Int.reduceLT, Int.reduceNeg, Int.reduceEq, Int.reduceBEq, Int.reduceBNe, Int.reduceToNat, List.append_eq, hnx, hlt, hh', heq, beq_self_eq_true, bne_self_eq_false])
    | (refine AW.seqD rfl fun K C hK hC => ?_; simp only [go_sem, ↓reduceIte, reduceCtorEq, Nat.reduceLT, Nat.reduceEqDiff, Nat.reduceBEq, Nat.reduceAdd, Nat.reduceSub, Nat.reduceMul, Nat.reduceLeDiff, Int.reduceLE, Int.reduceLT, Int.reduceNeg, Int.reduceEq, Int.reduceBEq, Int.reduceBNe, Int.reduceToNat, List.append_eq, hnx, hlt, hh', heq, beq_self_eq_true, bne_self_eq_false])
    | (refine AW.reg fun K C hK hC => ?_; simp only [go_sem, ↓reduceIte, reduceCtorEq, Nat.reduceLT, Nat.reduceEqDiff, Nat.reduceBEq, Nat.reduceAdd, Nat.reduceSub, Nat.reduceMul, Nat.reduceLeDiff, Int.reduceLE, Int.reduceLT, Int.reduceNeg, Int.reduceEq, Int.reduceBEq, Int.reduceBNe, Int.reduceToNat, List.append_eq, hnx, hlt, hh', heq, beq_self_eq_true, bne_self_eq_false])
    | (refine AW.regD rfl fun K C hK hC => ?_; simp only [go_sem, ↓reduceIte, reduceCtorEq, Nat.reduceLT, Nat.reduceEqDiff, Nat.reduceBEq, Nat.reduceAdd, Nat.reduceSub, Nat.reduceMul, Nat.reduceLeDiff, Int.reduceLE, Int.reduceLT, Int.reduceNeg, Int.reduceEq, Int.reduceBEq, Int.reduceBNe, Int.reduceToNat, List.append_eq, hnx, hlt, hh', heq, beq_self_eq_true, bne_self_eq_false])
    | refine AW.seqS ?_
    | (refine AW.ret ?_; simp only [go_sem, ↓reduceIte, reduceCtorEq, Nat.reduceLT, Nat.reduceEqDiff, Nat.reduceBEq, Nat.reduceAdd, Nat.reduceSub, Nat.reduceMul, Nat.reduceLeDiff, Int.reduceLE, Int.reduceLT, Int.reduceNeg, Int.reduceEq, Int.reduceBEq, Int.reduceBNe, Int.reduceToNat, List.append_eq, hnx, hlt, hh', heq, beq_self_eq_true, bne_self_eq_false])
    | (refine AW.cond rfl (fun h => ?_) (fun h => ?_) <;> (try simp only [decide_eq_true_eq, decide_eq_false_iff_not, bne_iff_ne, beq_iff_eq, bne_eq_false_iff_eq, beq_eq_false_iff_ne, ne_eq, ge_iff_le, gt_iff_lt, Bool.not_eq_true, Bool.not_eq_false, Bool.not_not, Bool.not_true, Bool.not_false, Int.not_le, Int.not_lt, not_true_eq_false, not_false_eq_true, reduceCtorEq, Bool.false_eq_true, Bool.not_eq_true', Bool.not_eq_false'] at h) <;> first | (exfalso; omega) | skip)
    | refine AW.skip ?_
    | refine AW.seq ?_
    | refine AW.block ?_
    | (refine AW.exit ?_; simp only [go_sem, ↓reduceIte, reduceCtorEq, Nat.reduceLT, Nat.reduceEqDiff, Nat.reduceBEq, Nat.reduceAdd, Nat.reduceSub, Nat.reduceMul, Nat.reduceLeDiff, Int.reduceLE, Int.reduceLT, Int.reduceNeg, Int.reduceEq, Int.reduceBEq, Int.reduceBNe, Int.reduceToNat, List.append_eq, hnx, hlt, hh', heq, beq_self_eq_true, bne_self_eq_false])
    | (refine ite_on (fun h => ?_) (fun h => ?_) <;> (try simp only [decide_eq_true_eq, decide_eq_false_iff_not, bne_iff_ne, beq_iff_eq, bne_eq_false_iff_eq, beq_eq_false_iff_ne, ne_eq, ge_iff_le, gt_iff_lt, Bool.not_eq_true, Bool.not_eq_false, Bool.not_not, Bool.not_true, Bool.not_false, Int.not_le, Int.not_lt, not_true_eq_false, not_false_eq_true, reduceCtorEq, Bool.false_eq_true, Bool.not_eq_true', Bool.not_eq_false'] at h) <;> first | (exfalso; omega) | skip)
    | rw [thenN]
    | rw [blockN]
    | rw [scopeN]
    | refine AW.scope ?_
    | refine AW.label ?_
    | refine And.intro ?_ ?_
    | refine lcons rfl ?_
    | exact lGram _
    | exact lSeen _
    | exact lWord _
    | exact lSealed _
    | exact lRun _
    | exact lPerson _
    | exact lEvent _
    | exact lLeak _
    | exact lNum _
    | exact lOprn _
    | exact in64 (by omega) (by omega)
    | exact in32 (by omega) (by omega)
    | omega)
            all_goals trace "W#5"
          · rw [if_neg hk] at c3
            simp only [eWld, ePrt, prt0, eSealeds, eGrams, ePeople, eEvents, eRows, eWords, eLeaks, rB] at *
            repeat' (first
    | (refine hC ?_ ?_ ?_ ?_ ?_
       rotate_left
       · rfl
       · simp only [go_sem, ↓reduceIte, reduceCtorEq, Nat.reduceLT, Nat.reduceEqDiff, Nat.reduceBEq, Nat.reduceAdd, Nat.reduceSub, Nat.reduceMul, Nat.reduceLeDiff, Int.reduceLE, Int.reduceLT, Int.reduceNeg, Int.reduceEq, Int.reduceBEq, Int.reduceBNe, Int.reduceToNat, List.append_eq, hnx, hlt, hh', heq, beq_self_eq_true, bne_self_eq_false]
       · simp only [go_sem, ↓reduceIte, reduceCtorEq, Nat.reduceLT, Nat.reduceEqDiff, Nat.reduceBEq, Nat.reduceAdd, Nat.reduceSub, Nat.reduceMul, Nat.reduceLeDiff, Int.reduceLE, Int.reduceLT, Int.reduceNeg, Int.reduceEq, Int.reduceBEq, Int.reduceBNe, Int.reduceToNat, List.append_eq, hnx, hlt, hh', heq, beq_self_eq_true, bne_self_eq_false]
         first | (refine And.intro ?_ ?_; exact aw; first | exact trivial | (simp only [go_sem, ↓reduceIte, reduceCtorEq, Nat.reduceLT, Nat.reduceEqDiff, Nat.reduceBEq, Nat.reduceAdd, Nat.reduceSub, Nat.reduceMul, Nat.reduceLeDiff, Int.reduceLE, Int.reduceLT, Int.reduceNeg, Int.reduceEq, Int.reduceBEq, Int.reduceBNe, Int.reduceToNat, List.append_eq, hnx, hlt, hh', heq, beq_self_eq_true, bne_self_eq_false]; done)) | (refine And.intro (ACalls.args (k := ?_) ?_ ?_) ?_; rotate_left; exact aw; repeat' (first | exact trivial | exact Or.inl ⟨rfl, rfl⟩ | exact Or.inr rfl | apply And.intro))
       simp only [go_sem, ↓reduceIte, reduceCtorEq, Nat.reduceLT, Nat.reduceEqDiff, Nat.reduceBEq, Nat.reduceAdd, Nat.reduceSub, Nat.reduceMul, Nat.reduceLeDiff, Int.reduceLE, Int.reduceLT, Int.reduceNeg, Int.reduceEq, Int.reduceBEq, Int.reduceBNe, Int.reduceToNat, List.append_eq, hnx, hlt, hh', heq, beq_self_eq_true, bne_self_eq_false])
    | (refine hC ?_ ?_ ?_ ?_ ?_
       rotate_left
       · rfl
       · simp only [go_sem, ↓reduceIte, reduceCtorEq, Nat.reduceLT, Nat.reduceEqDiff, Nat.reduceBEq, Nat.reduceAdd, Nat.reduceSub, Nat.reduceMul, Nat.reduceLeDiff, Int.reduceLE, Int.reduceLT, Int.reduceNeg, Int.reduceEq, Int.reduceBEq, Int.reduceBNe, Int.reduceToNat, List.append_eq, hnx, hlt, hh', heq, beq_self_eq_true, bne_self_eq_false]
       · simp only [go_sem, ↓reduceIte, reduceCtorEq, Nat.reduceLT, Nat.reduceEqDiff, Nat.reduceBEq, Nat.reduceAdd, Nat.reduceSub, Nat.reduceMul, Nat.reduceLeDiff, Int.reduceLE, Int.reduceLT, Int.reduceNeg, Int.reduceEq, Int.reduceBEq, Int.reduceBNe, Int.reduceToNat, List.append_eq, hnx, hlt, hh', heq, beq_self_eq_true, bne_self_eq_false]
         first | (refine And.intro ?_ ?_; exact ft; first | exact trivial | (simp only [go_sem, ↓reduceIte, reduceCtorEq, Nat.reduceLT, Nat.reduceEqDiff, Nat.reduceBEq, Nat.reduceAdd, Nat.reduceSub, Nat.reduceMul, Nat.reduceLeDiff, Int.reduceLE, Int.reduceLT, Int.reduceNeg, Int.reduceEq, Int.reduceBEq, Int.reduceBNe, Int.reduceToNat, List.append_eq, hnx, hlt, hh', heq, beq_self_eq_true, bne_self_eq_false]; done)) | (refine And.intro (ACalls.args (k := ?_) ?_ ?_) ?_; rotate_left; exact ft; repeat' (first | exact trivial | exact Or.inl ⟨rfl, rfl⟩ | exact Or.inr rfl | apply And.intro))
       simp only [go_sem, ↓reduceIte, reduceCtorEq, Nat.reduceLT, Nat.reduceEqDiff, Nat.reduceBEq, Nat.reduceAdd, Nat.reduceSub, Nat.reduceMul, Nat.reduceLeDiff, Int.reduceLE, Int.reduceLT, Int.reduceNeg, Int.reduceEq, Int.reduceBEq, Int.reduceBNe, Int.reduceToNat, List.append_eq, hnx, hlt, hh', heq, beq_self_eq_true, bne_self_eq_false])
    | (refine hC ?_ ?_ ?_ ?_ ?_
       rotate_left
       · rfl
       · simp only [go_sem, ↓reduceIte, reduceCtorEq, Nat.reduceLT, Nat.reduceEqDiff, Nat.reduceBEq, Nat.reduceAdd, Nat.reduceSub, Nat.reduceMul, Nat.reduceLeDiff, Int.reduceLE, Int.reduceLT, Int.reduceNeg, Int.reduceEq, Int.reduceBEq, Int.reduceBNe, Int.reduceToNat, List.append_eq, hnx, hlt, hh', heq, beq_self_eq_true, bne_self_eq_false]
       · simp only [go_sem, ↓reduceIte, reduceCtorEq, Nat.reduceLT, Nat.reduceEqDiff, Nat.reduceBEq, Nat.reduceAdd, Nat.reduceSub, Nat.reduceMul, Nat.reduceLeDiff, Int.reduceLE, Int.reduceLT, Int.reduceNeg, Int.reduceEq, Int.reduceBEq, Int.reduceBNe, Int.reduceToNat, List.append_eq, hnx, hlt, hh', heq, beq_self_eq_true, bne_self_eq_false]
         first | (refine And.intro ?_ ?_; exact c1; first | exact trivial | (simp only [go_sem, ↓reduceIte, reduceCtorEq, Nat.reduceLT, Nat.reduceEqDiff, Nat.reduceBEq, Nat.reduceAdd, Nat.reduceSub, Nat.reduceMul, Nat.reduceLeDiff, Int.reduceLE, Int.reduceLT, Int.reduceNeg, Int.reduceEq, Int.reduceBEq, Int.reduceBNe, Int.reduceToNat, List.append_eq, hnx, hlt, hh', heq, beq_self_eq_true, bne_self_eq_false]; done)) | (refine And.intro (ACalls.args (k := ?_) ?_ ?_) ?_; rotate_left; exact c1; repeat' (first | exact trivial | exact Or.inl ⟨rfl, rfl⟩ | exact Or.inr rfl | apply And.intro))
       simp only [go_sem, ↓reduceIte, reduceCtorEq, Nat.reduceLT, Nat.reduceEqDiff, Nat.reduceBEq, Nat.reduceAdd, Nat.reduceSub, Nat.reduceMul, Nat.reduceLeDiff, Int.reduceLE, Int.reduceLT, Int.reduceNeg, Int.reduceEq, Int.reduceBEq, Int.reduceBNe, Int.reduceToNat, List.append_eq, hnx, hlt, hh', heq, beq_self_eq_true, bne_self_eq_false])
    | (refine hC ?_ ?_ ?_ ?_ ?_
       rotate_left
       · rfl
       · simp only [go_sem, ↓reduceIte, reduceCtorEq, Nat.reduceLT, Nat.reduceEqDiff, Nat.reduceBEq, Nat.reduceAdd, Nat.reduceSub, Nat.reduceMul, Nat.reduceLeDiff, Int.reduceLE, Int.reduceLT, Int.reduceNeg, Int.reduceEq, Int.reduceBEq, Int.reduceBNe, Int.reduceToNat, List.append_eq, hnx, hlt, hh', heq, beq_self_eq_true, bne_self_eq_false]
       · simp only [go_sem, ↓reduceIte, reduceCtorEq, Nat.reduceLT, Nat.reduceEqDiff, Nat.reduceBEq, Nat.reduceAdd, Nat.reduceSub, Nat.reduceMul, Nat.reduceLeDiff, Int.reduceLE, Int.reduceLT, Int.reduceNeg, Int.reduceEq, Int.reduceBEq, Int.reduceBNe, Int.reduceToNat, List.append_eq, hnx, hlt, hh', heq, beq_self_eq_true, bne_self_eq_false]
         first | (refine And.intro ?_ ?_; exact c2; first | exact trivial | (simp only [go_sem, ↓reduceIte, reduceCtorEq, Nat.reduceLT, Nat.reduceEqDiff, Nat.reduceBEq, Nat.reduceAdd, Nat.reduceSub, Nat.reduceMul, Nat.reduceLeDiff, Int.reduceLE, Int.reduceLT, Int.reduceNeg, Int.reduceEq, Int.reduceBEq, Int.reduceBNe, Int.reduceToNat, List.append_eq, hnx, hlt, hh', heq, beq_self_eq_true, bne_self_eq_false]; done)) | (refine And.intro (ACalls.args (k := ?_) ?_ ?_) ?_; rotate_left; exact c2; repeat' (first | exact trivial | exact Or.inl ⟨rfl, rfl⟩ | exact Or.inr rfl | apply And.intro))
       simp only [go_sem, ↓reduceIte, reduceCtorEq, Nat.reduceLT, Nat.reduceEqDiff, Nat.reduceBEq, Nat.reduceAdd, Nat.reduceSub, Nat.reduceMul, Nat.reduceLeDiff, Int.reduceLE, Int.reduceLT, Int.reduceNeg, Int.reduceEq, Int.reduceBEq, Int.reduceBNe, Int.reduceToNat, List.append_eq, hnx, hlt, hh', heq, beq_self_eq_true, bne_self_eq_false])
    | (refine hC ?_ ?_ ?_ ?_ ?_
       rotate_left
       · rfl
       · simp only [go_sem, ↓reduceIte, reduceCtorEq, Nat.reduceLT, Nat.reduceEqDiff, Nat.reduceBEq, Nat.reduceAdd, Nat.reduceSub, Nat.reduceMul, Nat.reduceLeDiff, Int.reduceLE, Int.reduceLT, Int.reduceNeg, Int.reduceEq, Int.reduceBEq, Int.reduceBNe, Int.reduceToNat, List.append_eq, hnx, hlt, hh', heq, beq_self_eq_true, bne_self_eq_false]
       · simp only [go_sem, ↓reduceIte, reduceCtorEq, Nat.reduceLT, Nat.reduceEqDiff, Nat.reduceBEq, Nat.reduceAdd, Nat.reduceSub, Nat.reduceMul, Nat.reduceLeDiff, Int.reduceLE, Int.reduceLT, Int.reduceNeg, Int.reduceEq, Int.reduceBEq, Int.reduceBNe, Int.reduceToNat, List.append_eq, hnx, hlt, hh', heq, beq_self_eq_true, bne_self_eq_false]
         first | (refine And.intro ?_ ?_; exact c3; first | exact trivial | (simp only [go_sem, ↓reduceIte, reduceCtorEq, Nat.reduceLT, Nat.reduceEqDiff, Nat.reduceBEq, Nat.reduceAdd, Nat.reduceSub, Nat.reduceMul, Nat.reduceLeDiff, Int.reduceLE, Int.reduceLT, Int.reduceNeg, Int.reduceEq, Int.reduceBEq, Int.reduceBNe, Int.reduceToNat, List.append_eq, hnx, hlt, hh', heq, beq_self_eq_true, bne_self_eq_false]; done)) | (refine And.intro (ACalls.args (k := ?_) ?_ ?_) ?_; rotate_left; exact c3; repeat' (first | exact trivial | exact Or.inl ⟨rfl, rfl⟩ | exact Or.inr rfl | apply And.intro))
       simp only [go_sem, ↓reduceIte, reduceCtorEq, Nat.reduceLT, Nat.reduceEqDiff, Nat.reduceBEq, Nat.reduceAdd, Nat.reduceSub, Nat.reduceMul, Nat.reduceLeDiff, Int.reduceLE, Int.reduceLT, Int.reduceNeg, Int.reduceEq, Int.reduceBEq, Int.reduceBNe, Int.reduceToNat, List.append_eq, hnx, hlt, hh', heq, beq_self_eq_true, bne_self_eq_false])
    | (refine hC ?_ ?_ ?_ ?_ ?_
       rotate_left
       · rfl
       · simp only [go_sem, ↓reduceIte, reduceCtorEq, Nat.reduceLT, Nat.reduceEqDiff, Nat.reduceBEq, Nat.reduceAdd, Nat.reduceSub, Nat.reduceMul, Nat.reduceLeDiff, Int.reduceLE, Int.reduceLT, Int.reduceNeg, Int.reduceEq, Int.reduceBEq, Int.reduceBNe, Int.reduceToNat, List.append_eq, hnx, hlt, hh', heq, beq_self_eq_true, bne_self_eq_false]
       · simp only [go_sem, ↓reduceIte, reduceCtorEq, Nat.reduceLT, Nat.reduceEqDiff, Nat.reduceBEq, Nat.reduceAdd, Nat.reduceSub, Nat.reduceMul, Nat.reduceLeDiff, Int.reduceLE, Int.reduceLT, Int.reduceNeg, Int.reduceEq, Int.reduceBEq, Int.reduceBNe, Int.reduceToNat, List.append_eq, hnx, hlt, hh', heq, beq_self_eq_true, bne_self_eq_false]
         first | (refine And.intro ?_ ?_; exact c4; first | exact trivial | (simp only [go_sem, ↓reduceIte, reduceCtorEq, Nat.reduceLT, Nat.reduceEqDiff, Nat.reduceBEq, Nat.reduceAdd, Nat.reduceSub, Nat.reduceMul, Nat.reduceLeDiff, Int.reduceLE, Int.reduceLT, Int.reduceNeg, Int.reduceEq, Int.reduceBEq, Int.reduceBNe, Int.reduceToNat, List.append_eq, hnx, hlt, hh', heq, beq_self_eq_true, bne_self_eq_false]; done)) | (refine And.intro (ACalls.args (k := ?_) ?_ ?_) ?_; rotate_left; exact c4; repeat' (first | exact trivial | exact Or.inl ⟨rfl, rfl⟩ | exact Or.inr rfl | apply And.intro))
       simp only [go_sem, ↓reduceIte, reduceCtorEq, Nat.reduceLT, Nat.reduceEqDiff, Nat.reduceBEq, Nat.reduceAdd, Nat.reduceSub, Nat.reduceMul, Nat.reduceLeDiff, Int.reduceLE, Int.reduceLT, Int.reduceNeg, Int.reduceEq, Int.reduceBEq, Int.reduceBNe, Int.reduceToNat, List.append_eq, hnx, hlt, hh', heq, beq_self_eq_true, bne_self_eq_false])
    | (refine hC ?_ ?_ ?_ ?_ ?_
       rotate_left
       · rfl
       · simp only [go_sem, ↓reduceIte, reduceCtorEq, Nat.reduceLT, Nat.reduceEqDiff, Nat.reduceBEq, Nat.reduceAdd, Nat.reduceSub, Nat.reduceMul, Nat.reduceLeDiff, Int.reduceLE, Int.reduceLT, Int.reduceNeg, Int.reduceEq, Int.reduceBEq, Int.reduceBNe, Int.reduceToNat, List.append_eq, hnx, hlt, hh', heq, beq_self_eq_true, bne_self_eq_false]
       · simp only [go_sem, ↓reduceIte, reduceCtorEq, Nat.reduceLT, Nat.reduceEqDiff, Nat.reduceBEq, Nat.reduceAdd, Nat.reduceSub, Nat.reduceMul, Nat.reduceLeDiff, Int.reduceLE, Int.reduceLT, Int.reduceNeg, Int.reduceEq, Int.reduceBEq, Int.reduceBNe, Int.reduceToNat, List.append_eq, hnx, hlt, hh', heq, beq_self_eq_true, bne_self_eq_false]
         first | (refine And.intro ?_ ?_; exact c5; first | exact trivial | (simp only [go_sem, ↓reduceIte, reduceCtorEq, Nat.reduceLT, Nat.reduceEqDiff, Nat.reduceBEq, Nat.reduceAdd, Nat.reduceSub, Nat.reduceMul, Nat.reduceLeDiff, Int.reduceLE, Int.reduceLT, Int.reduceNeg, Int.reduceEq, Int.reduceBEq, Int.reduceBNe, Int.reduceToNat, List.append_eq, hnx, hlt, hh', heq, beq_self_eq_true, bne_self_eq_false]; done)) | (refine And.intro (ACalls.args (k := ?_) ?_ ?_) ?_; rotate_left; exact c5; repeat' (first | exact trivial | exact Or.inl ⟨rfl, rfl⟩ | exact Or.inr rfl | apply And.intro))
       simp only [go_sem, ↓reduceIte, reduceCtorEq, Nat.reduceLT, Nat.reduceEqDiff, Nat.reduceBEq, Nat.reduceAdd, Nat.reduceSub, Nat.reduceMul, Nat.reduceLeDiff, Int.reduceLE, Int.reduceLT, Int.reduceNeg, Int.reduceEq, Int.reduceBEq, Int.reduceBNe, Int.reduceToNat, List.append_eq, hnx, hlt, hh', heq, beq_self_eq_true, bne_self_eq_false])
    | (refine hC ?_ ?_ ?_ ?_ ?_
       rotate_left
       · rfl
       · simp only [go_sem, ↓reduceIte, reduceCtorEq, Nat.reduceLT, Nat.reduceEqDiff, Nat.reduceBEq, Nat.reduceAdd, Nat.reduceSub, Nat.reduceMul, Nat.reduceLeDiff, Int.reduceLE, Int.reduceLT, Int.reduceNeg, Int.reduceEq, Int.reduceBEq, Int.reduceBNe, Int.reduceToNat, List.append_eq, hnx, hlt, hh', heq, beq_self_eq_true, bne_self_eq_false]
       · simp only [go_sem, ↓reduceIte, reduceCtorEq, Nat.reduceLT, Nat.reduceEqDiff, Nat.reduceBEq, Nat.reduceAdd, Nat.reduceSub, Nat.reduceMul, Nat.reduceLeDiff, Int.reduceLE, Int.reduceLT, Int.reduceNeg, Int.reduceEq, Int.reduceBEq, Int.reduceBNe, Int.reduceToNat, List.append_eq, hnx, hlt, hh', heq, beq_self_eq_true, bne_self_eq_false]
         first | (refine And.intro ?_ ?_; exact c6; first | exact trivial | (simp only [go_sem, ↓reduceIte, reduceCtorEq, Nat.reduceLT, Nat.reduceEqDiff, Nat.reduceBEq, Nat.reduceAdd, Nat.reduceSub, Nat.reduceMul, Nat.reduceLeDiff, Int.reduceLE, Int.reduceLT, Int.reduceNeg, Int.reduceEq, Int.reduceBEq, Int.reduceBNe, Int.reduceToNat, List.append_eq, hnx, hlt, hh', heq, beq_self_eq_true, bne_self_eq_false]; done)) | (refine And.intro (ACalls.args (k := ?_) ?_ ?_) ?_; rotate_left; exact c6; repeat' (first | exact trivial | exact Or.inl ⟨rfl, rfl⟩ | exact Or.inr rfl | apply And.intro))
       simp only [go_sem, ↓reduceIte, reduceCtorEq, Nat.reduceLT, Nat.reduceEqDiff, Nat.reduceBEq, Nat.reduceAdd, Nat.reduceSub, Nat.reduceMul, Nat.reduceLeDiff, Int.reduceLE, Int.reduceLT, Int.reduceNeg, Int.reduceEq, Int.reduceBEq, Int.reduceBNe, Int.reduceToNat, List.append_eq, hnx, hlt, hh', heq, beq_self_eq_true, bne_self_eq_false])
    | (refine hK _ _ ?_; clear hK hC; clear K C)
    | (refine hK _ _ rfl ?_; clear hK hC; clear K C)
    | (refine hK _ _ (by simp only [crs, crsI, alfO, alfL, Nat.reduceLT]; rfl) ?_; clear hK hC; clear K C)
    | (refine AW.seqR fun K C hK hC => ?_; simp only [go_sem, ↓reduceIte, reduceCtorEq, Nat.reduceLT, Nat.reduceEqDiff, Nat.reduceBEq, Nat.reduceAdd, Nat.reduceSub, Nat.reduceMul, Nat.reduceLeDiff, Int.reduceLE, Int.reduceLT, Int.reduceNeg, Int.reduceEq, Int.reduceBEq, Int.reduceBNe, Int.reduceToNat, List.append_eq, hnx, hlt, hh', heq, beq_self_eq_true, bne_self_eq_false])
    | (refine AW.seqD rfl fun K C hK hC => ?_; simp only [go_sem, ↓reduceIte, reduceCtorEq, Nat.reduceLT, Nat.reduceEqDiff, Nat.reduceBEq, Nat.reduceAdd, Nat.reduceSub, Nat.reduceMul, Nat.reduceLeDiff, Int.reduceLE, Int.reduceLT, Int.reduceNeg, Int.reduceEq, Int.reduceBEq, Int.reduceBNe, Int.reduceToNat, List.append_eq, hnx, hlt, hh', heq, beq_self_eq_true, bne_self_eq_false])
    | (refine AW.reg fun K C hK hC => ?_; simp only [go_sem, ↓reduceIte, reduceCtorEq, Nat.reduceLT, Nat.reduceEqDiff, Nat.reduceBEq, Nat.reduceAdd, Nat.reduceSub, Nat.reduceMul, Nat.reduceLeDiff, Int.reduceLE, Int.reduceLT, Int.reduceNeg, Int.reduceEq, Int.reduceBEq, Int.reduceBNe, Int.reduceToNat, List.append_eq, hnx, hlt, hh', heq, beq_self_eq_true, bne_self_eq_false])
    | (refine AW.regD rfl fun K C hK hC => ?_; simp only [go_sem, ↓reduceIte, reduceCtorEq, Nat.reduceLT, Nat.reduceEqDiff, Nat.reduceBEq, Nat.reduceAdd, Nat.reduceSub, Nat.reduceMul, Nat.reduceLeDiff, Int.reduceLE, Int.reduceLT, Int.reduceNeg, Int.reduceEq, Int.reduceBEq, Int.reduceBNe, Int.reduceToNat, List.append_eq, hnx, hlt, hh', heq, beq_self_eq_true, bne_self_eq_false])
    | refine AW.seqS ?_
    | (refine AW.ret ?_; simp only [go_sem, ↓reduceIte, reduceCtorEq, Nat.reduceLT, Nat.reduceEqDiff, Nat.reduceBEq, Nat.reduceAdd, Nat.reduceSub, Nat.reduceMul, Nat.reduceLeDiff, Int.reduceLE, Int.reduceLT, Int.reduceNeg, Int.reduceEq, Int.reduceBEq, Int.reduceBNe, Int.reduceToNat, List.append_eq, hnx, hlt, hh', heq, beq_self_eq_true, bne_self_eq_false])
    | (refine AW.cond rfl (fun h => ?_) (fun h => ?_) <;> (try simp only [decide_eq_true_eq, decide_eq_false_iff_not, bne_iff_ne, beq_iff_eq, bne_eq_false_iff_eq, beq_eq_false_iff_ne, ne_eq, ge_iff_le, gt_iff_lt, Bool.not_eq_true, Bool.not_eq_false, Bool.not_not, Bool.not_true, Bool.not_false, Int.not_le, Int.not_lt, not_true_eq_false, not_false_eq_true, reduceCtorEq, Bool.false_eq_true, Bool.not_eq_true', Bool.not_eq_false'] at h) <;> first | (exfalso; omega) | skip)
    | refine AW.skip ?_
    | refine AW.seq ?_
    | refine AW.block ?_
    | (refine AW.exit ?_; simp only [go_sem, ↓reduceIte, reduceCtorEq, Nat.reduceLT, Nat.reduceEqDiff, Nat.reduceBEq, Nat.reduceAdd, Nat.reduceSub, Nat.reduceMul, Nat.reduceLeDiff, Int.reduceLE, Int.reduceLT, Int.reduceNeg, Int.reduceEq, Int.reduceBEq, Int.reduceBNe, Int.reduceToNat, List.append_eq, hnx, hlt, hh', heq, beq_self_eq_true, bne_self_eq_false])
    | (refine ite_on (fun h => ?_) (fun h => ?_) <;> (try simp only [decide_eq_true_eq, decide_eq_false_iff_not, bne_iff_ne, beq_iff_eq, bne_eq_false_iff_eq, beq_eq_false_iff_ne, ne_eq, ge_iff_le, gt_iff_lt, Bool.not_eq_true, Bool.not_eq_false, Bool.not_not, Bool.not_true, Bool.not_false, Int.not_le, Int.not_lt, not_true_eq_false, not_false_eq_true, reduceCtorEq, Bool.false_eq_true, Bool.not_eq_true', Bool.not_eq_false'] at h) <;> first | (exfalso; omega) | skip)
    | rw [thenN]
    | rw [blockN]
    | rw [scopeN]
    | refine AW.scope ?_
    | refine AW.label ?_
    | refine And.intro ?_ ?_
    | refine lcons rfl ?_
    | exact lGram _
    | exact lSeen _
    | exact lWord _
    | exact lSealed _
    | exact lRun _
    | exact lPerson _
    | exact lEvent _
    | exact lLeak _
    | exact lNum _
    | exact lOprn _
    | exact in64 (by omega) (by omega)
    | exact in32 (by omega) (by omega)
    | omega)
            all_goals trace "W#6"
end Go.Proofs.YtjhofkdcekdplaaGreatDoor.Abs
end
section
/- What is handed in, opened: whatever its type. -/
set_option linter.unusedSimpArgs false
set_option linter.unusedVariables false
set_option maxRecDepth 100000
namespace Go.Proofs.YtjhofkdcekdplaaGreatDoor.Abs
open Go.RowKit
/-- A struct that is handed in, by value. -/
theorem open_agg {α : Type} {C : Cod α} {H : Type} {enc : TypeId × Value → H} {P : Program} {W : World} {r : Reach} {b0 : Nat} {t : TypeId} {fs : Array Field} {v : Value} {d : DataW H} {p : List MemPlace} (ho : Cod.Opens P t C) (hs : P.underlying t = some (.struct fs))
    (hv : Value.okWide P W r b0 t v) (h : DataW.Trod enc P W 0 (fun _ => true) true t v d p) : ∃ (vs : List Value) (y : α), v = .agg vs.toArray ∧ C.rep W W.heap.size vs y := by
  obtain ⟨cs, rfl, _⟩ := Go.WideShapes.okWide_struct hs hv
  obtain ⟨fuel, hf⟩ := h
  obtain ⟨y, hy⟩ := ho.2 H enc W fuel cs.toList _ hf
  exact ⟨cs.toList, y, rfl, hy⟩
/-- A row that is handed in. -/
theorem open_row {α : Type} {C : Cod α} {H : Type} {enc : TypeId × Value → H} {P : Program} {W : World} {r : Reach} {b0 : Nat} {t e : TypeId} {v : Value} {d : DataW H} {p : List MemPlace} (ho : Cod.Opens P t C.row) (hs : P.underlying t = some (.slice e))
    (hv : Value.okWide P W r b0 t v) (h : DataW.Trod enc P W 0 (fun _ => true) true t v d p) : ∃ y : List α, C.row.rep W W.heap.size [v] y := by
  obtain ⟨a, len, cap, rfl⟩ := Go.WideShapes.okWide_slice hs hv
  obtain ⟨fuel, hf⟩ := h
  exact ho.2 H enc W fuel _ _ hf
theorem RC.int {S : Sh} {w : World} {k : IntKind} {n : Int} (h : (Lit.int k n).wf = true) : RC S w (.one (.v (.int k n))) (.int k n) := R.v (inK_wf.trans h)
theorem RC.flag {S : Sh} {w : World} (b : Bool) : RC S w (.one (.v (.bool b))) (.bool b) := R.v rfl
theorem openWords : Cod.Opens Tryz.prog 25 Cod.words := Cod.Opens.row (e := 22) Tryz.underlying25 (by kernel_rfl) (Cod.Opens.num Tryz.underlying22 (by kernel_rfl)) (by decide)
end Go.Proofs.YtjhofkdcekdplaaGreatDoor.Abs
end
section
/- What is handed in, opened: nets and frames. -/
set_option linter.unusedSimpArgs false
set_option linter.unusedVariables false
set_option maxRecDepth 100000
namespace Go.Proofs.YtjhofkdcekdplaaGreatDoor.Abs
open Go.RowKit
theorem openRows : Cod.Opens Tryz.prog 32 Cod.words.row := Cod.Opens.row (e := 25) Tryz.underlying32 (by kernel_rfl) openWords (by decide)
theorem openGram : Cod.Opens Tryz.prog 80 gramC :=
  (Cod.Opens.struct Tryz.underlying80 (by kernel_rfl) (Cod.OpensAt.cons rfl (Cod.Opens.num Tryz.underlying22 (by kernel_rfl)) (Cod.OpensAt.one rfl openWords))).via _ fun a => ⟨⟨a.1, a.2⟩, rfl⟩
theorem openNet : Cod.Opens Tryz.prog 34 netC :=
  (Cod.Opens.struct Tryz.underlying34 (by kernel_rfl) (Cod.OpensAt.cons rfl (Cod.Opens.num Tryz.underlying3 (by kernel_rfl))
    (Cod.OpensAt.cons rfl (Cod.Opens.row (e := 80) Tryz.underlying31 (by kernel_rfl) openGram (by decide)) (Cod.OpensAt.one rfl openRows)))).via _ fun a => ⟨⟨a.1, a.2.1, a.2.2⟩, rfl⟩
end Go.Proofs.YtjhofkdcekdplaaGreatDoor.Abs
end
section
/- What is handed in, opened: boxes and their entries. -/
set_option linter.unusedSimpArgs false
set_option linter.unusedVariables false
set_option maxRecDepth 100000
namespace Go.Proofs.YtjhofkdcekdplaaGreatDoor.Abs
open Go.RowKit
theorem openSealed : Cod.Opens Tryz.prog 142 sealedC :=
  (Cod.Opens.struct Tryz.underlying142 (by kernel_rfl) (Cod.OpensAt.cons rfl (Cod.Opens.num Tryz.underlying22 (by kernel_rfl))
    (Cod.OpensAt.cons rfl (Cod.Opens.num Tryz.underlying22 (by kernel_rfl)) (Cod.OpensAt.cons rfl (Cod.Opens.num Tryz.underlying22 (by kernel_rfl)) (Cod.OpensAt.one rfl openWords))))).via _ fun a => ⟨⟨a.1, a.2.1, a.2.2.1, a.2.2.2⟩, rfl⟩
theorem openBox : Cod.Opens Tryz.prog 30 boxC :=
  (Cod.Opens.struct Tryz.underlying30 (by kernel_rfl) (Cod.OpensAt.cons rfl (Cod.Opens.num Tryz.underlying3 (by kernel_rfl))
    (Cod.OpensAt.one rfl (Cod.Opens.row (e := 142) Tryz.underlying28 (by kernel_rfl) openSealed (by decide))))).via _ fun a => ⟨⟨a.1, a.2⟩, rfl⟩
end Go.Proofs.YtjhofkdcekdplaaGreatDoor.Abs
end
section
/- What is handed in, opened: runs, people, events, parts, messages, operations, worlds. -/
set_option linter.unusedSimpArgs false
set_option linter.unusedVariables false
set_option maxRecDepth 100000
namespace Go.Proofs.YtjhofkdcekdplaaGreatDoor.Abs
open Go.RowKit
theorem openRun : Cod.Opens Tryz.prog 154 runC :=
  (Cod.Opens.struct Tryz.underlying154 (by kernel_rfl) (Cod.OpensAt.cons rfl (Cod.Opens.num Tryz.underlying3 (by kernel_rfl)) (Cod.OpensAt.cons rfl (Cod.Opens.num Tryz.underlying3 (by kernel_rfl)) (Cod.OpensAt.cons rfl (Cod.Opens.num Tryz.underlying22 (by kernel_rfl)) (Cod.OpensAt.cons rfl (Cod.Opens.num Tryz.underlying22 (by kernel_rfl)) (Cod.OpensAt.cons rfl (Cod.Opens.num Tryz.underlying22 (by kernel_rfl)) (Cod.OpensAt.cons rfl (Cod.Opens.num Tryz.underlying22 (by kernel_rfl)) (Cod.OpensAt.cons rfl (Cod.Opens.num Tryz.underlying22 (by kernel_rfl)) (Cod.OpensAt.cons rfl (Cod.Opens.num Tryz.underlying22 (by kernel_rfl)) (Cod.OpensAt.one rfl (Cod.Opens.num Tryz.underlying3 (by kernel_rfl)))))))))))).via _ fun a => ⟨⟨a.1, a.2.1, a.2.2.1, a.2.2.2.1, a.2.2.2.2.1, a.2.2.2.2.2.1, a.2.2.2.2.2.2.1, a.2.2.2.2.2.2.2.1, a.2.2.2.2.2.2.2.2⟩, rfl⟩
theorem openEvent : Cod.Opens Tryz.prog 61 eventC :=
  (Cod.Opens.struct Tryz.underlying61 (by kernel_rfl) (Cod.OpensAt.cons rfl (Cod.Opens.num Tryz.underlying3 (by kernel_rfl)) (Cod.OpensAt.cons rfl (Cod.Opens.num Tryz.underlying3 (by kernel_rfl)) (Cod.OpensAt.cons rfl (Cod.Opens.num Tryz.underlying3 (by kernel_rfl)) (Cod.OpensAt.cons rfl (Cod.Opens.num Tryz.underlying22 (by kernel_rfl)) (Cod.OpensAt.cons rfl (Cod.Opens.num Tryz.underlying22 (by kernel_rfl)) (Cod.OpensAt.cons rfl (Cod.Opens.num Tryz.underlying22 (by kernel_rfl)) (Cod.OpensAt.cons rfl (Cod.Opens.num Tryz.underlying22 (by kernel_rfl)) (Cod.OpensAt.cons rfl (Cod.Opens.num Tryz.underlying22 (by kernel_rfl)) (Cod.OpensAt.cons rfl (Cod.Opens.num Tryz.underlying22 (by kernel_rfl)) (Cod.OpensAt.one rfl (Cod.Opens.num Tryz.underlying22 (by kernel_rfl))))))))))))).via _ fun a => ⟨⟨a.1, a.2.1, a.2.2.1, a.2.2.2.1, a.2.2.2.2.1, a.2.2.2.2.2.1, a.2.2.2.2.2.2.1, a.2.2.2.2.2.2.2.1, a.2.2.2.2.2.2.2.2.1, a.2.2.2.2.2.2.2.2.2⟩, rfl⟩
theorem openLeak : Cod.Opens Tryz.prog 118 leakC :=
  (Cod.Opens.struct Tryz.underlying118 (by kernel_rfl) (Cod.OpensAt.cons rfl (Cod.Opens.num Tryz.underlying22 (by kernel_rfl)) (Cod.OpensAt.one rfl (Cod.Opens.num Tryz.underlying22 (by kernel_rfl))))).via _ fun a => ⟨⟨a.1, a.2⟩, rfl⟩
theorem openConf : Cod.Opens Tryz.prog 24 confC :=
  (Cod.Opens.struct Tryz.underlying24 (by kernel_rfl) (Cod.OpensAt.cons rfl (Cod.Opens.num Tryz.underlying22 (by kernel_rfl)) (Cod.OpensAt.cons rfl (Cod.Opens.num Tryz.underlying3 (by kernel_rfl)) (Cod.OpensAt.cons rfl (Cod.Opens.num Tryz.underlying3 (by kernel_rfl)) (Cod.OpensAt.cons rfl (Cod.Opens.num Tryz.underlying3 (by kernel_rfl)) (Cod.OpensAt.cons rfl (Cod.Opens.num Tryz.underlying3 (by kernel_rfl)) (Cod.OpensAt.cons rfl (Cod.Opens.num Tryz.underlying3 (by kernel_rfl)) (Cod.OpensAt.one rfl (Cod.Opens.num Tryz.underlying3 (by kernel_rfl)))))))))).via _ fun a => ⟨⟨a.1, a.2.1, a.2.2.1, a.2.2.2.1, a.2.2.2.2.1, a.2.2.2.2.2.1, a.2.2.2.2.2.2⟩, rfl⟩
theorem openPart : Cod.Opens Tryz.prog 46 prtC :=
  (Cod.Opens.struct Tryz.underlying46 (by kernel_rfl) (Cod.OpensAt.cons rfl (Cod.Opens.num Tryz.underlying22 (by kernel_rfl)) (Cod.OpensAt.cons rfl (Cod.Opens.num Tryz.underlying22 (by kernel_rfl)) (Cod.OpensAt.cons rfl (Cod.Opens.num Tryz.underlying22 (by kernel_rfl)) (Cod.OpensAt.cons rfl (Cod.Opens.num Tryz.underlying22 (by kernel_rfl)) (Cod.OpensAt.cons rfl (Cod.Opens.num Tryz.underlying22 (by kernel_rfl)) (Cod.OpensAt.cons rfl (Cod.Opens.num Tryz.underlying22 (by kernel_rfl)) (Cod.OpensAt.one rfl (Cod.Opens.num Tryz.underlying22 (by kernel_rfl)))))))))).via _ fun a => ⟨⟨a.1, a.2.1, a.2.2.1, a.2.2.2.1, a.2.2.2.2.1, a.2.2.2.2.2.1, a.2.2.2.2.2.2⟩, rfl⟩
theorem openMsg : Cod.Opens Tryz.prog 59 mssgC :=
  (Cod.Opens.struct Tryz.underlying59 (by kernel_rfl) (Cod.OpensAt.cons rfl (Cod.Opens.num Tryz.underlying22 (by kernel_rfl)) (Cod.OpensAt.cons rfl (Cod.Opens.num Tryz.underlying22 (by kernel_rfl)) (Cod.OpensAt.cons rfl (Cod.Opens.num Tryz.underlying22 (by kernel_rfl)) (Cod.OpensAt.cons rfl (Cod.Opens.num Tryz.underlying22 (by kernel_rfl)) (Cod.OpensAt.cons rfl (Cod.Opens.num Tryz.underlying22 (by kernel_rfl)) (Cod.OpensAt.cons rfl (Cod.Opens.num Tryz.underlying22 (by kernel_rfl)) (Cod.OpensAt.one rfl (Cod.Opens.num Tryz.underlying22 (by kernel_rfl)))))))))).via _ fun a => ⟨⟨a.1, a.2.1, a.2.2.1, a.2.2.2.1, a.2.2.2.2.1, a.2.2.2.2.2.1, a.2.2.2.2.2.2⟩, rfl⟩
theorem openDraws : Cod.Opens Tryz.prog 27 drawsC :=
  (Cod.Opens.struct Tryz.underlying27 (by kernel_rfl) (Cod.OpensAt.cons rfl openWords (Cod.OpensAt.one rfl (Cod.Opens.num Tryz.underlying3 (by kernel_rfl))))).via _ fun a => ⟨⟨a.1, a.2⟩, rfl⟩
theorem openPerson : Cod.Opens Tryz.prog 64 personC :=
  (Cod.Opens.struct Tryz.underlying64 (by kernel_rfl) (Cod.OpensAt.cons rfl (Cod.Opens.num Tryz.underlying22 (by kernel_rfl)) (Cod.OpensAt.cons rfl (Cod.Opens.num Tryz.underlying22 (by kernel_rfl)) (Cod.OpensAt.cons rfl (Cod.Opens.num Tryz.underlying22 (by kernel_rfl)) (Cod.OpensAt.cons rfl openWords (Cod.OpensAt.cons rfl (Cod.Opens.row (e := 154) Tryz.underlying62 (by kernel_rfl) openRun (by decide)) (Cod.OpensAt.one rfl (Cod.Opens.flag Tryz.underlying4 (by kernel_rfl))))))))).via _ fun a => ⟨⟨a.1, a.2.1, a.2.2.1, a.2.2.2.1, a.2.2.2.2.1, a.2.2.2.2.2⟩, rfl⟩
theorem openWorld : Cod.Opens Tryz.prog 39 wldC :=
  (Cod.Opens.struct Tryz.underlying39 (by kernel_rfl) (Cod.OpensAt.cons rfl openConf (Cod.OpensAt.cons rfl openDraws (Cod.OpensAt.cons rfl openBox (Cod.OpensAt.cons rfl openNet (Cod.OpensAt.cons rfl (Cod.Opens.row (e := 64) Tryz.underlying35 (by kernel_rfl) openPerson (by decide)) (Cod.OpensAt.cons rfl (Cod.Opens.row (e := 61) Tryz.underlying36 (by kernel_rfl) openEvent (by decide)) (Cod.OpensAt.cons rfl openRows (Cod.OpensAt.one rfl (Cod.Opens.row (e := 118) Tryz.underlying37 (by kernel_rfl) openLeak (by decide))))))))))).via _ fun a => ⟨⟨a.1, a.2.1, a.2.2.1, a.2.2.2.1, a.2.2.2.2.1, a.2.2.2.2.2.1, a.2.2.2.2.2.2.1, a.2.2.2.2.2.2.2⟩, rfl⟩
end Go.Proofs.YtjhofkdcekdplaaGreatDoor.Abs
end
section
/- What a row's condition on the table of masks gives a law of values without addresses; a world that meets it. -/
set_option linter.unusedSimpArgs false
set_option linter.unusedVariables false
set_option maxRecDepth 100000
namespace Go.Proofs.YtjhofkdcekdplaaGreatDoor.Abs
open Go.ChangeShapes Go.WideShapes Go.RowKit
theorem own : ownKnob Tryz.prog.godebug = none := by kernel_rfl
theorem laidOut : laidOutB Tryz.prog = true := by kernel_rfl
theorem masksG : Tryz.prog.globalNamed "chamberlain/msg.masks" = some 0 := by kernel_rfl
theorem masksT : (Tryz.prog.globals[0]?).map (·.type) = some 195 := by kernel_rfl
theorem cellsT : Tryz.prog.cellsOf 195 = 10 := by kernel_rfl
theorem cellsU : Tryz.prog.cellsOf 22 = 1 := by kernel_rfl
theorem word_of_trod {H : Type} {enc : TypeId × Value → H} {w : World} {base : Nat} {sp : Nat → Bool} {held : Bool} {fuel : Nat} {c : Value} {y : DataW H × List MemPlace}
    (h : DataW.trod enc Tryz.prog w base sp held fuel 22 [c] = some y) : ∃ n, c = .int .u32 n ∧ y = (.lit (.int .u32 n), []) ∧ (Lit.int .u32 n).wf = true := by
  obtain ⟨n, h1, h2, h3⟩ := DataW.trod_int Tryz.underlying22 h
  simp at h1
  exact ⟨n, h1, h2, h3⟩
def masksC : Array Value := #[.int .u32 0, .int .u32 56, .int .u32 64, .int .u32 64, .int .u32 64, .int .u32 64, .int .u32 92, .int .u32 220, .int .u32 196, .int .u32 68]
theorem gl_of_laid {W : World} (h : laidMet Tryz.prog [("chamberlain/msg.masks", Rows.laid_chamberlain_msg_masks)] W) : Gl (fun k b => k = 0 ∧ b < W.heap.size) W := by
  obtain ⟨ps, ⟨g, t, cs, fuel, p, q, hg, ht, hvar, hd, _, _⟩, _⟩ := h
  obtain rfl := Option.some.inj (masksG.symm.trans hg)
  obtain rfl := Option.some.inj (masksT.symm.trans ht)
  have key : cs = masksC := by
    obtain ⟨l⟩ := cs
    cases fuel with
    | zero => simp [DataW.trod] at hd
    | succ fuel =>
      simp only [DataW.trod, Tryz.underlying195, cellsT, cellsU] at hd
      split at hd
      · rename_i hl
        obtain ⟨c0, c1, c2, c3, c4, c5, c6, c7, c8, c9, rfl⟩ : ∃ c0 c1 c2 c3 c4 c5 c6 c7 c8 c9, l = [c0, c1, c2, c3, c4, c5, c6, c7, c8, c9] := by
          match l, hl with
          | [c0, c1, c2, c3, c4, c5, c6, c7, c8, c9], _ => exact ⟨c0, c1, c2, c3, c4, c5, c6, c7, c8, c9, rfl⟩
        have e : List.range 10 = [0, 1, 2, 3, 4, 5, 6, 7, 8, 9] := rfl
        rw [e] at hd
        simp only [Option.map_eq_some_iff, List.mapM_cons, List.mapM_nil, Option.bind_eq_bind, Option.bind_eq_some_iff, Option.pure_def, Option.some.injEq] at hd
        obtain ⟨xs, ⟨y0, h0, _, ⟨y1, h1, _, ⟨y2, h2, _, ⟨y3, h3, _, ⟨y4, h4, _, ⟨y5, h5, _, ⟨y6, h6, _, ⟨y7, h7, _, ⟨y8, h8, _, ⟨y9, h9, _, rfl, rfl⟩, rfl⟩, rfl⟩, rfl⟩, rfl⟩, rfl⟩, rfl⟩, rfl⟩, rfl⟩, rfl⟩, hx⟩ := hd
        obtain ⟨n0, rfl, rfl, _⟩ := word_of_trod h0
        obtain ⟨n1, rfl, rfl, _⟩ := word_of_trod h1
        obtain ⟨n2, rfl, rfl, _⟩ := word_of_trod h2
        obtain ⟨n3, rfl, rfl, _⟩ := word_of_trod h3
        obtain ⟨n4, rfl, rfl, _⟩ := word_of_trod h4
        obtain ⟨n5, rfl, rfl, _⟩ := word_of_trod h5
        obtain ⟨n6, rfl, rfl, _⟩ := word_of_trod h6
        obtain ⟨n7, rfl, rfl, _⟩ := word_of_trod h7
        obtain ⟨n8, rfl, rfl, _⟩ := word_of_trod h8
        obtain ⟨n9, rfl, rfl, _⟩ := word_of_trod h9
        simp [Rows.laid_chamberlain_msg_masks] at hx
        obtain ⟨⟨rfl, rfl, rfl, rfl, rfl, rfl, rfl, rfl, rfl, rfl⟩, _⟩ := hx
        rfl
      · cases hd
  subst key
  have cell : ∀ (i : Nat) (u : Value), masksC[i]? = some u → W.cell? ⟨0, i, none⟩ = some u := fun i u hu => (World.var?_cell hg hvar i).trans hu
  have hlt : 0 < W.heap.size := lt_of_cell (cell 0 _ rfl)
  intro g vs hgv
  unfold tabsV at hgv
  split at hgv
  · cases hgv
    exact ⟨⟨rfl, hlt⟩, fun j u hj => by rw [Nat.zero_add]; exact cell j u (by unfold masksC; rw [List.getElem?_toArray]; exact hj)⟩
  · cases hgv
/-- A world that meets the condition. -/
noncomputable def laidWorld (os : Os) : World :=
  { World.holding Tryz.prog os ⟨#[], #[], []⟩ with heap := (World.holding Tryz.prog os ⟨#[], #[], []⟩).heap.modify 0 fun
      | .cells _ t frozen => .cells masksC t frozen
      | o => o }
theorem laidWorld_row (os : Os) (args : Array Value) : ((laidWorld os).forCall (fun _ _ => 0) ⟨#[], args, []⟩).memory.heap[0]? = some (.cells masksC 195 (0, 0)) := by kernel_rfl
theorem laidWorld_met (os : Os) (args : Array Value) : laidMet Tryz.prog [("chamberlain/msg.masks", Rows.laid_chamberlain_msg_masks)] ((laidWorld os).forCall (fun _ _ => 0) ⟨#[], args, []⟩).memory := by
  refine ⟨_, ⟨0, 195, masksC, 8, [], [], by kernel_rfl, by kernel_rfl, by kernel_rfl, by kernel_rfl, rfl, rfl⟩, by decide, fun b off h => ?_⟩
  have h' : MemPlace.cell b off ∈ [MemPlace.cell 0 0, .cell 0 1, .cell 0 2, .cell 0 3, .cell 0 4, .cell 0 5, .cell 0 6, .cell 0 7, .cell 0 8, .cell 0 9] := h
  have hb : b = 0 := by simp at h'; omega
  subst hb
  refine ⟨⟨_, _, laidWorld_row os args⟩, fun u v hc => ?_⟩
  simp only [World.cell?, laidWorld_row os args] at hc
  simp at h'
  rcases h' with rfl | rfl | rfl | rfl | rfl | rfl | rfl | rfl | rfl | rfl <;> simp [masksC] at hc
end Go.Proofs.YtjhofkdcekdplaaGreatDoor.Abs
end

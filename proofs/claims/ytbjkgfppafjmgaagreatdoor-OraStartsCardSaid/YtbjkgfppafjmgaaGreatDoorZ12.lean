/- Texts that were merged: L12q, L12o, L17m, Q03c. -/
import Derived.Test.YtbjkgfppafjmgaaGreatDoorZ9
import Derived.Test.YtbjkgfppafjmgaaGreatDoorZ11
import Derived.Test.YtbjkgfppafjmgaaGreatDoorZ10
import Derived.Test.YtbjkgfppafjmgaaGreatDoorZ6
import Derived.Test.YtbjkgfppafjmgaaGreatDoorZ8
import Derived.Test.YtbjkgfppafjmgaaGreatDoorZ4
set_option linter.unusedSimpArgs false
set_option linter.unusedVariables false
set_option maxHeartbeats 8000000
set_option maxRecDepth 100000
namespace Go.Proofs.YtbjkgfppafjmgaaGreatDoor.Abs
open Go.RowKit
section
theorem openW_of {w : Wld} (h : rightB w.box = true) (k l hh : Int) : openW w k l hh = if (openP w.box k l hh).2 = true ∧ (getP l (openP w.box k l hh).1).2 = 0 then ((getP l (openP w.box k l hh).1).1, true) else (prt0, false) := by
 unfold openW; rw [open_eq h]
theorem opened_new {r : Int} {es : List Sealed} {key label hd : Int} {p : Prt} {A : Wld} (hA : A.box = ⟨r, es ++ [⟨hd, key, label, wordsP label p⟩]⟩) (hr : rightB A.box = true) (ht : thereB es hd = false) (hg : getP label (wordsP label p) = (p, 0)) (k l : Int) :
    openW A k l hd = if key = k ∧ label = l then (p, true) else (prt0, false) := by
  have e : openP A.box k l hd = if key = k ∧ label = l then (wordsP label p, true) else ([], false) := by
    rw [hA, openP_snoc]; simp [ht]
  by_cases hk : key = k ∧ label = l
  · obtain ⟨rfl, rfl⟩ := hk
    have e' : openP A.box key label hd = (wordsP label p, true) := by rw [e, if_pos ⟨rfl, rfl⟩]
    have g : ((wordsP label p, true) : List Int × Bool).2 = true ∧ (getP label ((wordsP label p, true) : List Int × Bool).1).2 = 0 := ⟨rfl, by show (getP label (wordsP label p)).2 = 0; rw [hg]⟩
    rw [openW_of hr, e', if_pos g, if_pos ⟨rfl, rfl⟩]
    show ((getP label (wordsP label p)).1, true) = (p, true)
    rw [hg]
  · have e' : openP A.box k l hd = ([], false) := by rw [e, if_neg hk]
    rw [openW_of hr, e', if_neg (fun h => by simp at h), if_neg hk]
end
end Go.Proofs.YtbjkgfppafjmgaaGreatDoor.Abs
section
end
namespace Go.Proofs.YtbjkgfppafjmgaaGreatDoor.Abs
open Go.RowKit
section
theorem frame_words {m : Mssg} {x : Int} (h : x ∈ putL m) : x < 2147483648 ∨ x = m.kind ∨ ∃ t, hasT m.kind t = true ∧ x = m.word t := by
 unfold putL at h
 split at h
 rotate_left
 ·simp at h
 unfold putM flatF at h
 rw [List.mem_flatMap] at h
 obtain ⟨f, hf, hx⟩ := h
 unfold fieldsM at hf
 rcases List.mem_cons.1 hf with rfl | hf
 ·simp only [wordsF1, List.length_singleton, List.mem_cons, List.not_mem_nil, or_false] at hx
  rcases hx with rfl | rfl | rfl
  ·left; decide
  ·left; decide
  ·exact .inr (.inl rfl)
 ·obtain ⟨t, ht, rfl⟩ := List.mem_map.1 hf
  have hr := kindTags_ok m.kind t ht
  simp only [wordsF1, List.length_singleton, List.mem_cons, List.not_mem_nil, or_false] at hx
  rcases hx with rfl | rfl | rfl
  ·left; omega
  ·left; decide
  ·exact .inr (.inr ⟨t, decide_eq_true ht, rfl⟩)
theorem word_six (m : Mssg) (t : Int) : m.word t = m.run ∨ m.word t = m.a ∨ m.word t = m.b ∨ m.word t = m.nonce ∨ m.word t = m.box ∨ m.word t = m.more := by
 unfold M7.word
 split
 ·exact .inl rfl
 split
 ·exact .inr (.inl rfl)
 split
 ·exact .inr (.inr (.inl rfl))
 split
 ·exact .inr (.inr (.inr (.inl rfl)))
 split
 ·exact .inr (.inr (.inr (.inr (.inl rfl))))
 ·exact .inr (.inr (.inr (.inr (.inr rfl))))
theorem frame_not {m : Mssg} {x : Int} (hx : 2147483648 ≤ x) (hk : m.kind < 2147483648) (h1 : x ≠ m.run) (h2 : x ≠ m.a) (h3 : x ≠ m.b) (h4 : x ≠ m.nonce) (h5 : x ≠ m.box) (h6 : x ≠ m.more) : hasB (putL m) x = false := by
 unfold hasB
 rw [List.any_eq_false]
 intro y hy e
 have e : y = x := by simpa using e
 subst e
 rcases frame_words hy with h | h | ⟨t, _, h⟩
 ·omega
 ·omega
 ·rcases word_six m t with g | g | g | g | g | g <;> rw [g] at h <;> contradiction
theorem SmallN.act {N M : Nat} {w : Wld} {a : Act} (h : SmallN N w) (hs : a.seals.length + M ≤ N) (hf : a.frames.length + M ≤ N) (he : a.evs.length + M ≤ N) (hd : a.draws + M ≤ N) (hp : ∀ s ∈ a.seals, s.plain.length < 1000000) : SmallN M (actW w a) := by
 refine ⟨?_, ?_, ?_, ?_, ?_, ?_, ?_⟩
 ·show (w.box.entries ++ a.seals).length + M < _
  have := h.ent; rw [List.length_append]; omega
 ·show ∀ s ∈ w.box.entries ++ a.seals, _
  intro s hs
  rcases List.mem_append.1 hs with h1 | h1
  ·exact h.plain s h1
  ·exact hp s h1
 ·show (w.net.grams ++ a.frames).length + M < _
  have := h.grams; rw [List.length_append]; omega
 ·show (w.net.seen ++ a.frames.map (·.words)).length + M < _
  have := h.seen; rw [List.length_append, List.length_map]; omega
 ·show (w.people.set a.who a.new).length < _
  have := h.people; rw [List.length_set]; exact this
 ·show (w.log ++ a.evs).length + M < _
  have := h.log; rw [List.length_append]; omega
 ·show 0 ≤ w.draws.next + (a.draws : Int) ∧ w.draws.next + (a.draws : Int) + (M : Int) < _
  have := h.next; omega
theorem wordsP_short (l : Int) (p : Prt) : (wordsP l p).length < 1000000 := by have := wordsP_len l p; omega
theorem drawnW2 (w : Wld) (h : 0 ≤ w.draws.next) : drawnW (drawW w) = dAt w.draws.list (w.draws.next.toNat + 1) := by
 show dAt w.draws.list (w.draws.next + 1).toNat = _
 rw [show (w.draws.next + 1).toNat = w.draws.next.toNat + 1 by omega]
theorem startO_seen {w : Wld} {a b : Int} (hf : formW w = true) (hd : ∀ x ∈ w.draws.list, 0 ≤ x) (h : (startOW w a b).2 = 0) : ∃ (i : Nat) (p P : Person) (hh : Int) (PP : List Person) (e : Event) (s : Sealed) (l : List Int), a = i ∧ w.people[i]? = some p ∧ 0 ≤ a ∧ 0 ≤ b ∧ a < 10 ∧ b < 10 ∧
    (startOW w a b).1 = { w with draws := ⟨w.draws.list, w.draws.next + 3⟩, box := ⟨w.box.room, w.box.entries ++ [s]⟩, net := ⟨w.net.room, w.net.grams ++ [⟨b, l⟩], w.net.seen ++ [l]⟩, people := PP, log := w.log ++ [e] } ∧ PP = w.people.set i P ∧
    P = putRun p ⟨2, 1, b, drawnW (drawW w), 0, drawnW w, 0, 0, 1⟩ ∧ 2147483648 ≤ drawnW w ∧ 2147483648 ≤ drawnW (drawW w) ∧ getM l = ((⟨6, drawnW w, a, b, 0, hh, 0⟩ : Mssg), 0) ∧
    (∀ key, openW (startOW w a b).1 key 6 hh = if p.key = key then (⟨drawnW (drawW w), drawnW w, a, b, 0, 0, 0⟩, true) else (prt0, false)) ∧ (drawnW (drawW w) ≠ drawnW w → drawnW (drawW w) ≠ hh → hasB l (drawnW (drawW w)) = false) ∧ s.plain.length < 1000000 ∧
    (w.draws.next ≤ 1048567 → formW (startOW w a b).1 = true) := by
  obtain ⟨i, p, e1, e2, e3, e4, e5, e6, e7, e8, e9⟩ := startOW_ok hf h
  obtain ⟨_, a2, _, a4, _, b1, _, _, b4, _⟩ := formW_iff hf
  have a4' := of_decide_eq_true a4
  obtain ⟨_, q1, q2, q3, q4⟩ := pairPl_iff b1 e4
  have q5 := (right_names b1).1
  have r6 := roomW_iff e6
  have hk : 2147483648 ≤ drawnW w := dAt_ge hd _
  have hk2 : 2147483648 ≤ drawnW (drawW w) := dAt_ge hd _
  have hm : mayM (⟨6, drawnW w, a, b, 0, drawnW (drawW (drawW w)), 0⟩ : Mssg) = true := by simp [mayM, fitsM, hasT, kindTags, isKindB, M7.word]
  have hL : putL (⟨6, drawnW w, a, b, 0, drawnW (drawW (drawW w)), 0⟩ : Mssg) = putM ⟨6, drawnW w, a, b, 0, drawnW (drawW (drawW w)), 0⟩ := by unfold putL; rw [if_pos hm]
  have hR : rightB ⟨w.box.room, w.box.entries ++ [⟨drawnW (drawW (drawW w)), p.key, 6, wordsP 6 ⟨drawnW (drawW w), drawnW w, a, b, 0, 0, 0⟩⟩]⟩ = true := right_snoc (by simpa using a2) (by omega) (by dsimp only; exact wordsP_le _ _) e7
  refine ⟨i, p, _, drawnW (drawW (drawW w)), _, _, _, putL ⟨6, drawnW w, a, b, 0, drawnW (drawW (drawW w)), 0⟩, e1, e2, by omega, by omega, by omega, by omega, by rw [e9]; rfl, rfl, rfl, hk, hk2, ?_, ?_, ?_, by dsimp only; exact wordsP_short _ _, ?_⟩
  · rw [hL]; exact get_put hm
  · intro key
    have := opened_new (A := (startOW w a b).1) (r := w.box.room) (es := w.box.entries) (key := p.key) (label := 6) (hd := drawnW (drawW (drawW w))) (p := ⟨drawnW (drawW w), drawnW w, a, b, 0, 0, 0⟩) (by rw [e9]; rfl) (by rw [e9]; exact hR) e7 e8 key 6
    rw [this]
    simp
  · intro n1 n2
    exact frame_not hk2 (show (6 : Int) < _ by decide) n1 (show drawnW (drawW w) ≠ a by omega) (show drawnW (drawW w) ≠ b by omega) (show drawnW (drawW w) ≠ 0 by omega) n2 (show drawnW (drawW w) ≠ 0 by omega)
  · intro hn
    exact startOW_form hf (by omega) a b
theorem shareA_seen {w : Wld} {me : Int} {m : Mssg} (hf : formW w = true) (h1 : 1 ≤ me) (h2 : me < (w.people.length : Int)) (h : (shareAW w me m).2 = 0) : ∃ (i j : Nat) (p P : Person) (r s : Run) (b : Prt) (PP : List Person), me = i ∧ w.people[i]? = some p ∧ p.runs[j]? = some r ∧ P.runs[j]? = some s ∧
    (shareAW w me m).1 = { w with people := PP, log := w.log ++ [⟨4, 2, 1, me, r.peer, b.k, 0, r.m, r.mine, p.clock⟩] } ∧ PP = w.people.set i P ∧ P = { p with runs := p.runs.set j s } ∧ formW (shareAW w me m).1 = true ∧
    openW w p.key 9 m.box = (b, true) ∧ b.n = r.mine ∧ r.m = m.run ∧ r.state = 1 ∧ s.state = 3 ∧ s.k = b.k := by
  obtain ⟨i, j, p, r, b, e1, e2, e3, e4, e5, e6, e7, e8, e9, e10, e11⟩ := shareAW_ok hf h1 h2 h
  have hj := (List.getElem?_eq_some_iff.1 e4).1
  obtain ⟨_, a2, _, a4, _, b1, _, _, b4, _⟩ := formW_iff hf
  have a4' := of_decide_eq_true a4
  refine ⟨i, j, p, { p with runs := p.runs.set j { r with k := b.k, state := 3 } }, r, { r with k := b.k, state := 3 }, b, w.people.set i { p with runs := p.runs.set j { r with k := b.k, state := 3 } }, e1, e2, e4, ?_, ?_, rfl, rfl, ?_, e9, e10, e8, e7, rfl, rfl⟩
  · show (p.runs.set j _)[j]? = _; rw [List.getElem?_set]; simp [hj]
  · rw [e11]; simp [actW]
  · rw [e11]
    refine act_form hf (by show w.draws.next + ((0 : Nat) : Int) ≤ _; have := b4.2; omega) (by simpa using a2) (by simpa using a4'.2.2) (by simp) e2 ((right_names b1).2 i p e2) (run_form (person_form hf e2) e4 rfl rfl (.inr (.inr rfl)))
theorem shareA_rest {w : Wld} {i j : Nat} {p : Person} {s : Run} {m : Mssg} (hf : formW w = true) (h1 : 1 ≤ (i : Int)) (hx : w.people[i]? = some p) (hs : p.runs[j]? = some s) (hn : s.state ≠ 1) : (shareAW w (i : Int) m).1.people.length = w.people.length ∧ ∃ Q : Person, (shareAW w (i : Int) m).1.people[i]? = some Q ∧ Q.runs.length = p.runs.length ∧ Q.runs[j]? = some s := by
 by_cases h : (shareAW w (i : Int) m).2 = 0
 ·obtain ⟨i', k, p', P, r, s', b, PP, e1, e2, e3, e4, e5, e6, e7, _, _, _, _, e8, _⟩ := shareA_seen hf h1 (by have := (List.getElem?_eq_some_iff.1 hx).1; omega) h
  have : i = i' := by omega
  subst this
  rw [hx] at e2; cases e2
  have hi := (List.getElem?_eq_some_iff.1 hx).1
  rw [e5, e6]
  refine ⟨by simp, P, by simp [hi], by rw [e7]; simp, ?_⟩
  rw [e7]
  show (p.runs.set k s')[j]? = some s
  rw [List.getElem?_set, if_neg ?_]
  ·exact hs
  ·rintro rfl
   rw [hs] at e3; cases e3
   exact hn e8
 ·rw [shareAW_err h]
  exact ⟨rfl, p, hx, rfl, hs⟩
end
section
def foldTo (K : Int) (R : List Fld) (j : Nat) : M7 := (R.take j).foldl setF (onlyK K)
theorem foldTo_next {K : Int} {R : List Fld} {j : Nat} {x : Fld} (hx : R[j]? = some x) : foldTo K R (j + 1) = setF (foldTo K R j) x := by
 unfold foldTo
 rw [List.take_add_one, hx]
 simp
theorem foldTo_kind (K : Int) (R : List Fld) (j : Nat) : (foldTo K R j).kind = K := foldl_kind _ _
theorem foldTo_all (K : Int) (R : List Fld) : foldTo K R R.length = foldM K R := by unfold foldTo foldM; rw [List.take_length]
theorem q03_get (l : List Int) : ACalls Tryz.prog 17 [.one (eWords l)] (.tup [.agg (eMssg (getM l).1), .one (i64 (getM l).2)]) := by
  refine ACalls.introF (fn := Tryz.f17) Tryz.func17 rfl rfl (by simp [Tryz.f17]) fun hf => ?_
  have hr := (fineWords (hf _ (by simp) : FineCA (.one (eWords l)))).2
  clear hf
  have h0 : ∀ x ∈ l, 0 ≤ x := fun x hx => (hr x hx).1
  have hread := getF_read l h0
  have hlen := getF_len h0
  have hq := q02_get l
  unfold Tryz.f17
  generalize hE : (getF l).2 = E at hq hread
  generalize hFF : (getF l).1 = F at hq hread hlen
  simp only [eWords, eFlds, eMssg] at *
  by_cases he : E = 0
  · have hG : getM l = finM F := by rw [getM_ok (by rw [hE, he]), hFF]
    have hflat : flatF F = l := by
      rcases hread with ⟨_, h2, _⟩ | ⟨_, h2⟩ | ⟨_, h2⟩
      · exact h2
      · omega
      · omega
    have he' : (E != 0) = false := by simp [he]
    subst he
    rw [hG]
    clear hG hread hE hFF
    cases hF0 : F with
    | nil =>
      subst hF0
      refine wk he' hq T0 (J2 ?_ T0)
      all_goals ((repeat intro h); refine ⟨?_⟩)
      rfl
    | cons f R =>
      obtain ⟨t, d⟩ := f
      have f0 : F[0]? = some (t, d) := by rw [hF0]; rfl
      have fl : 0 < F.length := by rw [hF0]; simp
      have fl0 : ((F.length : Int) == 0) = false := by rw [beq_eq_false_iff_ne]; omega
      by_cases t1 : t = 1
      · subst t1
        by_cases d1 : (d.length : Int) = 1
        · obtain ⟨K, rfl⟩ : ∃ K, d = [K] := ⟨_, getD_one (by omega)⟩
          by_cases hk : isKindB K = true
          · have hk1 := of_decide_eq_true hk
            have c1 : ¬ K < 1 := by omega
            have c2 : ¬ 9 < K := by omega
            have hFR : ∀ j, F[j + 1]? = R[j]? := fun j => by rw [hF0]; simp
            have hFl : F.length = R.length + 1 := by rw [hF0]; simp
            refine wk (J9 he' f0 fl fl0 c1 c2 eFld.eq_1 eWords.eq_1 eWord.eq_1) hq T0 (J2 ?_ T0)
            all_goals ((repeat intro h); refine ⟨?_⟩)
            refine AW.loopW (fun n σ => ∃ j : Nat, n = R.length - j ∧ j ≤ R.length ∧ (∀ g ∈ R.take j, hasT K g.1 = true) ∧ σ = ⟨136, (upd (upd (upd (upd (upd (fun _ => .junk) 0 (.one (.c (.row (l.map eWord))))) 2 (.one (.ptr 2 0))) 4 (.one (.c (.row (F.map eFld))))) 6 (.one (.ptr 6 0))) 7 (.one (.c (i64 ((j + 1 : Nat) : Int))))), (upd (upd (fun _ => none) 2 (some (.box [.c (u32 0), .c (u32 0), .c (u32 0), .c (u32 0), .c (u32 0), .c (u32 0), .c (u32 0)]))) 6 (some (.box ((eMssg (foldTo K R j)).map .c))))⟩) (n := R.length) _ ⟨0, rfl, Nat.zero_le _, by simp, rfl⟩ (by simp only [foldTo, List.take_zero, List.foldl_nil, onlyK, eMssg, List.map_cons, List.map_nil]; exact lz T0) ?_
            rintro n σ ⟨j, rfl, hj, ht, rfl⟩
            have hkd := foldTo_kind K R j
            by_cases hlt : j < R.length
            · obtain ⟨x, hx⟩ : ∃ x, R[j]? = some x := ⟨_, List.getElem?_eq_getElem hlt⟩
              have hfx := (hFR j).trans hx
              have hnx := foldTo_next (K := K) hx
              have hli : ((j + 1 : Nat) : Int) < (F.length : Int) := by omega
              have hlj : j + 1 < F.length := by omega
              have hs := wrapI (x := ((j + 1 : Nat) : Int) + 1) (by omega) (by omega)
              obtain ⟨tt, dd⟩ := x
              have hh := q03_has K tt
              generalize foldTo K R j = M at *
              obtain ⟨mk, m1, m2, m3, m4, m5, m6⟩ := M
              simp only at hkd
              subst hkd
              simp only [eMssg, List.map_cons, List.map_nil]
              by_cases dd1 : (dd.length : Int) = 1
              · obtain ⟨v, rfl⟩ : ∃ v, dd = [v] := ⟨_, getD_one (by omega)⟩
                cases hT : hasT mk tt
                · rw [hT] at hh
                  have e : finM ((1, [mk]) :: R) = (zeroM, 2) := ref_fin_no hk (f := (tt, [v])) (List.mem_of_getElem? hx) (fun h => by rw [hT] at h; simp at h)
                  rw [e]
                  simp only [rB] at hh
                  refine wk (J6 hli hlj hfx eFld.eq_1 eWords.eq_1 eWord.eq_1) hh T0 (J2 ?_ T0)
                  all_goals ((repeat intro h); refine ⟨?_⟩)
                  all_goals rfl
                · rw [hT] at hh
                  have hnext : ∀ g ∈ R.take (j + 1), hasT mk g.1 = true := by
                    intro g hg
                    rw [List.take_add_one, hx] at hg
                    simp only [Option.toList_some, List.mem_append, List.mem_singleton] at hg
                    rcases hg with hg | rfl
                    · exact ht g hg
                    · exact hT
                  have hr7 := kindTags_ok mk tt (of_decide_eq_true hT)
                  simp only [rB] at hh
                  rcases tags hr7 with rfl | rfl | rfl | rfl | rfl | rfl <;> clear hr7
                  all_goals repeat' (first
    | (refine hC ?_ ?_ ?_ ?_ ?_
       rotate_left
       · rfl
       · simp only [go_sem, ↓reduceIte, reduceCtorEq, Nat.reduceLT, Nat.reduceEqDiff, Nat.reduceBEq, Nat.reduceAdd, Nat.reduceSub, Nat.reduceMul, Nat.reduceLeDiff, Int.reduceLE, Int.reduceLT, Int.reduceNeg, Int.reduceEq, Int.reduceBEq, Int.reduceBNe, Int.reduceToNat, hli, hlj, hfx, hs, eFld, eWords, eWord]
       · simp only [go_sem, ↓reduceIte, reduceCtorEq, Nat.reduceLT, Nat.reduceEqDiff, Nat.reduceBEq, Nat.reduceAdd, Nat.reduceSub, Nat.reduceMul, Nat.reduceLeDiff, Int.reduceLE, Int.reduceLT, Int.reduceNeg, Int.reduceEq, Int.reduceBEq, Int.reduceBNe, Int.reduceToNat, hli, hlj, hfx, hs, eFld, eWords, eWord]
         first | (refine And.intro ?_ ?_; exact hh; first | exact trivial | (simp only [go_sem, ↓reduceIte, reduceCtorEq, Nat.reduceLT, Nat.reduceEqDiff, Nat.reduceBEq, Nat.reduceAdd, Nat.reduceSub, Nat.reduceMul, Nat.reduceLeDiff, Int.reduceLE, Int.reduceLT, Int.reduceNeg, Int.reduceEq, Int.reduceBEq, Int.reduceBNe, Int.reduceToNat, hli, hlj, hfx, hs, eFld, eWords, eWord]; done)) | (refine And.intro (ACalls.args (k := ?_) ?_ ?_) ?_; rotate_left; exact hh; repeat' (first | exact trivial | exact Or.inl ⟨rfl, rfl⟩ | exact Or.inr rfl | apply And.intro))
       simp only [go_sem, ↓reduceIte, reduceCtorEq, Nat.reduceLT, Nat.reduceEqDiff, Nat.reduceBEq, Nat.reduceAdd, Nat.reduceSub, Nat.reduceMul, Nat.reduceLeDiff, Int.reduceLE, Int.reduceLT, Int.reduceNeg, Int.reduceEq, Int.reduceBEq, Int.reduceBNe, Int.reduceToNat, hli, hlj, hfx, hs, eFld, eWords, eWord])
    | (refine hK _ _ ?_; clear hK hC; clear K C)
    | (refine hK _ _ rfl ?_; clear hK hC; clear K C)
    | (refine hK _ _ (by simp only [crs, crsI, alfO, alfL, Nat.reduceLT]; rfl) ?_; clear hK hC; clear K C)
    | (refine AW.seqR fun K C hK hC => ?_; simp only [go_sem, ↓reduceIte, reduceCtorEq, Nat.reduceLT, Nat.reduceEqDiff, Nat.reduceBEq, Nat.reduceAdd, Nat.reduceSub, Nat.reduceMul, Nat.reduceLeDiff, Int.reduceLE, Int.reduceLT, Int.reduceNeg, Int.reduceEq, Int.reduceBEq, Int.reduceBNe, Int.reduceToNat, hli, hlj, hfx, hs, eFld, eWords, eWord])
    | (refine AW.seqD rfl fun K C hK hC => ?_; simp only [go_sem, ↓reduceIte, reduceCtorEq, Nat.reduceLT, Nat.reduceEqDiff, Nat.reduceBEq, Nat.reduceAdd, Nat.reduceSub, Nat.reduceMul, Nat.reduceLeDiff, Int.reduceLE, Int.reduceLT, Int.reduceNeg, Int.reduceEq, Int.reduceBEq, Int.reduceBNe, Int.reduceToNat, hli, hlj, hfx, hs, eFld, eWords, eWord])
    | (refine AW.reg fun K C hK hC => ?_; simp only [go_sem, ↓reduceIte, reduceCtorEq, Nat.reduceLT, Nat.reduceEqDiff, Nat.reduceBEq, Nat.reduceAdd, Nat.reduceSub, Nat.reduceMul, Nat.reduceLeDiff, Int.reduceLE, Int.reduceLT, Int.reduceNeg, Int.reduceEq, Int.reduceBEq, Int.reduceBNe, Int.reduceToNat, hli, hlj, hfx, hs, eFld, eWords, eWord])
    | (refine AW.regD rfl fun K C hK hC => ?_; simp only [go_sem, ↓reduceIte, reduceCtorEq, Nat.reduceLT, Nat.reduceEqDiff, Nat.reduceBEq, Nat.reduceAdd, Nat.reduceSub, Nat.reduceMul, Nat.reduceLeDiff, Int.reduceLE, Int.reduceLT, Int.reduceNeg, Int.reduceEq, Int.reduceBEq, Int.reduceBNe, Int.reduceToNat, hli, hlj, hfx, hs, eFld, eWords, eWord])
    | refine AW.seqS ?_
    | (refine AW.ret ?_; simp only [go_sem, ↓reduceIte, reduceCtorEq, Nat.reduceLT, Nat.reduceEqDiff, Nat.reduceBEq, Nat.reduceAdd, Nat.reduceSub, Nat.reduceMul, Nat.reduceLeDiff, Int.reduceLE, Int.reduceLT, Int.reduceNeg, Int.reduceEq, Int.reduceBEq, Int.reduceBNe, Int.reduceToNat, hli, hlj, hfx, hs, eFld, eWords, eWord])
    | (refine AW.cond rfl (fun h => ?_) (fun h => ?_) <;> (try simp only [decide_eq_true_eq, decide_eq_false_iff_not, bne_iff_ne, beq_iff_eq, bne_eq_false_iff_eq, beq_eq_false_iff_ne, ne_eq, ge_iff_le, gt_iff_lt, Bool.not_eq_true, Bool.not_eq_false, Bool.not_not, Bool.not_true, Bool.not_false, Int.not_le, Int.not_lt, not_true_eq_false, not_false_eq_true, reduceCtorEq, Bool.false_eq_true, Bool.not_eq_true', Bool.not_eq_false'] at h) <;> first | (exfalso; omega) | skip)
    | refine AW.skip ?_
    | refine AW.seq ?_
    | refine AW.block ?_
    | (refine AW.exit ?_; simp only [go_sem, ↓reduceIte, reduceCtorEq, Nat.reduceLT, Nat.reduceEqDiff, Nat.reduceBEq, Nat.reduceAdd, Nat.reduceSub, Nat.reduceMul, Nat.reduceLeDiff, Int.reduceLE, Int.reduceLT, Int.reduceNeg, Int.reduceEq, Int.reduceBEq, Int.reduceBNe, Int.reduceToNat, hli, hlj, hfx, hs, eFld, eWords, eWord])
    | (refine ite_on (fun h => ?_) (fun h => ?_) <;> (try simp only [decide_eq_true_eq, decide_eq_false_iff_not, bne_iff_ne, beq_iff_eq, bne_eq_false_iff_eq, beq_eq_false_iff_ne, ne_eq, ge_iff_le, gt_iff_lt, Bool.not_eq_true, Bool.not_eq_false, Bool.not_not, Bool.not_true, Bool.not_false, Int.not_le, Int.not_lt, not_true_eq_false, not_false_eq_true, reduceCtorEq, Bool.false_eq_true, Bool.not_eq_true', Bool.not_eq_false'] at h) <;> first | (exfalso; omega) | skip)
    | rw [thenN]
    | rw [blockN]
    | rw [scopeN]
    | refine AW.scope ?_
    | refine AW.label ?_
    | refine And.intro ?_ ?_
    | refine lcons rfl ?_
    | exact lGram _
    | exact lSeen _
    | exact lWord _
    | exact lSealed _
    | exact lRun _
    | exact lPerson _
    | exact lEvent _
    | exact lLeak _
    | exact lNum _
    | exact lOprn _
    | exact in64 (by omega) (by omega)
    | exact in32 (by omega) (by omega)
    | omega)
                  all_goals refine ⟨R.length - (j + 1), by omega, _, ⟨j + 1, rfl, by omega, hnext, rfl⟩, ?_⟩
                  all_goals rw [hnx]
                  all_goals simp only [setF, M7.set, List.getD_cons_zero, if_true, reduceIte, Int.reduceEq, eMssg, List.map_cons, List.map_nil]
                  all_goals exact lz T0
              · have dd1' : ((dd.length : Int) != 1) = true := by simpa using dd1
                have e : finM ((1, [mk]) :: R) = (zeroM, 2) := ref_fin_no hk (f := (tt, dd)) (List.mem_of_getElem? hx) (fun h => dd1 (by have := h.1; simp only at this; omega))
                rw [e]
                refine wk (J7 hli hlj hfx dd1' eFld.eq_1 eWords.eq_1 eWord.eq_1) T0 T0 (J2 ?_ T0)
                all_goals ((repeat intro h); refine ⟨?_⟩)
                all_goals rfl
            · obtain rfl : j = R.length := by omega
              rw [List.take_length] at ht
              rw [foldTo_all]
              have hli : ¬ ((R.length + 1 : Nat) : Int) < (F.length : Int) := by omega
              have hfin := ref_fin hk ht l (by rw [← hF0]; exact hflat)
              have hp := q03_put (foldM K R)
              have hsm := q01_same (putL (foldM K R)) l
              rw [hfin]
              unfold sameB
              generalize foldM K R = M at *
              generalize putE M = pe at *
              simp only [eWords, eMssg, rB] at *
              by_cases hs : putL M = l
              · rw [decide_eq_true hs] at hsm ⊢
                refine wk hli (J2 hp hsm) T0 T0
              · rw [decide_eq_false hs] at hsm ⊢
                refine wk hli (J2 hp hsm) T0 (J2 ?_ T0)
                all_goals ((repeat intro h); refine ⟨?_⟩)
                all_goals rfl
          · have hk' : isKindB K = false := by simpa using hk
            have hn := of_decide_eq_false hk'
            have e : finM ((1, [K]) :: R) = (zeroM, 4) := finM_bad (decide_eq_false fun h => hn (by simpa using h.2.2))
            rw [e]
            by_cases c1 : K < 1
            · refine wk (J8 he' f0 fl fl0 c1 eFld.eq_1 eWords.eq_1 eWord.eq_1) hq T0 (J2 ?_ T0)
              all_goals ((repeat intro h); refine ⟨?_⟩)
              all_goals rfl
            · have c2 : 9 < K := by omega
              refine wk (J9 he' f0 fl fl0 c1 c2 eFld.eq_1 eWords.eq_1 eWord.eq_1) hq T0 (J2 ?_ T0)
              all_goals ((repeat intro h); refine ⟨?_⟩)
              all_goals rfl
        · have d1' : ((d.length : Int) != 1) = true := by simpa using d1
          have e : finM ((1, d) :: R) = (zeroM, 4) := finM_bad (decide_eq_false fun h => d1 (by have := h.2.1; simp only at this; omega))
          rw [e]
          refine wk (J8 he' f0 fl fl0 d1' eFld.eq_1 eWords.eq_1 eWord.eq_1) hq T0 (J2 ?_ T0)
          all_goals ((repeat intro h); refine ⟨?_⟩)
          all_goals rfl
      · have t1' : (t != 1) = true := by simpa using t1
        have e : finM ((t, d) :: R) = (zeroM, 4) := finM_bad (decide_eq_false fun h => t1 h.1)
        rw [e]
        refine wk (J8 he' f0 fl fl0 t1' eFld.eq_1 eWords.eq_1 eWord.eq_1) hq T0 (J2 ?_ T0)
        all_goals ((repeat intro h); refine ⟨?_⟩)
        all_goals rfl
  · have e : getM l = (zeroM, E) := by rw [getM_err (by rw [hE]; exact he), hE]
    rw [e]
    have he' : (E != 0) = true := by simpa using he
    refine wk he' hq T0 (J2 ?_ T0)
    all_goals ((repeat intro h); refine ⟨?_⟩)
    all_goals rfl
end
end Go.Proofs.YtbjkgfppafjmgaaGreatDoor.Abs

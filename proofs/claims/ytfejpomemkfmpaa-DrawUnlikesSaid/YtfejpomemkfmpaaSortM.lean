/- The library's sort of words, at whatever length up to a million; the program's Unlike. -/
import Derived.Test.YtfejpomemkfmpaaSortL
import Derived.Test.YtfejpomemkfmpaaUnlike
namespace Go.Proofs.Ytfejpomemkfmpaa
open Go.RowKit

set_option maxHeartbeats 1000000 in
theorem sort_any (base g n cap : Nat) (D : List Int) (w : World) (hR : SRow w base g n cap D) (hn : n ≤ 1000000) :
    Calls Try.prog 22 #[.slice (some ⟨g, 0, none⟩) n cap] w (Sorts 0 n base g n cap D w) := by
  have hl := bitLen_small n hn
  have HP := Lib.hid (pdq_any base g n cap hn (n + 1) 0 n (Lib.bitLen n) D w (by omega) hR (Nat.zero_le _) (Nat.le_refl _) (by omega) (fun h => by omega))
  have e1 : (n : Int).toNat = n := by omega
  have HE := Lib.hid e1
  clear hR hl e1
  go_enter Try.func22, Try.ntmps22
  go_wp2_with fail
  refine (len_any n _ (by omega) (by omega)).mono ?_
  rintro e w1 ⟨rfl, rfl⟩
  rw [HE.out]
  go_wp2_with fail
  refine HP.out.mono ?_
  rintro e w1 ⟨rfl, hs⟩
  have HS := Lib.hid hs; clear hs
  go_wp2_with fail
  go_end0
  exact ⟨rfl, HS.out⟩
theorem unlike_any (v : Value) (L : List Int) (w : World) (h : Ints .u32 w v L) (hn : L.length ≤ 1000000) :
    Calls Try.prog 16 #[v] w fun e w' => e = .returned (.bool (unlikeB L)) ∧ Below w.heap.size w w' :=
  unlike_of v L w h hn fun wx g cap hR => sort_any _ g _ cap L wx hR hn
end Go.Proofs.Ytfejpomemkfmpaa

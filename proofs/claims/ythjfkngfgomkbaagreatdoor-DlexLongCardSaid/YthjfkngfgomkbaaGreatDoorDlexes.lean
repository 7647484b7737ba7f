/- The law DlexLexes answers true, in every world that holds the listed variables. -/
import Derived.Test.YthjfkngfgomkbaaGreatDoorDlaws
import Derived.Test.YthjfkngfgomkbaaGreatDoorRlex
import Derived.Test.YthjfkngfgomkbaaGreatDoorR2same
namespace Go.Proofs.YthjfkngfgomkbaaGreatDoor
open Go.RowKit

set_option maxRecDepth 100000 in
set_option maxHeartbeats 4000000 in
theorem dlexLexes_c (s : ByteArray) (a b c : Addr) (w : World) (hs : s.size ≤ maxLen) (E : LEnv a b c w) :
    Calls Tryz.prog 3 #[.string s] w fun e w' => e = .returned (.bool true) ∧ Below w.heap.size w w' := by
  have HE := Lib.hid E
  have Hs := Lib.hid hs
  clear E hs
  have hcs : (cutS s).size ≤ 3000 := cutS_size s
  have Hlex := Lib.hid (fun (W : World) (EW : LEnv a b c W) => lexE_c (cutS s) a b c W (by omega) EW)
  have Href := Lib.hid (fun (W : World) => rlex_c (cutS s) W (by unfold maxLen; omega) (fun _ _ _ => by omega))
  obtain ⟨r, hr⟩ : ∃ r, lexR (cutS s).data.toList = r := ⟨_, rfl⟩
  rw [hr] at Hlex Href
  obtain ⟨ts, n, e0⟩ := r
  clear hr
  go_enter Tryz.func3, Tryz.ntmps3
  go_wp2_with fail
  refine (dshown_c a b c _ HE.out).mono ?_
  rintro e w1 ⟨rfl, b1⟩
  go_wp2_with fail
  refine (cut_c s _ Hs.out).mono ?_
  rintro e w' ⟨rfl, rfl⟩
  go_wp2_with fail
  refine (Hlex.out _ (HE.out.below b1)).mono ?_
  rintro e w2 ⟨v, rfl, hown, b2⟩
  have S2 := Lib.hid (SliceOf.of_own hown)
  clear hown
  go_wp2_with fail
  refine (Href.out _).mono ?_
  rintro e w3 ⟨u, rfl, hown, b3⟩
  have S3 := Lib.hid (SliceOf.of_own hown)
  clear hown
  have S2' := Lib.hid ((S2.out.below b3).more b3.size)
  go_wp2_with fail
  refine (r2same_c v u _ w3 S2'.out S3.out).mono ?_
  rintro e w4 ⟨rfl, b4⟩
  go_wp2
  go_ret
  exact ⟨rfl, chain2 (chain3 b1 b2 b3) b4⟩
end Go.Proofs.YthjfkngfgomkbaaGreatDoor

/- What the laws of package dlex share: their first bytes, their head, and whether two slices of tokens are alike. -/
import Derived.Test.YthjfkngfgomkbaaGreatDoorDslice
import Derived.Deep.QuietTactic
import Derived.BigQuiet
namespace Go.Proofs.YthjfkngfgomkbaaGreatDoor
open Go.RowKit

structure LEnv (a b c : Addr) (w : World) : Prop where
  env : DEnv a b c w
  rb : RowAt b w
  rc : RowAt c w
theorem LEnv.below {a b c : Addr} {w w' : World} (h : LEnv a b c w) (hb : Below w.heap.size w w') : LEnv a b c w' := ⟨h.env.below hb, h.rb.below hb, h.rc.below hb⟩
theorem lexE_c (s : ByteArray) (a b c : Addr) (w : World) (hs : s.size ≤ 1073741823) (E : LEnv a b c w) :
    Calls Tryz.prog 9 #[.string s] w (LexPost w (lexR s.data.toList)) := lex_c s a b c w hs E.env E.rb E.rc

def cutS (s : ByteArray) : ByteArray := s.extract 0 (min (s.size : Int) 3000).toNat
theorem cutS_size (s : ByteArray) : (cutS s).size ≤ 3000 := by unfold cutS; simp; omega
theorem cut_c (s : ByteArray) (w : World) (hs : s.size ≤ maxLen) :
    Calls Tryz.prog 8 #[.string s] w fun e w' => e = .returned (.string (cutS s)) ∧ w = w' := by
  unfold maxLen at hs
  go_enter Tryz.func8, Tryz.ntmps8
  go_wp2
  go_ret
  exact ⟨rfl, rfl⟩

instance : DecidableEq Tk := fun x y => decidable_of_iff (x.kind = y.kind ∧ x.s = y.s ∧ x.line = y.line) ⟨fun ⟨h1, h2, h3⟩ => by cases x; cases y; simp_all, fun h => by subst h; exact ⟨rfl, rfl, rfl⟩⟩
def knownL : List Tk := [⟨1, [112], 1⟩, ⟨4, [40], 1⟩, ⟨1, [120], 1⟩, ⟨4, [41], 1⟩, ⟨4, [58, 45], 1⟩, ⟨1, [113], 1⟩, ⟨4, [40], 1⟩, ⟨1, [120], 1⟩, ⟨4, [41], 1⟩, ⟨4, [46], 1⟩]
theorem lex_known : lexR [112, 40, 120, 41, 32, 58, 45, 32, 113, 40, 120, 41, 46, 32, 47, 47, 32, 99] = (knownL, 0, 0) := by decide +kernel
theorem lex_wrong : lexR [10, 49, 97] = ([], 2, 20) := by decide +kernel

set_option maxHeartbeats 2000000 in
theorem dshown_c (a b c : Addr) (w : World) (E : LEnv a b c w) :
    Calls Tryz.prog 7 #[] w fun e w' => e = .returned (.bool true) ∧ Below w.heap.size w w' := by
  have h1 := lexE_c ⟨#[112, 40, 120, 41, 32, 58, 45, 32, 113, 40, 120, 41, 46, 32, 47, 47, 32, 99]⟩ a b c w (by decide) E
  rw [show (⟨#[112, 40, 120, 41, 32, 58, 45, 32, 113, 40, 120, 41, 46, 32, 47, 47, 32, 99]⟩ : ByteArray).data.toList = [112, 40, 120, 41, 32, 58, 45, 32, 113, 40, 120, 41, 46, 32, 47, 47, 32, 99] from rfl, lex_known] at h1
  have H1 := Lib.hid h1
  have HE := Lib.hid E
  clear h1 E
  go_enter Tryz.func7, Tryz.ntmps7
  go_wp2_with fail
  refine H1.out.mono ?_
  rintro e w1 ⟨v, rfl, hown, b1⟩
  have h2 := lexE_c ⟨#[10, 49, 97]⟩ a b c w1 (by decide) (HE.out.below b1)
  rw [show (⟨#[10, 49, 97]⟩ : ByteArray).data.toList = [10, 49, 97] from rfl, lex_wrong] at h2
  have H2 := Lib.hid h2
  clear h2
  rcases hown.2 with ⟨rfl, h0⟩ | ⟨g, cap, cur, rfl, hg, hh, hn, hc, _⟩
  · exact absurd h0 (by decide)
  have hcs := hown.cells (g := g) rfl
  have hglt : g < w1.heap.size := (Array.getElem?_eq_some_iff.1 hh).1
  have c13 : w1.cell? ⟨g, 13, none⟩ = some (.string ⟨#[58, 45]⟩) := hcs 13 _ rfl
  have c28 : w1.cell? ⟨g, 28, none⟩ = some (.string ⟨#[46]⟩) := hcs 28 _ rfl
  have hcap : 10 ≤ cap := hn
  have hlen : (knownL.length : Nat) = 10 := rfl
  clear hown hh hn hcs hg
  simp only [hlen]
  clear hlen
  go_wp2_with fail
  refine H2.out.mono ?_
  rintro e w2 ⟨v, rfl, hown2, b2⟩
  have d13 := (b2.cell (p := ⟨g, 13, none⟩) hglt).trans c13
  have d28 := (b2.cell (p := ⟨g, 28, none⟩) hglt).trans c28
  clear c13 c28 hown2
  go_wp2
  go_ret
  exact ⟨rfl, chain2 b1 b2⟩

def alikeB : List TokI → List TokI → Bool
  | [], [] => true
  | t :: ts, u :: us => (t.kind == u.kind) && (t.s.toList == u.s.toList) && alikeB ts us
  | _, _ => false
theorem alikeB_len : ∀ {ts us : List TokI}, ts.length ≠ us.length → alikeB ts us = false
  | [], [], h => absurd rfl h
  | [], _ :: _, _ => rfl
  | _ :: _, [], _ => rfl
  | t :: ts, u :: us, h => by
    unfold alikeB
    rw [alikeB_len (ts := ts) (us := us) (by simpa using h), Bool.and_false]
theorem alikeB_drop {ts us : List TokI} {k : Nat} {t u : TokI} (ht : ts[k]? = some t) (hu : us[k]? = some u) : alikeB (ts.drop k) (us.drop k) = ((t.kind == u.kind) && (t.s.toList == u.s.toList) && alikeB (ts.drop (k + 1)) (us.drop (k + 1))) := by
  have h1 : ts.drop k = t :: ts.drop (k + 1) := by rw [List.drop_eq_getElem_cons (List.getElem?_eq_some_iff.1 ht).1, (List.getElem?_eq_some_iff.1 ht).2]
  have h2 : us.drop k = u :: us.drop (k + 1) := by rw [List.drop_eq_getElem_cons (List.getElem?_eq_some_iff.1 hu).1, (List.getElem?_eq_some_iff.1 hu).2]
  rw [h1, h2]
  rfl
end Go.Proofs.YthjfkngfgomkbaaGreatDoor

/- text.firstSign and text.betweenQuotes answer what plain functions of the bytes say. -/
import Derived.Test.YthjfkngfgomkbaaGreatDoorEsc
namespace Go.Proofs.YthjfkngfgomkbaaGreatDoor
open Go.RowKit

def firstS (l : List UInt8) : Option (UInt8 × Nat) :=
  if l.getD 0 0 = 92 then escS l else if l.getD 0 0 = 34 ∨ ¬ plainB ((l.getD 0 0).toNat : Int) = true then none else some (l.getD 0 0, 1)
set_option maxHeartbeats 2000000 in
theorem firstSign_c (s : ByteArray) (a : Addr) (w : World) (hpos : 0 < s.size) (hs : s.size ≤ 1073741824) (herr : w.cell? ⟨7, 0, none⟩ = some (.iface 214 (.pointer (some a)))) :
    Calls Tryz.prog 148 #[.string s] w fun e w' => e = .returned (signV a (firstS s.data.toList)) ∧ ∃ k, w' = w.drewN k := by
  have hlen : s.data.toList.length = s.size := by simp
  have g0 : s.data.toList.getD 0 0 = s[0] := by rw [List.getD_eq_getElem?_getD, List.getElem?_eq_getElem (by omega)]; rfl
  have Hx : Hid (firstS s.data.toList = if s[0] = 92 then escS s.data.toList else if s[0] = 34 ∨ ¬ plainB (s[0].toNat : Int) = true then none else some (s[0], 1)) := Lib.hid (by
    unfold firstS
    rw [g0])
  have ne : ∀ d : UInt8, s[0] ≠ d → ((s[0].toNat : Int) == (d.toNat : Int)) = false := by
    intro d hd
    rw [beq_eq_false_iff_ne]
    intro e
    exact hd (UInt8.toNat_inj.1 (by omega))
  have NE := Lib.hid ne
  clear hlen g0 ne
  by_cases c1 : s[0] = 92
  · have Hf := Lib.hid (show firstS s.data.toList = escS s.data.toList by rw [Hx.out, if_pos c1])
    have e1 : ((s[0].toNat : Int) == 92) = true := by rw [c1]; rfl
    clear c1
    have hc := firstEscape_c s a w hs herr
    obtain ⟨r, hr⟩ : ∃ r, escS s.data.toList = r := ⟨_, rfl⟩
    rw [hr] at hc
    have Hr := Lib.hid hr
    have Hc := Lib.hid hc
    clear hr hc
    cases r with
    | none =>
      go_enter Tryz.func148, Tryz.ntmps148
      go_wp2_with fail
      refine Hc.out.mono ?_
      rintro e w1 ⟨rfl, k, rfl⟩
      simp only [signV]
      go_wp2
      go_ret3
      rw [Hf.out, Hr.out]
      exact ⟨rfl, _, rfl⟩
    | some x =>
      go_enter Tryz.func148, Tryz.ntmps148
      go_wp2_with fail
      refine Hc.out.mono ?_
      rintro e w1 ⟨rfl, k, rfl⟩
      simp only [signV]
      go_wp2
      go_ret3
      rw [Hf.out, Hr.out]
      exact ⟨rfl, _, rfl⟩
  have e1 : ((s[0].toNat : Int) == 92) = false := NE.out 92 c1
  by_cases c2 : s[0] = 34
  · have Hf := Lib.hid (show firstS s.data.toList = none by rw [Hx.out, if_neg c1, if_pos (.inl c2)])
    have e2 : ((s[0].toNat : Int) == 34) = true := by rw [c2]; rfl
    clear c1 c2
    go_enter Tryz.func148, Tryz.ntmps148
    go_wp2
    go_quiet (fail)
    go_wp2
    go_ret3
    rw [Hf.out]
    exact ⟨rfl, _, rfl⟩
  have e2 : ((s[0].toNat : Int) == 34) = false := NE.out 34 c2
  by_cases hp : plainB (s[0].toNat : Int) = true
  · have Hf := Lib.hid (show firstS s.data.toList = some (s[0], 1) by rw [Hx.out, if_neg c1, if_neg (by rintro (h | h); exact c2 h; exact h hp)])
    clear c1 c2
    go_enter Tryz.func148, Tryz.ntmps148
    go_wp2_with fail
    refine (isPlain_any _ _).mono ?_
    rintro e w1 ⟨rfl, rfl⟩
    go_wp2
    go_ret3
    rw [Hf.out]
    exact ⟨rfl, 0, rfl⟩
  · have Hf := Lib.hid (show firstS s.data.toList = none by rw [Hx.out, if_neg c1, if_pos (.inr hp)])
    have hp' : plainB (s[0].toNat : Int) = false := by simpa using hp
    clear c1 c2 hp
    go_enter Tryz.func148, Tryz.ntmps148
    go_wp2_with fail
    refine (isPlain_any _ _).mono ?_
    rintro e w1 ⟨rfl, rfl⟩
    go_wp2
    go_quiet (fail)
    go_wp2
    go_ret3
    rw [Hf.out]
    exact ⟨rfl, _, rfl⟩

/-- What stands between the quotes. -/
def betw (l : List UInt8) : Option (List UInt8) :=
  if Lib.hasPrefix l [34] = true ∧ Lib.hasSuffix (Lib.trimPrefix l [34]) [34] = true then some (Lib.trimSuffix (Lib.trimPrefix l [34]) [34]) else none
def betwV (a : Addr) : Option (List UInt8) → Value
  | some l => .tuple #[.string ⟨l.toArray⟩, .nilIface]
  | none => .tuple #[.string ⟨#[]⟩, .iface 214 (.pointer (some a))]
set_option maxHeartbeats 1000000 in
theorem between_c (s : ByteArray) (a : Addr) (w : World) (hs : s.size ≤ 1073741824) (herr : w.cell? ⟨7, 0, none⟩ = some (.iface 214 (.pointer (some a)))) :
    Calls Tryz.prog 133 #[.string s] w fun e w' => e = .returned (betwV a (betw s.data.toList)) ∧ ∃ k, w' = w.drewN k := by
  obtain ⟨l1, h1⟩ : ∃ l1, Lib.trimPrefix s.data.toList [34] = l1 := ⟨_, rfl⟩
  obtain ⟨l2, h2⟩ : ∃ l2, Lib.trimSuffix l1 [34] = l2 := ⟨_, rfl⟩
  obtain ⟨p, hp⟩ : ∃ p, Lib.hasPrefix s.data.toList [34] = p := ⟨_, rfl⟩
  obtain ⟨q, hq⟩ : ∃ q, Lib.hasSuffix l1 [34] = q := ⟨_, rfl⟩
  have hl1 : l1.length ≤ s.size := by
    have := Lib.trimPrefix_le s.data.toList [34]
    have hlen : s.data.toList.length = s.size := by simp
    rw [h1] at this
    omega
  have Hc1 : Hid (Calls Tryz.prog 135 #[.string s, .string ⟨#[34]⟩] w fun e w' => e = .returned (.tuple #[.string ⟨l1.toArray⟩, .bool p]) ∧ w = w') := Lib.hid (by
    refine (Tryz.strings_CutPrefix s ⟨#[34]⟩ w).mono ?_
    rintro e w' ⟨rfl, rfl⟩
    refine ⟨?_, rfl⟩
    rw [show (⟨#[34]⟩ : ByteArray).data.toList = [34] from rfl, h1, hp])
  have Hc2 : Hid (Calls Tryz.prog 146 #[.string ⟨l1.toArray⟩, .string ⟨#[34]⟩] w fun e w' => e = .returned (.tuple #[.string ⟨l2.toArray⟩, .bool q]) ∧ w = w') := Lib.hid (by
    refine (Tryz.strings_CutSuffix ⟨l1.toArray⟩ ⟨#[34]⟩ w (by show l1.toArray.size ≤ _; simp; omega)).mono ?_
    rintro e w' ⟨rfl, rfl⟩
    refine ⟨?_, rfl⟩
    rw [show (⟨#[34]⟩ : ByteArray).data.toList = [34] from rfl, show (⟨l1.toArray⟩ : ByteArray).data.toList = l1 from rfl, h2, hq])
  have Hb : Hid (betw s.data.toList = if p = true ∧ q = true then some l2 else none) := Lib.hid (by
    unfold betw
    rw [h1, h2, hp, hq])
  clear h1 h2 hp hq hl1
  go_enter Tryz.func133, Tryz.ntmps133
  go_wp2_with fail
  refine Hc1.out.mono ?_
  rintro e w1 ⟨rfl, rfl⟩
  go_wp2_with fail
  refine Hc2.out.mono ?_
  rintro e w1 ⟨rfl, rfl⟩
  cases p with
  | false =>
    go_wp2
    go_quiet (fail)
    go_wp2
    go_ret2
    rw [Hb.out]
    exact ⟨rfl, _, rfl⟩
  | true =>
    cases q with
    | false =>
      go_wp2
      go_quiet (fail)
      go_wp2
      go_ret2
      rw [Hb.out]
      exact ⟨rfl, _, rfl⟩
    | true =>
      go_wp2
      go_ret2
      rw [Hb.out]
      exact ⟨rfl, 0, rfl⟩
end Go.Proofs.YthjfkngfgomkbaaGreatDoor

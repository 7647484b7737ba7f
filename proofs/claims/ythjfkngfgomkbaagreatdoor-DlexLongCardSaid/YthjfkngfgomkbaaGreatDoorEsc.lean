/- text.firstHex, firstEscape and firstSign answer the byte that a sign at a text's beginning says, and how long the sign is. -/
import Derived.Test.YthjfkngfgomkbaaGreatDoorNum
import Derived.Test.YthjfkngfgomkbaaGreatDoorQuote
namespace Go.Proofs.YthjfkngfgomkbaaGreatDoor
open Go.RowKit

def hexIx (c : UInt8) : Int := Lib.indexByte hexL c
theorem hexIx_fin : ∀ c : Fin 256, -1 ≤ hexIx (UInt8.ofNat c.1) ∧ hexIx (UInt8.ofNat c.1) < 16 := by decide +kernel
theorem hexIx_in (c : UInt8) : -1 ≤ hexIx c ∧ hexIx c < 16 := by
  have := hexIx_fin ⟨c.toNat, c.toNat_lt⟩
  simpa using this
theorem idx_c (c : UInt8) (z : Int) (hz : z = (c.toNat : Int)) (w : World) :
    Calls Tryz.prog 112 #[.string ⟨#[48, 49, 50, 51, 52, 53, 54, 55, 56, 57, 97, 98, 99, 100, 101, 102]⟩, .int .u8 z] w fun e w' => e = .returned (.int .i64 (hexIx c)) ∧ w = w' := by
  subst hz
  refine (Tryz.strings_IndexByte _ _ _).mono ?_
  rintro e w' ⟨rfl, rfl⟩
  refine ⟨?_, rfl⟩
  have : ((c.toNat : Int).toNat.toUInt8 : UInt8) = c := by simp
  rw [this]
  rfl

theorem or_fin : ∀ h l : Fin 16, bits BinOp.or IntKind.i64 ((h.1 : Int) * 16) (l.1 : Int) % 256 = 16 * (h.1 : Int) + (l.1 : Int) := by decide +kernel
theorem hex_or (h l : Int) (h0 : 0 ≤ h) (h1 : h < 16) (l0 : 0 ≤ l) (l1 : l < 16) : bits BinOp.or IntKind.i64 (h * 16) l % 256 = 16 * h + l := by
  have := or_fin ⟨h.toNat, by omega⟩ ⟨l.toNat, by omega⟩
  simpa [Int.toNat_of_nonneg h0, Int.toNat_of_nonneg l0] using this

/-- What a sign at the beginning says. -/
def hexS4 (l : List UInt8) : Option (UInt8 × Nat) :=
  if l.length < 4 then none else
    if hexIx (l.getD 2 0) < 0 ∨ hexIx (l.getD 3 0) < 0 then none else
      if plainB (16 * hexIx (l.getD 2 0) + hexIx (l.getD 3 0)) ∨ 16 * hexIx (l.getD 2 0) + hexIx (l.getD 3 0) = 10 then none
      else some (UInt8.ofNat (16 * hexIx (l.getD 2 0) + hexIx (l.getD 3 0)).toNat, 4)
def signV (a : Addr) : Option (UInt8 × Nat) → Value
  | some (c, n) => .tuple #[.int .u8 (c.toNat : Int), .int .i64 (n : Int), .nilIface]
  | none => .tuple #[.int .u8 0, .int .i64 0, .iface 214 (.pointer (some a))]

set_option maxHeartbeats 1000000 in
theorem firstHex_c (s : ByteArray) (a : Addr) (w : World) (hs : s.size ≤ 1073741824) (herr : w.cell? ⟨7, 0, none⟩ = some (.iface 214 (.pointer (some a)))) :
    Calls Tryz.prog 162 #[.string s] w fun e w' => e = .returned (signV a (hexS4 s.data.toList)) ∧ ∃ k, w' = w.drewN k := by
  have hlen : s.data.toList.length = s.size := by simp
  by_cases h4 : s.size < 4
  · have Hf := Lib.hid (show hexS4 s.data.toList = none by unfold hexS4; rw [if_pos (by omega)])
    clear hlen
    go_enter Tryz.func162, Tryz.ntmps162
    go_wp2
    go_quiet (fail)
    go_wp2
    go_ret3
    rw [Hf.out]
    exact ⟨rfl, _, rfl⟩
  have h2 : 2 < s.size := by omega
  have h3 : 3 < s.size := by omega
  have g2 : s.data.toList.getD 2 0 = s[2] := by rw [List.getD_eq_getElem?_getD, List.getElem?_eq_getElem (by omega)]; rfl
  have g3 : s.data.toList.getD 3 0 = s[3] := by rw [List.getD_eq_getElem?_getD, List.getElem?_eq_getElem (by omega)]; rfl
  have hH := hexIx_in s[2]
  have hL := hexIx_in s[3]
  by_cases hneg : hexIx s[2] < 0
  · have Hf := Lib.hid (show hexS4 s.data.toList = none by unfold hexS4; rw [if_neg (by omega), g2, if_pos (.inl hneg)])
    clear hlen g2 g3
    go_enter Tryz.func162, Tryz.ntmps162
    go_wp2_with fail
    refine (idx_c s[2] _ rfl _).mono ?_
    rintro e w1 ⟨rfl, rfl⟩
    go_wp2_with fail
    refine (idx_c s[3] _ rfl _).mono ?_
    rintro e w1 ⟨rfl, rfl⟩
    go_wp2
    go_quiet (fail)
    go_wp2
    go_ret3
    rw [Hf.out]
    exact ⟨rfl, _, rfl⟩
  by_cases hneg2 : hexIx s[3] < 0
  · have Hf := Lib.hid (show hexS4 s.data.toList = none by unfold hexS4; rw [if_neg (by omega), g3, if_pos (.inr hneg2)])
    clear hlen g2 g3
    go_enter Tryz.func162, Tryz.ntmps162
    go_wp2_with fail
    refine (idx_c s[2] _ rfl _).mono ?_
    rintro e w1 ⟨rfl, rfl⟩
    go_wp2_with fail
    refine (idx_c s[3] _ rfl _).mono ?_
    rintro e w1 ⟨rfl, rfl⟩
    go_wp2
    go_quiet (fail)
    go_wp2
    go_ret3
    rw [Hf.out]
    exact ⟨rfl, _, rfl⟩
  have hor := hex_or (hexIx s[2]) (hexIx s[3]) (by omega) (by omega) (by omega) (by omega)
  obtain ⟨v, hv⟩ : ∃ v : Int, (16 : Int) * hexIx s[2] + hexIx s[3] = v := ⟨_, rfl⟩
  have hv0 : 0 ≤ v ∧ v < 256 := by omega
  have Hx : Hid (hexS4 s.data.toList = if plainB v ∨ v = 10 then none else some (UInt8.ofNat v.toNat, 4)) := Lib.hid (by
    unfold hexS4
    rw [if_neg (by omega), g2, g3, if_neg (by omega), hv])
  rw [hv] at hor
  have Hor := Lib.hid hor
  clear hlen g2 g3 hv hor
  go_enter Tryz.func162, Tryz.ntmps162
  go_wp2_with fail
  refine (idx_c s[2] _ rfl _).mono ?_
  rintro e w1 ⟨rfl, rfl⟩
  go_wp2_with fail
  refine (idx_c s[3] _ rfl _).mono ?_
  rintro e w1 ⟨rfl, rfl⟩
  go_wp2_with fail
  rw [Hor.out]
  refine (isPlain_any _ _).mono ?_
  rintro e w1 ⟨rfl, rfl⟩
  by_cases hp : plainB v = true
  · have Hf := Lib.hid (show hexS4 s.data.toList = none by rw [Hx.out, if_pos (.inl hp)])
    go_wp2
    go_quiet (fail)
    go_wp2
    go_ret3
    rw [Hf.out]
    exact ⟨rfl, _, rfl⟩
  have hp' : plainB v = false := by simpa using hp
  by_cases h10 : v = 10
  · have Hf := Lib.hid (show hexS4 s.data.toList = none by rw [Hx.out, if_pos (.inr h10)])
    have h10' : (v == 10) = true := by simp [h10]
    clear h10 hp
    go_wp2
    go_quiet (fail)
    go_wp2
    go_ret3
    rw [Hf.out]
    exact ⟨rfl, _, rfl⟩
  have h10' : (v == 10) = false := by simp [h10]
  have Hf := Lib.hid (show hexS4 s.data.toList = some (UInt8.ofNat v.toNat, 4) by rw [Hx.out, if_neg (by rintro (h | h); exact hp h; exact h10 h)])
  clear hp h10
  go_wp2
  go_ret3
  rw [Hf.out]
  refine ⟨?_, 0, rfl⟩
  have hb : ((UInt8.ofNat v.toNat).toNat : Int) = v := by simp; omega
  simp only [signV, hb]
  rfl

def escS (l : List UInt8) : Option (UInt8 × Nat) :=
  if l.length < 2 then none else
    if l.getD 1 0 = 110 then some (10, 2) else if l.getD 1 0 = 34 then some (34, 2) else if l.getD 1 0 = 92 then some (92, 2)
    else if l.getD 1 0 = 120 then hexS4 l else none
set_option maxHeartbeats 2000000 in
theorem firstEscape_c (s : ByteArray) (a : Addr) (w : World) (hs : s.size ≤ 1073741824) (herr : w.cell? ⟨7, 0, none⟩ = some (.iface 214 (.pointer (some a)))) :
    Calls Tryz.prog 155 #[.string s] w fun e w' => e = .returned (signV a (escS s.data.toList)) ∧ ∃ k, w' = w.drewN k := by
  have hlen : s.data.toList.length = s.size := by simp
  by_cases h2 : s.size < 2
  · have Hf := Lib.hid (show escS s.data.toList = none by unfold escS; rw [if_pos (by omega)])
    clear hlen
    go_enter Tryz.func155, Tryz.ntmps155
    go_wp2
    go_quiet (fail)
    go_wp2
    go_ret3
    rw [Hf.out]
    exact ⟨rfl, _, rfl⟩
  have h1 : 1 < s.size := by omega
  have g1 : s.data.toList.getD 1 0 = s[1] := by rw [List.getD_eq_getElem?_getD, List.getElem?_eq_getElem (by omega)]; rfl
  have Hx : Hid (escS s.data.toList = if s[1] = 110 then some (10, 2) else if s[1] = 34 then some (34, 2) else if s[1] = 92 then some (92, 2) else if s[1] = 120 then hexS4 s.data.toList else none) := Lib.hid (by
    unfold escS
    rw [if_neg (by omega), g1])
  have ne : ∀ d : UInt8, s[1] ≠ d → ((s[1].toNat : Int) == (d.toNat : Int)) = false := by
    intro d hd
    rw [beq_eq_false_iff_ne]
    intro e
    exact hd (UInt8.toNat_inj.1 (by omega))
  have NE := Lib.hid ne
  clear hlen g1 ne
  by_cases c1 : s[1] = 110
  · have Hf := Lib.hid (show escS s.data.toList = some (10, 2) by rw [Hx.out, if_pos c1])
    have e1 : ((s[1].toNat : Int) == 110) = true := by rw [c1]; rfl
    clear c1
    go_enter Tryz.func155, Tryz.ntmps155
    go_wp2
    go_ret3
    rw [Hf.out]
    exact ⟨rfl, 0, rfl⟩
  have e1 : ((s[1].toNat : Int) == 110) = false := NE.out 110 c1
  by_cases c2 : s[1] = 34
  · have Hf := Lib.hid (show escS s.data.toList = some (34, 2) by rw [Hx.out, if_neg c1, if_pos c2])
    have e2 : ((s[1].toNat : Int) == 34) = true := by rw [c2]; rfl
    have e3 : (s[1].toNat : Int) = 34 := by rw [c2]; rfl
    have E3 := Lib.hid e3
    clear c1 c2 e3
    go_enter Tryz.func155, Tryz.ntmps155
    go_wp2
    go_ret3
    rw [Hf.out]
    refine ⟨?_, 0, rfl⟩
    show Ending.returned (.tuple #[.int .u8 (s[1].toNat : Int), .int .i64 2, .nilIface]) = _
    rw [E3.out]
    rfl
  have e2 : ((s[1].toNat : Int) == 34) = false := NE.out 34 c2
  by_cases c3 : s[1] = 92
  · have Hf := Lib.hid (show escS s.data.toList = some (92, 2) by rw [Hx.out, if_neg c1, if_neg c2, if_pos c3])
    have e3 : ((s[1].toNat : Int) == 92) = true := by rw [c3]; rfl
    have e4 : (s[1].toNat : Int) = 92 := by rw [c3]; rfl
    have E4 := Lib.hid e4
    clear c1 c2 c3 e4
    go_enter Tryz.func155, Tryz.ntmps155
    go_wp2
    go_ret3
    rw [Hf.out]
    refine ⟨?_, 0, rfl⟩
    show Ending.returned (.tuple #[.int .u8 (s[1].toNat : Int), .int .i64 2, .nilIface]) = _
    rw [E4.out]
    rfl
  have e3 : ((s[1].toNat : Int) == 92) = false := NE.out 92 c3
  by_cases c4 : s[1] = 120
  · have Hf := Lib.hid (show escS s.data.toList = hexS4 s.data.toList by rw [Hx.out, if_neg c1, if_neg c2, if_neg c3, if_pos c4])
    have e4 : ((s[1].toNat : Int) == 120) = true := by rw [c4]; rfl
    clear c1 c2 c3 c4
    have hc := firstHex_c s a w hs herr
    obtain ⟨r, hr⟩ : ∃ r, hexS4 s.data.toList = r := ⟨_, rfl⟩
    rw [hr] at hc
    have Hr := Lib.hid hr
    have Hc := Lib.hid hc
    clear hr hc
    cases r with
    | none =>
      go_enter Tryz.func155, Tryz.ntmps155
      go_wp2_with fail
      refine Hc.out.mono ?_
      rintro e w1 ⟨rfl, k, rfl⟩
      simp only [signV]
      go_wp2
      go_ret3
      rw [Hf.out, Hr.out]
      exact ⟨rfl, _, rfl⟩
    | some x =>
      go_enter Tryz.func155, Tryz.ntmps155
      go_wp2_with fail
      refine Hc.out.mono ?_
      rintro e w1 ⟨rfl, k, rfl⟩
      simp only [signV]
      go_wp2
      go_ret3
      rw [Hf.out, Hr.out]
      exact ⟨rfl, _, rfl⟩
  have e4 : ((s[1].toNat : Int) == 120) = false := NE.out 120 c4
  have Hf := Lib.hid (show escS s.data.toList = none by rw [Hx.out, if_neg c1, if_neg c2, if_neg c3, if_neg c4])
  clear c1 c2 c3 c4
  go_enter Tryz.func155, Tryz.ntmps155
  go_wp2
  go_quiet (fail)
  go_wp2
  go_ret3
  rw [Hf.out]
  exact ⟨rfl, _, rfl⟩
end Go.Proofs.YthjfkngfgomkbaaGreatDoor

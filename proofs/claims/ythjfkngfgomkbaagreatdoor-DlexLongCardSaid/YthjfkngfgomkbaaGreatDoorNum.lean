/- text.number and text.ParseNum answer what numL says of the bytes, in every world that holds the listed variables. -/
import Derived.Test.YthjfkngfgomkbaaGreatDoorMag
namespace Go.Proofs.YthjfkngfgomkbaaGreatDoor
open Go.RowKit

def negO : Option Nat → Option Int
  | none => none
  | some m => if m = 0 then none else some (-(m : Int))
def posO : Option Nat → Option Int
  | none => none
  | some m => some (m : Int)
def numL (l : List UInt8) : Option Int :=
  if Lib.hasPrefix l [45] then negO (magL 9223372036854775808 (l.drop 1)) else posO (magL 9223372036854775807 l)
def numV (a : Addr) : Option Int → Value
  | some n => .tuple #[.int .i64 n, .nilIface]
  | none => .tuple #[.int .i64 0, .iface 214 (.pointer (some a))]
def parseV : Option Int → Value
  | some n => .tuple #[.int .i64 n, .int .i64 0]
  | none => .tuple #[.int .i64 0, .int .i64 10]

theorem mag_le (g : Nat) : ∀ (l : List UInt8) (sz m : Nat), sz ≤ g → 9 ≤ g → mag g sz l = some m → m ≤ g
  | [], sz, m, h, _, e => by simp only [mag, Option.some.injEq] at e; omega
  | c :: l, sz, m, h, h9, e => by
    by_cases hc : 48 ≤ c.toNat ∧ c.toNat ≤ 57
    · by_cases hb : (g - (c.toNat - 48)) / 10 < sz
      · rw [mag_big g sz c l hc hb] at e; cases e
      · rw [mag_go g sz c l hc hb] at e
        exact mag_le g l _ m (by omega) h9 e
    · rw [mag_bad g sz c l hc] at e; cases e
theorem magL_le (g : Nat) (l : List UInt8) (m : Nat) (h9 : 9 ≤ g) (e : magL g l = some m) : m ≤ g := by
  unfold magL at e
  split at e
  · cases e
  · exact mag_le g l 0 m (Nat.zero_le _) h9 e

theorem trim_of (l : List UInt8) : Lib.trimPrefix l [45] = if Lib.hasPrefix l [45] then l.drop 1 else l := rfl

theorem magnitude_l (l : List UInt8) (r : Option Nat) (g : Nat) (hg9 : 9 ≤ g) (hg : g ≤ 9223372036854775808) (hr : magL g l = r) (z : Int) (hz : z = (g : Int)) (a : Addr) (w : World) (hs : l.length ≤ maxLen) (E : Env a w) :
    Calls Tryz.prog 136 #[.string ⟨l.toArray⟩, .int .u64 z] w fun e w' => e = .returned (magV a r) ∧ Below w.heap.size w w' := by
  subst hr
  exact magnitude_c ⟨l.toArray⟩ g hg9 hg z hz a w hs E

theorem wrap_neg (m : Nat) (h1 : 1 ≤ m) (h2 : m ≤ 9223372036854775808) : wrap64 (-wrap64 (m : Int)) = -(m : Int) := by
  unfold wrap64
  omega

set_option maxHeartbeats 1000000 in
theorem number_neg (l : List UInt8) (r : Option Nat) (s : ByteArray) (a : Addr) (w : World) (hl : l.length ≤ maxLen) (E : Env a w) (hp : Lib.hasPrefix s.data.toList [45] = true) (ht : Lib.trimPrefix s.data.toList [45] = l) (hr : magL 9223372036854775808 l = r) :
    Calls Tryz.prog 118 #[.string s] w fun e w' => e = .returned (numV a (negO r)) ∧ Below w.heap.size w w' := by
  have HE := Lib.hid E
  have Hr := Lib.hid hr
  have hle : ∀ m, r = some m → m ≤ 9223372036854775808 := fun m hm => magL_le _ l m (by omega) (hr.trans hm)
  have herr := E.err
  have hz : 7 < w.heap.size := by have := E.size; omega
  clear hr E
  have Hl := Lib.hid hl
  clear hl
  have hc : Calls Tryz.prog 135 #[.string s, .string ⟨#[45]⟩] w fun e w' => e = .returned (.tuple #[.string ⟨l.toArray⟩, .bool true]) ∧ w' = w := by
    refine (Tryz.strings_CutPrefix s ⟨#[45]⟩ w).mono ?_
    rintro e w' ⟨rfl, rfl⟩
    refine ⟨?_, rfl⟩
    rw [show (⟨#[45]⟩ : ByteArray).data.toList = [45] from rfl, ht, hp]
  have Hc := Lib.hid hc
  clear hc ht hp
  cases r with
  | none =>
    clear hle
    go_enter Tryz.func118, Tryz.ntmps118
    go_wp2_with fail
    refine Hc.out.mono ?_
    rintro e w' ⟨rfl, rfl⟩
    go_wp2_with fail
    refine (magnitude_l l none 9223372036854775808 (by omega) (by omega) Hr.out _ (by omega) a _ Hl.out HE.out).mono ?_
    rintro e w1 ⟨rfl, hb⟩
    simp only [magV]
    go_wp2
    go_ret2
    exact ⟨rfl, hb⟩
  | some m =>
    have hm := hle m rfl
    clear hle
    by_cases h0 : m = 0
    · subst h0
      go_enter Tryz.func118, Tryz.ntmps118
      go_wp2_with fail
      refine Hc.out.mono ?_
      rintro e w' ⟨rfl, rfl⟩
      go_wp2_with fail
      refine (magnitude_l l (some 0) 9223372036854775808 (by omega) (by omega) Hr.out _ (by omega) a _ Hl.out HE.out).mono ?_
      rintro e w1 ⟨rfl, hb⟩
      simp only [magV]
      have herr1 := (hb.cell (p := ⟨7, 0, none⟩) hz).trans herr
      go_wp2
      go_quiet (fail)
      go_wp2
      go_ret2
      exact ⟨rfl, below_drewN hb _⟩
    · have h0' : ((m : Int) == 0) = false := by simp; omega
      go_enter Tryz.func118, Tryz.ntmps118
      go_wp2_with fail
      refine Hc.out.mono ?_
      rintro e w' ⟨rfl, rfl⟩
      go_wp2_with fail
      refine (magnitude_l l (some m) 9223372036854775808 (by omega) (by omega) Hr.out _ (by omega) a _ Hl.out HE.out).mono ?_
      rintro e w1 ⟨rfl, hb⟩
      simp only [magV]
      go_wp2
      go_ret2
      refine ⟨?_, hb⟩
      show Ending.returned (.tuple #[.int .i64 (wrap64 (-wrap64 (m : Int))), .nilIface]) = _
      rw [wrap_neg m (by omega) hm, show negO (some m) = some (-(m : Int)) by simp [negO, h0]]
      rfl

set_option maxHeartbeats 1000000 in
theorem number_pos (l : List UInt8) (r : Option Nat) (s : ByteArray) (a : Addr) (w : World) (hl : l.length ≤ maxLen) (E : Env a w) (hp : Lib.hasPrefix s.data.toList [45] = false) (ht : Lib.trimPrefix s.data.toList [45] = l) (hr : magL 9223372036854775807 l = r) :
    Calls Tryz.prog 118 #[.string s] w fun e w' => e = .returned (numV a (posO r)) ∧ Below w.heap.size w w' := by
  have HE := Lib.hid E
  have Hr := Lib.hid hr
  have hle : ∀ m, r = some m → m ≤ 9223372036854775807 := fun m hm => magL_le _ l m (by omega) (hr.trans hm)
  clear hr E
  have Hl := Lib.hid hl
  clear hl
  have hc : Calls Tryz.prog 135 #[.string s, .string ⟨#[45]⟩] w fun e w' => e = .returned (.tuple #[.string ⟨l.toArray⟩, .bool false]) ∧ w' = w := by
    refine (Tryz.strings_CutPrefix s ⟨#[45]⟩ w).mono ?_
    rintro e w' ⟨rfl, rfl⟩
    refine ⟨?_, rfl⟩
    rw [show (⟨#[45]⟩ : ByteArray).data.toList = [45] from rfl, ht, hp]
  have Hc := Lib.hid hc
  clear hc ht hp
  cases r with
  | none =>
    clear hle
    go_enter Tryz.func118, Tryz.ntmps118
    go_wp2_with fail
    refine Hc.out.mono ?_
    rintro e w' ⟨rfl, rfl⟩
    go_wp2_with fail
    refine (magnitude_l l none 9223372036854775807 (by omega) (by omega) Hr.out _ (by omega) a _ Hl.out HE.out).mono ?_
    rintro e w1 ⟨rfl, hb⟩
    simp only [magV]
    go_wp2
    go_ret2
    exact ⟨rfl, hb⟩
  | some m =>
    have hm := hle m rfl
    clear hle
    go_enter Tryz.func118, Tryz.ntmps118
    go_wp2_with fail
    refine Hc.out.mono ?_
    rintro e w' ⟨rfl, rfl⟩
    go_wp2_with fail
    refine (magnitude_l l (some m) 9223372036854775807 (by omega) (by omega) Hr.out _ (by omega) a _ Hl.out HE.out).mono ?_
    rintro e w1 ⟨rfl, hb⟩
    simp only [magV]
    go_wp2
    go_ret2
    exact ⟨rfl, hb⟩

theorem number_c (s : ByteArray) (a : Addr) (w : World) (hs : s.size ≤ maxLen) (E : Env a w) :
    Calls Tryz.prog 118 #[.string s] w fun e w' => e = .returned (numV a (numL s.data.toList)) ∧ Below w.heap.size w w' := by
  have htl := Lib.trimPrefix_le s.data.toList [45]
  have hsz : (Lib.trimPrefix s.data.toList [45]).length ≤ maxLen := by
    have : s.data.toList.length = s.size := by simp
    omega
  cases hp : Lib.hasPrefix s.data.toList [45] with
  | true =>
    have ht : Lib.trimPrefix s.data.toList [45] = s.data.toList.drop 1 := by rw [trim_of, if_pos hp]
    have e : numL s.data.toList = negO (magL 9223372036854775808 (s.data.toList.drop 1)) := by unfold numL; rw [if_pos hp]
    rw [e]
    exact number_neg _ _ s a w (ht ▸ hsz) E hp ht rfl
  | false =>
    have ht : Lib.trimPrefix s.data.toList [45] = s.data.toList := by rw [trim_of, if_neg (by simp [hp])]
    have e : numL s.data.toList = posO (magL 9223372036854775807 s.data.toList) := by unfold numL; rw [if_neg (by simp [hp])]
    rw [e]
    exact number_pos _ _ s a w (ht ▸ hsz) E hp ht rfl

set_option maxHeartbeats 1000000 in
theorem parse_c (s : ByteArray) (a : Addr) (w : World) (hs : s.size ≤ maxLen) (E : Env a w) :
    Calls Tryz.prog 91 #[.string s] w fun e w' => e = .returned (parseV (numL s.data.toList)) ∧ Below w.heap.size w w' := by
  have herr := E.err
  have hz : 7 < w.heap.size := by have := E.size; omega
  have HE := Lib.hid E
  have Hs := Lib.hid hs
  clear E hs
  obtain ⟨r, hr⟩ : ∃ r, numL s.data.toList = r := ⟨_, rfl⟩
  have hc := number_c s a w Hs.out HE.out
  rw [hr] at hc ⊢
  have Hc := Lib.hid hc
  clear hc hr HE
  cases r with
  | none =>
    go_enter Tryz.func91, Tryz.ntmps91
    go_wp2_with fail
    refine Hc.out.mono ?_
    rintro e w1 ⟨rfl, hb⟩
    simp only [numV]
    have herr1 := (hb.cell (p := ⟨7, 0, none⟩) hz).trans herr
    go_wp2_with fail
    refine (is_same a _).mono ?_
    rintro e w' ⟨rfl, rfl⟩
    go_wp2
    go_ret2
    exact ⟨rfl, hb⟩
  | some n =>
    go_enter Tryz.func91, Tryz.ntmps91
    go_wp2_with fail
    refine Hc.out.mono ?_
    rintro e w1 ⟨rfl, hb⟩
    simp only [numV]
    have herr1 := (hb.cell (p := ⟨7, 0, none⟩) hz).trans herr
    go_wp2_with fail
    refine (is_nil a _).mono ?_
    rintro e w' ⟨rfl, rfl⟩
    go_wp2
    go_ret2
    exact ⟨rfl, hb⟩
end Go.Proofs.YthjfkngfgomkbaaGreatDoor

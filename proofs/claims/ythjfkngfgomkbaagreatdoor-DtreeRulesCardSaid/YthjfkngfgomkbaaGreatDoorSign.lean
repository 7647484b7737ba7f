/- text.writeSign appends to a builder just the sign that a byte has in a symbol's text. -/
import Derived.Test.YthjfkngfgomkbaaGreatDoorChecked
import Derived.Test.YthjfkngfgomkbaaGreatDoorShelf
import Derived.Test.YthjfkngfgomkbaaGreatDoorName
import Derived.WalkKit
import Derived.WalkLawsBesides
import Derived.Lib.Hide
import Derived.Lib.Strings
namespace Go.Proofs.YthjfkngfgomkbaaGreatDoor
open Go.RowKit

/-- A builder in block b that holds the bytes l. -/
def Bd (B b : Nat) (l : List UInt8) (w : World) : Prop := Lib.IsBuilderF 73 5 B b (Lib.byteCells l) w
/-- What the builder's writers keep. -/
structure Kp (B b : Nat) (w w' : World) : Prop where
  below : Below B w w'
  others : Lib.OthersKept 5 (some b) w w'
theorem Kp.refl (B b : Nat) (w : World) : Kp B b w w := ⟨Below.refl _ _, Lib.OthersKept.refl _ _ _⟩
theorem Kp.trans {B b : Nat} {a c d : World} (h : Kp B b a c) (k : Kp B b c d) : Kp B b a d := ⟨h.below.trans k.below, h.others.trans k.others⟩
theorem Kp.size {B b : Nat} {a c : World} (h : Kp B b a c) (hB : B ≤ a.heap.size) : B ≤ c.heap.size := Nat.le_trans hB h.below.size

theorem byteCells_snoc (l : List UInt8) (c : UInt8) : Lib.byteCells (l ++ [c]) = Lib.byteCells l ++ [.int .u8 (c.toNat : Int)] := by
  simp [Lib.byteCells]

theorem writeByte_c (B b : Nat) (l : List UInt8) (c : UInt8) (n : Int) (hn : n = (c.toNat : Int)) (w : World) (h : Bd B b l w) (hl : l.length + 1 ≤ 140737488355328) (hB : B ≤ w.heap.size) :
    Calls Tryz.prog 62 #[.pointer (some ⟨b, 0, none⟩), .int .u8 n] w fun e w' => e = .returned .nilIface ∧ Bd B b (l ++ [c]) w' ∧ Kp B b w w' := by
  subst hn
  refine (Tryz.Builder_WriteByte_k B b (Lib.byteCells l) c.toNat w h (by rw [Lib.byteCells_length]; exact hl) hB).mono ?_
  rintro e w' ⟨rfl, h1, h2, h3⟩
  refine ⟨rfl, ?_, h2, h3⟩
  unfold Bd
  rw [byteCells_snoc]
  exact .inr h1
theorem writeString_c (B b : Nat) (l : List UInt8) (s : ByteArray) (w : World) (h : Bd B b l w) (hl : l.length + s.size ≤ 140737488355328) (hB : B ≤ w.heap.size) :
    Calls Tryz.prog 65 #[.pointer (some ⟨b, 0, none⟩), .string s] w fun e w' => e = .returned (.tuple #[.int .i64 s.size, .nilIface]) ∧ Bd B b (l ++ s.data.toList) w' ∧ Kp B b w w' := by
  refine (Tryz.Builder_WriteString_k B b (Lib.byteCells l) s w h (by rw [Lib.byteCells_length]; exact hl) hB).mono ?_
  rintro e w' ⟨rfl, h1, h2, h3⟩
  refine ⟨rfl, ?_, h2, h3⟩
  unfold Bd
  rw [Lib.byteCells_append]
  exact .inr h1

def plainB (n : Int) : Bool := decide (32 ≤ n ∧ n ≤ 126)
theorem isPlain_any (r : Int) (w : World) : Calls Tryz.prog 153 #[.int .u8 r] w fun e w' => e = .returned (.bool (plainB r)) ∧ w = w' := by
  go_enter Tryz.func153, Tryz.ntmps153
  go_wp2
  all_goals go_ret
  all_goals exact ⟨ret_bool (by unfold plainB; rw [Bool.eq_iff_iff]; simp; omega), rfl⟩

def hexL : List UInt8 := [48, 49, 50, 51, 52, 53, 54, 55, 56, 57, 97, 98, 99, 100, 101, 102]
def sign (c : UInt8) : List UInt8 :=
  if c = 10 then [92, 110] else if c = 34 ∨ c = 92 then [92, c] else if plainB c.toNat then [c] else [92, 120, hexL.getD (c.toNat / 16) 0, hexL.getD (c.toNat % 16) 0]

def hexS : ByteArray := ⟨#[48, 49, 50, 51, 52, 53, 54, 55, 56, 57, 97, 98, 99, 100, 101, 102]⟩
theorem hex_fin : ∀ k : Fin 16, (hexS[k.1]'(k.2 : k.1 < 16)) = hexL.getD k.1 0 := by decide
theorem hex_at (k : Nat) (hk : k < 16) (h : k < hexS.size) : ((hexS[k]'h).toNat : Int) = ((hexL.getD k 0).toNat : Int) := by
  exact congrArg (fun x : UInt8 => (x.toNat : Int)) (hex_fin ⟨k, hk⟩)

set_option maxHeartbeats 400000 in
theorem writeSign_10 (B b : Nat) (l : List UInt8) (w : World) (h : Bd B b l w) (hl : l.length + 4 ≤ 140737488355328) (hB : B ≤ w.heap.size) :
    Calls Tryz.prog 140 #[.pointer (some ⟨b, 0, none⟩), .int .u8 10] w fun e w' => e = .returned (.tuple #[]) ∧ Bd B b (l ++ [92, 110]) w' ∧ Kp B b w w' := by
  go_enter Tryz.func140, Tryz.ntmps140
  go_wp2_with fail
  refine (writeByte_c B b l 92 _ rfl _ h (by omega) hB).mono ?_
  rintro e w1 ⟨rfl, h1, k1⟩
  go_wp2_with fail
  refine (writeByte_c B b (l ++ [92]) 110 _ rfl _ h1 (by simp; omega) (k1.size hB)).mono ?_
  rintro e w2 ⟨rfl, h2, k2⟩
  go_wp2
  go_end0
  exact ⟨rfl, by simpa using h2, k1.trans k2⟩
set_option maxHeartbeats 400000 in
theorem writeSign_34 (B b : Nat) (l : List UInt8) (w : World) (h : Bd B b l w) (hl : l.length + 4 ≤ 140737488355328) (hB : B ≤ w.heap.size) :
    Calls Tryz.prog 140 #[.pointer (some ⟨b, 0, none⟩), .int .u8 34] w fun e w' => e = .returned (.tuple #[]) ∧ Bd B b (l ++ [92, 34]) w' ∧ Kp B b w w' := by
  go_enter Tryz.func140, Tryz.ntmps140
  go_wp2_with fail
  refine (writeByte_c B b l 92 _ rfl _ h (by omega) hB).mono ?_
  rintro e w1 ⟨rfl, h1, k1⟩
  go_wp2_with fail
  refine (writeByte_c B b (l ++ [92]) 34 _ rfl _ h1 (by simp; omega) (k1.size hB)).mono ?_
  rintro e w2 ⟨rfl, h2, k2⟩
  go_wp2
  go_end0
  exact ⟨rfl, by simpa using h2, k1.trans k2⟩
set_option maxHeartbeats 400000 in
theorem writeSign_92 (B b : Nat) (l : List UInt8) (w : World) (h : Bd B b l w) (hl : l.length + 4 ≤ 140737488355328) (hB : B ≤ w.heap.size) :
    Calls Tryz.prog 140 #[.pointer (some ⟨b, 0, none⟩), .int .u8 92] w fun e w' => e = .returned (.tuple #[]) ∧ Bd B b (l ++ [92, 92]) w' ∧ Kp B b w w' := by
  go_enter Tryz.func140, Tryz.ntmps140
  go_wp2_with fail
  refine (writeByte_c B b l 92 _ rfl _ h (by omega) hB).mono ?_
  rintro e w1 ⟨rfl, h1, k1⟩
  go_wp2_with fail
  refine (writeByte_c B b (l ++ [92]) 92 _ rfl _ h1 (by simp; omega) (k1.size hB)).mono ?_
  rintro e w2 ⟨rfl, h2, k2⟩
  go_wp2
  go_end0
  exact ⟨rfl, by simpa using h2, k1.trans k2⟩
set_option maxHeartbeats 400000 in
theorem writeSign_plain (B b : Nat) (l : List UInt8) (c : UInt8) (w : World) (h : Bd B b l w) (hl : l.length + 4 ≤ 140737488355328) (hB : B ≤ w.heap.size)
    (h10 : ((c.toNat : Int) == 10) = false) (h34 : ((c.toNat : Int) == 34) = false) (h92 : ((c.toNat : Int) == 92) = false) (hp : plainB (c.toNat : Int) = true) :
    Calls Tryz.prog 140 #[.pointer (some ⟨b, 0, none⟩), .int .u8 (c.toNat : Int)] w fun e w' => e = .returned (.tuple #[]) ∧ Bd B b (l ++ [c]) w' ∧ Kp B b w w' := by
  go_enter Tryz.func140, Tryz.ntmps140
  go_wp2_with fail
  refine (isPlain_any _ _).mono ?_
  rintro e w0 ⟨rfl, rfl⟩
  go_wp2_with fail
  refine (writeByte_c B b l c _ rfl _ h (by omega) hB).mono ?_
  rintro e w1 ⟨rfl, h1, k1⟩
  go_wp2
  go_end0
  exact ⟨rfl, h1, k1⟩
set_option maxHeartbeats 400000 in
theorem writeSign_hex (B b : Nat) (l : List UInt8) (c : UInt8) (w : World) (h : Bd B b l w) (hl : l.length + 4 ≤ 140737488355328) (hB : B ≤ w.heap.size)
    (h10 : ((c.toNat : Int) == 10) = false) (h34 : ((c.toNat : Int) == 34) = false) (h92 : ((c.toNat : Int) == 92) = false) (hp : plainB (c.toNat : Int) = false) :
    Calls Tryz.prog 140 #[.pointer (some ⟨b, 0, none⟩), .int .u8 (c.toNat : Int)] w fun e w' => e = .returned (.tuple #[]) ∧ Bd B b (l ++ [92, 120, hexL.getD (c.toNat / 16) 0, hexL.getD (c.toNat % 16) 0]) w' ∧ Kp B b w w' := by
  have hc := c.toNat_lt
  have q0 : 0 ≤ (c.toNat : Int) / 16 := by omega
  have q1 : (c.toNat : Int) / 16 < 16 := by omega
  have r0 : 0 ≤ (c.toNat : Int) % 16 := by omega
  have r1 : (c.toNat : Int) % 16 < 16 := by omega
  go_enter Tryz.func140, Tryz.ntmps140
  go_wp2_with fail
  refine (isPlain_any _ _).mono ?_
  rintro e w0 ⟨rfl, rfl⟩
  go_wp2_with fail
  refine (writeString_c B b l _ _ h (by show l.length + 2 ≤ _; omega) hB).mono ?_
  rintro e w1 ⟨rfl, h1, k1⟩
  go_wp2_with fail
  refine (writeByte_c B b (l ++ [92, 120]) (hexL.getD (c.toNat / 16) 0) _ (hex_at _ (by omega) _) _ h1 (by simp; omega) (k1.size hB)).mono ?_
  rintro e w2 ⟨rfl, h2, k2⟩
  go_wp2_with fail
  refine (writeByte_c B b (l ++ [92, 120] ++ [hexL.getD (c.toNat / 16) 0]) (hexL.getD (c.toNat % 16) 0) _ (hex_at _ (by omega) _) _ h2 (by simp; omega) ((k1.trans k2).size hB)).mono ?_
  rintro e w3 ⟨rfl, h3, k3⟩
  go_wp2
  go_end0
  exact ⟨rfl, by simpa using h3, (k1.trans k2).trans k3⟩

theorem sign_len (c : UInt8) : (sign c).length ≤ 4 := by
  unfold sign
  split
  · simp
  · split
    · simp
    · split <;> simp

theorem writeSign_c (B b : Nat) (l : List UInt8) (c : UInt8) (w : World) (h : Bd B b l w) (hl : l.length + 4 ≤ 140737488355328) (hB : B ≤ w.heap.size) :
    Calls Tryz.prog 140 #[.pointer (some ⟨b, 0, none⟩), .int .u8 (c.toNat : Int)] w fun e w' => e = .returned (.tuple #[]) ∧ Bd B b (l ++ sign c) w' ∧ Kp B b w w' := by
  by_cases h10 : c = 10
  · subst h10
    exact writeSign_10 B b l w h hl hB
  by_cases h34 : c = 34
  · subst h34
    exact writeSign_34 B b l w h hl hB
  by_cases h92 : c = 92
  · subst h92
    exact writeSign_92 B b l w h hl hB
  have ne : ∀ d : UInt8, c ≠ d → ((c.toNat : Int) == (d.toNat : Int)) = false := by
    intro d hd
    rw [beq_eq_false_iff_ne]
    intro e
    exact hd (UInt8.toNat_inj.1 (by omega))
  by_cases hp : plainB (c.toNat : Int) = true
  · have e : sign c = [c] := by simp [sign, h10, h34, h92, hp]
    rw [e]
    exact writeSign_plain B b l c w h hl hB (ne 10 h10) (ne 34 h34) (ne 92 h92) hp
  · have e : sign c = [92, 120, hexL.getD (c.toNat / 16) 0, hexL.getD (c.toNat % 16) 0] := by simp [sign, h10, h34, h92, hp]
    rw [e]
    exact writeSign_hex B b l c w h hl hB (ne 10 h10) (ne 34 h34) (ne 92 h92) (by simpa using hp)
end Go.Proofs.YthjfkngfgomkbaaGreatDoor

/- text.writeSign appends to a builder just the sign that a byte has in a symbol's text. The iterator that package text goes over a text by (eachByte): what a loop over it is owed. text.Quote answers a symbol's text: a quote, each byte's sign, a quote; for every text of at most 2^30 bytes, in every world. text.firstHex, firstEscape and firstSign answer the byte that a sign at a text's beginning says, and how long the sign is. text.firstSign and text.betweenQuotes answer what plain functions of the bytes say. Plain facts on lists of bytes: a byte's sign tells the byte; texts of unlike symbols are unlike; numerals of unlike numbers are unlike. No program here. The iterator that package text goes over a symbol's text by (eachSign): what a loop over it is owed. Plain facts on numerals: a numeral tells its number; the reader of numbers reads a numeral as its number, and reads nothing but numerals. No program here. Digits: those of Tdig. Plain facts: the reader of numbers reads just the numerals, each as its number. No program here. -/
import Derived.Test.YthhepmddcncjoaaGreatDoorChecked
import Derived.Test.YthhepmddcncjoaaGreatDoorKRel8e
import Derived.Test.YthhepmddcncjoaaGreatDoorKConv
import Derived.WalkKit
import Derived.WalkLawsBesides
import Derived.Lib.Hide
import Derived.Lib.Strings
import Derived.RangeFuncNested
import Derived.RangeFuncBound
import Derived.RangeFuncCalls
import Derived.RangeFuncLeaves
import Derived.Shelf.Abstract
import Derived.Shelf.RegionOpen
import Derived.OwnWalkIn
import Derived.TacticsInMore
import Derived.LoopNIn
import Derived.LoopIn
import Derived.Lib.ItoaLen
set_option linter.unusedSimpArgs false
set_option linter.unusedVariables false
namespace Go.Proofs.YthhepmddcncjoaaGreatDoor
open Go.RowKit

/-- A builder in block b that holds the bytes l. -/
def Bd (B b : Nat) (l : List UInt8) (w : World) : Prop := Lib.IsBuilderF 79 5 B b (Lib.byteCells l) w
/-- What the builder's writers keep. -/
structure Kp (B b : Nat) (w w' : World) : Prop where
  below : Below B w w'
  others : Lib.OthersKept 5 (some b) w w'
theorem Kp.refl (B b : Nat) (w : World) : Kp B b w w := ⟨Below.refl _ _, Lib.OthersKept.refl _ _ _⟩
theorem Kp.trans {B b : Nat} {a c d : World} (h : Kp B b a c) (k : Kp B b c d) : Kp B b a d := ⟨h.below.trans k.below, h.others.trans k.others⟩
theorem Kp.size {B b : Nat} {a c : World} (h : Kp B b a c) (hB : B ≤ a.heap.size) : B ≤ c.heap.size := Nat.le_trans hB h.below.size

theorem byteCells_snoc (l : List UInt8) (c : UInt8) : Lib.byteCells (l ++ [c]) = Lib.byteCells l ++ [.int .u8 (c.toNat : Int)] := by
  simp [Lib.byteCells]

theorem writeByte_c (B b : Nat) (l : List UInt8) (c : UInt8) (n : Int) (hn : n = (c.toNat : Int)) (w : World) (h : Bd B b l w) (hl : l.length + 1 ≤ 140737488355328) (hB : B ≤ w.heap.size) :
    Calls Tryz.prog 121 #[.pointer (some ⟨b, 0, none⟩), .int .u8 n] w fun e w' => e = .returned .nilIface ∧ Bd B b (l ++ [c]) w' ∧ Kp B b w w' := by
  subst hn
  refine (Tryz.Builder_WriteByte_k B b (Lib.byteCells l) c.toNat w h (by rw [Lib.byteCells_length]; exact hl) hB).mono ?_
  rintro e w' ⟨rfl, h1, h2, h3⟩
  refine ⟨rfl, ?_, h2, h3⟩
  unfold Bd
  rw [byteCells_snoc]
  exact .inr h1
theorem writeString_c (B b : Nat) (l : List UInt8) (s : ByteArray) (w : World) (h : Bd B b l w) (hl : l.length + s.size ≤ 140737488355328) (hB : B ≤ w.heap.size) :
    Calls Tryz.prog 67 #[.pointer (some ⟨b, 0, none⟩), .string s] w fun e w' => e = .returned (.tuple #[.int .i64 s.size, .nilIface]) ∧ Bd B b (l ++ s.data.toList) w' ∧ Kp B b w w' := by
  refine (Tryz.Builder_WriteString_k B b (Lib.byteCells l) s w h (by rw [Lib.byteCells_length]; exact hl) hB).mono ?_
  rintro e w' ⟨rfl, h1, h2, h3⟩
  refine ⟨rfl, ?_, h2, h3⟩
  unfold Bd
  rw [Lib.byteCells_append]
  exact .inr h1

def plainB (n : Int) : Bool := decide (32 ≤ n ∧ n ≤ 126)
theorem isPlain_any (r : Int) (w : World) : Calls Tryz.prog 163 #[.int .u8 r] w fun e w' => e = .returned (.bool (plainB r)) ∧ w = w' := by
  go_enter Tryz.func163, Tryz.ntmps163
  go_wp2
  all_goals go_ret
  all_goals exact ⟨ret_bool (by unfold plainB; rw [Bool.eq_iff_iff]; simp; omega), rfl⟩

def hexL : List UInt8 := [48, 49, 50, 51, 52, 53, 54, 55, 56, 57, 97, 98, 99, 100, 101, 102]
def sign (c : UInt8) : List UInt8 :=
  if c = 10 then [92, 110] else if c = 34 ∨ c = 92 then [92, c] else if plainB c.toNat then [c] else [92, 120, hexL.getD (c.toNat / 16) 0, hexL.getD (c.toNat % 16) 0]

def hexS : ByteArray := ⟨#[48, 49, 50, 51, 52, 53, 54, 55, 56, 57, 97, 98, 99, 100, 101, 102]⟩
theorem hex_fin : ∀ k : Fin 16, (hexS[k.1]'(k.2 : k.1 < 16)) = hexL.getD k.1 0 := by decide
theorem hex_at (k : Nat) (hk : k < 16) (h : k < hexS.size) : ((hexS[k]'h).toNat : Int) = ((hexL.getD k 0).toNat : Int) := by
  exact congrArg (fun x : UInt8 => (x.toNat : Int)) (hex_fin ⟨k, hk⟩)

set_option maxHeartbeats 400000 in
theorem writeSign_10 (B b : Nat) (l : List UInt8) (w : World) (h : Bd B b l w) (hl : l.length + 4 ≤ 140737488355328) (hB : B ≤ w.heap.size) :
    Calls Tryz.prog 138 #[.pointer (some ⟨b, 0, none⟩), .int .u8 10] w fun e w' => e = .returned (.tuple #[]) ∧ Bd B b (l ++ [92, 110]) w' ∧ Kp B b w w' := by
  go_enter Tryz.func138, Tryz.ntmps138
  go_wp2_with fail
  refine (writeByte_c B b l 92 _ rfl _ h (by omega) hB).mono ?_
  rintro e w1 ⟨rfl, h1, k1⟩
  go_wp2_with fail
  refine (writeByte_c B b (l ++ [92]) 110 _ rfl _ h1 (by simp; omega) (k1.size hB)).mono ?_
  rintro e w2 ⟨rfl, h2, k2⟩
  go_wp2
  go_end0
  exact ⟨rfl, by simpa using h2, k1.trans k2⟩
set_option maxHeartbeats 400000 in
theorem writeSign_34 (B b : Nat) (l : List UInt8) (w : World) (h : Bd B b l w) (hl : l.length + 4 ≤ 140737488355328) (hB : B ≤ w.heap.size) :
    Calls Tryz.prog 138 #[.pointer (some ⟨b, 0, none⟩), .int .u8 34] w fun e w' => e = .returned (.tuple #[]) ∧ Bd B b (l ++ [92, 34]) w' ∧ Kp B b w w' := by
  go_enter Tryz.func138, Tryz.ntmps138
  go_wp2_with fail
  refine (writeByte_c B b l 92 _ rfl _ h (by omega) hB).mono ?_
  rintro e w1 ⟨rfl, h1, k1⟩
  go_wp2_with fail
  refine (writeByte_c B b (l ++ [92]) 34 _ rfl _ h1 (by simp; omega) (k1.size hB)).mono ?_
  rintro e w2 ⟨rfl, h2, k2⟩
  go_wp2
  go_end0
  exact ⟨rfl, by simpa using h2, k1.trans k2⟩
set_option maxHeartbeats 400000 in
theorem writeSign_92 (B b : Nat) (l : List UInt8) (w : World) (h : Bd B b l w) (hl : l.length + 4 ≤ 140737488355328) (hB : B ≤ w.heap.size) :
    Calls Tryz.prog 138 #[.pointer (some ⟨b, 0, none⟩), .int .u8 92] w fun e w' => e = .returned (.tuple #[]) ∧ Bd B b (l ++ [92, 92]) w' ∧ Kp B b w w' := by
  go_enter Tryz.func138, Tryz.ntmps138
  go_wp2_with fail
  refine (writeByte_c B b l 92 _ rfl _ h (by omega) hB).mono ?_
  rintro e w1 ⟨rfl, h1, k1⟩
  go_wp2_with fail
  refine (writeByte_c B b (l ++ [92]) 92 _ rfl _ h1 (by simp; omega) (k1.size hB)).mono ?_
  rintro e w2 ⟨rfl, h2, k2⟩
  go_wp2
  go_end0
  exact ⟨rfl, by simpa using h2, k1.trans k2⟩
set_option maxHeartbeats 400000 in
theorem writeSign_plain (B b : Nat) (l : List UInt8) (c : UInt8) (w : World) (h : Bd B b l w) (hl : l.length + 4 ≤ 140737488355328) (hB : B ≤ w.heap.size)
    (h10 : ((c.toNat : Int) == 10) = false) (h34 : ((c.toNat : Int) == 34) = false) (h92 : ((c.toNat : Int) == 92) = false) (hp : plainB (c.toNat : Int) = true) :
    Calls Tryz.prog 138 #[.pointer (some ⟨b, 0, none⟩), .int .u8 (c.toNat : Int)] w fun e w' => e = .returned (.tuple #[]) ∧ Bd B b (l ++ [c]) w' ∧ Kp B b w w' := by
  go_enter Tryz.func138, Tryz.ntmps138
  go_wp2_with fail
  refine (isPlain_any _ _).mono ?_
  rintro e w0 ⟨rfl, rfl⟩
  go_wp2_with fail
  refine (writeByte_c B b l c _ rfl _ h (by omega) hB).mono ?_
  rintro e w1 ⟨rfl, h1, k1⟩
  go_wp2
  go_end0
  exact ⟨rfl, h1, k1⟩
set_option maxHeartbeats 400000 in
theorem writeSign_hex (B b : Nat) (l : List UInt8) (c : UInt8) (w : World) (h : Bd B b l w) (hl : l.length + 4 ≤ 140737488355328) (hB : B ≤ w.heap.size)
    (h10 : ((c.toNat : Int) == 10) = false) (h34 : ((c.toNat : Int) == 34) = false) (h92 : ((c.toNat : Int) == 92) = false) (hp : plainB (c.toNat : Int) = false) :
    Calls Tryz.prog 138 #[.pointer (some ⟨b, 0, none⟩), .int .u8 (c.toNat : Int)] w fun e w' => e = .returned (.tuple #[]) ∧ Bd B b (l ++ [92, 120, hexL.getD (c.toNat / 16) 0, hexL.getD (c.toNat % 16) 0]) w' ∧ Kp B b w w' := by
  have hc := c.toNat_lt
  have q0 : 0 ≤ (c.toNat : Int) / 16 := by omega
  have q1 : (c.toNat : Int) / 16 < 16 := by omega
  have r0 : 0 ≤ (c.toNat : Int) % 16 := by omega
  have r1 : (c.toNat : Int) % 16 < 16 := by omega
  go_enter Tryz.func138, Tryz.ntmps138
  go_wp2_with fail
  refine (isPlain_any _ _).mono ?_
  rintro e w0 ⟨rfl, rfl⟩
  go_wp2_with fail
  refine (writeString_c B b l _ _ h (by show l.length + 2 ≤ _; omega) hB).mono ?_
  rintro e w1 ⟨rfl, h1, k1⟩
  go_wp2_with fail
  refine (writeByte_c B b (l ++ [92, 120]) (hexL.getD (c.toNat / 16) 0) _ (hex_at _ (by omega) _) _ h1 (by simp; omega) (k1.size hB)).mono ?_
  rintro e w2 ⟨rfl, h2, k2⟩
  go_wp2_with fail
  refine (writeByte_c B b (l ++ [92, 120] ++ [hexL.getD (c.toNat / 16) 0]) (hexL.getD (c.toNat % 16) 0) _ (hex_at _ (by omega) _) _ h2 (by simp; omega) ((k1.trans k2).size hB)).mono ?_
  rintro e w3 ⟨rfl, h3, k3⟩
  go_wp2
  go_end0
  exact ⟨rfl, by simpa using h3, (k1.trans k2).trans k3⟩

theorem sign_len (c : UInt8) : (sign c).length ≤ 4 := by
  unfold sign
  split
  · simp
  · split
    · simp
    · split <;> simp

theorem writeSign_c (B b : Nat) (l : List UInt8) (c : UInt8) (w : World) (h : Bd B b l w) (hl : l.length + 4 ≤ 140737488355328) (hB : B ≤ w.heap.size) :
    Calls Tryz.prog 138 #[.pointer (some ⟨b, 0, none⟩), .int .u8 (c.toNat : Int)] w fun e w' => e = .returned (.tuple #[]) ∧ Bd B b (l ++ sign c) w' ∧ Kp B b w w' := by
  by_cases h10 : c = 10
  · subst h10
    exact writeSign_10 B b l w h hl hB
  by_cases h34 : c = 34
  · subst h34
    exact writeSign_34 B b l w h hl hB
  by_cases h92 : c = 92
  · subst h92
    exact writeSign_92 B b l w h hl hB
  have ne : ∀ d : UInt8, c ≠ d → ((c.toNat : Int) == (d.toNat : Int)) = false := by
    intro d hd
    rw [beq_eq_false_iff_ne]
    intro e
    exact hd (UInt8.toNat_inj.1 (by omega))
  by_cases hp : plainB (c.toNat : Int) = true
  · have e : sign c = [c] := by simp [sign, h10, h34, h92, hp]
    rw [e]
    exact writeSign_plain B b l c w h hl hB (ne 10 h10) (ne 34 h34) (ne 92 h92) hp
  · have e : sign c = [92, 120, hexL.getD (c.toNat / 16) 0, hexL.getD (c.toNat % 16) 0] := by simp [sign, h10, h34, h92, hp]
    rw [e]
    exact writeSign_hex B b l c w h hl hB (ne 10 h10) (ne 34 h34) (ne 92 h92) (by simpa using hp)
end Go.Proofs.YthhepmddcncjoaaGreatDoor
namespace Go.Proofs.YthhepmddcncjoaaGreatDoor
open Go.RowKit Go.Shelf

attribute [local go_sem] Oper.semAt_some

/-- The box of a captured text. -/
def BoxAt (Bn : Nat) (s : ByteArray) (W : World) : Prop := W.heap[Bn]? = some (.cells #[.string s] 9 (0, 0))
theorem BoxAt.cell {Bn : Nat} {s : ByteArray} {W : World} (h : BoxAt Bn s W) : W.cell? ⟨Bn, 0, none⟩ = some (.string s) := by
  unfold BoxAt at h
  simp [World.cell?, h]
def KeepsBox (Bn : Nat) (s : ByteArray) (W W' : World) : Prop := BoxAt Bn s W → BoxAt Bn s W'

theorem take_snocB (s : ByteArray) (k : Nat) (h : k < s.size) : s.data.toList.take (k + 1) = s.data.toList.take k ++ [s[k]] := by
  rw [List.take_succ_eq_append_getElem (by simpa using h)]; rfl

set_option maxHeartbeats 1000000 in
theorem eachByte_in (n : Nat) (s : ByteArray) (w : World) :
    CallsIn Fence.wide n Tryz.prog 137 #[.string s] w fun e w' => e = .returned (.func (.func 162) #[] #[.pointer (some ⟨w.heap.size, 0, none⟩)]) ∧ w' = w.alloc (.cells #[.string s] 9) := by
  refine callsIn_of_wp Tryz.func137 rfl trivial ?_ rfl
  simp only [Tryz.ntmps137, List.size_toArray, List.length_cons, List.length_nil, Nat.reduceAdd, Nat.reduceSub, Array.replicate_succ, Array.replicate_zero, List.push_toArray, List.append_toArray, List.nil_append, List.cons_append]
  gi_wp2
  go_ret
  exact ⟨rfl, rfl⟩

set_option maxRecDepth 100000 in
set_option maxHeartbeats 1000000 in
theorem eachByte1_in (n : Nat) (hn : 1 ≤ n) (l Bn : Nat) (s : ByteArray) (hs : s.size ≤ 1073741824) (J Jx : List UInt8 → World → Prop)
    (hY : ∀ pre x W, J pre W → pre.length < s.size → YieldAt Fence.wide (n - 1) Tryz.prog l #[.int .u8 (x.toNat : Int)] W fun e W' =>
      (e = .returned (.bool true) ∧ J (pre ++ [x]) W' ∧ KeepsBox Bn s W W') ∨ (e = .returned (.bool false) ∧ Jx (pre ++ [x]) W'))
    (W : World) (hBn : BoxAt Bn s W) (h0 : J [] W) :
    CallsIn Fence.wide n Tryz.prog 162 #[.func (.yield l) #[] #[], .pointer (some ⟨Bn, 0, none⟩)] W fun e W' => (∃ v, e = .returned v) ∧
      ((∃ ys, ys = s.data.toList ∧ J ys W') ∨ (∃ pre, pre <+: s.data.toList ∧ Jx pre W')) := by
  have hlen : s.data.toList.length = s.size := by simp
  have hb := hBn.cell
  refine callsIn_of_wp Tryz.func162 rfl trivial ?_ rfl
  simp only [Tryz.ntmps162, List.size_toArray, List.length_cons, List.length_nil, Nat.reduceAdd, Nat.reduceSub, Array.replicate_succ, Array.replicate_zero, List.push_toArray, List.append_toArray, List.nil_append, List.cons_append]
  gi_wp2
  gi_loopw [6] (fun i wr => ∃ k : Nat, k ≤ s.size ∧ i = .int .i64 k ∧ BoxAt Bn s wr ∧ J (s.data.toList.take k) wr)
    (fun i wr => s.size - (intOf i).toNat)
  case atStart =>
    exact ⟨0, Nat.zero_le _, rfl, hBn, by simpa using h0⟩
  case round =>
    obtain ⟨k, hk, rfl, hbx, hJ⟩ := hrel
    have hbc := hbx.cell
    by_cases hlt : k < s.size
    · obtain ⟨fn, tmps, assign, body, hy, hR⟩ := hY (s.data.toList.take k) (s[k]'hlt) wr hJ (by rw [List.length_take]; omega)
      have Hts := Lib.hid (take_snocB s k hlt)
      gi_wp2
      refine hR.mono ?_
      rintro e W3 (⟨rfl, hJ3, hk3⟩ | ⟨rfl, hJx3⟩)
      · gi_wp2
        go_roundw
        case rel => exact ⟨k + 1, hlt, by go_num, hk3 hbx, by rw [Hts.out]; exact hJ3⟩
        case measure => simp [intOf]; omega
      · gi_wp2
        refine bodyPost_ret (results_none rfl _ _ _) rfl ?_
        exact ⟨⟨_, rfl⟩, .inr ⟨_, (by rw [← Hts.out]; exact List.take_prefix _ _), hJx3⟩⟩
    · obtain rfl : k = s.size := by omega
      gi_wp2
      go_end0
      exact ⟨⟨_, rfl⟩, .inl ⟨_, rfl, by rwa [List.take_of_length_le (by omega)] at hJ⟩⟩

theorem eachByte_stops (n : Nat) (hn : 1 ≤ n) (Bn : Nat) (s : ByteArray) (hs : s.size ≤ 1073741824) (w : World) (hlt : Bn < w.heap.size) (hBn : BoxAt Bn s w) :
    SeqStopsK Fence.wide n Tryz.prog 162 #[.pointer (some ⟨Bn, 0, none⟩)] (fun x : UInt8 => #[Value.int .u8 (x.toNat : Int)]) (KeepsBox Bn s) (fun ys => ys = s.data.toList) (fun pre => pre <+: s.data.toList) s.size w := fun l J Jx W hW _ _ hY h0 =>
  eachByte1_in n hn l Bn s hs J Jx hY W ((hW.block Bn hlt).trans hBn) h0
end Go.Proofs.YthhepmddcncjoaaGreatDoor
namespace Go.Proofs.YthhepmddcncjoaaGreatDoor
open Go.RowKit Go.Shelf

attribute [local go_sem] Oper.semAt_some

theorem Bd.kept {B b : Nat} {l : List UInt8} {W W' : World} {row : Option Nat} (h : Bd B b l W) (hg : W.grownBy W' row) (hr : ∀ r, row = some r → ∃ o : Obj, W.heap[r]? = some o ∧ o.isCells = false) : Bd B b l W' := by
  have k : ∀ p, Lib.BuilderAtF 79 5 B b p (Lib.byteCells l) W → Lib.BuilderAtF 79 5 B b p (Lib.byteCells l) W' := by
    rintro p ⟨hB, v, hb, hown, hne⟩
    refine ⟨hB, v, (grownBy_keeps_cells hg hr hb rfl).trans hb, hown.kept hg ?_, hne⟩
    rcases hown.2 with ⟨rfl, _⟩ | ⟨g, cap, cur, fz, rfl, _, hgg, _⟩
    · exact .inl rfl
    · right
      intro e
      obtain ⟨o, ho, hc⟩ := hr g e.symm
      rw [hgg] at ho
      cases ho
      cases hc
  exact h.elim (fun x => .inl (k _ x)) (fun x => .inr (k _ x))

theorem Kp.keepsOthers {B b : Nat} {l : List UInt8} {W W' : World} (h : Bd B b l W) (k : Kp B b W W') : KeepsOthers W W' := by
  refine ⟨k.below.size, fun i o hi ho => k.others i o hi ?_ ?_⟩
  · intro e
    obtain ⟨v, hb⟩ : ∃ p v, W.heap[b]? = some (.cells #[p, v] 79 (0, 0)) := by
      rcases h with ⟨_, v, hb, _⟩ | ⟨_, v, hb, _⟩ <;> exact ⟨_, v, hb⟩
    obtain ⟨v, hb⟩ := hb
    cases e
    rw [hb] at hi
    cases hi
    cases ho
  · rintro c fz rfl
    cases ho

theorem Kp.keepsBox {B b Bn : Nat} {s : ByteArray} {W W' : World} (hne : Bn ≠ b) (k : Kp B b W W') : KeepsBox Bn s W W' := by
  intro h
  refine k.others Bn _ h (fun e => hne (Option.some.inj e)) ?_
  intro c fz e
  cases e

/-- The text of a symbol. -/
def quoteL (l : List UInt8) : List UInt8 := 34 :: (l.flatMap sign ++ [34])

theorem flat_len (l : List UInt8) : (l.flatMap sign).length ≤ 4 * l.length := by
  induction l with
  | nil => simp
  | cons c l ih => have := sign_len c; simp only [List.flatMap_cons, List.length_append, List.length_cons]; omega

theorem grow_c (n : Int) (m : Nat) (hn : n = (m : Int)) (w : World) (hm : m ≤ 281474976710656) :
    Calls Tryz.prog 136 #[.pointer (some ⟨w.heap.size, 0, none⟩), .int .i64 n] (w.alloc (.cells #[.pointer none, .slice none 0 0] 79)) fun e w' =>
      e = .returned (.tuple #[]) ∧ Bd w.heap.size w.heap.size [] w' ∧ Below w.heap.size w w' ∧ w.heap.size < w'.heap.size := by
  subst hn
  refine (Tryz.Builder_Grow_fresh w.heap.size w.heap.size m _ (Nat.le_refl _) (World.alloc_heap_new w _) (by simp) hm).mono ?_
  rintro e w' ⟨rfl, h1, h2⟩
  refine ⟨rfl, .inr (.of h1), ((Below.refl _ w).alloc (Nat.le_refl _) _).trans h2, ?_⟩
  have := h2.size
  simp at this
  omega
theorem bstr_c (B b : Nat) (l : List UInt8) (w : World) (h : Bd B b l w) (hB : B ≤ w.heap.size) :
    Calls Tryz.prog 37 #[.pointer (some ⟨b, 0, none⟩)] w fun e w' => e = .returned (.string ⟨l.toArray⟩) ∧ Bd B b l w' ∧ Kp B b w w' := by
  refine (Tryz.Builder_String_any_k B b l w h hB).mono ?_
  rintro e w' ⟨rfl, h1, h2, h3⟩
  exact ⟨rfl, h1, h2, h3⟩

set_option maxRecDepth 100000 in
set_option maxHeartbeats 2000000 in
theorem quote_in (s : ByteArray) (hs : s.size ≤ 1073741824) (w : World) :
    CallsIn Fence.wide 6 Tryz.prog 103 #[.string s] w fun e W' => e = .returned (.string ⟨(quoteL s.data.toList).toArray⟩) ∧ Below w.heap.size w W' := by
  refine callsIn_of_wp_marks Tryz.func103 rfl trivial ?_ rfl
  simp only [Tryz.ntmps103, List.size_toArray, List.length_cons, List.length_nil, Nat.reduceAdd, Nat.reduceSub, Array.replicate_succ, Array.replicate_zero, List.push_toArray, List.append_toArray, List.nil_append, List.cons_append]
  gi_wp2_with fail
  refine ⟨trivial, (callsIn_wide.2 (grow_c _ (s.size + 2) (by omega) w (by omega))).mono ?_⟩
  rintro e w1 ⟨rfl, b1, k1, z1⟩
  gi_wp2_with fail
  refine ⟨trivial, (callsIn_wide.2 (writeByte_c _ _ [] 34 _ rfl _ b1 (by simp) (by omega))).mono ?_⟩
  rintro e w2 ⟨rfl, b2, k2⟩
  have z2 : w.heap.size < w2.heap.size := Nat.lt_of_lt_of_le z1 k2.below.size
  gi_wp2_with fail
  refine ⟨trivial, (eachByte_in _ s w2).mono ?_⟩
  rintro e w3 ⟨rfl, rfl⟩
  gi_wp2_with fail
  have hbox : BoxAt w2.heap.size s (w2.alloc (.cells #[.string s] 9)) := World.alloc_heap_new w2 _
  have hB3 : Below w.heap.size w (w2.alloc (.cells #[.string s] 9)) := (k1.trans k2.below).alloc (by omega) _
  have b3 : Bd w.heap.size w.heap.size [34] (w2.alloc (.cells #[.string s] 9)) := b2.kept (World.grownBy_alloc w2 _ none) (fun r e => by cases e)
  refine wpIn_rangeFunc_ownF rfl (by omega) (gf := 162) (lb := #[.pointer (some ⟨w2.heap.size, 0, none⟩)]) rfl trivial (enters_of Tryz.func162 (by kernel_rfl) rfl)
    (eachByte_stops 5 (by omega) w2.heap.size s hs (w2.alloc (.cells #[.string s] 9)) (by simp) hbox) (fun h k x => k (h x)) ?hKb (Below.refl _ _) (fun _ => rfl)
    (fun pre W => (Bd w.heap.size w.heap.size (34 :: pre.flatMap sign) W) ∧ Below w.heap.size w W)
    (fun _ _ _ => False)
    (OwnFrom.and (Own.from (fun s A B row hs hg hr => hs.kept hg hr) _) (ownFrom_below (Nat.le_refl _) (by simp; omega)))
    (fun _ _ _ _ _ hs _ _ => hs)
    ⟨b3, hB3⟩
    (fun x => { tmps := #[.string s, undef, .string ⟨#[]⟩, .pointer (some ⟨w.heap.size, 0, none⟩), .int .u8 (x.toNat : Int), .string s, .int .i64 s.size, .int .i64 (s.size + 2), .tuple #[], .nilIface, .string s, .func (.func 162) #[] #[.pointer (some ⟨w2.heap.size, 0, none⟩)], .int .u8 (x.toNat : Int), undef, undef, undef, undef], defers := [] }) ?assign ?body ?done ?stop
  case hKb =>
    intro W l o o' hl hl2 ho _ hb
    refine (grownBy_keeps_cells (grownBy_putObj' W l o') (fun r e => by cases e; exact ⟨o, hl2, ho⟩) hb rfl).trans hb
  case assign =>
    intro l x W K hK
    gi_wp2
    exact hK
  case body =>
    rintro l pre x W ⟨hb, hB⟩ hlen
    have hfl := flat_len pre
    have hsz := hB.size
    gi_wp2_with fail
    refine ⟨trivial, (CallsIn.inRound l (callsIn_wide.2 (writeSign_c _ _ _ x W hb (by simp only [List.length_cons]; omega) hB.size))).mono ?_⟩
    rintro e w4 ⟨rfl, b4, k4⟩
    gi_wp2
    exact ⟨k4.keepsOthers hb, k4.keepsBox (by omega), by simpa using b4, hB.trans k4.below⟩
  case done =>
    rintro D ys W hD rfl ⟨hb, hB⟩ hK
    have hfl := flat_len s.data.toList
    have hlen : s.data.toList.length = s.size := by simp
    gi_wp2_with fail
    refine ⟨trivial, (callsIn_wide.2 (writeByte_c _ _ _ 34 _ rfl _ hb (by simp only [List.length_cons]; omega) hB.size)).mono ?_⟩
    rintro e w4 ⟨rfl, b4, k4⟩
    have hK4 := (k4.keepsOthers hb).same D _ hK rfl
    gi_wp2_with fail
    refine ⟨trivial, (callsIn_wide.2 (bstr_c _ _ _ w4 b4 (Nat.le_trans hB.size k4.below.size))).mono ?_⟩
    rintro e w5 ⟨rfl, b5, k5⟩
    have hK5 := (k5.keepsOthers b4).same D _ hK4 rfl
    gi_wp2
    refine ⟨by simp, .inl ⟨_, _, rfl, run_takeDeferred hK5, ?_⟩⟩
    refine ⟨_, results_tmp rfl _ _ _, by simp [quoteL], ((hB.trans k4.below).trans k5.below).trans (belowK_b (w := w) (Nat.le_refl _) w5 D _ _ (by simp at hD; omega) hK5 rfl rfl)⟩
  case stop =>
    rintro D c pre W _ _ h _
    exact h.elim

theorem quote_c (s : ByteArray) (hs : s.size ≤ 1073741824) (w : World) :
    Calls Tryz.prog 103 #[.string s] w fun e W' => e = .returned (.string ⟨(quoteL s.data.toList).toArray⟩) ∧ Below w.heap.size w W' :=
  callsIn_wide.1 (quote_in s hs w)
end Go.Proofs.YthhepmddcncjoaaGreatDoor
namespace Go.Proofs.YthhepmddcncjoaaGreatDoor
open Go.RowKit

def hexIx (c : UInt8) : Int := Lib.indexByte hexL c
theorem hexIx_fin : ∀ c : Fin 256, -1 ≤ hexIx (UInt8.ofNat c.1) ∧ hexIx (UInt8.ofNat c.1) < 16 := by decide +kernel
theorem hexIx_in (c : UInt8) : -1 ≤ hexIx c ∧ hexIx c < 16 := by
  have := hexIx_fin ⟨c.toNat, c.toNat_lt⟩
  simpa using this
theorem idx_c (c : UInt8) (z : Int) (hz : z = (c.toNat : Int)) (w : World) :
    Calls Tryz.prog 194 #[.string ⟨#[48, 49, 50, 51, 52, 53, 54, 55, 56, 57, 97, 98, 99, 100, 101, 102]⟩, .int .u8 z] w fun e w' => e = .returned (.int .i64 (hexIx c)) ∧ w = w' := by
  subst hz
  refine (Tryz.strings_IndexByte _ _ _).mono ?_
  rintro e w' ⟨rfl, rfl⟩
  refine ⟨?_, rfl⟩
  have : ((c.toNat : Int).toNat.toUInt8 : UInt8) = c := by simp
  rw [this]
  rfl

theorem or_fin : ∀ h l : Fin 16, bits BinOp.or IntKind.i64 ((h.1 : Int) * 16) (l.1 : Int) % 256 = 16 * (h.1 : Int) + (l.1 : Int) := by decide +kernel
theorem hex_or (h l : Int) (h0 : 0 ≤ h) (h1 : h < 16) (l0 : 0 ≤ l) (l1 : l < 16) : bits BinOp.or IntKind.i64 (h * 16) l % 256 = 16 * h + l := by
  have := or_fin ⟨h.toNat, by omega⟩ ⟨l.toNat, by omega⟩
  simpa [Int.toNat_of_nonneg h0, Int.toNat_of_nonneg l0] using this

/-- What a sign at the beginning says. -/
def hexS4 (l : List UInt8) : Option (UInt8 × Nat) :=
  if l.length < 4 then none else
    if hexIx (l.getD 2 0) < 0 ∨ hexIx (l.getD 3 0) < 0 then none else
      if plainB (16 * hexIx (l.getD 2 0) + hexIx (l.getD 3 0)) ∨ 16 * hexIx (l.getD 2 0) + hexIx (l.getD 3 0) = 10 then none
      else some (UInt8.ofNat (16 * hexIx (l.getD 2 0) + hexIx (l.getD 3 0)).toNat, 4)
def signV (a : Addr) : Option (UInt8 × Nat) → Value
  | some (c, n) => .tuple #[.int .u8 (c.toNat : Int), .int .i64 (n : Int), .nilIface]
  | none => .tuple #[.int .u8 0, .int .i64 0, .iface 256 (.pointer (some a))]

set_option maxHeartbeats 1000000 in
theorem firstHex_c (s : ByteArray) (a : Addr) (w : World) (hs : s.size ≤ 1073741824) (herr : w.cell? ⟨2, 0, none⟩ = some (.iface 256 (.pointer (some a)))) :
    Calls Tryz.prog 188 #[.string s] w fun e w' => e = .returned (signV a (hexS4 s.data.toList)) ∧ ∃ k, w' = w.drewN k := by
  have hlen : s.data.toList.length = s.size := by simp
  by_cases h4 : s.size < 4
  · have Hf := Lib.hid (show hexS4 s.data.toList = none by unfold hexS4; rw [if_pos (by omega)])
    clear hlen
    go_enter Tryz.func188, Tryz.ntmps188
    go_wp2
    go_quiet (fail)
    go_wp2
    go_ret3
    rw [Hf.out]
    exact ⟨rfl, _, rfl⟩
  have h2 : 2 < s.size := by omega
  have h3 : 3 < s.size := by omega
  have g2 : s.data.toList.getD 2 0 = s[2] := by rw [List.getD_eq_getElem?_getD, List.getElem?_eq_getElem (by omega)]; rfl
  have g3 : s.data.toList.getD 3 0 = s[3] := by rw [List.getD_eq_getElem?_getD, List.getElem?_eq_getElem (by omega)]; rfl
  have hH := hexIx_in s[2]
  have hL := hexIx_in s[3]
  by_cases hneg : hexIx s[2] < 0
  · have Hf := Lib.hid (show hexS4 s.data.toList = none by unfold hexS4; rw [if_neg (by omega), g2, if_pos (.inl hneg)])
    clear hlen g2 g3
    go_enter Tryz.func188, Tryz.ntmps188
    go_wp2_with fail
    refine (idx_c s[2] _ rfl _).mono ?_
    rintro e w1 ⟨rfl, rfl⟩
    go_wp2_with fail
    refine (idx_c s[3] _ rfl _).mono ?_
    rintro e w1 ⟨rfl, rfl⟩
    go_wp2
    go_quiet (fail)
    go_wp2
    go_ret3
    rw [Hf.out]
    exact ⟨rfl, _, rfl⟩
  by_cases hneg2 : hexIx s[3] < 0
  · have Hf := Lib.hid (show hexS4 s.data.toList = none by unfold hexS4; rw [if_neg (by omega), g3, if_pos (.inr hneg2)])
    clear hlen g2 g3
    go_enter Tryz.func188, Tryz.ntmps188
    go_wp2_with fail
    refine (idx_c s[2] _ rfl _).mono ?_
    rintro e w1 ⟨rfl, rfl⟩
    go_wp2_with fail
    refine (idx_c s[3] _ rfl _).mono ?_
    rintro e w1 ⟨rfl, rfl⟩
    go_wp2
    go_quiet (fail)
    go_wp2
    go_ret3
    rw [Hf.out]
    exact ⟨rfl, _, rfl⟩
  have hor := hex_or (hexIx s[2]) (hexIx s[3]) (by omega) (by omega) (by omega) (by omega)
  obtain ⟨v, hv⟩ : ∃ v : Int, (16 : Int) * hexIx s[2] + hexIx s[3] = v := ⟨_, rfl⟩
  have hv0 : 0 ≤ v ∧ v < 256 := by omega
  have Hx : Hid (hexS4 s.data.toList = if plainB v ∨ v = 10 then none else some (UInt8.ofNat v.toNat, 4)) := Lib.hid (by
    unfold hexS4
    rw [if_neg (by omega), g2, g3, if_neg (by omega), hv])
  rw [hv] at hor
  have Hor := Lib.hid hor
  clear hlen g2 g3 hv hor
  go_enter Tryz.func188, Tryz.ntmps188
  go_wp2_with fail
  refine (idx_c s[2] _ rfl _).mono ?_
  rintro e w1 ⟨rfl, rfl⟩
  go_wp2_with fail
  refine (idx_c s[3] _ rfl _).mono ?_
  rintro e w1 ⟨rfl, rfl⟩
  go_wp2_with fail
  rw [Hor.out]
  refine (isPlain_any _ _).mono ?_
  rintro e w1 ⟨rfl, rfl⟩
  by_cases hp : plainB v = true
  · have Hf := Lib.hid (show hexS4 s.data.toList = none by rw [Hx.out, if_pos (.inl hp)])
    go_wp2
    go_quiet (fail)
    go_wp2
    go_ret3
    rw [Hf.out]
    exact ⟨rfl, _, rfl⟩
  have hp' : plainB v = false := by simpa using hp
  by_cases h10 : v = 10
  · have Hf := Lib.hid (show hexS4 s.data.toList = none by rw [Hx.out, if_pos (.inr h10)])
    have h10' : (v == 10) = true := by simp [h10]
    clear h10 hp
    go_wp2
    go_quiet (fail)
    go_wp2
    go_ret3
    rw [Hf.out]
    exact ⟨rfl, _, rfl⟩
  have h10' : (v == 10) = false := by simp [h10]
  have Hf := Lib.hid (show hexS4 s.data.toList = some (UInt8.ofNat v.toNat, 4) by rw [Hx.out, if_neg (by rintro (h | h); exact hp h; exact h10 h)])
  clear hp h10
  go_wp2
  go_ret3
  rw [Hf.out]
  refine ⟨?_, 0, rfl⟩
  have hb : ((UInt8.ofNat v.toNat).toNat : Int) = v := by simp; omega
  simp only [signV, hb]
  rfl

def escS (l : List UInt8) : Option (UInt8 × Nat) :=
  if l.length < 2 then none else
    if l.getD 1 0 = 110 then some (10, 2) else if l.getD 1 0 = 34 then some (34, 2) else if l.getD 1 0 = 92 then some (92, 2)
    else if l.getD 1 0 = 120 then hexS4 l else none
set_option maxHeartbeats 2000000 in
theorem firstEscape_c (s : ByteArray) (a : Addr) (w : World) (hs : s.size ≤ 1073741824) (herr : w.cell? ⟨2, 0, none⟩ = some (.iface 256 (.pointer (some a)))) :
    Calls Tryz.prog 174 #[.string s] w fun e w' => e = .returned (signV a (escS s.data.toList)) ∧ ∃ k, w' = w.drewN k := by
  have hlen : s.data.toList.length = s.size := by simp
  by_cases h2 : s.size < 2
  · have Hf := Lib.hid (show escS s.data.toList = none by unfold escS; rw [if_pos (by omega)])
    clear hlen
    go_enter Tryz.func174, Tryz.ntmps174
    go_wp2
    go_quiet (fail)
    go_wp2
    go_ret3
    rw [Hf.out]
    exact ⟨rfl, _, rfl⟩
  have h1 : 1 < s.size := by omega
  have g1 : s.data.toList.getD 1 0 = s[1] := by rw [List.getD_eq_getElem?_getD, List.getElem?_eq_getElem (by omega)]; rfl
  have Hx : Hid (escS s.data.toList = if s[1] = 110 then some (10, 2) else if s[1] = 34 then some (34, 2) else if s[1] = 92 then some (92, 2) else if s[1] = 120 then hexS4 s.data.toList else none) := Lib.hid (by
    unfold escS
    rw [if_neg (by omega), g1])
  have ne : ∀ d : UInt8, s[1] ≠ d → ((s[1].toNat : Int) == (d.toNat : Int)) = false := by
    intro d hd
    rw [beq_eq_false_iff_ne]
    intro e
    exact hd (UInt8.toNat_inj.1 (by omega))
  have NE := Lib.hid ne
  clear hlen g1 ne
  by_cases c1 : s[1] = 110
  · have Hf := Lib.hid (show escS s.data.toList = some (10, 2) by rw [Hx.out, if_pos c1])
    have e1 : ((s[1].toNat : Int) == 110) = true := by rw [c1]; rfl
    clear c1
    go_enter Tryz.func174, Tryz.ntmps174
    go_wp2
    go_ret3
    rw [Hf.out]
    exact ⟨rfl, 0, rfl⟩
  have e1 : ((s[1].toNat : Int) == 110) = false := NE.out 110 c1
  by_cases c2 : s[1] = 34
  · have Hf := Lib.hid (show escS s.data.toList = some (34, 2) by rw [Hx.out, if_neg c1, if_pos c2])
    have e2 : ((s[1].toNat : Int) == 34) = true := by rw [c2]; rfl
    have e3 : (s[1].toNat : Int) = 34 := by rw [c2]; rfl
    have E3 := Lib.hid e3
    clear c1 c2 e3
    go_enter Tryz.func174, Tryz.ntmps174
    go_wp2
    go_ret3
    rw [Hf.out]
    refine ⟨?_, 0, rfl⟩
    show Ending.returned (.tuple #[.int .u8 (s[1].toNat : Int), .int .i64 2, .nilIface]) = _
    rw [E3.out]
    rfl
  have e2 : ((s[1].toNat : Int) == 34) = false := NE.out 34 c2
  by_cases c3 : s[1] = 92
  · have Hf := Lib.hid (show escS s.data.toList = some (92, 2) by rw [Hx.out, if_neg c1, if_neg c2, if_pos c3])
    have e3 : ((s[1].toNat : Int) == 92) = true := by rw [c3]; rfl
    have e4 : (s[1].toNat : Int) = 92 := by rw [c3]; rfl
    have E4 := Lib.hid e4
    clear c1 c2 c3 e4
    go_enter Tryz.func174, Tryz.ntmps174
    go_wp2
    go_ret3
    rw [Hf.out]
    refine ⟨?_, 0, rfl⟩
    show Ending.returned (.tuple #[.int .u8 (s[1].toNat : Int), .int .i64 2, .nilIface]) = _
    rw [E4.out]
    rfl
  have e3 : ((s[1].toNat : Int) == 92) = false := NE.out 92 c3
  by_cases c4 : s[1] = 120
  · have Hf := Lib.hid (show escS s.data.toList = hexS4 s.data.toList by rw [Hx.out, if_neg c1, if_neg c2, if_neg c3, if_pos c4])
    have e4 : ((s[1].toNat : Int) == 120) = true := by rw [c4]; rfl
    clear c1 c2 c3 c4
    have hc := firstHex_c s a w hs herr
    obtain ⟨r, hr⟩ : ∃ r, hexS4 s.data.toList = r := ⟨_, rfl⟩
    rw [hr] at hc
    have Hr := Lib.hid hr
    have Hc := Lib.hid hc
    clear hr hc
    cases r with
    | none =>
      go_enter Tryz.func174, Tryz.ntmps174
      go_wp2_with fail
      refine Hc.out.mono ?_
      rintro e w1 ⟨rfl, k, rfl⟩
      simp only [signV]
      go_wp2
      go_ret3
      rw [Hf.out, Hr.out]
      exact ⟨rfl, _, rfl⟩
    | some x =>
      go_enter Tryz.func174, Tryz.ntmps174
      go_wp2_with fail
      refine Hc.out.mono ?_
      rintro e w1 ⟨rfl, k, rfl⟩
      simp only [signV]
      go_wp2
      go_ret3
      rw [Hf.out, Hr.out]
      exact ⟨rfl, _, rfl⟩
  have e4 : ((s[1].toNat : Int) == 120) = false := NE.out 120 c4
  have Hf := Lib.hid (show escS s.data.toList = none by rw [Hx.out, if_neg c1, if_neg c2, if_neg c3, if_neg c4])
  clear c1 c2 c3 c4
  go_enter Tryz.func174, Tryz.ntmps174
  go_wp2
  go_quiet (fail)
  go_wp2
  go_ret3
  rw [Hf.out]
  exact ⟨rfl, _, rfl⟩
end Go.Proofs.YthhepmddcncjoaaGreatDoor
namespace Go.Proofs.YthhepmddcncjoaaGreatDoor
open Go.RowKit

def firstS (l : List UInt8) : Option (UInt8 × Nat) :=
  if l.getD 0 0 = 92 then escS l else if l.getD 0 0 = 34 ∨ ¬ plainB ((l.getD 0 0).toNat : Int) = true then none else some (l.getD 0 0, 1)
set_option maxHeartbeats 2000000 in
theorem firstSign_c (s : ByteArray) (a : Addr) (w : World) (hpos : 0 < s.size) (hs : s.size ≤ 1073741824) (herr : w.cell? ⟨2, 0, none⟩ = some (.iface 256 (.pointer (some a)))) :
    Calls Tryz.prog 153 #[.string s] w fun e w' => e = .returned (signV a (firstS s.data.toList)) ∧ ∃ k, w' = w.drewN k := by
  have hlen : s.data.toList.length = s.size := by simp
  have g0 : s.data.toList.getD 0 0 = s[0] := by rw [List.getD_eq_getElem?_getD, List.getElem?_eq_getElem (by omega)]; rfl
  have Hx : Hid (firstS s.data.toList = if s[0] = 92 then escS s.data.toList else if s[0] = 34 ∨ ¬ plainB (s[0].toNat : Int) = true then none else some (s[0], 1)) := Lib.hid (by
    unfold firstS
    rw [g0])
  have ne : ∀ d : UInt8, s[0] ≠ d → ((s[0].toNat : Int) == (d.toNat : Int)) = false := by
    intro d hd
    rw [beq_eq_false_iff_ne]
    intro e
    exact hd (UInt8.toNat_inj.1 (by omega))
  have NE := Lib.hid ne
  clear hlen g0 ne
  by_cases c1 : s[0] = 92
  · have Hf := Lib.hid (show firstS s.data.toList = escS s.data.toList by rw [Hx.out, if_pos c1])
    have e1 : ((s[0].toNat : Int) == 92) = true := by rw [c1]; rfl
    clear c1
    have hc := firstEscape_c s a w hs herr
    obtain ⟨r, hr⟩ : ∃ r, escS s.data.toList = r := ⟨_, rfl⟩
    rw [hr] at hc
    have Hr := Lib.hid hr
    have Hc := Lib.hid hc
    clear hr hc
    cases r with
    | none =>
      go_enter Tryz.func153, Tryz.ntmps153
      go_wp2_with fail
      refine Hc.out.mono ?_
      rintro e w1 ⟨rfl, k, rfl⟩
      simp only [signV]
      go_wp2
      go_ret3
      rw [Hf.out, Hr.out]
      exact ⟨rfl, _, rfl⟩
    | some x =>
      go_enter Tryz.func153, Tryz.ntmps153
      go_wp2_with fail
      refine Hc.out.mono ?_
      rintro e w1 ⟨rfl, k, rfl⟩
      simp only [signV]
      go_wp2
      go_ret3
      rw [Hf.out, Hr.out]
      exact ⟨rfl, _, rfl⟩
  have e1 : ((s[0].toNat : Int) == 92) = false := NE.out 92 c1
  by_cases c2 : s[0] = 34
  · have Hf := Lib.hid (show firstS s.data.toList = none by rw [Hx.out, if_neg c1, if_pos (.inl c2)])
    have e2 : ((s[0].toNat : Int) == 34) = true := by rw [c2]; rfl
    clear c1 c2
    go_enter Tryz.func153, Tryz.ntmps153
    go_wp2
    go_quiet (fail)
    go_wp2
    go_ret3
    rw [Hf.out]
    exact ⟨rfl, _, rfl⟩
  have e2 : ((s[0].toNat : Int) == 34) = false := NE.out 34 c2
  by_cases hp : plainB (s[0].toNat : Int) = true
  · have Hf := Lib.hid (show firstS s.data.toList = some (s[0], 1) by rw [Hx.out, if_neg c1, if_neg (by rintro (h | h); exact c2 h; exact h hp)])
    clear c1 c2
    go_enter Tryz.func153, Tryz.ntmps153
    go_wp2_with fail
    refine (isPlain_any _ _).mono ?_
    rintro e w1 ⟨rfl, rfl⟩
    go_wp2
    go_ret3
    rw [Hf.out]
    exact ⟨rfl, 0, rfl⟩
  · have Hf := Lib.hid (show firstS s.data.toList = none by rw [Hx.out, if_neg c1, if_pos (.inr hp)])
    have hp' : plainB (s[0].toNat : Int) = false := by simpa using hp
    clear c1 c2 hp
    go_enter Tryz.func153, Tryz.ntmps153
    go_wp2_with fail
    refine (isPlain_any _ _).mono ?_
    rintro e w1 ⟨rfl, rfl⟩
    go_wp2
    go_quiet (fail)
    go_wp2
    go_ret3
    rw [Hf.out]
    exact ⟨rfl, _, rfl⟩

/-- What stands between the quotes. -/
def betw (l : List UInt8) : Option (List UInt8) :=
  if Lib.hasPrefix l [34] = true ∧ Lib.hasSuffix (Lib.trimPrefix l [34]) [34] = true then some (Lib.trimSuffix (Lib.trimPrefix l [34]) [34]) else none
def betwV (a : Addr) : Option (List UInt8) → Value
  | some l => .tuple #[.string ⟨l.toArray⟩, .nilIface]
  | none => .tuple #[.string ⟨#[]⟩, .iface 256 (.pointer (some a))]
set_option maxHeartbeats 1000000 in
theorem between_c (s : ByteArray) (a : Addr) (w : World) (hs : s.size ≤ 1073741824) (herr : w.cell? ⟨2, 0, none⟩ = some (.iface 256 (.pointer (some a)))) :
    Calls Tryz.prog 119 #[.string s] w fun e w' => e = .returned (betwV a (betw s.data.toList)) ∧ ∃ k, w' = w.drewN k := by
  obtain ⟨l1, h1⟩ : ∃ l1, Lib.trimPrefix s.data.toList [34] = l1 := ⟨_, rfl⟩
  obtain ⟨l2, h2⟩ : ∃ l2, Lib.trimSuffix l1 [34] = l2 := ⟨_, rfl⟩
  obtain ⟨p, hp⟩ : ∃ p, Lib.hasPrefix s.data.toList [34] = p := ⟨_, rfl⟩
  obtain ⟨q, hq⟩ : ∃ q, Lib.hasSuffix l1 [34] = q := ⟨_, rfl⟩
  have hl1 : l1.length ≤ s.size := by
    have := Lib.trimPrefix_le s.data.toList [34]
    have hlen : s.data.toList.length = s.size := by simp
    rw [h1] at this
    omega
  have Hc1 : Hid (Calls Tryz.prog 150 #[.string s, .string ⟨#[34]⟩] w fun e w' => e = .returned (.tuple #[.string ⟨l1.toArray⟩, .bool p]) ∧ w = w') := Lib.hid (by
    refine (Tryz.strings_CutPrefix s ⟨#[34]⟩ w).mono ?_
    rintro e w' ⟨rfl, rfl⟩
    refine ⟨?_, rfl⟩
    rw [show (⟨#[34]⟩ : ByteArray).data.toList = [34] from rfl, h1, hp])
  have Hc2 : Hid (Calls Tryz.prog 80 #[.string ⟨l1.toArray⟩, .string ⟨#[34]⟩] w fun e w' => e = .returned (.tuple #[.string ⟨l2.toArray⟩, .bool q]) ∧ w = w') := Lib.hid (by
    refine (Tryz.strings_CutSuffix ⟨l1.toArray⟩ ⟨#[34]⟩ w (by show l1.toArray.size ≤ _; simp; omega)).mono ?_
    rintro e w' ⟨rfl, rfl⟩
    refine ⟨?_, rfl⟩
    rw [show (⟨#[34]⟩ : ByteArray).data.toList = [34] from rfl, show (⟨l1.toArray⟩ : ByteArray).data.toList = l1 from rfl, h2, hq])
  have Hb : Hid (betw s.data.toList = if p = true ∧ q = true then some l2 else none) := Lib.hid (by
    unfold betw
    rw [h1, h2, hp, hq])
  clear h1 h2 hp hq hl1
  go_enter Tryz.func119, Tryz.ntmps119
  go_wp2_with fail
  refine Hc1.out.mono ?_
  rintro e w1 ⟨rfl, rfl⟩
  go_wp2_with fail
  refine Hc2.out.mono ?_
  rintro e w1 ⟨rfl, rfl⟩
  cases p with
  | false =>
    go_wp2
    go_quiet (fail)
    go_wp2
    go_ret2
    rw [Hb.out]
    exact ⟨rfl, _, rfl⟩
  | true =>
    cases q with
    | false =>
      go_wp2
      go_quiet (fail)
      go_wp2
      go_ret2
      rw [Hb.out]
      exact ⟨rfl, _, rfl⟩
    | true =>
      go_wp2
      go_ret2
      rw [Hb.out]
      exact ⟨rfl, 0, rfl⟩
end Go.Proofs.YthhepmddcncjoaaGreatDoor
namespace Go.Proofs.YthhepmddcncjoaaGreatDoor

/-- The signs of unlike bytes are unlike, and none begins another. -/
theorem sign_free : ∀ c d : Fin 256, (sign (UInt8.ofNat c.1)).isPrefixOf (sign (UInt8.ofNat d.1)) = true → c = d := by decide +kernel
theorem ofNat_toNat (c : UInt8) : UInt8.ofNat c.toNat = c := by simp
theorem sign_prefix {c d : UInt8} {l : List UInt8} (h : sign d = sign c ++ l) : c = d := by
  have hp : (sign c).isPrefixOf (sign d) = true := by
    rw [h]
    exact List.isPrefixOf_iff_prefix.2 ⟨l, rfl⟩
  have := sign_free ⟨c.toNat, c.toNat_lt⟩ ⟨d.toNat, d.toNat_lt⟩ (by simpa only [ofNat_toNat] using hp)
  exact UInt8.toNat_inj.1 (Fin.mk.inj_iff.1 this)
theorem sign_ne_nil : ∀ c : Fin 256, sign (UInt8.ofNat c.1) ≠ [] := by decide +kernel
theorem sign_ne (c : UInt8) : sign c ≠ [] := by
  have := sign_ne_nil ⟨c.toNat, c.toNat_lt⟩
  rwa [ofNat_toNat] at this

theorem flat_inj : ∀ s t : List UInt8, s.flatMap sign = t.flatMap sign → s = t
  | [], [], _ => rfl
  | [], d :: t, h => by
    simp only [List.flatMap_nil, List.flatMap_cons] at h
    exact absurd (List.append_eq_nil_iff.1 h.symm).1 (sign_ne d)
  | c :: s, [], h => by
    simp only [List.flatMap_nil, List.flatMap_cons] at h
    exact absurd (List.append_eq_nil_iff.1 h).1 (sign_ne c)
  | c :: s, d :: t, h => by
    simp only [List.flatMap_cons] at h
    have e : c = d := by
      rcases List.append_eq_append_iff.1 h with ⟨l, h1, _⟩ | ⟨l, h1, _⟩
      · exact sign_prefix h1
      · exact (sign_prefix h1).symm
    subst e
    rw [flat_inj s t (List.append_cancel_left h)]

theorem quoteL_inj {s t : List UInt8} (h : quoteL s = quoteL t) : s = t := by
  unfold quoteL at h
  exact flat_inj s t (List.append_cancel_right (List.cons.inj h).2)
end Go.Proofs.YthhepmddcncjoaaGreatDoor
namespace Go.Proofs.YthhepmddcncjoaaGreatDoor
open Go.RowKit Go.Shelf

attribute [local go_sem] Oper.semAt_some

theorem firstS_len (l : List UInt8) (c : UInt8) (n : Nat) (hne : l ≠ []) (h : firstS l = some (c, n)) : 1 ≤ n ∧ n ≤ l.length := by
  have hl : 1 ≤ l.length := by cases l with | nil => exact absurd rfl hne | cons => simp
  unfold firstS at h
  split at h
  · unfold escS at h
    split at h
    · cases h
    · split at h
      · cases h; omega
      · split at h
        · cases h; omega
        · split at h
          · cases h; omega
          · split at h
            · unfold hexS4 at h
              split at h
              · cases h
              · split at h
                · cases h
                · split at h
                  · cases h
                  · cases h; omega
            · cases h
  · split at h
    · cases h
    · cases h; omega

def seqS : Nat → List UInt8 → List (UInt8 × Bool)
  | 0, _ => []
  | f + 1, l => if l = [] then [] else match firstS l with
    | none => [(0, true)]
    | some (c, n) => (c, false) :: seqS f (l.drop n)
theorem seqS_nil (f : Nat) : seqS f [] = [] := by cases f <;> rfl
theorem seqS_none (f : Nat) (l : List UInt8) (hne : l ≠ []) (h : firstS l = none) : seqS (f + 1) l = [(0, true)] := by
  rw [seqS, if_neg hne, h]
theorem seqS_some (f : Nat) (l : List UInt8) (c : UInt8) (n : Nat) (hne : l ≠ []) (h : firstS l = some (c, n)) : seqS (f + 1) l = (c, false) :: seqS f (l.drop n) := by
  rw [seqS, if_neg hne, h]

def errV (a : Addr) : Value := .iface 256 (.pointer (some a))
def encS (a : Addr) (x : UInt8 × Bool) : Array Value := #[.int .u8 (x.1.toNat : Int), if x.2 then .iface 256 (.pointer (some a)) else .nilIface]
def ErrAt (a : Addr) (W : World) : Prop := W.cell? ⟨2, 0, none⟩ = some (.iface 256 (.pointer (some a)))
def Keeps2 (Bn : Nat) (s : ByteArray) (a : Addr) (W W' : World) : Prop := KeepsBox Bn s W W' ∧ (ErrAt a W → ErrAt a W')

theorem firstSign_at (s : ByteArray) (k : Nat) (a : Addr) (w : World) (hk : k < s.size) (hs : s.size ≤ 1073741824) (r : Option (UInt8 × Nat)) (hr : firstS (s.data.toList.drop k) = r) (herr : ErrAt a w) :
    Calls Tryz.prog 153 #[.string (s.extract k s.size)] w fun e w' => e = .returned (signV a r) ∧ ∃ q, w' = w.drewN q := by
  have hd : (s.extract k s.size).data.toList = s.data.toList.drop k := by
    rw [Lib.extract_data, List.take_of_length_le (by simp)]
  have hsz : (s.extract k s.size).size = s.size - k := by rw [ByteArray.size_extract]; omega
  have := firstSign_c (s.extract k s.size) a w (by omega) (by omega) herr
  rw [hd, hr] at this
  exact this

theorem grown_draws (W : World) (q : Nat) : W.grownBy (W.drewN q) none := ⟨rfl, rfl, rfl, Nat.le_refl _, fun _ _ _ => rfl⟩

set_option maxHeartbeats 1000000 in
theorem eachSign_in (n : Nat) (s : ByteArray) (w : World) :
    CallsIn Fence.wide n Tryz.prog 120 #[.string s] w fun e w' => e = .returned (.func (.func 152) #[] #[.pointer (some ⟨w.heap.size, 0, none⟩)]) ∧ w' = w.alloc (.cells #[.string s] 9) := by
  refine callsIn_of_wp Tryz.func120 rfl trivial ?_ rfl
  simp only [Tryz.ntmps120, List.size_toArray, List.length_cons, List.length_nil, Nat.reduceAdd, Nat.reduceSub, Array.replicate_succ, Array.replicate_zero, List.push_toArray, List.append_toArray, List.nil_append, List.cons_append]
  gi_wp2
  go_ret
  exact ⟨rfl, rfl⟩

set_option maxRecDepth 100000 in
set_option maxHeartbeats 2000000 in
theorem eachSign1_in (n : Nat) (hn : 1 ≤ n) (l Bn : Nat) (s : ByteArray) (hs : s.size ≤ 1073741824) (a : Addr) (J Jx : List (UInt8 × Bool) → World → Prop) (W : World)
    (hJd : ∀ pre W q, J pre W → J pre (W.drewN q))
    (hY : ∀ pre x W, J pre W → pre.length < s.size → YieldAt Fence.wide (n - 1) Tryz.prog l (encS a x) W fun e W' =>
      (e = .returned (.bool true) ∧ J (pre ++ [x]) W' ∧ Keeps2 Bn s a W W') ∨ (e = .returned (.bool false) ∧ Jx (pre ++ [x]) W'))
    (hBn : BoxAt Bn s W) (herr : ErrAt a W) (h0 : J [] W) :
    CallsIn Fence.wide n Tryz.prog 152 #[.func (.yield l) #[] #[], .pointer (some ⟨Bn, 0, none⟩)] W fun e W' => (∃ v, e = .returned v) ∧
      ((∃ ys, ys = seqS s.size s.data.toList ∧ J ys W') ∨ (∃ pre, pre <+: seqS s.size s.data.toList ∧ Jx pre W')) := by
  have hb := hBn.cell
  have hlen : s.data.toList.length = s.size := by simp
  refine callsIn_of_wp Tryz.func152 rfl trivial ?_ rfl
  simp only [Tryz.ntmps152, List.size_toArray, List.length_cons, List.length_nil, Nat.reduceAdd, Nat.reduceSub, Array.replicate_succ, Array.replicate_zero, List.push_toArray, List.append_toArray, List.nil_append, List.cons_append]
  gi_wp2
  gi_loopw [3] (fun i wr => ∃ (k f : Nat) (pre : List (UInt8 × Bool)), k ≤ s.size ∧ i = .int .i64 k ∧ BoxAt Bn s wr ∧ ErrAt a wr ∧ J pre wr ∧ pre.length ≤ k ∧ s.size ≤ k + f ∧ pre ++ seqS f (s.data.toList.drop k) = seqS s.size s.data.toList)
    (fun i wr => s.size - (intOf i).toNat)
  case atStart =>
    exact ⟨0, s.size, [], Nat.zero_le _, rfl, hBn, herr, h0, by simp, by omega, by simp⟩
  case round =>
    obtain ⟨k, f, pre, hk, rfl, hbx, her, hJ, hpl, hkf, hsq⟩ := hrel
    have hbc := hbx.cell
    by_cases hlt : k < s.size
    · obtain ⟨f, rfl⟩ : ∃ f', f = f' + 1 := ⟨f - 1, by omega⟩
      have hne : s.data.toList.drop k ≠ [] := by
        intro h
        have := congrArg List.length h
        simp at this
        omega
      have Hsq := Lib.hid hsq
      clear hsq
      obtain ⟨r, hr⟩ : ∃ r, firstS (s.data.toList.drop k) = r := ⟨_, rfl⟩
      have Hr := Lib.hid hr
      clear hr hlen
      cases r with
      | none =>
        have Hq := Lib.hid (seqS_none f _ hne Hr.out)
        clear hne
        gi_wp2_with fail
        refine ⟨trivial, (callsIn_wide.2 (firstSign_at s k a wr hlt hs none Hr.out her)).mono ?_⟩
        rintro e w1 ⟨rfl, q, rfl⟩
        simp only [signV]
        obtain ⟨fn, tmps, assign, body, hy, hR⟩ := hY pre (0, true) (wr.drewN q) (hJd _ _ _ hJ) (by omega)
        simp only [encS, if_true, show ((0 : UInt8).toNat : Int) = 0 from rfl] at hy
        gi_wp2
        refine hR.mono ?_
        rintro e W3 (⟨rfl, hJ3, hk3⟩ | ⟨rfl, hJx3⟩)
        · gi_wp2
          refine bodyPost_ret (results_none rfl _ _ _) rfl ?_
          exact ⟨⟨_, rfl⟩, .inl ⟨_, (by rw [← Hsq.out, Hq.out]), hJ3⟩⟩
        · gi_wp2
          refine bodyPost_ret (results_none rfl _ _ _) rfl ?_
          exact ⟨⟨_, rfl⟩, .inr ⟨_, (by rw [← Hsq.out, Hq.out]; exact List.prefix_refl _), hJx3⟩⟩
      | some x =>
        obtain ⟨c, m⟩ := x
        have hm := firstS_len _ c m hne Hr.out
        rw [List.length_drop] at hm
        have hlen2 : s.data.toList.length = s.size := by simp
        have hm1 : 1 ≤ m := hm.1
        have hm2 : k + m ≤ s.size := by omega
        have Hq := Lib.hid (seqS_some f _ c m hne Hr.out)
        clear hne hlen2 hm
        gi_wp2_with fail
        refine ⟨trivial, (callsIn_wide.2 (firstSign_at s k a wr hlt hs (some (c, m)) Hr.out her)).mono ?_⟩
        rintro e w1 ⟨rfl, q, rfl⟩
        simp only [signV]
        obtain ⟨fn, tmps, assign, body, hy, hR⟩ := hY pre (c, false) (wr.drewN q) (hJd _ _ _ hJ) (by omega)
        simp only [encS, Bool.false_eq_true, if_false] at hy
        gi_wp2
        refine hR.mono ?_
        rintro e W3 (⟨rfl, hJ3, hk3⟩ | ⟨rfl, hJx3⟩)
        · gi_wp2
          go_roundw
          case rel => exact ⟨k + m, f, pre ++ [(c, false)], hm2, by go_num, hk3.1 hbx, hk3.2 her, hJ3, by simp; omega, by omega, by rw [← Hsq.out, Hq.out, List.drop_drop]; simp⟩
          case measure => simp [intOf]; omega
        · gi_wp2
          refine bodyPost_ret (results_none rfl _ _ _) rfl ?_
          exact ⟨⟨_, rfl⟩, .inr ⟨_, (by rw [← Hsq.out, Hq.out]; exact ⟨_, by simp; rfl⟩), hJx3⟩⟩
    · obtain rfl : k = s.size := by omega
      gi_wp2
      go_end0
      rw [List.drop_of_length_le (by omega), seqS_nil, List.append_nil] at hsq
      exact ⟨⟨_, rfl⟩, .inl ⟨_, hsq, hJ⟩⟩

theorem eachSign_stops (n : Nat) (hn : 1 ≤ n) (Bn : Nat) (s : ByteArray) (hs : s.size ≤ 1073741824) (a : Addr) (w : World) (hlt : Bn < w.heap.size) (hBn : BoxAt Bn s w) (hz : 2 < w.heap.size) (herr : ErrAt a w) :
    SeqStopsK Fence.wide n Tryz.prog 152 #[.pointer (some ⟨Bn, 0, none⟩)] (encS a) (Keeps2 Bn s a) (fun ys => ys = seqS s.size s.data.toList) (fun pre => pre <+: seqS s.size s.data.toList) s.size w := fun l J Jx W hW hJ _ hY h0 =>
  eachSign1_in n hn l Bn s hs a J Jx W (fun pre W q h => hJ pre W _ none h (grown_draws W q) (fun _ e => by cases e)) hY ((hW.block Bn hlt).trans hBn) ((hW.cell (p := ⟨2, 0, none⟩) hz).trans herr) h0
end Go.Proofs.YthhepmddcncjoaaGreatDoor
namespace Go.Proofs.YthhepmddcncjoaaGreatDoor

def valL (l : List UInt8) : Nat := l.foldl (fun n c => n * 10 + (c.toNat - 48)) 0
theorem valL_snoc (l : List UInt8) (c : UInt8) : valL (l ++ [c]) = valL l * 10 + (c.toNat - 48) := by
  simp [valL, List.foldl_append]
theorem dig_toNat (k : Nat) (h : k < 10) : (UInt8.ofNat (48 + k)).toNat = 48 + k := by
  simp
  omega
theorem dec_one (u : Nat) (h : u < 10) : Lib.decDigits u = [UInt8.ofNat (48 + u)] := by
  rw [Lib.decDigits]
  simp [h]
theorem dec_more (u : Nat) (h : ¬ u < 10) : Lib.decDigits u = Lib.decDigits (u / 10) ++ [UInt8.ofNat (48 + u % 10)] := by
  conv => lhs; rw [Lib.decDigits]
  simp [h]

theorem valL_dec (u : Nat) : valL (Lib.decDigits u) = u := by
  induction u using Nat.strongRecOn with
  | ind u ih =>
    by_cases h : u < 10
    · rw [dec_one u h]
      simp only [valL, List.foldl_cons, List.foldl_nil, dig_toNat u h]
      omega
    · rw [dec_more u h, valL_snoc, ih (u / 10) (by omega), dig_toNat _ (by omega)]
      omega
theorem dec_digits (u : Nat) : ∀ c ∈ Lib.decDigits u, 48 ≤ c.toNat ∧ c.toNat ≤ 57 := by
  induction u using Nat.strongRecOn with
  | ind u ih =>
    intro c hc
    by_cases h : u < 10
    · rw [dec_one u h] at hc
      rw [List.mem_singleton.1 hc]
      rw [dig_toNat u h]
      omega
    · rw [dec_more u h] at hc
      rcases List.mem_append.1 hc with hc | hc
      · exact ih (u / 10) (by omega) c hc
      · rw [List.mem_singleton.1 hc]
        rw [dig_toNat (u % 10) (by omega)]
        omega
theorem dec_ne (u : Nat) : Lib.decDigits u ≠ [] := by
  by_cases h : u < 10
  · rw [dec_one u h]; simp
  · rw [dec_more u h]; simp
theorem dec_inj {u v : Nat} (h : Lib.decDigits u = Lib.decDigits v) : u = v := by
  rw [← valL_dec u, h, valL_dec]

theorem itoa_inj {n m : Int} (h : Lib.itoa n = Lib.itoa m) : n = m := by
  have no : ∀ (u : Nat) (l : List UInt8), Lib.decDigits u ≠ 45 :: l := by
    intro u l e
    have := dec_digits u 45 (by rw [e]; simp)
    simp at this
  unfold Lib.itoa at h
  split at h <;> split at h
  · have := dec_inj (List.cons.inj h).2
    omega
  · exact absurd h.symm (no _ _)
  · exact absurd h (no _ _)
  · have := dec_inj h
    omega
theorem itoa_beq (n m : Int) : (Lib.itoa n == Lib.itoa m) = (n == m) := by
  rw [Bool.eq_iff_iff, beq_iff_eq, beq_iff_eq]
  exact ⟨itoa_inj, fun h => by rw [h]⟩
/-- A number's text does not begin with a quote. -/
theorem itoa_quote (n : Int) (l : List UInt8) : Lib.itoa n ≠ 34 :: l := by
  intro e
  unfold Lib.itoa at e
  split at e
  · have := (List.cons.inj e).1
    cases this
  · have := dec_digits n.toNat 34 (by rw [e]; simp)
    simp at this
end Go.Proofs.YthhepmddcncjoaaGreatDoor

namespace Go.Proofs.YthhepmddcncjoaaGreatDoor
open Go.RowKit

theorem mag_append (g : Nat) : ∀ (l l' : List UInt8) (sz : Nat), mag g sz (l ++ l') = (mag g sz l).bind fun m => mag g m l'
  | [], l', sz => rfl
  | c :: l, l', sz => by
    by_cases hc : 48 ≤ c.toNat ∧ c.toNat ≤ 57
    · by_cases hb : (g - (c.toNat - 48)) / 10 < sz
      · rw [List.cons_append, mag_big g sz c _ hc hb, mag_big g sz c _ hc hb]
        rfl
      · rw [List.cons_append, mag_go g sz c _ hc hb, mag_go g sz c _ hc hb, mag_append g l l']
    · rw [List.cons_append, mag_bad g sz c _ hc, mag_bad g sz c _ hc]
      rfl
theorem mag_dec (g : Nat) (h9 : 9 ≤ g) (u : Nat) : u ≤ g → mag g 0 (Lib.decDigits u) = some u := by
  induction u using Nat.strongRecOn with
  | ind u ih =>
    intro hu
    by_cases h : u < 10
    · rw [dec_one u h, mag_go _ _ _ _ (by rw [dig_toNat u h]; omega) (by omega), dig_toNat u h]
      simp [mag]
    · rw [dec_more u h, mag_append, ih (u / 10) (by omega) (by omega)]
      have hd := dig_toNat (u % 10) (by omega)
      rw [Option.bind_some, mag_go _ _ _ _ (by rw [hd]; omega) (by rw [hd]; omega), hd]
      simp [mag]
      omega
theorem dec_headR (u : Nat) : (Lib.decDigits u).head? = some 48 → u = 0 := by
  induction u using Nat.strongRecOn with
  | ind u ih =>
    intro hh
    by_cases h : u < 10
    · rw [dec_one u h] at hh
      have e : UInt8.ofNat (48 + u) = 48 := Option.some.inj hh
      have e2 := dig_toNat u h
      rw [e] at e2
      have : (48 : UInt8).toNat = 48 := rfl
      omega
    · rw [dec_more u h, List.head?_append] at hh
      cases hd : (Lib.decDigits (u / 10)).head? with
      | none =>
        have := dec_ne (u / 10)
        rw [List.head?_eq_none_iff] at hd
        exact absurd hd this
      | some c =>
        rw [hd] at hh
        have := ih (u / 10) (by omega) (by rw [hd]; exact hh)
        omega
theorem dec_zero : Lib.decDigits 0 = [48] := by rw [dec_one 0 (by omega)]; rfl
theorem magL_dec (g : Nat) (h9 : 9 ≤ g) (u : Nat) (hu : u ≤ g) : magL g (Lib.decDigits u) = some u := by
  unfold magL
  rw [if_neg, mag_dec g h9 u hu]
  rintro (h | ⟨h, h2⟩)
  · exact dec_ne u h
  · apply h2
    rw [dec_headR u h, dec_zero]
theorem dig_back (c : UInt8) (hc : 48 ≤ c.toNat ∧ c.toNat ≤ 57) : UInt8.ofNat (48 + (c.toNat - 48)) = c := by
  rw [show 48 + (c.toNat - 48) = c.toNat by omega]
  simp
theorem dec_push (sz : Nat) (h0 : sz ≠ 0) (c : UInt8) (hc : 48 ≤ c.toNat ∧ c.toNat ≤ 57) : Lib.decDigits (sz * 10 + (c.toNat - 48)) = Lib.decDigits sz ++ [c] := by
  rw [dec_more _ (by omega), show (sz * 10 + (c.toNat - 48)) / 10 = sz by omega, show (sz * 10 + (c.toNat - 48)) % 10 = c.toNat - 48 by omega, dig_back c hc]
theorem mag_back (g : Nat) : ∀ (l : List UInt8) (sz m : Nat), sz ≠ 0 → mag g sz l = some m → Lib.decDigits m = Lib.decDigits sz ++ l
  | [], sz, m, _, h => by
    obtain rfl : sz = m := Option.some.inj h
    simp
  | c :: l, sz, m, h0, h => by
    by_cases hc : 48 ≤ c.toNat ∧ c.toNat ≤ 57
    · by_cases hb : (g - (c.toNat - 48)) / 10 < sz
      · rw [mag_big g sz c l hc hb] at h; cases h
      · rw [mag_go g sz c l hc hb] at h
        rw [mag_back g l _ m (by omega) h, dec_push sz h0 c hc]
        simp
    · rw [mag_bad g sz c l hc] at h; cases h
theorem magL_back (g : Nat) (l : List UInt8) (m : Nat) (h : magL g l = some m) : Lib.decDigits m = l := by
  unfold magL at h
  by_cases hx : l = [] ∨ (l.head? = some 48 ∧ l ≠ [48])
  · rw [if_pos hx] at h; cases h
  · rw [if_neg hx] at h
    cases l with
    | nil => exact absurd (.inl rfl) hx
    | cons c l =>
      by_cases hc : 48 ≤ c.toNat ∧ c.toNat ≤ 57
      · rw [mag_go g 0 c l hc (by omega)] at h
        by_cases h48 : c.toNat = 48
        · have ec : c = 48 := UInt8.toNat_inj.1 h48
          subst ec
          have el : l = [] := by
            by_cases hl : l = []
            · exact hl
            · exact absurd (.inr ⟨rfl, by simp [hl]⟩) hx
          subst el
          have : m = 0 := (Option.some.inj h).symm
          rw [this, dec_zero]
        · rw [mag_back g l _ m (by omega) h]
          simp only [Nat.zero_mul, Nat.zero_add]
          rw [dec_one _ (by omega), dig_back c hc]
          rfl
      · rw [mag_bad g 0 c l hc] at h; cases h

theorem prefix_neg (l : List UInt8) : Lib.hasPrefix (45 :: l) [45] = true := by simp [Lib.hasPrefix]
theorem prefix_dec (u : Nat) : Lib.hasPrefix (Lib.decDigits u) [45] = false := by
  cases h : Lib.decDigits u with
  | nil => rfl
  | cons c l =>
    have := dec_digits u c (by rw [h]; simp)
    have hne : (45 == c) = false := by
      rw [beq_eq_false_iff_ne]
      rintro rfl
      simp at this
    show (45 == c && ([] : List UInt8).isPrefixOf l) = false
    rw [hne]
    rfl
theorem prefix_cons {l : List UInt8} (h : Lib.hasPrefix l [45] = true) : l = 45 :: l.drop 1 := by
  cases l with
  | nil => cases h
  | cons c l =>
    simp [Lib.hasPrefix] at h
    simp [h]

/-- A numeral is read as its number. -/
theorem numL_itoa (n : Int) (h0 : -9223372036854775808 ≤ n) (h1 : n ≤ 9223372036854775807) : numL (Lib.itoa n) = some n := by
  unfold Lib.itoa numL
  by_cases hn : n < 0
  · rw [if_pos hn, if_pos (prefix_neg _)]
    show negO (magL 9223372036854775808 (Lib.decDigits n.natAbs)) = some n
    rw [magL_dec _ (by omega) _ (by omega)]
    simp only [negO]
    rw [if_neg (by omega)]
    congr 1
    omega
  · rw [if_neg hn, if_neg (by rw [prefix_dec]; simp)]
    rw [magL_dec _ (by omega) _ (by omega)]
    simp only [posO]
    congr 1
    omega
/-- Nothing but numerals is read. -/
theorem numL_back {l : List UInt8} {n : Int} (h : numL l = some n) : Lib.itoa n = l ∧ -9223372036854775808 ≤ n ∧ n ≤ 9223372036854775807 := by
  unfold numL at h
  by_cases hp : Lib.hasPrefix l [45] = true
  · rw [if_pos hp] at h
    have hl := prefix_cons hp
    cases hm : magL 9223372036854775808 (l.drop 1) with
    | none => rw [hm] at h; cases h
    | some m =>
      rw [hm] at h
      by_cases h0 : m = 0
      · simp [negO, h0] at h
      · simp only [negO, if_neg h0, Option.some.injEq] at h
        have hle := magL_le _ _ m (by omega) hm
        have hb := magL_back _ _ m hm
        subst h
        refine ⟨?_, by omega, by omega⟩
        unfold Lib.itoa
        rw [if_pos (by omega), show (-(m : Int)).natAbs = m by omega, hb, ← hl]
  · rw [if_neg hp] at h
    cases hm : magL 9223372036854775807 l with
    | none => rw [hm] at h; cases h
    | some m =>
      rw [hm] at h
      simp only [posO, Option.some.injEq] at h
      have hle := magL_le _ _ m (by omega) hm
      have hb := magL_back _ _ m hm
      subst h
      refine ⟨?_, by omega, by omega⟩
      unfold Lib.itoa
      rw [if_neg (by omega), show (m : Int).toNat = m by omega, hb]
end Go.Proofs.YthhepmddcncjoaaGreatDoor

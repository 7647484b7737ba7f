/- text.IsName and soritesref01.IsName answer the same for every text: both what nameB says of its bytes. soritesref01.Letter, Digit. soritesref01.IsName answers what nameB says of a text. Library functions that the program calls, by the contracts of the shelf, laid at this translation. Slices in memory, element by element; lists held against each other. Appends of whole lists, nil or not. Terms, atoms, parts, rules, relations, programs as plain data, and how they lie in memory. A program, a rule, a number among the arguments, opened. -/
import Derived.Test.YtbpdfmpfnbdeoaaGreatDoorChecked
import Derived.WalkKit
import Derived.WalkLawsBesides
import Derived.Laws.RangeAny
import Derived.Lib.Hide
import Derived.Lib.Strings
import Derived.Shelf.Strconv.Clone
import Derived.Shelf.LaysM
import Derived.Test.YtbpdfmpfnbdeoaaGreatDoorProg
import Derived.Below
import Derived.OwnWalk
import Derived.Deep.AppendLies
import Derived.Laws.OwnMore
import Derived.Deep.Slices
import Derived.Deep.Strs
import Derived.ChangeArms
import Derived.ChangeSame
namespace Go.Proofs.YtbpdfmpfnbdeoaaGreatDoor
open Go.RowKit

theorem ret_bool {a b : Bool} (h : a = b) : Ending.returned (.bool a) = .returned (.bool b) := by rw [h]

def letB (r : Int) : Bool := decide ((97 ≤ r ∧ r ≤ 122) ∨ (65 ≤ r ∧ r ≤ 90) ∨ r = 95)
def digB (r : Int) : Bool := decide (48 ≤ r ∧ r ≤ 57)
def okAt (i : Nat) (c : UInt8) : Bool := letB (c.toNat : Int) || (decide (i ≠ 0) && digB (c.toNat : Int))
def okFrom : Nat → List UInt8 → Bool
  | _, [] => true
  | i, c :: l => okAt i c && okFrom (i + 1) l
def nameB (l : List UInt8) : Bool := decide (l ≠ [] ∧ l.length ≤ 40 ∧ l ≠ [95]) && okFrom 0 l

theorem isLetter_any (r : Int) (w : World) : Calls Tryz.prog 146 #[.int .i32 r] w fun e w' => e = .returned (.bool (letB r)) ∧ w = w' := by
  go_enter Tryz.func146, Tryz.ntmps146
  go_wp2
  all_goals go_ret
  all_goals exact ⟨ret_bool (by unfold letB; rw [Bool.eq_iff_iff]; simp; omega), rfl⟩
theorem isDigit_any (r : Int) (w : World) : Calls Tryz.prog 147 #[.int .i32 r] w fun e w' => e = .returned (.bool (digB r)) ∧ w = w' := by
  go_enter Tryz.func147, Tryz.ntmps147
  go_wp2
  all_goals go_ret
  all_goals exact ⟨ret_bool (by unfold digB; rw [Bool.eq_iff_iff]; simp; omega), rfl⟩
theorem drop_cons (s : ByteArray) (k : Nat) (h : k < s.size) : s.data.toList.drop k = s[k] :: s.data.toList.drop (k + 1) :=
  List.drop_eq_getElem_cons (by simpa using h)
theorem letB_high {r : Int} (h : 128 ≤ r) : letB r = false := by unfold letB; simp; omega
theorem digB_high {r : Int} (h : 128 ≤ r) : digB r = false := by unfold digB; simp; omega
theorem okFrom_cons (s : ByteArray) (k : Nat) (h : k < s.size) : okFrom k (s.data.toList.drop k) = (okAt k s[k] && okFrom (k + 1) (s.data.toList.drop (k + 1))) := by
  rw [drop_cons s k h]; rfl

set_option maxHeartbeats 400000 in
theorem isName_any (s : ByteArray) (w : World) (hs : s.size ≤ maxLen) :
    Calls Tryz.prog 130 #[.string s] w fun e w' => e = .returned (.bool (nameB s.data.toList)) ∧ Below w.heap.size w w' := by
  unfold maxLen at hs
  have hl : s.toList = s.data.toList := Lib.toList_data s
  have hlen : s.data.toList.length = s.size := by simp
  by_cases h0 : s.toList = []
  · have hf : nameB s.data.toList = false := by unfold nameB; rw [← hl, h0]; simp
    have Hf := Lib.hid hf
    clear hf hl
    go_enter Tryz.func130, Tryz.ntmps130
    go_wp2
    go_ret
    exact ⟨ret_bool Hf.out.symm, Below.refl _ _⟩
  by_cases h1 : s.toList = [95]
  · have hf : nameB s.data.toList = false := by unfold nameB; rw [← hl, h1]; simp
    have Hf := Lib.hid hf
    clear hf hl
    have e1 : (s.toList == [95]) = true := by simp [h1]
    have e0 : s.toList.isEmpty = false := by simp [h0]
    clear h1 h0
    go_enter Tryz.func130, Tryz.ntmps130
    go_wp2
    go_ret
    exact ⟨ret_bool Hf.out.symm, Below.refl _ _⟩
  have e1 : (s.toList == [95]) = false := by simp [h1]
  have e0 : s.toList.isEmpty = false := by simp [h0]
  by_cases h2 : 40 < s.size
  · have hf : nameB s.data.toList = false := by unfold nameB; simp; intro _ h; omega
    have Hf := Lib.hid hf
    clear hf hl h0 h1 hlen
    go_enter Tryz.func130, Tryz.ntmps130
    go_wp2
    go_ret
    exact ⟨ret_bool Hf.out.symm, Below.refl _ _⟩
  have hn : nameB s.data.toList = okFrom 0 s.data.toList := by
    rw [hl] at h0 h1
    unfold nameB
    rw [hlen]
    simp [h0, h1]
    omega
  have Hn := Lib.hid hn
  clear hn hl h0 h1 hlen
  have h2' : decide (40 < (s.size : Int)) = false := by simp; omega
  go_enter Tryz.func130, Tryz.ntmps130
  go_wp2
  go_loopw [] (fun wr => ∃ pos : Nat, pos ≤ s.size ∧ wr = w.iter s pos ∧ okFrom pos (s.data.toList.drop pos) = okFrom 0 s.data.toList) (fun wr => s.size - wr.iterPos w.heap.size)
  case atStart => exact ⟨0, Nat.zero_le _, rfl, by simp⟩
  case round =>
    obtain ⟨pos, hp, rfl, hok⟩ := hrel
    have Hok := Lib.hid hok
    clear hok
    by_cases hlt : pos < s.size
    · have hc := okFrom_cons s pos hlt
      have Hc := Lib.hid hc
      clear hc
      have hin : pos + 1 ≤ s.size := hlt
      by_cases ha : (s[pos]'hlt).toNat < 128
      · have hnx := fun ty => run_next_ascii (P := Tryz.prog) w s pos ty hlt ha
        by_cases hL : letB ((s[pos]'hlt).toNat : Int) = true
        · have HO := Lib.hid (show okAt pos (s[pos]'hlt) = true by simp [okAt, hL])
          go_wp2_with (first | (go_at_call 146; refine (isLetter_any _ _).mono ?_; rintro e w' ⟨rfl, rfl⟩) | (go_at_call 147; refine (isDigit_any _ _).mono ?_; rintro e w' ⟨rfl, rfl⟩))
          go_roundw
          case rel => exact ⟨pos + 1, hin, rfl, by rw [← Hok.out, Hc.out, HO.out]; rfl⟩
          case measure => simp; omega
        have hL' : letB ((s[pos]'hlt).toNat : Int) = false := by simpa using hL
        clear hL
        by_cases h0 : pos = 0
        · subst h0
          have HO := Lib.hid (show okAt 0 (s[0]'hlt) = false by simp [okAt, hL'])
          go_wp2_with (first | (go_at_call 146; refine (isLetter_any _ _).mono ?_; rintro e w' ⟨rfl, rfl⟩) | (go_at_call 147; refine (isDigit_any _ _).mono ?_; rintro e w' ⟨rfl, rfl⟩))
          go_ret
          exact ⟨ret_bool (by rw [Hn.out, ← Hok.out, Hc.out, HO.out]; rfl), (Below.refl _ _).alloc (Nat.le_refl _) _⟩
        have hz : ((pos : Int) == 0) = false := by simp; omega
        by_cases hD : digB ((s[pos]'hlt).toNat : Int) = true
        · have HO := Lib.hid (show okAt pos (s[pos]'hlt) = true by simp [okAt, hD, h0])
          go_wp2_with (first | (go_at_call 146; refine (isLetter_any _ _).mono ?_; rintro e w' ⟨rfl, rfl⟩) | (go_at_call 147; refine (isDigit_any _ _).mono ?_; rintro e w' ⟨rfl, rfl⟩))
          go_roundw
          case rel => exact ⟨pos + 1, hin, rfl, by rw [← Hok.out, Hc.out, HO.out]; rfl⟩
          case measure => simp; omega
        · have hD' : digB ((s[pos]'hlt).toNat : Int) = false := by simpa using hD
          clear hD
          have HO := Lib.hid (show okAt pos (s[pos]'hlt) = false by simp [okAt, hL', hD'])
          go_wp2_with (first | (go_at_call 146; refine (isLetter_any _ _).mono ?_; rintro e w' ⟨rfl, rfl⟩) | (go_at_call 147; refine (isDigit_any _ _).mono ?_; rintro e w' ⟨rfl, rfl⟩))
          go_ret
          exact ⟨ret_bool (by rw [Hn.out, ← Hok.out, Hc.out, HO.out]; rfl), (Below.refl _ _).alloc (Nat.le_refl _) _⟩
      · have hnx := fun ty => run_next_any (P := Tryz.prog) w s pos ty hlt
        have hh := (decode_high s pos hlt (by omega)).1
        have hL' : letB ((Utf8.decode s pos).1 : Int) = false := letB_high (by omega)
        have hD' : digB ((Utf8.decode s pos).1 : Int) = false := digB_high (by omega)
        have HO := Lib.hid (show okAt pos (s[pos]'hlt) = false by simp only [okAt, letB_high (r := ((s[pos]'hlt).toNat : Int)) (by omega), digB_high (r := ((s[pos]'hlt).toNat : Int)) (by omega)]; simp)
        by_cases h0 : pos = 0
        · subst h0
          go_wp2_with (first | (go_at_call 146; refine (isLetter_any _ _).mono ?_; rintro e w' ⟨rfl, rfl⟩) | (go_at_call 147; refine (isDigit_any _ _).mono ?_; rintro e w' ⟨rfl, rfl⟩))
          go_ret
          exact ⟨ret_bool (by rw [Hn.out, ← Hok.out, Hc.out, HO.out]; rfl), (Below.refl _ _).alloc (Nat.le_refl _) _⟩
        have hz : ((pos : Int) == 0) = false := by simp; omega
        go_wp2_with (first | (go_at_call 146; refine (isLetter_any _ _).mono ?_; rintro e w' ⟨rfl, rfl⟩) | (go_at_call 147; refine (isDigit_any _ _).mono ?_; rintro e w' ⟨rfl, rfl⟩))
        go_ret
        exact ⟨ret_bool (by rw [Hn.out, ← Hok.out, Hc.out, HO.out]; rfl), (Below.refl _ _).alloc (Nat.le_refl _) _⟩
    · have hnx := fun ty => run_next_end (P := Tryz.prog) w s pos ty hlt
      go_wp2
      go_ret
      obtain rfl : pos = s.size := by omega
      refine ⟨ret_bool ?_, (Below.refl _ _).alloc (Nat.le_refl _) _⟩
      rw [Hn.out, ← Hok.out, List.drop_of_length_le (by simp)]
      rfl

end Go.Proofs.YtbpdfmpfnbdeoaaGreatDoor
namespace Go.Proofs.YtbpdfmpfnbdeoaaGreatDoor
theorem letter_any (r : Int) (w : World) : Calls Tryz.prog 132 #[.int .u8 r] w fun e w' => e = .returned (.bool (letB r)) ∧ w = w' := by
  go_enter Tryz.func132, Tryz.ntmps132
  go_wp2
  all_goals go_ret
  all_goals exact ⟨ret_bool (by unfold letB; rw [Bool.eq_iff_iff]; simp; omega), rfl⟩
theorem digit_any (r : Int) (w : World) : Calls Tryz.prog 133 #[.int .u8 r] w fun e w' => e = .returned (.bool (digB r)) ∧ w = w' := by
  go_enter Tryz.func133, Tryz.ntmps133
  go_wp2
  all_goals go_ret
  all_goals exact ⟨ret_bool (by unfold digB; rw [Bool.eq_iff_iff]; simp; omega), rfl⟩
end Go.Proofs.YtbpdfmpfnbdeoaaGreatDoor
namespace Go.Proofs.YtbpdfmpfnbdeoaaGreatDoor
open Go.RowKit

set_option maxHeartbeats 400000 in
theorem refName_any (s : ByteArray) (w : World) (hs : s.size ≤ maxLen) :
    Calls Tryz.prog 98 #[.string s] w fun e w' => e = .returned (.bool (nameB s.data.toList)) ∧ w = w' := by
  unfold maxLen at hs
  have hl : s.toList = s.data.toList := Lib.toList_data s
  have hlen : s.data.toList.length = s.size := by simp
  by_cases h0 : s.size < 1
  · have hf : nameB s.data.toList = false := by
      have : s.data.toList = [] := List.eq_nil_of_length_eq_zero (by omega)
      unfold nameB; rw [this]; simp
    have Hf := Lib.hid hf
    clear hf hl hlen
    go_enter Tryz.func98, Tryz.ntmps98
    go_wp2
    go_ret
    exact ⟨ret_bool Hf.out.symm, rfl⟩
  by_cases h2 : 40 < s.size
  · have hf : nameB s.data.toList = false := by unfold nameB; simp; intro _ h; omega
    have Hf := Lib.hid hf
    clear hf hl hlen
    go_enter Tryz.func98, Tryz.ntmps98
    go_wp2
    go_ret
    exact ⟨ret_bool Hf.out.symm, rfl⟩
  by_cases h1 : s.toList = [95]
  · have hf : nameB s.data.toList = false := by unfold nameB; rw [← hl, h1]; simp
    have Hf := Lib.hid hf
    clear hf hl hlen
    have e1 : (s.toList == [95]) = true := by simp [h1]
    clear h1
    go_enter Tryz.func98, Tryz.ntmps98
    go_wp2
    go_ret
    exact ⟨ret_bool Hf.out.symm, rfl⟩
  have e1 : (s.toList == [95]) = false := by simp [h1]
  have hn : nameB s.data.toList = okFrom 0 s.data.toList := by
    have hne : s.data.toList ≠ [] := by intro h; rw [h] at hlen; simp at hlen; omega
    rw [hl] at h1
    unfold nameB
    rw [hlen]
    simp [h1, hne]
    omega
  have Hn := Lib.hid hn
  clear hn hl h1 hlen
  have d0 : decide ((s.size : Int) < 1) = false := by simp; omega
  have d1 : decide (40 < (s.size : Int)) = false := by simp; omega
  go_enter Tryz.func98, Tryz.ntmps98
  go_wp2
  go_loop [3] (fun i => ∃ pos : Nat, pos ≤ s.size ∧ i = .int .i64 pos ∧ okFrom pos (s.data.toList.drop pos) = okFrom 0 s.data.toList) (fun i => s.size - (intOf i).toNat)
  case atStart => exact ⟨0, Nat.zero_le _, rfl, by simp⟩
  case round =>
    obtain ⟨pos, hp, rfl, hok⟩ := hrel
    have Hok := Lib.hid hok
    clear hok
    by_cases hlt : pos < s.size
    · have hc := okFrom_cons s pos hlt
      have Hc := Lib.hid hc
      clear hc
      have hin : pos + 1 ≤ s.size := hlt
      by_cases hL : letB ((s[pos]'hlt).toNat : Int) = true
      · have HO := Lib.hid (show okAt pos (s[pos]'hlt) = true by simp [okAt, hL])
        go_wp2_with (first | (go_at_call 132; refine (letter_any _ _).mono ?_; rintro e w' ⟨rfl, rfl⟩) | (go_at_call 133; refine (digit_any _ _).mono ?_; rintro e w' ⟨rfl, rfl⟩))
        go_round
        case rel => exact ⟨pos + 1, hin, rfl, by rw [← Hok.out, Hc.out, HO.out]; rfl⟩
        case measure => simp [intOf]; omega
      have hL' : letB ((s[pos]'hlt).toNat : Int) = false := by simpa using hL
      clear hL
      by_cases h0 : pos = 0
      · subst h0
        have HO := Lib.hid (show okAt 0 (s[0]'hlt) = false by simp [okAt, hL'])
        go_wp2_with (first | (go_at_call 132; refine (letter_any _ _).mono ?_; rintro e w' ⟨rfl, rfl⟩) | (go_at_call 133; refine (digit_any _ _).mono ?_; rintro e w' ⟨rfl, rfl⟩))
        go_ret
        exact ⟨ret_bool (by rw [Hn.out, ← Hok.out, Hc.out, HO.out]; rfl), rfl⟩
      have hz : ((pos : Int) == 0) = false := by simp; omega
      by_cases hD : digB ((s[pos]'hlt).toNat : Int) = true
      · have HO := Lib.hid (show okAt pos (s[pos]'hlt) = true by simp [okAt, hD, h0])
        go_wp2_with (first | (go_at_call 132; refine (letter_any _ _).mono ?_; rintro e w' ⟨rfl, rfl⟩) | (go_at_call 133; refine (digit_any _ _).mono ?_; rintro e w' ⟨rfl, rfl⟩))
        go_round
        case rel => exact ⟨pos + 1, hin, rfl, by rw [← Hok.out, Hc.out, HO.out]; rfl⟩
        case measure => simp [intOf]; omega
      · have hD' : digB ((s[pos]'hlt).toNat : Int) = false := by simpa using hD
        clear hD
        have HO := Lib.hid (show okAt pos (s[pos]'hlt) = false by simp [okAt, hL', hD'])
        go_wp2_with (first | (go_at_call 132; refine (letter_any _ _).mono ?_; rintro e w' ⟨rfl, rfl⟩) | (go_at_call 133; refine (digit_any _ _).mono ?_; rintro e w' ⟨rfl, rfl⟩))
        go_ret
        exact ⟨ret_bool (by rw [Hn.out, ← Hok.out, Hc.out, HO.out]; rfl), rfl⟩
    · go_wp2
      go_ret
      obtain rfl : pos = s.size := by omega
      refine ⟨ret_bool ?_, rfl⟩
      rw [Hn.out, ← Hok.out, List.drop_of_length_le (by simp)]
      rfl
end Go.Proofs.YtbpdfmpfnbdeoaaGreatDoor
namespace Go.Proofs
open Go.Shelf
def Tryz.laysM316_ren : Go.Shelf.Ren := ⟨fun | 316 => 129 | n => n, fun | 0 => 0 | 3 => 3 | 4 => 4 | 5 => 5 | 9 => 9 | 37 => 180 | 127 => 181 | n => n, fun | n => n⟩
theorem Tryz.laysM316 : Go.Proofs.LaysM.n316 Tryz.prog Tryz.laysM316_ren := {
  mixed := by kernel_rfl
  f316 := Tryz.func129.trans (congrArg some (by kernel_rfl))
  t0 := Tryz.underlying0
  a0 := Tryz.isAgg0
  z0 := Tryz.sizeOf0
  v0 := Tryz.zeroValue0
  t3 := Tryz.underlying3
  a3 := Tryz.isAgg3
  z3 := Tryz.sizeOf3
  v3 := Tryz.zeroValue3
  t4 := Tryz.underlying4
  a4 := Tryz.isAgg4
  z4 := Tryz.sizeOf4
  v4 := Tryz.zeroValue4
  t9 := Tryz.underlying9
  a9 := Tryz.isAgg9
  z9 := Tryz.sizeOf9
  v9 := Tryz.zeroValue9
  t37 := Tryz.underlying180
  a37 := Tryz.isAgg180
  z37 := Tryz.sizeOf180
  v37 := Tryz.zeroValue180
  t127 := Tryz.underlying181
  a127 := Tryz.isAgg181
  z127 := Tryz.sizeOf181
  v127 := Tryz.zeroValue181
  t5 := Tryz.underlying5
  a5 := Tryz.isAgg5
  z5 := Tryz.sizeOf5
  v5 := Tryz.zeroValue5
  i0 := by kernel_rfl
  i3 := by kernel_rfl
  i4 := by kernel_rfl
  i5 := by kernel_rfl
  i9 := by kernel_rfl
  i37 := by kernel_rfl
  i127 := by kernel_rfl }
open Go.RowKit in
theorem Tryz.stringslite_Clone (s : ByteArray) (w : World) (hlim : s.size ≤ 281474976710656) :
    Calls Tryz.prog 129 #[.string s] w fun e w' => e = .returned (.string s) ∧ Below w.heap.size w w' := Any.stringslite_Clone Tryz.laysM316 s w hlim
end Go.Proofs
namespace Go.Proofs.YtbpdfmpfnbdeoaaGreatDoor
open Go.RowKit

/-- From address a on, o cells further, lie the cells cs. -/
def CellsAt (w : World) (a : Addr) (o : Nat) (cs : List Value) : Prop := ∀ j c, cs[j]? = some c → w.cell? (a.add (o + j)) = some c
def I64 (n : Int) : Prop := -9223372036854775808 ≤ n ∧ n ≤ 9223372036854775807

/-- A slice below block B whose elements, of z cells each, hold what R says. -/
def SlOf {α : Type} (w : World) (B z : Nat) (R : α → List Value → Prop) (l : List α) (v : Value) : Prop :=
  (v = .slice none 0 0 ∧ l = []) ∨ ∃ (a : Addr) (cap : Nat), v = .slice (some a) l.length cap ∧ l.length ≤ cap ∧ cap ≤ maxLen ∧ (l ≠ [] → a.block < B) ∧
    ∀ (i : Nat) (x : α), l[i]? = some x → ∃ cs, cs.length = z ∧ R x cs ∧ CellsAt w a (i * z) cs

theorem addBlock (a : Addr) (n : Nat) : (a.add n).block = a.block := by unfold Addr.add; split <;> rfl
theorem addNext (a : Addr) (i j : Nat) (hj : 0 < j) : a.add (i + j) = ⟨(a.add i).block, (a.add i).off + j, none⟩ := by
  unfold Addr.add
  by_cases hi : i = 0
  · subst hi
    rw [Nat.zero_add, if_neg (by omega), if_pos rfl]
  · rw [if_neg (by omega), if_neg hi]
    simp [Nat.add_assoc]
theorem CellsAt.below {w w' : World} {B : Nat} {a : Addr} {o : Nat} {cs : List Value} (h : CellsAt w a o cs) (hB : a.block < B) (hb : Below B w w') : CellsAt w' a o cs :=
  fun j c hc => (hb.cell (by rw [addBlock]; exact hB)).trans (h j c hc)
theorem SlOf.below {α : Type} {w w' : World} {B z : Nat} {R R' : α → List Value → Prop} {l : List α} {v : Value} (h : SlOf w B z R l v) (hb : Below B w w') (hR : ∀ x ∈ l, ∀ cs, R x cs → R' x cs) : SlOf w' B z R' l v := by
  rcases h with h | ⟨a, cap, h1, h2, h3, h4, h5⟩
  · exact .inl h
  · refine .inr ⟨a, cap, h1, h2, h3, h4, fun i x hx => ?_⟩
    obtain ⟨cs, hl, hr, hc⟩ := h5 i x hx
    exact ⟨cs, hl, hR x (List.mem_of_getElem? hx) cs hr, hc.below (h4 (by rintro rfl; simp at hx)) hb⟩
theorem SlOf.more {α : Type} {w : World} {B B' z : Nat} {R R' : α → List Value → Prop} {l : List α} {v : Value} (h : SlOf w B z R l v) (hB : B ≤ B') (hR : ∀ x ∈ l, ∀ cs, R x cs → R' x cs) : SlOf w B' z R' l v := by
  rcases h with h | ⟨a, cap, h1, h2, h3, h4, h5⟩
  · exact .inl h
  · refine .inr ⟨a, cap, h1, h2, h3, fun h => Nat.lt_of_lt_of_le (h4 h) hB, fun i x hx => ?_⟩
    obtain ⟨cs, hl, hr, hc⟩ := h5 i x hx
    exact ⟨cs, hl, hR x (List.mem_of_getElem? hx) cs hr, hc⟩
def StrC (s : ByteArray) (cs : List Value) : Prop := cs = [.string s] ∧ s.size ≤ maxLen
def IntC (n : Int) (cs : List Value) : Prop := cs = [.int .i64 n] ∧ I64 n
/-- A slice, nil or not, in one form. -/
theorem SlOf.uni {α : Type} {w : World} {B z : Nat} {R : α → List Value → Prop} {l : List α} {v : Value} (h : SlOf w B z R l v) : ∃ (o : Option Addr) (cap : Nat), v = .slice o l.length cap ∧ l.length ≤ cap ∧ cap ≤ maxLen ∧
    ∀ (i : Nat) (x : α), l[i]? = some x → ∃ (a : Addr) (cs : List Value), o = some a ∧ a.block < B ∧ cs.length = z ∧ R x cs ∧ CellsAt w a (i * z) cs := by
  rcases h with ⟨rfl, rfl⟩ | ⟨a, cap, h1, h2, h3, h4, h5⟩
  · exact ⟨none, 0, rfl, Nat.le_refl _, Nat.zero_le _, fun i x hx => by simp at hx⟩
  · refine ⟨some a, cap, h1, h2, h3, fun i x hx => ?_⟩
    obtain ⟨cs, hl, hr, hc⟩ := h5 i x hx
    exact ⟨a, cs, rfl, h4 (by rintro rfl; simp at hx), hl, hr, hc⟩
/-- What the walk reads of four cells. -/
theorem CellsAt.four {w : World} {a : Addr} {o : Nat} {c0 c1 c2 c3 : Value} (h : CellsAt w a o [c0, c1, c2, c3]) : w.cell? (a.add o) = some c0 ∧ w.cell? ⟨(a.add o).block, (a.add o).off + 1, none⟩ = some c1 ∧ w.cell? ⟨(a.add o).block, (a.add o).off + 2, none⟩ = some c2 ∧ w.cell? ⟨(a.add o).block, (a.add o).off + 3, none⟩ = some c3 := by
  rw [← addNext a o 1 (by omega), ← addNext a o 2 (by omega), ← addNext a o 3 (by omega)]
  exact ⟨h 0 _ rfl, h 1 _ rfl, h 2 _ rfl, h 3 _ rfl⟩

/-- What lies in a slice's place, of whatever kind; for the rounds of a walk. -/
def SlIn {α : Type} (w : World) (B z : Nat) (R : α → List Value → Prop) (l : List α) (o : Option Addr) : Prop :=
  ∀ (i : Nat) (x : α), l[i]? = some x → ∃ (a : Addr) (cs : List Value), o = some a ∧ a.block < B ∧ cs.length = z ∧ R x cs ∧ CellsAt w a (i * z) cs
theorem SlOf.open {α : Type} {w : World} {B z : Nat} {R : α → List Value → Prop} {l : List α} {v : Value} (h : SlOf w B z R l v) : ∃ (o : Option Addr) (cap : Nat), v = .slice o l.length cap ∧ l.length ≤ cap ∧ cap ≤ 9223372036854775807 ∧ Hid (SlIn w B z R l o) := by
  obtain ⟨o, cap, h1, h2, h3, h4⟩ := SlOf.uni h
  exact ⟨o, cap, h1, h2, by unfold maxLen at h3; omega, Lib.hid h4⟩
theorem CellsAt.n1 {w : World} {a : Addr} {o : Nat} {c0 : Value} (h : CellsAt w a o [c0]) : w.cell? (a.add o) = some c0 := by
  exact h 0 _ rfl
theorem CellsAt.n2 {w : World} {a : Addr} {o : Nat} {c0 c1 : Value} (h : CellsAt w a o [c0, c1]) : w.cell? (a.add o) = some c0 ∧ w.cell? ⟨(a.add o).block, (a.add o).off + 1, none⟩ = some c1 := by
  rw [← addNext a o 1 (by omega)]
  exact ⟨h 0 _ rfl, h 1 _ rfl⟩
theorem SlOf.str {w w' : World} {B B' : Nat} {l : List ByteArray} {v : Value} (h : SlOf w B 1 StrC l v) (hb : Below B w w') (hB : B ≤ B') : SlOf w' B' 1 StrC l v := SlOf.more (SlOf.below h hb fun _ _ _ h => h) hB fun _ _ _ h => h
theorem SlOf.int {w w' : World} {B B' : Nat} {l : List Int} {v : Value} (h : SlOf w B 1 IntC l v) (hb : Below B w w') (hB : B ≤ B') : SlOf w' B' 1 IntC l v := SlOf.more (SlOf.below h hb fun _ _ _ h => h) hB fun _ _ _ h => h
theorem str_at {w wr : World} {l : List ByteArray} {o : Option Addr} {k : Nat} {t : ByteArray} (S : Hid (SlIn w w.heap.size 1 StrC l o)) (hB : Below w.heap.size w wr) (ht : l[k]? = some t) :
    ∃ a, o = some a ∧ a.block < w.heap.size ∧ t.size ≤ maxLen ∧ wr.cell? (a.add k) = some (.string t) := by
  obtain ⟨a, cs, rfl, ha, _, ⟨rfl, hz⟩, h2⟩ := S.out k t ht
  have := (h2.below ha hB).n1
  rw [Nat.mul_one] at this
  exact ⟨a, rfl, ha, hz, this⟩
theorem int_at {w wr : World} {l : List Int} {o : Option Addr} {k : Nat} {t : Int} (S : Hid (SlIn w w.heap.size 1 IntC l o)) (hB : Below w.heap.size w wr) (ht : l[k]? = some t) :
    ∃ a, o = some a ∧ a.block < w.heap.size ∧ I64 t ∧ wr.cell? (a.add k) = some (.int .i64 t) := by
  obtain ⟨a, cs, rfl, ha, _, ⟨rfl, hz⟩, h2⟩ := S.out k t ht
  have := (h2.below ha hB).n1
  rw [Nat.mul_one] at this
  exact ⟨a, rfl, ha, hz, this⟩
def allS {α : Type} (f : α → α → Bool) : List α → List α → Bool
  | [], [] => true
  | t :: ts, u :: us => f t u && allS f ts us
  | _, _ => false
theorem allS_len {α : Type} {f : α → α → Bool} : ∀ {l m : List α}, l.length ≠ m.length → allS f l m = false
  | [], [], h => absurd rfl h
  | [], _ :: _, _ => rfl
  | _ :: _, [], _ => rfl
  | t :: l, u :: m, h => by
    unfold allS
    rw [allS_len (l := l) (m := m) (by simpa using h), Bool.and_false]
theorem allS_drop {α : Type} {f : α → α → Bool} {l m : List α} {k : Nat} {t u : α} (ht : l[k]? = some t) (hu : m[k]? = some u) : allS f (l.drop k) (m.drop k) = (f t u && allS f (l.drop (k + 1)) (m.drop (k + 1))) := by
  have h1 : l.drop k = t :: l.drop (k + 1) := by rw [List.drop_eq_getElem_cons (List.getElem?_eq_some_iff.1 ht).1, (List.getElem?_eq_some_iff.1 ht).2]
  have h2 : m.drop k = u :: m.drop (k + 1) := by rw [List.drop_eq_getElem_cons (List.getElem?_eq_some_iff.1 hu).1, (List.getElem?_eq_some_iff.1 hu).2]
  rw [h1, h2]
  rfl
theorem allS_end {α : Type} {f : α → α → Bool} {l m : List α} {k : Nat} (hl : l.length ≤ k) (hm : m.length ≤ k) : allS f (l.drop k) (m.drop k) = true := by
  rw [List.drop_of_length_le hl, List.drop_of_length_le hm]; rfl

end Go.Proofs.YtbpdfmpfnbdeoaaGreatDoor
namespace Go.Proofs.YtbpdfmpfnbdeoaaGreatDoor
open Go.RowKit

/-- What is appended, cell by cell. -/
def Spread (w : World) (z : Nat) (v : Value) (m : Nat) (news : List Value) : Prop :=
  (v = .slice none 0 0 ∧ m = 0 ∧ news = []) ∨ ∃ (ad : Addr) (c : Nat), v = .slice (some ad) m c ∧ news.length = m * z ∧ (∀ j u, news[j]? = some u → w.cell? (ad.add j) = some u) ∧ ∀ u ∈ news, u.oneCell' = true
theorem Spread.len {w : World} {z : Nat} {v : Value} {m : Nat} {news : List Value} (h : Spread w z v m news) : news.length = m * z := by
  rcases h with ⟨_, rfl, rfl⟩ | ⟨_, _, _, h, _⟩
  · simp
  · exact h
theorem Spread.cells {w w' : World} {z : Nat} {v : Value} {m : Nat} {news : List Value} (h : Spread w z v m news) (hk : ∀ p c, w.cell? p = some c → w'.cell? p = some c) : Spread w' z v m news := by
  rcases h with h | ⟨ad, c, h1, h2, h3, h4⟩
  · exact .inl h
  · exact .inr ⟨ad, c, h1, h2, fun j u hu => hk _ _ (h3 j u hu), h4⟩
/-- What owns some row and no other turns. -/
theorem Spread.own {w : World} {base : Nat} {e : TypeId} {z : Nat} {v : Value} {n : Nat} {xs : List Value} (h : w.ownsRow base e z v n xs) (h1 : ∀ u ∈ xs, u.oneCell' = true) : Spread w z v n xs := by
  rcases h.2 with ⟨rfl, rfl⟩ | ⟨g, cap, cur, hv, hb, hg, _⟩
  · exact .inl ⟨rfl, rfl, List.eq_nil_of_length_eq_zero (by rw [h.1]; simp)⟩
  · refine .inr ⟨⟨g, 0, none⟩, cap, hv, h.1, fun j u hu => ?_, h1⟩
    exact h.cells (g := g) (by rw [hv]; rfl) j u hu
theorem own_below {w w' : World} {base : Nat} {e : TypeId} {z : Nat} {v : Value} {n : Nat} {xs : List Value} (h : w.ownsRow base e z v n xs) (hb : Below w.heap.size w w') : w'.ownsRow base e z v n xs :=
  h.kept (row := none) ⟨hb.os, hb.tape, hb.output, hb.size, fun i hi _ => hb.block i hi⟩ (by cases hv : v.ownBlock with | none => exact .inl rfl | some g => exact .inr (by simp))

section
variable {P : Program} (w : World)
theorem run_append_any (base : Nat) (t ty e : TypeId) (i : TypeInfo) (z : Value) (size bytes : Nat) (ht : P.underlying t = some (.slice e)) (hi : P.info? e = some i) (hz : i.zero = some z)
    (hsize : i.size = size) (hby : i.bytes = bytes) (hzs : z.cells.size = size) (hsz : 0 < size)
    (v : Value) (n : Nat) (xs : List Value) (hown : w.ownsRow base e size v n xs) (u : Value) (m : Nat) (news : List Value) (hu : Spread w size u m news)
    (h63 : n + m ≤ maxLen) (hbytes : (n + m) * bytes ≤ 140737488355328) (hbase : base ≤ w.heap.size) :
    ∃ v' w', (Builtin.append_ #[t, t] ty #[v, u]).run P w = .ok v' w' ∧ w'.ownsRow base e size v' (n + m) (xs ++ news) ∧ w.grownBy w' v.ownBlock ∧ (v'.ownBlock = v.ownBlock ∨ v'.ownBlock = some w.heap.size) := by
  rcases hu with ⟨rfl, rfl, rfl⟩ | ⟨ad, c, rfl, h2, h3, h4⟩
  · refine ⟨v, w, run_append_owned_none (P := P) w base t ty e i size ht hi v n xs hown, by simpa using hown, ⟨rfl, rfl, rfl, Nat.le_refl _, fun _ _ _ => rfl⟩, .inl rfl⟩
  · obtain ⟨v', w', hr, k1, k2, _, k3⟩ := run_append_own_at (P := P) w base t ty e i z size bytes ht hi hz hsize hby hzs hsz v n xs hown ad m c news h2 h3 h4 h63 hbytes hbase
    exact ⟨v', w', hr, k1, k2, k3⟩
theorem wp_append_any {o : Oper} {a : Act} {K : Act → World → Prop} {Q : Exit → Act → World → Prop} (s x : Operand) (t : TypeId)
    (ho : o.op = .call { callee := .builtin .append, args := #[s, x], argTypes := #[t, t] })
    (base : Nat) (e : TypeId) (i : TypeInfo) (z : Value) (size bytes : Nat) (ht : P.underlying t = some (.slice e)) (hi : P.info? e = some i) (hz : i.zero = some z)
    (hsize : i.size = size) (hby : i.bytes = bytes) (hzs : z.cells.size = size) (hsz : 0 < size)
    (v : Value) (n : Nat) (xs : List Value) (hs : a.eval s = v) (hown : w.ownsRow base e size v n xs) (u : Value) (m : Nat) (news : List Value) (hx : a.eval x = u) (hu : Spread w size u m news)
    (h63 : n + m ≤ maxLen) (hbytes : (n + m) * bytes ≤ 140737488355328) (hbase : base ≤ w.heap.size)
    (h : ∀ v' w', w'.ownsRow base e size v' (n + m) (xs ++ news) → w.grownBy w' v.ownBlock → (v'.ownBlock = v.ownBlock ∨ v'.ownBlock = some w.heap.size) → K (a.put o.dst v') w') : o.wp P a w K Q := by
  obtain ⟨v', w', hr, h2, h3, h4⟩ := run_append_any (P := P) w base t o.type e i z size bytes ht hi hz hsize hby hzs hsz v n xs hown u m news hu h63 hbytes hbase
  unfold Oper.wp execOp
  simp only [ho, resolve, invoke, builtin, Sem.run_bind, Sem.run_pure, Result.andThen_ok, List.map_toArray, List.map_cons, List.map_nil, hs, hx, hr]
  exact h v' w' h2 h3 h4
theorem wpList_append_any {ops : Array Oper} {rest : List Oper} {o : Oper} {a : Act} {Q : Exit → Act → World → Prop} (hgd : o.guard = none) (s x : Operand) (t : TypeId)
    (ho : o.op = .call { callee := .builtin .append, args := #[s, x], argTypes := #[t, t] })
    (base : Nat) (e : TypeId) (i : TypeInfo) (z : Value) (size bytes : Nat) (ht : P.underlying t = some (.slice e)) (hi : P.info? e = some i) (hz : i.zero = some z)
    (hsize : i.size = size) (hby : i.bytes = bytes) (hzs : z.cells.size = size) (hsz : 0 < size)
    (v : Value) (n : Nat) (xs : List Value) (hs : a.eval s = v) (hown : w.ownsRow base e size v n xs) (u : Value) (m : Nat) (news : List Value) (hx : a.eval x = u) (hu : Spread w size u m news)
    (h63 : n + m ≤ maxLen) (hbytes : (n + m) * bytes ≤ 140737488355328) (hbase : base ≤ w.heap.size)
    (h : ∀ v' w', w'.ownsRow base e size v' (n + m) (xs ++ news) → w.grownBy w' v.ownBlock → (v'.ownBlock = v.ownBlock ∨ v'.ownBlock = some w.heap.size) → wpList P ops Q rest (a.put o.dst v') w') : wpList P ops Q (o :: rest) a w :=
  wpList_plain hgd fun _ hK => wp_append_any w s x t ho base e i z size bytes ht hi hz hsize hby hzs hsz v n xs hs hown u m news hx hu h63 hbytes hbase fun v' w' h2 h3 h4 => hK _ _ (h v' w' h2 h3 h4)
theorem step_append_any {ops : Array Oper} {o : Oper} {a : Act} {K : Act → World → Prop} {Q : Exit → Act → World → Prop} {E : Prop} (hgd : o.guard = none) (s x : Operand) (t : TypeId)
    (ho : o.op = .call { callee := .builtin .append, args := #[s, x], argTypes := #[t, t] })
    (base : Nat) (e : TypeId) (i : TypeInfo) (z : Value) (size bytes : Nat) (ht : P.underlying t = some (.slice e)) (hi : P.info? e = some i) (hz : i.zero = some z)
    (hsize : i.size = size) (hby : i.bytes = bytes) (hzs : z.cells.size = size) (hsz : 0 < size)
    (v : Value) (n : Nat) (xs : List Value) (hs : a.eval s = v) (hown : w.ownsRow base e size v n xs) (u : Value) (m : Nat) (news : List Value) (hx : a.eval x = u) (hu : Spread w size u m news)
    (h63 : n + m ≤ maxLen) (hbytes : (n + m) * bytes ≤ 140737488355328) (hbase : base ≤ w.heap.size)
    (h : ∀ v' w', w'.ownsRow base e size v' (n + m) (xs ++ news) → w.grownBy w' v.ownBlock → (v'.ownBlock = v.ownBlock ∨ v'.ownBlock = some w.heap.size) → K (a.put o.dst v') w') :
    if Region.wanted o (yielded ops a.tmps) = true then Oper.wp P o a w K Q else E := by
  have hw : Region.wanted o (yielded ops a.tmps) = true := by simp [Region.wanted, hgd]
  rw [if_pos hw]
  exact wp_append_any w s x t ho base e i z size bytes ht hi hz hsize hby hzs hsz v n xs hs hown u m news hx hu h63 hbytes hbase h
end


theorem wp_make_any {P : Program} (w : World) {o : Oper} {a : Act} {K : Act → World → Prop} {Q : Exit → Act → World → Prop} (l c : Operand) (t : TypeId) (hop : o.op = Op.makeSlice t l c)
    (base : Nat) (e : TypeId) (i : TypeInfo) (z : Value) (size : Nat) (h1 : P.underlying t = some (.slice e)) (h2 : P.info? e = some i) (h3 : i.zero = some z) (h4 : i.size = size)
    (kl kc : IntKind) (n : Nat) (hl : a.eval l = .int kl 0) (hc : a.eval c = .int kc (n : Int)) (b2 : i.bytes * n ≤ 281474976710656) (b3 : n ≤ maxLen) (b4 : base ≤ w.heap.size)
    (hK : ∀ w', w'.ownsRow base e size (.slice (some ⟨w.heap.size, 0, none⟩) 0 n) 0 [] → w.grownBy w' none → K (a.put o.dst (.slice (some ⟨w.heap.size, 0, none⟩) 0 n)) w') : o.wp P a w K Q := by
  obtain ⟨w', hrun, r1, r2⟩ := run_make_own (P := P) w base t e i z size h1 h2 h3 h4 kl kc n b2 b3 b4
  unfold Oper.wp
  simp [execOp, hop, hl, hc, hrun, Result.andThen]
  exact hK w' r1 r2
end Go.Proofs.YtbpdfmpfnbdeoaaGreatDoor
namespace Go.Proofs.YtbpdfmpfnbdeoaaGreatDoor
open Go.RowKit

inductive Tm where
  | mk (op : Int) (s : ByteArray) (n : Int) (l : List Tm)
def Tm.op : Tm → Int | .mk o _ _ _ => o
def Tm.s : Tm → ByteArray | .mk _ s _ _ => s
def Tm.n : Tm → Int | .mk _ _ n _ => n
def Tm.l : Tm → List Tm | .mk _ _ _ l => l
@[simp] theorem Tm.op_mk (o : Int) (s : ByteArray) (n : Int) (l : List Tm) : (Tm.mk o s n l).op = o := rfl
@[simp] theorem Tm.s_mk (o : Int) (s : ByteArray) (n : Int) (l : List Tm) : (Tm.mk o s n l).s = s := rfl
@[simp] theorem Tm.n_mk (o : Int) (s : ByteArray) (n : Int) (l : List Tm) : (Tm.mk o s n l).n = n := rfl
@[simp] theorem Tm.l_mk (o : Int) (s : ByteArray) (n : Int) (l : List Tm) : (Tm.mk o s n l).l = l := rfl

structure Am where
  rel : ByteArray
  l : List Tm
structure Lt where
  op : Int
  a : Am
  x : Tm
  y : Tm
structure Ru where
  head : Am
  body : List Lt
  line : Int
structure De where
  rel : ByteArray
  names : List ByteArray
  types : List Int
  inn : Bool
  out : Bool
  line : Int
structure Pg where
  decls : List De
  rules : List Ru

inductive TmC (w : World) (B : Nat) : Tm → List Value → Prop where
  | nil (op : Int) (s : ByteArray) (n : Int) : I64 op → s.size ≤ maxLen → I64 n → TmC w B (.mk op s n []) [.int .i64 op, .string s, .int .i64 n, .slice none 0 0]
  | row (op : Int) (s : ByteArray) (n : Int) (l : List Tm) (a : Addr) (cap : Nat) (cs : Nat → List Value) : I64 op → s.size ≤ maxLen → I64 n → l.length ≤ cap → cap ≤ maxLen → (l ≠ [] → a.block < B) →
      (∀ i x, l[i]? = some x → TmC w B x (cs i)) → (∀ i x, l[i]? = some x → (cs i).length = 4 ∧ CellsAt w a (i * 4) (cs i)) →
      TmC w B (.mk op s n l) [.int .i64 op, .string s, .int .i64 n, .slice (some a) l.length cap]
abbrev TmS (w : World) (B : Nat) (l : List Tm) (v : Value) : Prop := SlOf w B 4 (TmC w B) l v

/-- What a term's cells are. -/
theorem TmC.parts {w : World} {B : Nat} {t : Tm} {cs : List Value} (h : TmC w B t cs) : ∃ v, cs = [.int .i64 t.op, .string t.s, .int .i64 t.n, v] ∧ I64 t.op ∧ t.s.size ≤ maxLen ∧ I64 t.n ∧ TmS w B t.l v := by
  cases h with
  | nil op s n h1 h2 h3 => exact ⟨_, rfl, h1, h2, h3, .inl ⟨rfl, rfl⟩⟩
  | row op s n l a cap cs h1 h2 h3 h4 h5 h6 h7 h8 => exact ⟨_, rfl, h1, h2, h3, .inr ⟨a, cap, rfl, h4, h5, h6, fun i x hx => ⟨cs i, (h8 i x hx).1, h7 i x hx, (h8 i x hx).2⟩⟩⟩
theorem TmC.of {w : World} {B : Nat} {op : Int} {s : ByteArray} {n : Int} {l : List Tm} {v : Value} (h1 : I64 op) (h2 : s.size ≤ maxLen) (h3 : I64 n) (h : TmS w B l v) : TmC w B (.mk op s n l) [.int .i64 op, .string s, .int .i64 n, v] := by
  rcases h with ⟨rfl, rfl⟩ | ⟨a, cap, rfl, h4, h5, h6, h7⟩
  · exact .nil op s n h1 h2 h3
  · let cs : Nat → List Value := fun i => if h : i < l.length then (h7 i l[i] (List.getElem?_eq_getElem h)).choose else []
    have hcs : ∀ i x, l[i]? = some x → (cs i).length = 4 ∧ TmC w B x (cs i) ∧ CellsAt w a (i * 4) (cs i) := by
      intro i x hx
      obtain ⟨hi, e⟩ := List.getElem?_eq_some_iff.1 hx
      subst e
      simp only [cs, dif_pos hi]
      exact (h7 i l[i] (List.getElem?_eq_getElem hi)).choose_spec
    exact .row op s n l a cap cs h1 h2 h3 h4 h5 h6 (fun i x hx => (hcs i x hx).2.1) (fun i x hx => ⟨(hcs i x hx).1, (hcs i x hx).2.2⟩)

theorem TmC.under {w w' : World} {B : Nat} {t : Tm} {cs : List Value} (h : TmC w B t cs) (hb : Below B w w') : TmC w' B t cs := by
  induction h with
  | nil op s n h1 h2 h3 => exact .nil op s n h1 h2 h3
  | row op s n l a cap cs h1 h2 h3 h4 h5 h6 _ h8 ih => exact .row op s n l a cap cs h1 h2 h3 h4 h5 h6 ih fun i x hx => ⟨(h8 i x hx).1, (h8 i x hx).2.below (h6 (by rintro rfl; simp at hx)) hb⟩
theorem TmC.more {w : World} {B B' : Nat} {t : Tm} {cs : List Value} (h : TmC w B t cs) (hB : B ≤ B') : TmC w B' t cs := by
  induction h with
  | nil op s n h1 h2 h3 => exact .nil op s n h1 h2 h3
  | row op s n l a cap cs h1 h2 h3 h4 h5 h6 _ h8 ih => exact .row op s n l a cap cs h1 h2 h3 h4 h5 (fun h => Nat.lt_of_lt_of_le (h6 h) hB) ih h8
theorem TmS.below {w w' : World} {B : Nat} {l : List Tm} {v : Value} (h : TmS w B l v) (hb : Below B w w') : TmS w' B l v := SlOf.below h hb fun _ _ _ h => TmC.under h hb
theorem TmS.more {w : World} {B B' : Nat} {l : List Tm} {v : Value} (h : TmS w B l v) (hB : B ≤ B') : TmS w B' l v := SlOf.more h hB fun _ _ _ h => h.more hB

/-- An atom's cells, a part's, a rule's, a relation's, a program's. -/
def AmC (w : World) (B : Nat) (a : Am) (cs : List Value) : Prop := ∃ v, cs = [.string a.rel, v] ∧ a.rel.size ≤ maxLen ∧ TmS w B a.l v
def LtC (w : World) (B : Nat) (t : Lt) (cs : List Value) : Prop := ∃ ca cx cy, cs = .int .i64 t.op :: (ca ++ cx ++ cy) ∧ I64 t.op ∧ AmC w B t.a ca ∧ TmC w B t.x cx ∧ TmC w B t.y cy
def RuC (w : World) (B : Nat) (r : Ru) (cs : List Value) : Prop := ∃ ca v, cs = ca ++ [v, .int .i64 r.line] ∧ I64 r.line ∧ AmC w B r.head ca ∧ SlOf w B 11 (LtC w B) r.body v
def DeC (w : World) (B : Nat) (d : De) (cs : List Value) : Prop := ∃ v u, cs = [.string d.rel, v, u, .bool d.inn, .bool d.out, .int .i64 d.line] ∧ d.rel.size ≤ maxLen ∧ I64 d.line ∧ SlOf w B 1 StrC d.names v ∧ SlOf w B 1 IntC d.types u
def PgC (w : World) (B : Nat) (p : Pg) (cs : List Value) : Prop := ∃ v u, cs = [v, u] ∧ SlOf w B 6 (DeC w B) p.decls v ∧ SlOf w B 4 (RuC w B) p.rules u

theorem AmC.below {w w' : World} {B : Nat} {t : Am} {cs : List Value} (h : AmC w B t cs) (hb : Below B w w') : AmC w' B t cs := by
  obtain ⟨v, h1, h2, h3⟩ := h
  exact ⟨v, h1, h2, TmS.below h3 hb⟩
theorem AmC.more {w : World} {B B' : Nat} {t : Am} {cs : List Value} (h : AmC w B t cs) (hB : B ≤ B') : AmC w B' t cs := by
  obtain ⟨v, h1, h2, h3⟩ := h
  exact ⟨v, h1, h2, TmS.more h3 hB⟩
theorem LtC.below {w w' : World} {B : Nat} {t : Lt} {cs : List Value} (h : LtC w B t cs) (hb : Below B w w') : LtC w' B t cs := by
  obtain ⟨ca, cx, cy, h1, h2, h3, h4, h5⟩ := h
  exact ⟨ca, cx, cy, h1, h2, h3.below hb, h4.under hb, h5.under hb⟩
theorem LtC.more {w : World} {B B' : Nat} {t : Lt} {cs : List Value} (h : LtC w B t cs) (hB : B ≤ B') : LtC w B' t cs := by
  obtain ⟨ca, cx, cy, h1, h2, h3, h4, h5⟩ := h
  exact ⟨ca, cx, cy, h1, h2, h3.more hB, h4.more hB, h5.more hB⟩
theorem RuC.below {w w' : World} {B : Nat} {t : Ru} {cs : List Value} (h : RuC w B t cs) (hb : Below B w w') : RuC w' B t cs := by
  obtain ⟨ca, v, h1, h2, h3, h4⟩ := h
  exact ⟨ca, v, h1, h2, h3.below hb, SlOf.below h4 hb fun _ _ _ h => h.below hb⟩
theorem RuC.more {w : World} {B B' : Nat} {t : Ru} {cs : List Value} (h : RuC w B t cs) (hB : B ≤ B') : RuC w B' t cs := by
  obtain ⟨ca, v, h1, h2, h3, h4⟩ := h
  exact ⟨ca, v, h1, h2, h3.more hB, SlOf.more h4 hB fun _ _ _ h => h.more hB⟩
theorem DeC.below {w w' : World} {B : Nat} {t : De} {cs : List Value} (h : DeC w B t cs) (hb : Below B w w') : DeC w' B t cs := by
  obtain ⟨v, u, h1, h2, h3, h4, h5⟩ := h
  exact ⟨v, u, h1, h2, h3, SlOf.below h4 hb fun _ _ _ h => h, SlOf.below h5 hb fun _ _ _ h => h⟩
theorem DeC.more {w : World} {B B' : Nat} {t : De} {cs : List Value} (h : DeC w B t cs) (hB : B ≤ B') : DeC w B' t cs := by
  obtain ⟨v, u, h1, h2, h3, h4, h5⟩ := h
  exact ⟨v, u, h1, h2, h3, SlOf.more h4 hB fun _ _ _ h => h, SlOf.more h5 hB fun _ _ _ h => h⟩
theorem PgC.below {w w' : World} {B : Nat} {t : Pg} {cs : List Value} (h : PgC w B t cs) (hb : Below B w w') : PgC w' B t cs := by
  obtain ⟨v, u, h1, h2, h3⟩ := h
  exact ⟨v, u, h1, SlOf.below h2 hb fun _ _ _ h => h.below hb, SlOf.below h3 hb fun _ _ _ h => h.below hb⟩
theorem PgC.more {w : World} {B B' : Nat} {t : Pg} {cs : List Value} (h : PgC w B t cs) (hB : B ≤ B') : PgC w B' t cs := by
  obtain ⟨v, u, h1, h2, h3⟩ := h
  exact ⟨v, u, h1, SlOf.more h2 hB fun _ _ _ h => h.more hB, SlOf.more h3 hB fun _ _ _ h => h.more hB⟩
theorem TmC.len {w : World} {B : Nat} {t : Tm} {cs : List Value} (h : TmC w B t cs) : cs.length = 4 := by obtain ⟨v, rfl, _⟩ := h.parts; rfl
theorem AmC.len {w : World} {B : Nat} {t : Am} {cs : List Value} (h : AmC w B t cs) : cs.length = 2 := by obtain ⟨v, rfl, _⟩ := h; rfl
theorem LtC.len {w : World} {B : Nat} {t : Lt} {cs : List Value} (h : LtC w B t cs) : cs.length = 11 := by
  obtain ⟨ca, cx, cy, rfl, _, h1, h2, h3⟩ := h
  simp [h1.len, h2.len, h3.len]
theorem RuC.len {w : World} {B : Nat} {t : Ru} {cs : List Value} (h : RuC w B t cs) : cs.length = 4 := by
  obtain ⟨ca, v, rfl, _, h1, _⟩ := h
  simp [h1.len]
theorem DeC.len {w : World} {B : Nat} {t : De} {cs : List Value} (h : DeC w B t cs) : cs.length = 6 := by obtain ⟨v, u, rfl, _⟩ := h; rfl

theorem TmC.look {w : World} {B : Nat} {t : Tm} {cs : List Value} (h : TmC w B t cs) : ∃ o cap, cs = [.int .i64 t.op, .string t.s, .int .i64 t.n, .slice o t.l.length cap] ∧ I64 t.op ∧ t.s.size ≤ maxLen ∧ I64 t.n ∧ TmS w B t.l (.slice o t.l.length cap) := by
  obtain ⟨v, rfl, h1, h2, h3, h4⟩ := h.parts
  obtain ⟨o, cap, rfl, _⟩ := SlOf.uni h4
  exact ⟨o, cap, rfl, h1, h2, h3, h4⟩
/-- A term in a slice, as a round of a walk reads it. -/
theorem tm_at {w wr : World} {l : List Tm} {o : Option Addr} {k : Nat} {t : Tm} (S : Hid (SlIn w w.heap.size 4 (TmC w w.heap.size) l o)) (hB : Below w.heap.size w wr) (ht : l[k]? = some t) :
    ∃ a o' cap', o = some a ∧ a.block < w.heap.size ∧ Hid (TmC wr wr.heap.size t [.int .i64 t.op, .string t.s, .int .i64 t.n, .slice o' t.l.length cap']) ∧
      wr.cell? (a.add (k * 4)) = some (.int .i64 t.op) ∧ wr.cell? ⟨(a.add (k * 4)).block, (a.add (k * 4)).off + 1, none⟩ = some (.string t.s) ∧ wr.cell? ⟨(a.add (k * 4)).block, (a.add (k * 4)).off + 2, none⟩ = some (.int .i64 t.n) ∧ wr.cell? ⟨(a.add (k * 4)).block, (a.add (k * 4)).off + 3, none⟩ = some (.slice o' t.l.length cap') := by
  obtain ⟨a, cs, rfl, ha, _, h1, h2⟩ := S.out k t ht
  obtain ⟨o', cap', rfl, _⟩ := h1.look
  exact ⟨a, o', cap', rfl, ha, Lib.hid ((h1.under hB).more hB.size), (h2.below ha hB).four⟩
end Go.Proofs.YtbpdfmpfnbdeoaaGreatDoor
namespace Go.Proofs.YtbpdfmpfnbdeoaaGreatDoor
open Go.RowKit Go.ChangeShapes Go.WideShapes Go.Deep

theorem parts2 {H : Type} {enc : TypeId × Value → H} {P : Program} {w : World} {base : Nat} {spare : Nat → Bool} {held : Bool} {t : TypeId} {f0 f1 : Field} {fuel : Nat} {cs : List Value} {x : DataW H × List MemPlace} (ht : P.underlying t = some (.struct #[f0, f1])) (h : DataW.trod enc P w base spare held fuel t cs = some x) :
    ∃ (y0 y1 : DataW H × List MemPlace) (n : Nat), fuel = n + 1 ∧ cs.length = P.cellsOf t ∧ DataW.trod enc P w base spare held n f0.type ((cs.drop f0.offset).take (P.cellsOf f0.type)) = some y0 ∧ DataW.trod enc P w base spare held n f1.type ((cs.drop f1.offset).take (P.cellsOf f1.type)) = some y1 := by
  obtain ⟨xs, n, hn, rfl, hl, hlen, hf⟩ := DataW.trod_struct ht h
  match xs, hlen with
  | [y0, y1], _ => exact ⟨y0, y1, n, hn, hl, by simpa using hf 0 f0 rfl, by simpa using hf 1 f1 rfl⟩

theorem parts3 {H : Type} {enc : TypeId × Value → H} {P : Program} {w : World} {base : Nat} {spare : Nat → Bool} {held : Bool} {t : TypeId} {f0 f1 f2 : Field} {fuel : Nat} {cs : List Value} {x : DataW H × List MemPlace} (ht : P.underlying t = some (.struct #[f0, f1, f2])) (h : DataW.trod enc P w base spare held fuel t cs = some x) :
    ∃ (y0 y1 y2 : DataW H × List MemPlace) (n : Nat), fuel = n + 1 ∧ cs.length = P.cellsOf t ∧ DataW.trod enc P w base spare held n f0.type ((cs.drop f0.offset).take (P.cellsOf f0.type)) = some y0 ∧ DataW.trod enc P w base spare held n f1.type ((cs.drop f1.offset).take (P.cellsOf f1.type)) = some y1 ∧ DataW.trod enc P w base spare held n f2.type ((cs.drop f2.offset).take (P.cellsOf f2.type)) = some y2 := by
  obtain ⟨xs, n, hn, rfl, hl, hlen, hf⟩ := DataW.trod_struct ht h
  match xs, hlen with
  | [y0, y1, y2], _ => exact ⟨y0, y1, y2, n, hn, hl, by simpa using hf 0 f0 rfl, by simpa using hf 1 f1 rfl, by simpa using hf 2 f2 rfl⟩

theorem parts4 {H : Type} {enc : TypeId × Value → H} {P : Program} {w : World} {base : Nat} {spare : Nat → Bool} {held : Bool} {t : TypeId} {f0 f1 f2 f3 : Field} {fuel : Nat} {cs : List Value} {x : DataW H × List MemPlace} (ht : P.underlying t = some (.struct #[f0, f1, f2, f3])) (h : DataW.trod enc P w base spare held fuel t cs = some x) :
    ∃ (y0 y1 y2 y3 : DataW H × List MemPlace) (n : Nat), fuel = n + 1 ∧ cs.length = P.cellsOf t ∧ DataW.trod enc P w base spare held n f0.type ((cs.drop f0.offset).take (P.cellsOf f0.type)) = some y0 ∧ DataW.trod enc P w base spare held n f1.type ((cs.drop f1.offset).take (P.cellsOf f1.type)) = some y1 ∧ DataW.trod enc P w base spare held n f2.type ((cs.drop f2.offset).take (P.cellsOf f2.type)) = some y2 ∧ DataW.trod enc P w base spare held n f3.type ((cs.drop f3.offset).take (P.cellsOf f3.type)) = some y3 := by
  obtain ⟨xs, n, hn, rfl, hl, hlen, hf⟩ := DataW.trod_struct ht h
  match xs, hlen with
  | [y0, y1, y2, y3], _ => exact ⟨y0, y1, y2, y3, n, hn, hl, by simpa using hf 0 f0 rfl, by simpa using hf 1 f1 rfl, by simpa using hf 2 f2 rfl, by simpa using hf 3 f3 rfl⟩

theorem parts6 {H : Type} {enc : TypeId × Value → H} {P : Program} {w : World} {base : Nat} {spare : Nat → Bool} {held : Bool} {t : TypeId} {f0 f1 f2 f3 f4 f5 : Field} {fuel : Nat} {cs : List Value} {x : DataW H × List MemPlace} (ht : P.underlying t = some (.struct #[f0, f1, f2, f3, f4, f5])) (h : DataW.trod enc P w base spare held fuel t cs = some x) :
    ∃ (y0 y1 y2 y3 y4 y5 : DataW H × List MemPlace) (n : Nat), fuel = n + 1 ∧ cs.length = P.cellsOf t ∧ DataW.trod enc P w base spare held n f0.type ((cs.drop f0.offset).take (P.cellsOf f0.type)) = some y0 ∧ DataW.trod enc P w base spare held n f1.type ((cs.drop f1.offset).take (P.cellsOf f1.type)) = some y1 ∧ DataW.trod enc P w base spare held n f2.type ((cs.drop f2.offset).take (P.cellsOf f2.type)) = some y2 ∧ DataW.trod enc P w base spare held n f3.type ((cs.drop f3.offset).take (P.cellsOf f3.type)) = some y3 ∧ DataW.trod enc P w base spare held n f4.type ((cs.drop f4.offset).take (P.cellsOf f4.type)) = some y4 ∧ DataW.trod enc P w base spare held n f5.type ((cs.drop f5.offset).take (P.cellsOf f5.type)) = some y5 := by
  obtain ⟨xs, n, hn, rfl, hl, hlen, hf⟩ := DataW.trod_struct ht h
  match xs, hlen with
  | [y0, y1, y2, y3, y4, y5], _ => exact ⟨y0, y1, y2, y3, y4, y5, n, hn, hl, by simpa using hf 0 f0 rfl, by simpa using hf 1 f1 rfl, by simpa using hf 2 f2 rfl, by simpa using hf 3 f3 rfl, by simpa using hf 4 f4 rfl, by simpa using hf 5 f5 rfl⟩

section
variable {H : Type} {enc : TypeId × Value → H} {w : World}

theorem cell_block {a : Addr} {v : Value} (h : w.cell? a = some v) : a.block < w.heap.size := by
  unfold World.cell? at h
  rcases Nat.lt_or_ge a.block w.heap.size with h' | h'
  · exact h'
  · simp [Array.getElem?_eq_none h'] at h

theorem open_sl {α : Type} {R : α → List Value → Prop} {z fuel : Nat} {t e : TypeId} {v : Value} {x : DataW H × List MemPlace} (ht : Tryz.prog.underlying t = some (.slice e)) (hz : Tryz.prog.cellsOf e = z) (hp : 0 < z)
    (hE : ∀ n cs y, n < fuel → DataW.trod enc Tryz.prog w 0 (fun _ => true) true n e cs = some y → ∃ b, R b cs)
    (h : DataW.trod enc Tryz.prog w 0 (fun _ => true) true fuel t [v] = some x) : ∃ l : List α, SlOf w w.heap.size z R l v := by
  rcases DataW.trod_slice ht h with ⟨hcs, _⟩ | ⟨a, len, cap, elems, rest, n, rfl, hcs, _, _, hl, hm, hlen, hel, _, _⟩
  · exact ⟨[], .inl ⟨(List.cons.inj hcs).1, rfl⟩⟩
  · rw [hz] at hel
    have each : ∀ i, i < len → ∃ b cs, cs.length = z ∧ R b cs ∧ CellsAt w a (i * z) cs := by
      intro i hi
      have h1 := hel i hi
      rw [List.getElem?_eq_getElem (by omega), Option.bind_eq_some_iff] at h1
      obtain ⟨cs, hc, htr⟩ := h1
      obtain ⟨b, hb⟩ := hE n cs _ (by omega) htr
      obtain ⟨_, hcl, hat⟩ := World.cells?_some hc
      refine ⟨b, cs, hcl, hb, fun j c hj => ?_⟩
      have hjz : j < z := by rw [← hcl]; exact (List.getElem?_eq_some_iff.1 hj).1
      have := hat j hjz
      rw [add_add] at this
      exact this.trans hj
    by_cases h0 : len = 0
    · subst h0
      exact ⟨[], .inr ⟨a, cap, (List.cons.inj hcs).1, hl, hm, fun h => absurd rfl h, fun i x hx => by simp at hx⟩⟩
    let f : (i : Nat) → i < len → α := fun i h => (each i h).choose
    have hf : ∀ i (h : i < len), ∃ cs, cs.length = z ∧ R (f i h) cs ∧ CellsAt w a (i * z) cs := fun i h => (each i h).choose_spec
    have hblk : a.block < w.heap.size := by
      obtain ⟨cs, hcl, _, hc⟩ := hf 0 (by omega)
      have := cell_block (hc 0 cs[0] (List.getElem?_eq_getElem (by omega)))
      rwa [addBlock] at this
    refine ⟨(List.finRange len).map fun i => f i.1 i.2, .inr ⟨a, cap, by rw [(List.cons.inj hcs).1]; simp, by simpa using hl, hm, fun _ => hblk, fun i y hy => ?_⟩⟩
    rw [List.getElem?_map, Option.map_eq_some_iff] at hy
    obtain ⟨j, hj, rfl⟩ := hy
    obtain ⟨hi, e⟩ := List.getElem?_eq_some_iff.1 hj
    simp only [List.getElem_finRange] at e
    subst e
    exact hf i (by simpa using hi)

theorem cTerm : Tryz.prog.cellsOf 51 = 4 := by kernel_rfl
theorem cAtom : Tryz.prog.cellsOf 34 = 2 := by kernel_rfl
theorem cLit : Tryz.prog.cellsOf 56 = 11 := by kernel_rfl
theorem cRule : Tryz.prog.cellsOf 37 = 4 := by kernel_rfl
theorem cDecl : Tryz.prog.cellsOf 58 = 6 := by kernel_rfl
theorem cProg : Tryz.prog.cellsOf 25 = 2 := by kernel_rfl
theorem cInt : Tryz.prog.cellsOf 3 = 1 := by kernel_rfl
theorem cInt64 : Tryz.prog.cellsOf 2 = 1 := by kernel_rfl
theorem cStr : Tryz.prog.cellsOf 9 = 1 := by kernel_rfl
theorem cBool : Tryz.prog.cellsOf 4 = 1 := by kernel_rfl
theorem cTerms : Tryz.prog.cellsOf 32 = 1 := by kernel_rfl
theorem cLits : Tryz.prog.cellsOf 35 = 1 := by kernel_rfl
theorem cRules : Tryz.prog.cellsOf 23 = 1 := by kernel_rfl
theorem cDecls : Tryz.prog.cellsOf 22 = 1 := by kernel_rfl
theorem cStrs : Tryz.prog.cellsOf 45 = 1 := by kernel_rfl
theorem cInts : Tryz.prog.cellsOf 39 = 1 := by kernel_rfl

theorem wf_i64 {n : Int} (h : (Lit.int .i64 n).wf = true) : I64 n := by
  simp only [Lit.wf, Bool.and_eq_true, decide_eq_true_eq] at h
  exact h

set_option maxRecDepth 100000 in
theorem open_term : ∀ (fuel : Nat) (cs : List Value) (x : DataW H × List MemPlace), DataW.trod enc Tryz.prog w 0 (fun _ => true) true fuel 51 cs = some x → ∃ t, TmC w w.heap.size t cs := by
  intro fuel
  induction fuel using Nat.strongRecOn with
  | _ fuel ih =>
    intro cs x h
    obtain ⟨y0, y1, y2, y3, n, rfl, hcl, h0, h1, h2, h3⟩ := parts4 Tryz.underlying51 h
    rw [cTerm] at hcl
    match cs, hcl with
    | [c0, c1, c2, c3], _ =>
      simp only [cInt, cInt64, cStr, cTerms, List.drop_zero, List.drop_succ_cons, List.take_succ_cons, List.take_zero] at h0 h1 h2 h3
      obtain ⟨k0, e0, _, w0⟩ := DataW.trod_int Tryz.underlying3 h0
      obtain ⟨s1, e1, _, z1⟩ := DataW.trod_string Tryz.underlying9 h1
      obtain ⟨k2, e2, _, w2⟩ := DataW.trod_int Tryz.underlying2 h2
      simp only [List.cons.injEq, and_true] at e0 e1 e2
      subst e0 e1 e2
      obtain ⟨l, hl⟩ := open_sl Tryz.underlying32 cTerm (by omega) (fun m cs y hm hy => ih m (by omega) cs y hy) h3
      exact ⟨.mk k0 s1 k2 l, TmC.of (wf_i64 w0) z1 (wf_i64 w2) hl⟩

set_option maxRecDepth 100000 in
theorem open_atom (fuel : Nat) (cs : List Value) (x : DataW H × List MemPlace) (h : DataW.trod enc Tryz.prog w 0 (fun _ => true) true fuel 34 cs = some x) : ∃ t, AmC w w.heap.size t cs := by
  obtain ⟨y0, y1, n, rfl, hcl, h0, h1⟩ := parts2 Tryz.underlying34 h
  rw [cAtom] at hcl
  match cs, hcl with
  | [c0, c1], _ =>
    simp only [cStr, cTerms, List.drop_zero, List.drop_succ_cons, List.take_succ_cons, List.take_zero] at h0 h1
    obtain ⟨s0, e0, _, z0⟩ := DataW.trod_string Tryz.underlying9 h0
    simp only [List.cons.injEq, and_true] at e0
    subst e0
    obtain ⟨l, hl⟩ := open_sl Tryz.underlying32 cTerm (by omega) (fun m cs y hm hy => open_term m cs y hy) h1
    exact ⟨⟨s0, l⟩, _, rfl, z0, hl⟩

set_option maxRecDepth 100000 in
theorem open_lit (fuel : Nat) (cs : List Value) (x : DataW H × List MemPlace) (h : DataW.trod enc Tryz.prog w 0 (fun _ => true) true fuel 56 cs = some x) : ∃ t, LtC w w.heap.size t cs := by
  obtain ⟨y0, y1, y2, y3, n, rfl, hcl, h0, h1, h2, h3⟩ := parts4 Tryz.underlying56 h
  rw [cLit] at hcl
  match cs, hcl with
  | [c0, c1, c2, c3, c4, c5, c6, c7, c8, c9, c10], _ =>
    simp only [cInt, cAtom, cTerm, List.drop_zero, List.drop_succ_cons, List.take_succ_cons, List.take_zero] at h0 h1 h2 h3
    obtain ⟨k0, e0, _, w0⟩ := DataW.trod_int Tryz.underlying3 h0
    simp only [List.cons.injEq, and_true] at e0
    subst e0
    obtain ⟨a, ha⟩ := open_atom _ _ _ h1
    obtain ⟨x, hx⟩ := open_term _ _ _ h2
    obtain ⟨y, hy⟩ := open_term _ _ _ h3
    exact ⟨⟨k0, a, x, y⟩, _, _, _, rfl, wf_i64 w0, ha, hx, hy⟩

set_option maxRecDepth 100000 in
theorem open_rule (fuel : Nat) (cs : List Value) (x : DataW H × List MemPlace) (h : DataW.trod enc Tryz.prog w 0 (fun _ => true) true fuel 37 cs = some x) : ∃ t, RuC w w.heap.size t cs := by
  obtain ⟨y0, y1, y2, n, rfl, hcl, h0, h1, h2⟩ := parts3 Tryz.underlying37 h
  rw [cRule] at hcl
  match cs, hcl with
  | [c0, c1, c2, c3], _ =>
    simp only [cInt, cAtom, cLits, List.drop_zero, List.drop_succ_cons, List.take_succ_cons, List.take_zero] at h0 h1 h2
    obtain ⟨k2, e2, _, w2⟩ := DataW.trod_int Tryz.underlying3 h2
    simp only [List.cons.injEq, and_true] at e2
    subst e2
    obtain ⟨a, ha⟩ := open_atom _ _ _ h0
    obtain ⟨l, hl⟩ := open_sl Tryz.underlying35 cLit (by omega) (fun m cs y hm hy => open_lit m cs y hy) h1
    exact ⟨⟨a, l, k2⟩, _, _, rfl, wf_i64 w2, ha, hl⟩

set_option maxRecDepth 100000 in
theorem open_decl (fuel : Nat) (cs : List Value) (x : DataW H × List MemPlace) (h : DataW.trod enc Tryz.prog w 0 (fun _ => true) true fuel 58 cs = some x) : ∃ t, DeC w w.heap.size t cs := by
  obtain ⟨y0, y1, y2, y3, y4, y5, n, rfl, hcl, h0, h1, h2, h3, h4, h5⟩ := parts6 Tryz.underlying58 h
  rw [cDecl] at hcl
  match cs, hcl with
  | [c0, c1, c2, c3, c4, c5], _ =>
    simp only [cInt, cStr, cStrs, cInts, cBool, List.drop_zero, List.drop_succ_cons, List.take_succ_cons, List.take_zero] at h0 h1 h2 h3 h4 h5
    obtain ⟨s0, e0, _, z0⟩ := DataW.trod_string Tryz.underlying9 h0
    obtain ⟨b3, e3, _⟩ := DataW.trod_bool Tryz.underlying4 h3
    obtain ⟨b4, e4, _⟩ := DataW.trod_bool Tryz.underlying4 h4
    obtain ⟨k5, e5, _, w5⟩ := DataW.trod_int Tryz.underlying3 h5
    simp only [List.cons.injEq, and_true] at e0 e3 e4 e5
    subst e0 e3 e4 e5
    obtain ⟨l, hl⟩ := open_sl (R := StrC) Tryz.underlying45 cStr (by omega) (fun m cs y hm hy => by obtain ⟨s, e, _, z⟩ := DataW.trod_string Tryz.underlying9 hy; exact ⟨s, e, z⟩) h1
    obtain ⟨m, hm⟩ := open_sl (R := IntC) Tryz.underlying39 cInt (by omega) (fun m cs y hm hy => by obtain ⟨s, e, _, z⟩ := DataW.trod_int Tryz.underlying3 hy; exact ⟨s, e, wf_i64 z⟩) h2
    exact ⟨⟨s0, l, m, b3, b4, k5⟩, _, _, rfl, z0, wf_i64 w5, hl, hm⟩

set_option maxRecDepth 100000 in
theorem open_prog (fuel : Nat) (cs : List Value) (x : DataW H × List MemPlace) (h : DataW.trod enc Tryz.prog w 0 (fun _ => true) true fuel 25 cs = some x) : ∃ t, PgC w w.heap.size t cs := by
  obtain ⟨y0, y1, n, rfl, hcl, h0, h1⟩ := parts2 Tryz.underlying25 h
  rw [cProg] at hcl
  match cs, hcl with
  | [c0, c1], _ =>
    simp only [cDecls, cRules, List.drop_zero, List.drop_succ_cons, List.take_succ_cons, List.take_zero] at h0 h1
    obtain ⟨l, hl⟩ := open_sl Tryz.underlying22 cDecl (by omega) (fun m cs y hm hy => open_decl m cs y hy) h0
    obtain ⟨m, hm⟩ := open_sl Tryz.underlying23 cRule (by omega) (fun m cs y hm hy => open_rule m cs y hy) h1
    exact ⟨⟨l, m⟩, _, _, rfl, hl, hm⟩
end
end Go.Proofs.YtbpdfmpfnbdeoaaGreatDoor

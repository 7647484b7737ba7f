/- soritesref01.digits, Num and ParseNum answer what plain functions of the bytes say. soritesref01.one answers the sign of a byte. soritesref01.Num answers a number's numeral, and soritesref01.ParseNum what the reader numL says of the bytes. soritesref01.Quote answers the text of a symbol, for texts of at most five thousand bytes. Terms, atoms, parts, rules, relations, programs as plain data, and how they lie in memory. A program, a rule, a number among the arguments, opened. What is asked of programs as trees: alike, small, right, as plain functions. -/
import Derived.Test.YthhepmddcncjoaaGreatDoorKRel8e
import Derived.Test.YthhepmddcncjoaaGreatDoorKSign
import Derived.Test.YthhepmddcncjoaaGreatDoorKConv
import Derived.Lib.ItoaLen
import Derived.Test.YthhepmddcncjoaaGreatDoorKAny
import Derived.Below
import Derived.Lib.Hide
import Derived.Deep.Slices
import Derived.Deep.Strs
import Derived.ChangeArms
import Derived.ChangeSame
set_option linter.unusedSimpArgs false
set_option linter.unusedVariables false
namespace Go.Proofs.YthhepmddcncjoaaGreatDoor
open Go.RowKit

def emptyOf : Value → Nat
  | .string b => 1 - b.size
  | _ => 0
theorem str_cons (c : UInt8) (l : List UInt8) : Value.string ((⟨#[c]⟩ : ByteArray) ++ ⟨l.toArray⟩) = .string ⟨(c :: l).toArray⟩ := by
  show Value.string (ByteArray.mk [c].toArray ++ ByteArray.mk l.toArray) = _
  rw [ByteArray.mk_append_mk]
  rfl
def digInv (u m : Nat) (acc : List UInt8) : Prop := (acc = [] ∧ m = u) ∨ (acc ≠ [] ∧ (if m = 0 then acc else Lib.decDigits m ++ acc) = Lib.decDigits u)

theorem digInv_step {u m : Nat} {acc : List UInt8} (h : digInv u m acc) (hp : acc = [] ∨ 0 < m) : digInv u (m / 10) ((48 + UInt8.ofNat (m % 10)) :: acc) := by
  have hd : (48 + UInt8.ofNat (m % 10) : UInt8) = UInt8.ofNat (48 + m % 10) := by simp
  rw [hd]
  refine .inr ⟨by simp, ?_⟩
  have key : ∀ l : List UInt8, (if m / 10 = 0 then UInt8.ofNat (48 + m % 10) :: l else Lib.decDigits (m / 10) ++ UInt8.ofNat (48 + m % 10) :: l) = Lib.decDigits m ++ l := by
    intro l
    by_cases h10 : m < 10
    · rw [if_pos (by omega), dec_one m h10, show m % 10 = m by omega]
      rfl
    · rw [if_neg (by omega), dec_more m h10]
      simp
  rw [key]
  rcases h with ⟨rfl, rfl⟩ | ⟨hne, h⟩
  · simp
  · rcases hp with h0 | h0
    · exact absurd h0 hne
    · rwa [if_neg (by omega)] at h
theorem digInv_len {u m : Nat} {acc : List UInt8} (hu : u ≤ 18446744073709551615) (h : digInv u m acc) : acc.length ≤ 1000 := by
  have h20 : (Lib.decDigits u).length ≤ 20 := by rw [Lib.decDigits_length]; exact Lib.nDigits_le20 u (by omega)
  rcases h with ⟨rfl, _⟩ | ⟨_, h⟩
  · simp
  · rw [← h] at h20
    split at h20
    · omega
    · rw [List.length_append] at h20
      omega
theorem digInv_end {u : Nat} {acc : List UInt8} (h : digInv u 0 acc) (hne : acc ≠ []) : acc = Lib.decDigits u := by
  rcases h with ⟨h, _⟩ | ⟨_, h⟩
  · exact absurd h hne
  · simpa using h

set_option maxRecDepth 100000 in
set_option maxHeartbeats 1000000 in
theorem digits_c (u : Nat) (hu : u ≤ 18446744073709551615) (z : Int) (hz : z = (u : Int)) (w : World) :
    Calls Tryz.prog 72 #[.int .u64 z] w fun e w' => e = .returned (.string ⟨(Lib.decDigits u).toArray⟩) ∧ Below w.heap.size w w' := by
  subst hz
  go_enter Tryz.func72, Tryz.ntmps72
  go_wp2
  go_loopw [0, 3] (fun n s wr => ∃ (m : Nat) (acc : List UInt8), n = .int .u64 (m : Int) ∧ s = .string ⟨acc.toArray⟩ ∧ m ≤ u ∧ acc.length ≤ 1000 ∧ digInv u m acc ∧ Below w.heap.size w wr) (fun n s _ => 2 * (intOf n).toNat + emptyOf s)
  case atStart => exact ⟨u, [], rfl, rfl, Nat.le_refl _, by simp, .inl ⟨rfl, rfl⟩, Below.refl _ _⟩
  case round =>
    obtain ⟨m, acc, rfl, rfl, hm, hal, hinv, hb⟩ := hrel
    have hmz : (m : Int) ≤ 18446744073709551615 := by omega
    have Hinv := Lib.hid hinv
    have Hu := Lib.hid hu
    have Hm := Lib.hid hm
    clear hinv hu
    by_cases ha : acc = []
    · subst ha
      have e0 : (⟨([] : List UInt8).toArray⟩ : ByteArray).toList.isEmpty = true := by rw [Lib.toList_data]; rfl
      have hcv := fun n => conv1 wr n
      go_wp2
      go_roundw
      case rel => exact ⟨m / 10, _ :: [], int_u64 (by omega), rfl, by omega, by simp, digInv_step Hinv.out (.inl rfl), hb.alloc hb.size _⟩
      case measure => simp [intOf, emptyOf, ByteArray.size_mk']; omega
    · have e0 : acc.isEmpty = false := by simp [ha]
      have hcv := fun n => conv1 wr n
      by_cases h0 : m = 0
      · subst h0
        have hE := Lib.hid (digInv_end Hinv.out ha)
        go_wp2
        go_ret
        rw [← hE.out]
        exact ⟨rfl, hb⟩
      · have h0' : 0 < m := by omega
        go_wp2
        go_roundw
        case rel =>
          have hst := digInv_step Hinv.out (.inr h0')
          exact ⟨m / 10, _ :: acc, int_u64 (by omega), str_cons _ _, by omega, digInv_len Hu.out hst, hst, hb.alloc hb.size _⟩
        case measure => simp [intOf, emptyOf]; omega
end Go.Proofs.YthhepmddcncjoaaGreatDoor
namespace Go.Proofs.YthhepmddcncjoaaGreatDoor
open Go.RowKit

theorem ofNat_back (c : UInt8) : UInt8.ofNat c.toNat = c := by simp
theorem str_two (c d : UInt8) : Value.string ((⟨#[c]⟩ : ByteArray) ++ ⟨#[d]⟩) = .string ⟨[c, d].toArray⟩ := str_cons c [d]

theorem conv2d (W : World) (n m : Int) : (convert 77 9 (.slice (some ⟨W.heap.size, 0, none⟩) 2 2)).run Tryz.prog (W.alloc (.cells #[.int .u8 n, .int .u8 m] 5)).drew = .ok (.string ⟨#[UInt8.ofNat n.toNat, UInt8.ofNat m.toNat]⟩) (W.alloc (.cells #[.int .u8 n, .int .u8 m] 5)).drew := by
  rw [run_convert_bytes_string _ 77 9 5 _ _ _ Tryz.underlying77 Tryz.underlying5 Tryz.underlying9]
  rw [run_bytesToString _ _ 2 2 [n, m] (by go_simp)]
  rfl
theorem conv2e (W : World) (n m : Int) (c d : UInt8) (hn : UInt8.ofNat n.toNat = c) (hm : UInt8.ofNat m.toNat = d) : (convert 77 9 (.slice (some ⟨W.heap.size, 0, none⟩) 2 2)).run Tryz.prog (W.alloc (.cells #[.int .u8 n, .int .u8 m] 5)).drew = .ok (.string ⟨#[c, d]⟩) (W.alloc (.cells #[.int .u8 n, .int .u8 m] 5)).drew := by
  subst hn hm
  exact conv2d W n m
theorem str_hex (c d : UInt8) : Value.string ((⟨#[92, 120]⟩ : ByteArray) ++ ⟨#[c, d]⟩) = .string ⟨[92, 120, c, d].toArray⟩ := by
  show Value.string (ByteArray.mk [92, 120].toArray ++ ByteArray.mk [c, d].toArray) = _
  rw [ByteArray.mk_append_mk]
  rfl
theorem hex_at1 (k : Nat) (hk : k < 16) : UInt8.ofNat (((hexS[k]'(show k < hexS.size from hk)).toNat : Int).toNat) = hexL.getD k 0 := by
  have := hex_fin ⟨k, hk⟩
  simp only [Int.toNat_natCast, ofNat_back]
  exact this

set_option maxRecDepth 100000 in
set_option maxHeartbeats 2000000 in
theorem one_c (c : UInt8) (z : Int) (hz : z = (c.toNat : Int)) (w : World) :
    Calls Tryz.prog 71 #[.int .u8 z] w fun e w' => e = .returned (.string ⟨(sign c).toArray⟩) ∧ Below w.heap.size w w' := by
  subst hz
  have ne : ∀ d : UInt8, c ≠ d → ((c.toNat : Int) == (d.toNat : Int)) = false := by
    intro d hd
    rw [beq_eq_false_iff_ne]
    intro e
    exact hd (UInt8.toNat_inj.1 (by omega))
  have hb : UInt8.ofNat ((c.toNat : Int).toNat) = c := by simp
  by_cases h10 : c = 10
  · subst h10
    go_enter Tryz.func71, Tryz.ntmps71
    go_wp2
    go_ret
    exact ⟨rfl, Below.refl _ _⟩
  by_cases h34 : c = 34
  · subst h34
    have hcv := fun W => conv1 W 34
    go_enter Tryz.func71, Tryz.ntmps71
    go_wp2
    go_ret
    exact ⟨rfl, (Below.refl _ _).alloc (Nat.le_refl _) _⟩
  by_cases h92 : c = 92
  · subst h92
    have hcv := fun W => conv1 W 92
    go_enter Tryz.func71, Tryz.ntmps71
    go_wp2
    go_ret
    exact ⟨rfl, (Below.refl _ _).alloc (Nat.le_refl _) _⟩
  have e10 : ((c.toNat : Int) == 10) = false := ne 10 h10
  have e34 : ((c.toNat : Int) == 34) = false := ne 34 h34
  have e92 : ((c.toNat : Int) == 92) = false := ne 92 h92
  have hcl := c.toNat_lt
  by_cases hp : 32 ≤ c.toNat ∧ c.toNat ≤ 126
  · have hs : Hid (sign c = [c]) := Lib.hid (by
      unfold sign
      rw [if_neg h10, if_neg (by rintro (h | h); exact h34 h; exact h92 h), if_pos (by unfold plainB; simp; omega)])
    have p1 : ¬ (c.toNat : Int) < 32 := by omega
    have p2 : ¬ 126 < (c.toNat : Int) := by omega
    have hcv := fun W => conv1 W (c.toNat : Int)
    rw [hb] at hcv
    clear h10 h34 h92 hp hb ne
    go_enter Tryz.func71, Tryz.ntmps71
    go_wp2
    go_ret
    rw [hs.out]
    exact ⟨rfl, (Below.refl _ _).alloc (Nat.le_refl _) _⟩
  have q0 : 0 ≤ (c.toNat : Int) / 16 := by omega
  have q1 : (c.toNat : Int) / 16 < 16 := by omega
  have r0 : 0 ≤ (c.toNat : Int) % 16 := by omega
  have r1 : (c.toNat : Int) % 16 < 16 := by omega
  have hs : Hid (sign c = [92, 120, hexL.getD (c.toNat / 16) 0, hexL.getD (c.toNat % 16) 0]) := Lib.hid (by
    unfold sign
    rw [if_neg h10, if_neg (by rintro (h | h); exact h34 h; exact h92 h), if_neg (by unfold plainB; simp; omega)])
  have hx1 := hex_at1 (c.toNat / 16) (by omega)
  have hx2 := hex_at1 (c.toNat % 16) (by omega)
  clear h10 h34 h92 hb ne
  have hcv := fun W => conv2e W ((hexS[c.toNat / 16]'(show c.toNat / 16 < 16 by omega)).toNat : Int) ((hexS[c.toNat % 16]'(show c.toNat % 16 < 16 by omega)).toNat : Int) _ _ hx1 hx2
  clear hx1 hx2
  simp only [hexS] at hcv
  by_cases hlow : c.toNat < 32
  · have p1 : (c.toNat : Int) < 32 := by omega
    clear hp
    go_enter Tryz.func71, Tryz.ntmps71
    go_wp2
    go_region
    all_goals (try go_wp2)
    all_goals go_ret
    all_goals rw [hs.out]
    all_goals exact ⟨congrArg Ending.returned (str_hex _ _), (Below.alloc (Below.refl _ _) (Nat.le_refl _) _).drew⟩
  · have p1 : ¬ (c.toNat : Int) < 32 := by omega
    have p2 : 126 < (c.toNat : Int) := by omega
    clear hp
    go_enter Tryz.func71, Tryz.ntmps71
    go_wp2
    go_region
    all_goals (try go_wp2)
    all_goals go_ret
    all_goals rw [hs.out]
    all_goals exact ⟨congrArg Ending.returned (str_hex _ _), (Below.alloc (Below.refl _ _) (Nat.le_refl _) _).drew⟩
end Go.Proofs.YthhepmddcncjoaaGreatDoor
namespace Go.Proofs.YthhepmddcncjoaaGreatDoor
open Go.RowKit

set_option maxRecDepth 100000 in
set_option maxHeartbeats 1000000 in
theorem refNum_c (n : Int) (h0 : -9223372036854775808 ≤ n) (h1 : n ≤ 9223372036854775807) (w : World) :
    Calls Tryz.prog 40 #[.int .i64 n] w fun e w' => e = .returned (.string ⟨(Lib.itoa n).toArray⟩) ∧ Below w.heap.size w w' := by
  by_cases hn : n < 0
  · have hd : (Lib.decDigits n.natAbs).length ≤ 20 := by rw [Lib.decDigits_length]; exact Lib.nDigits_le20 _ (by omega)
    have hi := Lib.hid (show Lib.itoa n = 45 :: Lib.decDigits n.natAbs by unfold Lib.itoa; rw [if_pos hn])
    go_enter Tryz.func40, Tryz.ntmps40
    go_wp2_with fail
    refine (digits_c n.natAbs (by omega) _ (by omega) _).mono ?_
    rintro e w1 ⟨rfl, b1⟩
    go_wp2
    go_ret
    rw [hi.out]
    exact ⟨congrArg Ending.returned (str_cons _ _), b1⟩
  · have hi := Lib.hid (show Lib.itoa n = Lib.decDigits n.toNat by unfold Lib.itoa; rw [if_neg hn])
    go_enter Tryz.func40, Tryz.ntmps40
    go_wp2_with fail
    refine (digits_c n.toNat (by omega) _ (by omega) _).mono ?_
    rintro e w1 ⟨rfl, b1⟩
    go_wp2
    go_ret
    rw [hi.out]
    exact ⟨rfl, b1⟩
end Go.Proofs.YthhepmddcncjoaaGreatDoor
namespace Go.Proofs.YthhepmddcncjoaaGreatDoor
open Go.RowKit

theorem str_app (l m : List UInt8) : Value.string ((⟨l.toArray⟩ : ByteArray) ++ ⟨m.toArray⟩) = .string ⟨(l ++ m).toArray⟩ := by
  show Value.string (ByteArray.mk l.toArray ++ ByteArray.mk m.toArray) = _
  rw [ByteArray.mk_append_mk]

set_option maxRecDepth 100000 in
set_option maxHeartbeats 1000000 in
theorem refQuote_c (s : ByteArray) (hs : s.size ≤ 5000) (w : World) :
    Calls Tryz.prog 39 #[.string s] w fun e w' => e = .returned (.string ⟨(quoteL s.data.toList).toArray⟩) ∧ Below w.heap.size w w' := by
  go_enter Tryz.func39, Tryz.ntmps39
  go_wp2
  go_loopw [3, 4] (fun o i wr => ∃ (pos : Nat) (acc : List UInt8), pos ≤ s.size ∧ i = .int .i64 pos ∧ o = .string ⟨acc.toArray⟩ ∧ acc.length ≤ 4 * pos + 1 ∧ acc = 34 :: (s.data.toList.take pos).flatMap sign ∧ Below w.heap.size w wr) (fun _ i _ => s.size - (intOf i).toNat)
  case atStart => exact ⟨0, [34], by omega, rfl, rfl, by simp, rfl, Below.refl _ _⟩
  case round =>
    obtain ⟨pos, acc, hp, rfl, rfl, hal, hacc, hb⟩ := hrel
    have Hacc := Lib.hid hacc
    clear hacc
    by_cases hlt : pos < s.size
    · have hsl := sign_len s[pos]
      have hst := Lib.hid (take_snocB s pos hlt)
      have e1 : ¬ 9223372036854775807 < acc.length + (sign s[pos]).length := by omega
      go_wp2_with fail
      refine (one_c s[pos] _ rfl _).mono ?_
      rintro e w1 ⟨rfl, b1⟩
      go_wp2
      go_roundw
      case rel =>
        refine ⟨pos + 1, acc ++ sign s[pos], hlt, by go_num, str_app _ _, by simp; omega, ?_, chain2 hb (by exact b1)⟩
        rw [Hacc.out, hst.out]
        simp
      case measure => simp [intOf]; omega
    · obtain rfl : pos = s.size := by omega
      have hf := Lib.hid (show s.data.toList.take s.size = s.data.toList from List.take_of_length_le (by simp))
      have e1 : ¬ 9223372036854775807 < acc.length + 1 := by omega
      go_wp2
      go_ret
      refine ⟨?_, hb⟩
      rw [show quoteL s.data.toList = acc ++ [34] by rw [Hacc.out, hf.out]; rfl]
      exact congrArg Ending.returned (str_app acc [34])
end Go.Proofs.YthhepmddcncjoaaGreatDoor
namespace Go.Proofs.YthhepmddcncjoaaGreatDoor
open Go.RowKit

inductive Tm where
  | mk (op : Int) (s : ByteArray) (n : Int) (l : List Tm)
def Tm.op : Tm → Int | .mk o _ _ _ => o
def Tm.s : Tm → ByteArray | .mk _ s _ _ => s
def Tm.n : Tm → Int | .mk _ _ n _ => n
def Tm.l : Tm → List Tm | .mk _ _ _ l => l
@[simp] theorem Tm.op_mk (o : Int) (s : ByteArray) (n : Int) (l : List Tm) : (Tm.mk o s n l).op = o := rfl
@[simp] theorem Tm.s_mk (o : Int) (s : ByteArray) (n : Int) (l : List Tm) : (Tm.mk o s n l).s = s := rfl
@[simp] theorem Tm.n_mk (o : Int) (s : ByteArray) (n : Int) (l : List Tm) : (Tm.mk o s n l).n = n := rfl
@[simp] theorem Tm.l_mk (o : Int) (s : ByteArray) (n : Int) (l : List Tm) : (Tm.mk o s n l).l = l := rfl

structure Am where
  rel : ByteArray
  l : List Tm
structure Lt where
  op : Int
  a : Am
  x : Tm
  y : Tm
structure Ru where
  head : Am
  body : List Lt
  line : Int
structure De where
  rel : ByteArray
  names : List ByteArray
  types : List Int
  inn : Bool
  out : Bool
  line : Int
structure Pg where
  decls : List De
  rules : List Ru

inductive TmC (w : World) (B : Nat) : Tm → List Value → Prop where
  | nil (op : Int) (s : ByteArray) (n : Int) : I64 op → s.size ≤ maxLen → I64 n → TmC w B (.mk op s n []) [.int .i64 op, .string s, .int .i64 n, .slice none 0 0]
  | row (op : Int) (s : ByteArray) (n : Int) (l : List Tm) (a : Addr) (cap : Nat) (cs : Nat → List Value) : I64 op → s.size ≤ maxLen → I64 n → l.length ≤ cap → cap ≤ maxLen → (l ≠ [] → a.block < B) →
      (∀ i x, l[i]? = some x → TmC w B x (cs i)) → (∀ i x, l[i]? = some x → (cs i).length = 4 ∧ CellsAt w a (i * 4) (cs i)) →
      TmC w B (.mk op s n l) [.int .i64 op, .string s, .int .i64 n, .slice (some a) l.length cap]
abbrev TmS (w : World) (B : Nat) (l : List Tm) (v : Value) : Prop := SlOf w B 4 (TmC w B) l v

/-- What a term's cells are. -/
theorem TmC.parts {w : World} {B : Nat} {t : Tm} {cs : List Value} (h : TmC w B t cs) : ∃ v, cs = [.int .i64 t.op, .string t.s, .int .i64 t.n, v] ∧ I64 t.op ∧ t.s.size ≤ maxLen ∧ I64 t.n ∧ TmS w B t.l v := by
  cases h with
  | nil op s n h1 h2 h3 => exact ⟨_, rfl, h1, h2, h3, .inl ⟨rfl, rfl⟩⟩
  | row op s n l a cap cs h1 h2 h3 h4 h5 h6 h7 h8 => exact ⟨_, rfl, h1, h2, h3, .inr ⟨a, cap, rfl, h4, h5, h6, fun i x hx => ⟨cs i, (h8 i x hx).1, h7 i x hx, (h8 i x hx).2⟩⟩⟩
theorem TmC.of {w : World} {B : Nat} {op : Int} {s : ByteArray} {n : Int} {l : List Tm} {v : Value} (h1 : I64 op) (h2 : s.size ≤ maxLen) (h3 : I64 n) (h : TmS w B l v) : TmC w B (.mk op s n l) [.int .i64 op, .string s, .int .i64 n, v] := by
  rcases h with ⟨rfl, rfl⟩ | ⟨a, cap, rfl, h4, h5, h6, h7⟩
  · exact .nil op s n h1 h2 h3
  · let cs : Nat → List Value := fun i => if h : i < l.length then (h7 i l[i] (List.getElem?_eq_getElem h)).choose else []
    have hcs : ∀ i x, l[i]? = some x → (cs i).length = 4 ∧ TmC w B x (cs i) ∧ CellsAt w a (i * 4) (cs i) := by
      intro i x hx
      obtain ⟨hi, e⟩ := List.getElem?_eq_some_iff.1 hx
      subst e
      simp only [cs, dif_pos hi]
      exact (h7 i l[i] (List.getElem?_eq_getElem hi)).choose_spec
    exact .row op s n l a cap cs h1 h2 h3 h4 h5 h6 (fun i x hx => (hcs i x hx).2.1) (fun i x hx => ⟨(hcs i x hx).1, (hcs i x hx).2.2⟩)

theorem TmC.under {w w' : World} {B : Nat} {t : Tm} {cs : List Value} (h : TmC w B t cs) (hb : Below B w w') : TmC w' B t cs := by
  induction h with
  | nil op s n h1 h2 h3 => exact .nil op s n h1 h2 h3
  | row op s n l a cap cs h1 h2 h3 h4 h5 h6 _ h8 ih => exact .row op s n l a cap cs h1 h2 h3 h4 h5 h6 ih fun i x hx => ⟨(h8 i x hx).1, (h8 i x hx).2.below (h6 (by rintro rfl; simp at hx)) hb⟩
theorem TmC.more {w : World} {B B' : Nat} {t : Tm} {cs : List Value} (h : TmC w B t cs) (hB : B ≤ B') : TmC w B' t cs := by
  induction h with
  | nil op s n h1 h2 h3 => exact .nil op s n h1 h2 h3
  | row op s n l a cap cs h1 h2 h3 h4 h5 h6 _ h8 ih => exact .row op s n l a cap cs h1 h2 h3 h4 h5 (fun h => Nat.lt_of_lt_of_le (h6 h) hB) ih h8
theorem TmS.below {w w' : World} {B : Nat} {l : List Tm} {v : Value} (h : TmS w B l v) (hb : Below B w w') : TmS w' B l v := SlOf.below h hb fun _ _ _ h => TmC.under h hb
theorem TmS.more {w : World} {B B' : Nat} {l : List Tm} {v : Value} (h : TmS w B l v) (hB : B ≤ B') : TmS w B' l v := SlOf.more h hB fun _ _ _ h => h.more hB

/-- An atom's cells, a part's, a rule's, a relation's, a program's. -/
def AmC (w : World) (B : Nat) (a : Am) (cs : List Value) : Prop := ∃ v, cs = [.string a.rel, v] ∧ a.rel.size ≤ maxLen ∧ TmS w B a.l v
def LtC (w : World) (B : Nat) (t : Lt) (cs : List Value) : Prop := ∃ ca cx cy, cs = .int .i64 t.op :: (ca ++ cx ++ cy) ∧ I64 t.op ∧ AmC w B t.a ca ∧ TmC w B t.x cx ∧ TmC w B t.y cy
def RuC (w : World) (B : Nat) (r : Ru) (cs : List Value) : Prop := ∃ ca v, cs = ca ++ [v, .int .i64 r.line] ∧ I64 r.line ∧ AmC w B r.head ca ∧ SlOf w B 11 (LtC w B) r.body v
def DeC (w : World) (B : Nat) (d : De) (cs : List Value) : Prop := ∃ v u, cs = [.string d.rel, v, u, .bool d.inn, .bool d.out, .int .i64 d.line] ∧ d.rel.size ≤ maxLen ∧ I64 d.line ∧ SlOf w B 1 StrC d.names v ∧ SlOf w B 1 IntC d.types u
def PgC (w : World) (B : Nat) (p : Pg) (cs : List Value) : Prop := ∃ v u, cs = [v, u] ∧ SlOf w B 6 (DeC w B) p.decls v ∧ SlOf w B 4 (RuC w B) p.rules u

theorem AmC.below {w w' : World} {B : Nat} {t : Am} {cs : List Value} (h : AmC w B t cs) (hb : Below B w w') : AmC w' B t cs := by
  obtain ⟨v, h1, h2, h3⟩ := h
  exact ⟨v, h1, h2, TmS.below h3 hb⟩
theorem AmC.more {w : World} {B B' : Nat} {t : Am} {cs : List Value} (h : AmC w B t cs) (hB : B ≤ B') : AmC w B' t cs := by
  obtain ⟨v, h1, h2, h3⟩ := h
  exact ⟨v, h1, h2, TmS.more h3 hB⟩
theorem LtC.below {w w' : World} {B : Nat} {t : Lt} {cs : List Value} (h : LtC w B t cs) (hb : Below B w w') : LtC w' B t cs := by
  obtain ⟨ca, cx, cy, h1, h2, h3, h4, h5⟩ := h
  exact ⟨ca, cx, cy, h1, h2, h3.below hb, h4.under hb, h5.under hb⟩
theorem LtC.more {w : World} {B B' : Nat} {t : Lt} {cs : List Value} (h : LtC w B t cs) (hB : B ≤ B') : LtC w B' t cs := by
  obtain ⟨ca, cx, cy, h1, h2, h3, h4, h5⟩ := h
  exact ⟨ca, cx, cy, h1, h2, h3.more hB, h4.more hB, h5.more hB⟩
theorem RuC.below {w w' : World} {B : Nat} {t : Ru} {cs : List Value} (h : RuC w B t cs) (hb : Below B w w') : RuC w' B t cs := by
  obtain ⟨ca, v, h1, h2, h3, h4⟩ := h
  exact ⟨ca, v, h1, h2, h3.below hb, SlOf.below h4 hb fun _ _ _ h => h.below hb⟩
theorem RuC.more {w : World} {B B' : Nat} {t : Ru} {cs : List Value} (h : RuC w B t cs) (hB : B ≤ B') : RuC w B' t cs := by
  obtain ⟨ca, v, h1, h2, h3, h4⟩ := h
  exact ⟨ca, v, h1, h2, h3.more hB, SlOf.more h4 hB fun _ _ _ h => h.more hB⟩
theorem DeC.below {w w' : World} {B : Nat} {t : De} {cs : List Value} (h : DeC w B t cs) (hb : Below B w w') : DeC w' B t cs := by
  obtain ⟨v, u, h1, h2, h3, h4, h5⟩ := h
  exact ⟨v, u, h1, h2, h3, SlOf.below h4 hb fun _ _ _ h => h, SlOf.below h5 hb fun _ _ _ h => h⟩
theorem DeC.more {w : World} {B B' : Nat} {t : De} {cs : List Value} (h : DeC w B t cs) (hB : B ≤ B') : DeC w B' t cs := by
  obtain ⟨v, u, h1, h2, h3, h4, h5⟩ := h
  exact ⟨v, u, h1, h2, h3, SlOf.more h4 hB fun _ _ _ h => h, SlOf.more h5 hB fun _ _ _ h => h⟩
theorem PgC.below {w w' : World} {B : Nat} {t : Pg} {cs : List Value} (h : PgC w B t cs) (hb : Below B w w') : PgC w' B t cs := by
  obtain ⟨v, u, h1, h2, h3⟩ := h
  exact ⟨v, u, h1, SlOf.below h2 hb fun _ _ _ h => h.below hb, SlOf.below h3 hb fun _ _ _ h => h.below hb⟩
theorem PgC.more {w : World} {B B' : Nat} {t : Pg} {cs : List Value} (h : PgC w B t cs) (hB : B ≤ B') : PgC w B' t cs := by
  obtain ⟨v, u, h1, h2, h3⟩ := h
  exact ⟨v, u, h1, SlOf.more h2 hB fun _ _ _ h => h.more hB, SlOf.more h3 hB fun _ _ _ h => h.more hB⟩
theorem TmC.len {w : World} {B : Nat} {t : Tm} {cs : List Value} (h : TmC w B t cs) : cs.length = 4 := by obtain ⟨v, rfl, _⟩ := h.parts; rfl
theorem AmC.len {w : World} {B : Nat} {t : Am} {cs : List Value} (h : AmC w B t cs) : cs.length = 2 := by obtain ⟨v, rfl, _⟩ := h; rfl
theorem LtC.len {w : World} {B : Nat} {t : Lt} {cs : List Value} (h : LtC w B t cs) : cs.length = 11 := by
  obtain ⟨ca, cx, cy, rfl, _, h1, h2, h3⟩ := h
  simp [h1.len, h2.len, h3.len]
theorem RuC.len {w : World} {B : Nat} {t : Ru} {cs : List Value} (h : RuC w B t cs) : cs.length = 4 := by
  obtain ⟨ca, v, rfl, _, h1, _⟩ := h
  simp [h1.len]
theorem DeC.len {w : World} {B : Nat} {t : De} {cs : List Value} (h : DeC w B t cs) : cs.length = 6 := by obtain ⟨v, u, rfl, _⟩ := h; rfl

theorem TmC.look {w : World} {B : Nat} {t : Tm} {cs : List Value} (h : TmC w B t cs) : ∃ o cap, cs = [.int .i64 t.op, .string t.s, .int .i64 t.n, .slice o t.l.length cap] ∧ I64 t.op ∧ t.s.size ≤ maxLen ∧ I64 t.n ∧ TmS w B t.l (.slice o t.l.length cap) := by
  obtain ⟨v, rfl, h1, h2, h3, h4⟩ := h.parts
  obtain ⟨o, cap, rfl, _⟩ := SlOf.uni h4
  exact ⟨o, cap, rfl, h1, h2, h3, h4⟩
/-- A term in a slice, as a round of a walk reads it. -/
theorem tm_at {w wr : World} {l : List Tm} {o : Option Addr} {k : Nat} {t : Tm} (S : Hid (SlIn w w.heap.size 4 (TmC w w.heap.size) l o)) (hB : Below w.heap.size w wr) (ht : l[k]? = some t) :
    ∃ a o' cap', o = some a ∧ a.block < w.heap.size ∧ Hid (TmC wr wr.heap.size t [.int .i64 t.op, .string t.s, .int .i64 t.n, .slice o' t.l.length cap']) ∧
      wr.cell? (a.add (k * 4)) = some (.int .i64 t.op) ∧ wr.cell? ⟨(a.add (k * 4)).block, (a.add (k * 4)).off + 1, none⟩ = some (.string t.s) ∧ wr.cell? ⟨(a.add (k * 4)).block, (a.add (k * 4)).off + 2, none⟩ = some (.int .i64 t.n) ∧ wr.cell? ⟨(a.add (k * 4)).block, (a.add (k * 4)).off + 3, none⟩ = some (.slice o' t.l.length cap') := by
  obtain ⟨a, cs, rfl, ha, _, h1, h2⟩ := S.out k t ht
  obtain ⟨o', cap', rfl, _⟩ := h1.look
  exact ⟨a, o', cap', rfl, ha, Lib.hid ((h1.under hB).more hB.size), (h2.below ha hB).four⟩
end Go.Proofs.YthhepmddcncjoaaGreatDoor
namespace Go.Proofs.YthhepmddcncjoaaGreatDoor
open Go.RowKit Go.ChangeShapes Go.WideShapes Go.Deep

theorem parts2 {H : Type} {enc : TypeId × Value → H} {P : Program} {w : World} {base : Nat} {spare : Nat → Bool} {held : Bool} {t : TypeId} {f0 f1 : Field} {fuel : Nat} {cs : List Value} {x : DataW H × List MemPlace} (ht : P.underlying t = some (.struct #[f0, f1])) (h : DataW.trod enc P w base spare held fuel t cs = some x) :
    ∃ (y0 y1 : DataW H × List MemPlace) (n : Nat), fuel = n + 1 ∧ cs.length = P.cellsOf t ∧ DataW.trod enc P w base spare held n f0.type ((cs.drop f0.offset).take (P.cellsOf f0.type)) = some y0 ∧ DataW.trod enc P w base spare held n f1.type ((cs.drop f1.offset).take (P.cellsOf f1.type)) = some y1 := by
  obtain ⟨xs, n, hn, rfl, hl, hlen, hf⟩ := DataW.trod_struct ht h
  match xs, hlen with
  | [y0, y1], _ => exact ⟨y0, y1, n, hn, hl, by simpa using hf 0 f0 rfl, by simpa using hf 1 f1 rfl⟩

theorem parts3 {H : Type} {enc : TypeId × Value → H} {P : Program} {w : World} {base : Nat} {spare : Nat → Bool} {held : Bool} {t : TypeId} {f0 f1 f2 : Field} {fuel : Nat} {cs : List Value} {x : DataW H × List MemPlace} (ht : P.underlying t = some (.struct #[f0, f1, f2])) (h : DataW.trod enc P w base spare held fuel t cs = some x) :
    ∃ (y0 y1 y2 : DataW H × List MemPlace) (n : Nat), fuel = n + 1 ∧ cs.length = P.cellsOf t ∧ DataW.trod enc P w base spare held n f0.type ((cs.drop f0.offset).take (P.cellsOf f0.type)) = some y0 ∧ DataW.trod enc P w base spare held n f1.type ((cs.drop f1.offset).take (P.cellsOf f1.type)) = some y1 ∧ DataW.trod enc P w base spare held n f2.type ((cs.drop f2.offset).take (P.cellsOf f2.type)) = some y2 := by
  obtain ⟨xs, n, hn, rfl, hl, hlen, hf⟩ := DataW.trod_struct ht h
  match xs, hlen with
  | [y0, y1, y2], _ => exact ⟨y0, y1, y2, n, hn, hl, by simpa using hf 0 f0 rfl, by simpa using hf 1 f1 rfl, by simpa using hf 2 f2 rfl⟩

theorem parts4 {H : Type} {enc : TypeId × Value → H} {P : Program} {w : World} {base : Nat} {spare : Nat → Bool} {held : Bool} {t : TypeId} {f0 f1 f2 f3 : Field} {fuel : Nat} {cs : List Value} {x : DataW H × List MemPlace} (ht : P.underlying t = some (.struct #[f0, f1, f2, f3])) (h : DataW.trod enc P w base spare held fuel t cs = some x) :
    ∃ (y0 y1 y2 y3 : DataW H × List MemPlace) (n : Nat), fuel = n + 1 ∧ cs.length = P.cellsOf t ∧ DataW.trod enc P w base spare held n f0.type ((cs.drop f0.offset).take (P.cellsOf f0.type)) = some y0 ∧ DataW.trod enc P w base spare held n f1.type ((cs.drop f1.offset).take (P.cellsOf f1.type)) = some y1 ∧ DataW.trod enc P w base spare held n f2.type ((cs.drop f2.offset).take (P.cellsOf f2.type)) = some y2 ∧ DataW.trod enc P w base spare held n f3.type ((cs.drop f3.offset).take (P.cellsOf f3.type)) = some y3 := by
  obtain ⟨xs, n, hn, rfl, hl, hlen, hf⟩ := DataW.trod_struct ht h
  match xs, hlen with
  | [y0, y1, y2, y3], _ => exact ⟨y0, y1, y2, y3, n, hn, hl, by simpa using hf 0 f0 rfl, by simpa using hf 1 f1 rfl, by simpa using hf 2 f2 rfl, by simpa using hf 3 f3 rfl⟩

theorem parts6 {H : Type} {enc : TypeId × Value → H} {P : Program} {w : World} {base : Nat} {spare : Nat → Bool} {held : Bool} {t : TypeId} {f0 f1 f2 f3 f4 f5 : Field} {fuel : Nat} {cs : List Value} {x : DataW H × List MemPlace} (ht : P.underlying t = some (.struct #[f0, f1, f2, f3, f4, f5])) (h : DataW.trod enc P w base spare held fuel t cs = some x) :
    ∃ (y0 y1 y2 y3 y4 y5 : DataW H × List MemPlace) (n : Nat), fuel = n + 1 ∧ cs.length = P.cellsOf t ∧ DataW.trod enc P w base spare held n f0.type ((cs.drop f0.offset).take (P.cellsOf f0.type)) = some y0 ∧ DataW.trod enc P w base spare held n f1.type ((cs.drop f1.offset).take (P.cellsOf f1.type)) = some y1 ∧ DataW.trod enc P w base spare held n f2.type ((cs.drop f2.offset).take (P.cellsOf f2.type)) = some y2 ∧ DataW.trod enc P w base spare held n f3.type ((cs.drop f3.offset).take (P.cellsOf f3.type)) = some y3 ∧ DataW.trod enc P w base spare held n f4.type ((cs.drop f4.offset).take (P.cellsOf f4.type)) = some y4 ∧ DataW.trod enc P w base spare held n f5.type ((cs.drop f5.offset).take (P.cellsOf f5.type)) = some y5 := by
  obtain ⟨xs, n, hn, rfl, hl, hlen, hf⟩ := DataW.trod_struct ht h
  match xs, hlen with
  | [y0, y1, y2, y3, y4, y5], _ => exact ⟨y0, y1, y2, y3, y4, y5, n, hn, hl, by simpa using hf 0 f0 rfl, by simpa using hf 1 f1 rfl, by simpa using hf 2 f2 rfl, by simpa using hf 3 f3 rfl, by simpa using hf 4 f4 rfl, by simpa using hf 5 f5 rfl⟩

section
variable {H : Type} {enc : TypeId × Value → H} {w : World}

theorem cell_block {a : Addr} {v : Value} (h : w.cell? a = some v) : a.block < w.heap.size := by
  unfold World.cell? at h
  rcases Nat.lt_or_ge a.block w.heap.size with h' | h'
  · exact h'
  · simp [Array.getElem?_eq_none h'] at h

theorem open_sl {α : Type} {R : α → List Value → Prop} {z fuel : Nat} {t e : TypeId} {v : Value} {x : DataW H × List MemPlace} (ht : Tryz.prog.underlying t = some (.slice e)) (hz : Tryz.prog.cellsOf e = z) (hp : 0 < z)
    (hE : ∀ n cs y, n < fuel → DataW.trod enc Tryz.prog w 0 (fun _ => true) true n e cs = some y → ∃ b, R b cs)
    (h : DataW.trod enc Tryz.prog w 0 (fun _ => true) true fuel t [v] = some x) : ∃ l : List α, SlOf w w.heap.size z R l v := by
  rcases DataW.trod_slice ht h with ⟨hcs, _⟩ | ⟨a, len, cap, elems, rest, n, rfl, hcs, _, _, hl, hm, hlen, hel, _, _⟩
  · exact ⟨[], .inl ⟨(List.cons.inj hcs).1, rfl⟩⟩
  · rw [hz] at hel
    have each : ∀ i, i < len → ∃ b cs, cs.length = z ∧ R b cs ∧ CellsAt w a (i * z) cs := by
      intro i hi
      have h1 := hel i hi
      rw [List.getElem?_eq_getElem (by omega), Option.bind_eq_some_iff] at h1
      obtain ⟨cs, hc, htr⟩ := h1
      obtain ⟨b, hb⟩ := hE n cs _ (by omega) htr
      obtain ⟨_, hcl, hat⟩ := World.cells?_some hc
      refine ⟨b, cs, hcl, hb, fun j c hj => ?_⟩
      have hjz : j < z := by rw [← hcl]; exact (List.getElem?_eq_some_iff.1 hj).1
      have := hat j hjz
      rw [add_add] at this
      exact this.trans hj
    by_cases h0 : len = 0
    · subst h0
      exact ⟨[], .inr ⟨a, cap, (List.cons.inj hcs).1, hl, hm, fun h => absurd rfl h, fun i x hx => by simp at hx⟩⟩
    let f : (i : Nat) → i < len → α := fun i h => (each i h).choose
    have hf : ∀ i (h : i < len), ∃ cs, cs.length = z ∧ R (f i h) cs ∧ CellsAt w a (i * z) cs := fun i h => (each i h).choose_spec
    have hblk : a.block < w.heap.size := by
      obtain ⟨cs, hcl, _, hc⟩ := hf 0 (by omega)
      have := cell_block (hc 0 cs[0] (List.getElem?_eq_getElem (by omega)))
      rwa [addBlock] at this
    refine ⟨(List.finRange len).map fun i => f i.1 i.2, .inr ⟨a, cap, by rw [(List.cons.inj hcs).1]; simp, by simpa using hl, hm, fun _ => hblk, fun i y hy => ?_⟩⟩
    rw [List.getElem?_map, Option.map_eq_some_iff] at hy
    obtain ⟨j, hj, rfl⟩ := hy
    obtain ⟨hi, e⟩ := List.getElem?_eq_some_iff.1 hj
    simp only [List.getElem_finRange] at e
    subst e
    exact hf i (by simpa using hi)

theorem cTerm : Tryz.prog.cellsOf 88 = 4 := by kernel_rfl
theorem cAtom : Tryz.prog.cellsOf 58 = 2 := by kernel_rfl
theorem cLit : Tryz.prog.cellsOf 90 = 11 := by kernel_rfl
theorem cRule : Tryz.prog.cellsOf 61 = 4 := by kernel_rfl
theorem cDecl : Tryz.prog.cellsOf 38 = 6 := by kernel_rfl
theorem cProg : Tryz.prog.cellsOf 25 = 2 := by kernel_rfl
theorem cInt : Tryz.prog.cellsOf 3 = 1 := by kernel_rfl
theorem cInt64 : Tryz.prog.cellsOf 2 = 1 := by kernel_rfl
theorem cStr : Tryz.prog.cellsOf 9 = 1 := by kernel_rfl
theorem cBool : Tryz.prog.cellsOf 4 = 1 := by kernel_rfl
theorem cTerms : Tryz.prog.cellsOf 56 = 1 := by kernel_rfl
theorem cLits : Tryz.prog.cellsOf 59 = 1 := by kernel_rfl
theorem cRules : Tryz.prog.cellsOf 23 = 1 := by kernel_rfl
theorem cDecls : Tryz.prog.cellsOf 22 = 1 := by kernel_rfl
theorem cStrs : Tryz.prog.cellsOf 35 = 1 := by kernel_rfl
theorem cInts : Tryz.prog.cellsOf 36 = 1 := by kernel_rfl

theorem wf_i64 {n : Int} (h : (Lit.int .i64 n).wf = true) : I64 n := by
  simp only [Lit.wf, Bool.and_eq_true, decide_eq_true_eq] at h
  exact h

set_option maxRecDepth 100000 in
theorem open_term : ∀ (fuel : Nat) (cs : List Value) (x : DataW H × List MemPlace), DataW.trod enc Tryz.prog w 0 (fun _ => true) true fuel 88 cs = some x → ∃ t, TmC w w.heap.size t cs := by
  intro fuel
  induction fuel using Nat.strongRecOn with
  | _ fuel ih =>
    intro cs x h
    obtain ⟨y0, y1, y2, y3, n, rfl, hcl, h0, h1, h2, h3⟩ := parts4 Tryz.underlying88 h
    rw [cTerm] at hcl
    match cs, hcl with
    | [c0, c1, c2, c3], _ =>
      simp only [cInt, cInt64, cStr, cTerms, List.drop_zero, List.drop_succ_cons, List.take_succ_cons, List.take_zero] at h0 h1 h2 h3
      obtain ⟨k0, e0, _, w0⟩ := DataW.trod_int Tryz.underlying3 h0
      obtain ⟨s1, e1, _, z1⟩ := DataW.trod_string Tryz.underlying9 h1
      obtain ⟨k2, e2, _, w2⟩ := DataW.trod_int Tryz.underlying2 h2
      simp only [List.cons.injEq, and_true] at e0 e1 e2
      subst e0 e1 e2
      obtain ⟨l, hl⟩ := open_sl Tryz.underlying56 cTerm (by omega) (fun m cs y hm hy => ih m (by omega) cs y hy) h3
      exact ⟨.mk k0 s1 k2 l, TmC.of (wf_i64 w0) z1 (wf_i64 w2) hl⟩

set_option maxRecDepth 100000 in
theorem open_atom (fuel : Nat) (cs : List Value) (x : DataW H × List MemPlace) (h : DataW.trod enc Tryz.prog w 0 (fun _ => true) true fuel 58 cs = some x) : ∃ t, AmC w w.heap.size t cs := by
  obtain ⟨y0, y1, n, rfl, hcl, h0, h1⟩ := parts2 Tryz.underlying58 h
  rw [cAtom] at hcl
  match cs, hcl with
  | [c0, c1], _ =>
    simp only [cStr, cTerms, List.drop_zero, List.drop_succ_cons, List.take_succ_cons, List.take_zero] at h0 h1
    obtain ⟨s0, e0, _, z0⟩ := DataW.trod_string Tryz.underlying9 h0
    simp only [List.cons.injEq, and_true] at e0
    subst e0
    obtain ⟨l, hl⟩ := open_sl Tryz.underlying56 cTerm (by omega) (fun m cs y hm hy => open_term m cs y hy) h1
    exact ⟨⟨s0, l⟩, _, rfl, z0, hl⟩

set_option maxRecDepth 100000 in
theorem open_lit (fuel : Nat) (cs : List Value) (x : DataW H × List MemPlace) (h : DataW.trod enc Tryz.prog w 0 (fun _ => true) true fuel 90 cs = some x) : ∃ t, LtC w w.heap.size t cs := by
  obtain ⟨y0, y1, y2, y3, n, rfl, hcl, h0, h1, h2, h3⟩ := parts4 Tryz.underlying90 h
  rw [cLit] at hcl
  match cs, hcl with
  | [c0, c1, c2, c3, c4, c5, c6, c7, c8, c9, c10], _ =>
    simp only [cInt, cAtom, cTerm, List.drop_zero, List.drop_succ_cons, List.take_succ_cons, List.take_zero] at h0 h1 h2 h3
    obtain ⟨k0, e0, _, w0⟩ := DataW.trod_int Tryz.underlying3 h0
    simp only [List.cons.injEq, and_true] at e0
    subst e0
    obtain ⟨a, ha⟩ := open_atom _ _ _ h1
    obtain ⟨x, hx⟩ := open_term _ _ _ h2
    obtain ⟨y, hy⟩ := open_term _ _ _ h3
    exact ⟨⟨k0, a, x, y⟩, _, _, _, rfl, wf_i64 w0, ha, hx, hy⟩

set_option maxRecDepth 100000 in
theorem open_rule (fuel : Nat) (cs : List Value) (x : DataW H × List MemPlace) (h : DataW.trod enc Tryz.prog w 0 (fun _ => true) true fuel 61 cs = some x) : ∃ t, RuC w w.heap.size t cs := by
  obtain ⟨y0, y1, y2, n, rfl, hcl, h0, h1, h2⟩ := parts3 Tryz.underlying61 h
  rw [cRule] at hcl
  match cs, hcl with
  | [c0, c1, c2, c3], _ =>
    simp only [cInt, cAtom, cLits, List.drop_zero, List.drop_succ_cons, List.take_succ_cons, List.take_zero] at h0 h1 h2
    obtain ⟨k2, e2, _, w2⟩ := DataW.trod_int Tryz.underlying3 h2
    simp only [List.cons.injEq, and_true] at e2
    subst e2
    obtain ⟨a, ha⟩ := open_atom _ _ _ h0
    obtain ⟨l, hl⟩ := open_sl Tryz.underlying59 cLit (by omega) (fun m cs y hm hy => open_lit m cs y hy) h1
    exact ⟨⟨a, l, k2⟩, _, _, rfl, wf_i64 w2, ha, hl⟩

set_option maxRecDepth 100000 in
theorem open_decl (fuel : Nat) (cs : List Value) (x : DataW H × List MemPlace) (h : DataW.trod enc Tryz.prog w 0 (fun _ => true) true fuel 38 cs = some x) : ∃ t, DeC w w.heap.size t cs := by
  obtain ⟨y0, y1, y2, y3, y4, y5, n, rfl, hcl, h0, h1, h2, h3, h4, h5⟩ := parts6 Tryz.underlying38 h
  rw [cDecl] at hcl
  match cs, hcl with
  | [c0, c1, c2, c3, c4, c5], _ =>
    simp only [cInt, cStr, cStrs, cInts, cBool, List.drop_zero, List.drop_succ_cons, List.take_succ_cons, List.take_zero] at h0 h1 h2 h3 h4 h5
    obtain ⟨s0, e0, _, z0⟩ := DataW.trod_string Tryz.underlying9 h0
    obtain ⟨b3, e3, _⟩ := DataW.trod_bool Tryz.underlying4 h3
    obtain ⟨b4, e4, _⟩ := DataW.trod_bool Tryz.underlying4 h4
    obtain ⟨k5, e5, _, w5⟩ := DataW.trod_int Tryz.underlying3 h5
    simp only [List.cons.injEq, and_true] at e0 e3 e4 e5
    subst e0 e3 e4 e5
    obtain ⟨l, hl⟩ := open_sl (R := StrC) Tryz.underlying35 cStr (by omega) (fun m cs y hm hy => by obtain ⟨s, e, _, z⟩ := DataW.trod_string Tryz.underlying9 hy; exact ⟨s, e, z⟩) h1
    obtain ⟨m, hm⟩ := open_sl (R := IntC) Tryz.underlying36 cInt (by omega) (fun m cs y hm hy => by obtain ⟨s, e, _, z⟩ := DataW.trod_int Tryz.underlying3 hy; exact ⟨s, e, wf_i64 z⟩) h2
    exact ⟨⟨s0, l, m, b3, b4, k5⟩, _, _, rfl, z0, wf_i64 w5, hl, hm⟩

set_option maxRecDepth 100000 in
theorem open_prog (fuel : Nat) (cs : List Value) (x : DataW H × List MemPlace) (h : DataW.trod enc Tryz.prog w 0 (fun _ => true) true fuel 25 cs = some x) : ∃ t, PgC w w.heap.size t cs := by
  obtain ⟨y0, y1, n, rfl, hcl, h0, h1⟩ := parts2 Tryz.underlying25 h
  rw [cProg] at hcl
  match cs, hcl with
  | [c0, c1], _ =>
    simp only [cDecls, cRules, List.drop_zero, List.drop_succ_cons, List.take_succ_cons, List.take_zero] at h0 h1
    obtain ⟨l, hl⟩ := open_sl Tryz.underlying22 cDecl (by omega) (fun m cs y hm hy => open_decl m cs y hy) h0
    obtain ⟨m, hm⟩ := open_sl Tryz.underlying23 cRule (by omega) (fun m cs y hm hy => open_rule m cs y hy) h1
    exact ⟨⟨l, m⟩, _, _, rfl, hl, hm⟩
end
end Go.Proofs.YthhepmddcncjoaaGreatDoor
namespace Go.Proofs.YthhepmddcncjoaaGreatDoor
open Go.RowKit

/-! ### Alike -/
mutual
def sameT : Tm → Tm → Bool
  | .mk o s n l, u => (o == u.op) && (s.toList == u.s.toList) && (n == u.n) && sameTs l u.l
def sameTs : List Tm → List Tm → Bool
  | [], [] => true
  | t :: ts, u :: us => sameT t u && sameTs ts us
  | _, _ => false
end
def sameA (a b : Am) : Bool := (a.rel.toList == b.rel.toList) && sameTs a.l b.l
def sameL (a b : Lt) : Bool := (a.op == b.op) && sameA a.a b.a && sameT a.x b.x && sameT a.y b.y
def sameR (a b : Ru) : Bool := sameA a.head b.head && allS sameL a.body b.body
def strE (s t : ByteArray) : Bool := s.toList == t.toList
def intE (s t : Int) : Bool := s == t
def sameD (a b : De) : Bool := strE a.rel b.rel && (a.inn == b.inn) && (a.out == b.out) && allS strE a.names b.names && allS intE a.types b.types
def sameP (a b : Pg) : Bool := allS sameD a.decls b.decls && allS sameR a.rules b.rules

theorem sameTs_all : ∀ l m : List Tm, sameTs l m = allS sameT l m
  | [], [] => by simp [sameTs, allS]
  | [], _ :: _ => by simp [sameTs, allS]
  | _ :: _, [] => by simp [sameTs, allS]
  | t :: l, u :: m => by simp [sameTs, allS, sameTs_all l m]
theorem sameT_eq (t u : Tm) : sameT t u = ((t.op == u.op) && (t.s.toList == u.s.toList) && (t.n == u.n) && allS sameT t.l u.l) := by
  cases t
  unfold sameT
  rw [sameTs_all]
  rfl
/-! ### Small -/
mutual
def sizeT : Tm → Int → Int
  | .mk _ s _ l, left => if 1000 < s.size then -1 else sizeTs l (left - 1)
def sizeTs : List Tm → Int → Int
  | [], left => left
  | t :: ts, left => if left < 0 then left else sizeTs ts (sizeT t left)
end
def sizeA (a : Am) (left : Int) : Int := if 1000 < a.rel.size then -1 else sizeTs a.l left
def sizeL1 (l : Lt) (left : Int) : Int := if sizeA l.a (left - 1) < 0 then sizeA l.a (left - 1) else if sizeT l.x (sizeA l.a (left - 1)) < 0 then sizeT l.x (sizeA l.a (left - 1)) else sizeT l.y (sizeT l.x (sizeA l.a (left - 1)))
def foldS {α : Type} (f : α → Int → Int) : List α → Int → Int
  | [], left => left
  | t :: ts, left => if left < 0 then left else foldS f ts (f t left)
def sizeR (r : Ru) (left : Int) : Int := foldS sizeL1 r.body (sizeA r.head (left - 1))
def longB' (l : List ByteArray) : Bool := l.any fun s => decide (1000 < s.size)
def bigD (d : De) : Bool := decide (1000 < d.rel.size) || longB' d.names
def smallP (p : Pg) : Bool := !(p.decls.any bigD) && decide (0 ≤ foldS sizeR p.rules 2000) && decide (p.decls.length ≤ 100) && decide (p.rules.length ≤ 300)
theorem sizeTs_fold : ∀ (l : List Tm) (left : Int), sizeTs l left = foldS sizeT l left
  | [], _ => by simp [sizeTs, foldS]
  | t :: ts, left => by unfold sizeTs foldS; rw [sizeTs_fold ts]
theorem sizeT_eq (t : Tm) (left : Int) : sizeT t left = if 1000 < t.s.size then -1 else foldS sizeT t.l (left - 1) := by
  cases t
  unfold sizeT
  rw [sizeTs_fold]
  rfl
theorem sizeT_mk (op : Int) (s : ByteArray) (n : Int) (l : List Tm) (left : Int) : sizeT (.mk op s n l) left = if 1000 < s.size then -1 else foldS sizeT l (left - 1) := by
  unfold sizeT
  rw [sizeTs_fold]
theorem retI {k : IntKind} {a b : Int} (h : a = b) : Ending.returned (.int k a) = .returned (.int k b) := by rw [h]
theorem foldS_neg {α : Type} (f : α → Int → Int) (l : List α) {left : Int} (h : left < 0) : foldS f l left = left := by
  cases l with
  | nil => rfl
  | cons t ts => unfold foldS; rw [if_pos h]
theorem foldS_drop {α : Type} {f : α → Int → Int} {l : List α} {k : Nat} {t : α} {left : Int} (ht : l[k]? = some t) (h : 0 ≤ left) : foldS f (l.drop k) left = foldS f (l.drop (k + 1)) (f t left) := by
  have h1 : l.drop k = t :: l.drop (k + 1) := by rw [List.drop_eq_getElem_cons (List.getElem?_eq_some_iff.1 ht).1, (List.getElem?_eq_some_iff.1 ht).2]
  rw [h1]
  show (if left < 0 then left else _) = _
  rw [if_neg (by omega)]
/-- Counting down goes no further than one below nothing. -/
theorem sizeT_lo (t : Tm) : ∀ left : Int, 0 ≤ left → -1 ≤ sizeT t left ∧ sizeT t left ≤ left := by
  induction t using Tm.rec (motive_2 := fun l => ∀ left : Int, -1 ≤ left → -1 ≤ foldS sizeT l left ∧ foldS sizeT l left ≤ left) with
  | mk op s n l ih =>
    intro left h
    rw [sizeT_eq]
    split
    · omega
    · have := ih (left - 1) (by omega)
      simp only [Tm.l_mk]
      omega
  | nil left h => exact ⟨h, Int.le_refl _⟩
  | cons t ts ih ihs left h =>
    unfold foldS
    split
    · exact ⟨h, Int.le_refl _⟩
    · have h1 := ih left (by omega)
      have h2 := ihs _ h1.1
      omega
theorem foldS_lo {α : Type} {f : α → Int → Int} (hf : ∀ x left, 0 ≤ left → -1 ≤ f x left ∧ f x left ≤ left) : ∀ (l : List α) (left : Int), -1 ≤ left → -1 ≤ foldS f l left ∧ foldS f l left ≤ left
  | [], left, h => ⟨h, Int.le_refl _⟩
  | t :: ts, left, h => by
    unfold foldS
    split
    · exact ⟨h, Int.le_refl _⟩
    · have h1 := hf t left (by omega)
      have h2 := foldS_lo hf ts _ h1.1
      omega
theorem sizeA_lo (a : Am) (left : Int) (h : -1 ≤ left) : -1 ≤ sizeA a left ∧ sizeA a left ≤ left := by
  unfold sizeA
  split
  · omega
  · rw [sizeTs_fold]; exact foldS_lo sizeT_lo _ _ h
theorem sizeL1_lo (l : Lt) (left : Int) (h : 0 ≤ left) : -1 ≤ sizeL1 l left ∧ sizeL1 l left ≤ left := by
  have h1 := sizeA_lo l.a (left - 1) (by omega)
  unfold sizeL1
  split
  · omega
  · have h2 := sizeT_lo l.x (sizeA l.a (left - 1)) (by omega)
    split
    · omega
    · have h3 := sizeT_lo l.y (sizeT l.x (sizeA l.a (left - 1))) (by omega)
      omega
theorem sizeR_lo (r : Ru) (left : Int) (h : 0 ≤ left) : -1 ≤ sizeR r left ∧ sizeR r left ≤ left := by
  have h1 := sizeA_lo r.head (left - 1) (by omega)
  have h2 := foldS_lo sizeL1_lo r.body _ h1.1
  unfold sizeR
  omega

/-! ### Right -/
def twoB (op : Int) : Bool := (op == 5) || (op == 6) || (op == 7)
def recB (t : Tm) : Bool := (t.op != 3) && (t.op != 4)
def leafB (t : Tm) : Bool :=
  if t.op = 1 then nameB t.s.data.toList && (t.n == 0) && t.l.isEmpty
  else if t.op = 2 then t.s.toList.isEmpty && t.l.isEmpty
  else if t.op = 3 then (t.n == 0) && t.l.isEmpty
  else if t.op = 4 then t.s.toList.isEmpty && (t.n == 0) && t.l.isEmpty
  else false
def rightT : Nat → Tm → Bool
  | 0, _ => false
  | h + 1, t => if twoB t.op = true then t.s.toList.isEmpty && (t.n == 0) && (match t.l with | [a, b] => recB a && rightT h a && (recB b && rightT h b) | _ => false) else leafB t
def rightA (a : Am) : Bool := nameB a.rel.data.toList && decide (1 ≤ a.l.length) && decide (a.l.length ≤ 8) && a.l.all (rightT 20)
def noT (t : Tm) : Bool := (t.op == 0) && t.s.toList.isEmpty && (t.n == 0) && t.l.isEmpty
def noA (a : Am) : Bool := a.rel.toList.isEmpty && a.l.isEmpty
def rightL (l : Lt) : Bool :=
  if l.op = 1 ∨ l.op = 2 then rightA l.a && noT l.x && noT l.y
  else if 3 ≤ l.op ∧ l.op ≤ 6 then noA l.a && rightT 20 l.x && rightT 20 l.y && (l.x.op != 4) && (l.y.op != 4)
  else if l.op = 7 then rightA l.a && rightT 20 l.x && ((l.x.op == 1) || (l.x.op == 2)) && noT l.y
  else if 8 ≤ l.op ∧ l.op ≤ 10 then rightA l.a && rightT 20 l.x && ((l.x.op == 1) || (l.x.op == 2)) && rightT 20 l.y && (l.y.op == 1)
  else false
def headT (fact : Bool) (t : Tm) : Bool := !((t.op == 4) || twoB t.op || ((t.op == 1) && fact))
def rightR (r : Ru) : Bool := rightA r.head && decide (r.body.length ≤ 20) && r.head.l.all (headT r.body.isEmpty) && r.body.all rightL
def rightTy (n : Int) : Bool := (n == 1) || (n == 2)
def rightD (d : De) : Bool := nameB d.rel.data.toList && decide (1 ≤ d.names.length) && decide (d.names.length ≤ 8) && decide (d.types.length = d.names.length) && d.names.all (fun s => nameB s.data.toList) && d.types.all rightTy
def rightP (p : Pg) : Bool := decide (p.decls.length ≤ 60) && decide (p.rules.length ≤ 200) && p.decls.all rightD && p.rules.all rightR

/-- As the program goes: every node, with its level. -/
def shapeB (t : Tm) : Bool := if twoB t.op = true then t.s.toList.isEmpty && (t.n == 0) && (match t.l with | [a, b] => recB a && recB b | _ => false) else leafB t
mutual
def okT : Nat → Tm → Bool
  | lv, .mk o s n l => decide (lv ≤ 20) && shapeB (.mk o s n l) && okTs (lv + 1) l
def okTs : Nat → List Tm → Bool
  | _, [] => true
  | lv, t :: ts => okT lv t && okTs lv ts
end
theorem okT_eq (lv : Nat) (t : Tm) : okT lv t = (decide (lv ≤ 20) && shapeB t && okTs (lv + 1) t.l) := by cases t; unfold okT; rfl
theorem okTs_all (lv : Nat) : ∀ l : List Tm, okTs lv l = l.all (okT lv)
  | [] => by simp [okTs]
  | t :: ts => by unfold okTs; rw [okTs_all lv ts, List.all_cons]
theorem leaf_nil {t : Tm} (h : leafB t = true) : t.l = [] := by
  unfold leafB at h
  split at h
  · simp at h; exact h.2
  · split at h
    · simp at h; exact h.2
    · split at h
      · simp at h; exact h.2
      · split at h
        · simp at h; exact h.2
        · cases h
theorem ok_right : ∀ (h : Nat) (t : Tm), h ≤ 20 → okT (21 - h) t = rightT h t
  | 0, t, _ => by rw [okT_eq]; unfold rightT; simp
  | h + 1, t, hh => by
    have ih : ∀ u, okT (21 - h) u = rightT h u := fun u => ok_right h u (by omega)
    rw [okT_eq, show 21 - (h + 1) + 1 = 21 - h by omega]
    have hd : decide (21 - (h + 1) ≤ 20) = true := by simp
    rw [hd, Bool.true_and]
    unfold rightT shapeB
    by_cases h2 : twoB t.op = true
    · rw [if_pos h2, if_pos h2]
      match hl : t.l with
      | [] => simp
      | [a] => simp
      | [a, b] =>
        simp only [okTs, ih, Bool.and_true]
        cases t.s.toList.isEmpty <;> cases (t.n == 0) <;> cases recB a <;> cases recB b <;> cases rightT h a <;> cases rightT h b <;> rfl
      | a :: b :: c :: r => simp
    · rw [if_neg h2, if_neg h2]
      cases hf : leafB t with
      | false => rfl
      | true => rw [leaf_nil hf]; rfl

end Go.Proofs.YthhepmddcncjoaaGreatDoor

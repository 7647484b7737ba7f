/- cover.columnsOf; slices.Contains at sets of columns. -/
import Derived.Test.YtiljpacmkmmlcaaWa
import Derived.Test.YtiljpacmkmmlcaaCv1
set_option linter.unusedSimpArgs false
set_option linter.unusedVariables false
namespace Go.Proofs.Ytiljpacmkmmlcaa
open Go.RowKit

/-- Sets as bits, in a slice. -/
def U64C (n : Nat) (cs : List Value) : Prop := cs = [.int .u64 (n : Int)] ∧ n < 256
abbrev MsS (w : World) (B : Nat) (ms : List Nat) (v : Value) : Prop := SlOf w B 1 U64C ms v
theorem MsS.past {w w' : World} {B B' : Nat} {ms : List Nat} {v : Value} (h : MsS w B ms v) (hb : Below B w w') (hB : B ≤ B') : MsS w' B' ms v := SlOf.more (SlOf.below h hb fun _ _ _ h => h) hB fun _ _ _ h => h
theorem u64_at {w wr : World} {B : Nat} {l : List Nat} {o : Option Addr} {k : Nat} {t : Nat} (S : Hid (SlIn w B 1 U64C l o)) (hB : Below B w wr) (ht : l[k]? = some t) :
    ∃ a, o = some a ∧ a.block < B ∧ t < 256 ∧ wr.cell? (a.add k) = some (.int .u64 (t : Int)) := by
  obtain ⟨a, cs, rfl, ha, _, ⟨rfl, hz⟩, h2⟩ := S.out k t ht
  have := (h2.below ha hB).n1
  rw [Nat.mul_one] at this
  exact ⟨a, rfl, ha, hz, this⟩
theorem colsTo_bad {c : Int} {s : List Int} {k : Nat} {nx x : Int} (h0 : k = 0 → nx = 0) (h1 : ∀ y, 0 < k → s[k - 1]? = some y → nx = y + 1) (hx : s[k]? = some x) (hb : x < nx ∨ c ≤ x) : setOk c s = false := by
  cases hs : setOk c s with
  | false => rfl
  | true =>
    exfalso
    obtain ⟨_, h2, h3⟩ := setOk_iff.1 hs
    have hk := (List.getElem?_eq_some_iff.1 hx).1
    have h4 := h2 k x hk hx
    rcases hb with hb | hb
    · by_cases e : k = 0
      · have := h0 e; omega
      · obtain ⟨y, hy⟩ : ∃ y, s[k - 1]? = some y := ⟨s[k - 1]'(by omega), List.getElem?_eq_getElem (by omega)⟩
        have := h1 y (by omega) hy
        have := h3 (k - 1) y x (by omega) hy (by rw [show k - 1 + 1 = k by omega]; exact hx)
        omega
    · omega
theorem colsTo_step {c : Int} {s : List Int} {k : Nat} {nx x : Int} (h : colsTo c s k) (h0 : k = 0 → nx = 0) (h1 : ∀ y, 0 < k → s[k - 1]? = some y → nx = y + 1) (hx : s[k]? = some x) (hb : ¬ x < nx) (hc : ¬ c ≤ x) : colsTo c s (k + 1) ∧ 0 ≤ x ∧ x < c := by
  by_cases e : k = 0
  · subst e
    have := h0 rfl
    exact ⟨colsTo_first hx (by omega) (by omega), by omega, by omega⟩
  · obtain ⟨y, hy⟩ : ∃ y, s[k - 1]? = some y := ⟨s[k - 1]'(by have := (List.getElem?_eq_some_iff.1 hx).1; omega), List.getElem?_eq_getElem (by have := (List.getElem?_eq_some_iff.1 hx).1; omega)⟩
    have h2 := h1 y (by omega) hy
    have h3 := h.1 (k - 1) y (by omega) hy
    obtain ⟨k', rfl⟩ : ∃ k', k = k' + 1 := ⟨k - 1, by omega⟩
    exact ⟨colsTo_next h hy hx (by omega) (by omega) (by omega), by omega, by omega⟩
/-- So far. -/
structure ColI (c : Int) (s : List Int) (k : Nat) (m : Nat) (nx : Int) : Prop where
  cols : colsTo c s k
  em : m = maskL (s.take k)
  lt : m < 256
  n0 : k = 0 → nx = 0
  n1 : ∀ y, 0 < k → s[k - 1]? = some y → nx = y + 1
def ColR (c : Int) (s : List Int) (e : Ending) : Prop := ∃ m : Nat, e = .returned (.tuple #[.int .u64 (m : Int), .bool (setOk c s)]) ∧ (setOk c s = true → m = maskL s)
theorem ColI.step {c : Int} {s : List Int} {k m n : Nat} {nx : Int} (h : ColI c s k m nx) (hx : s[k]? = some (n : Int)) (hb : ¬ (n : Int) < nx) (hc : ¬ c ≤ (n : Int)) (h8 : c ≤ 8) : ColI c s (k + 1) (m ||| 2 ^ n) (n + 1) := by
  obtain ⟨h1, h2, h3⟩ := colsTo_step h.cols h.n0 h.n1 hx hb hc
  refine ⟨h1, ?_, ?_, fun e => by omega, fun y _ hy => ?_⟩
  · have : s.take (k + 1) = s.take k ++ [(n : Int)] := by rw [List.take_add_one, hx]; rfl
    rw [this, mask_snoc, h.em]
    simp
  · exact Nat.or_lt_two_pow (n := 8) h.lt (Nat.pow_lt_pow_right (by decide) (by omega))
  · rw [Nat.add_sub_cancel, hx] at hy
    cases hy
    rfl
set_option maxRecDepth 100000 in
set_option maxHeartbeats 8000000 in
theorem columnsOf_c (c : Int) (s : List Int) (v : Value) (w : World) (h0 : 1 ≤ c) (h8 : c ≤ 8) (h : SlOf w w.heap.size 1 IntC s v) :
    Calls Try.prog 31 #[.int .i64 c, v] w fun e w' => ColR c s e ∧ w = w' := by
  obtain ⟨o1, cap1, rfl, hc1, hm1, S1⟩ := SlOf.open h
  clear h
  go_enter Try.func31, Try.ntmps31
  go_wp2
  go_loop [6, 7, 12] (fun mv nv i => ∃ (k m : Nat) (nx : Int), k ≤ s.length ∧ i = .int .i64 (k : Int) ∧ mv = .int .u64 (m : Int) ∧ nv = .int .i64 nx ∧ Hid (ColI c s k m nx)) (fun _ _ i => s.length - (intOf i).toNat)
  case atStart => exact ⟨0, 0, 0, Nat.zero_le _, rfl, rfl, rfl, Lib.hid ⟨colsTo_zero _ _, rfl, by decide, fun _ => rfl, fun _ h => by omega⟩⟩
  case round =>
    obtain ⟨k, m, nx, hk, rfl, rfl, rfl, hr⟩ := hrel
    by_cases hlt : k < s.length
    · have hlt' : (k : Int) < (s.length : Int) := by omega
      obtain ⟨x, hx⟩ : ∃ x, s[k]? = some x := ⟨s[k], List.getElem?_eq_getElem hlt⟩
      obtain ⟨a, rfl, ha, hI, c0⟩ := int_at S1 (Below.refl _ _) hx
      have hal : (a.add k).block < w.heap.size := by rw [addBlock]; exact ha
      by_cases h1 : x < nx
      · have Hz : Hid (setOk c s = false) := Lib.hid (colsTo_bad hr.out.n0 hr.out.n1 hx (.inl h1))
        clear hx hr
        go_wp2
        go_ret2
        exact ⟨⟨0, by rw [Hz.out]; rfl, fun h => by rw [Hz.out] at h; cases h⟩, rfl⟩
      · by_cases h2 : c ≤ x
        · have h2' : x ≥ c := h2
          have Hz : Hid (setOk c s = false) := Lib.hid (colsTo_bad hr.out.n0 hr.out.n1 hx (.inr h2))
          clear hx hr
          go_wp2
          go_ret2
          exact ⟨⟨0, by rw [Hz.out]; rfl, fun h => by rw [Hz.out] at h; cases h⟩, rfl⟩
        · have h2' : ¬ x ≥ c := h2
          obtain ⟨_, hx0, hx1⟩ := colsTo_step hr.out.cols hr.out.n0 hr.out.n1 hx h1 h2
          obtain ⟨n, rfl⟩ := Int.eq_ofNat_of_zero_le hx0
          have HN := Lib.hid (hr.out.step hx h1 h2 h8)
          obtain ⟨P, hP⟩ : ∃ P, 2 ^ n = P := ⟨_, rfl⟩
          have hP256 : P < 256 := by rw [← hP]; exact Nat.pow_lt_pow_right (n := 8) (by decide) (by omega)
          have hsh : IntKind.u64.wrap (2 ^ n) = (P : Int) := by
            have e : (2 : Int) ^ n = ((2 ^ n : Nat) : Int) := by simp
            rw [e, hP]
            exact u64_small (by omega)
          have hor := or_bits hr.out.lt hP256
          rw [hP] at HN
          obtain ⟨q, hq⟩ : ∃ q, m ||| P = q := ⟨_, rfl⟩
          rw [hq] at hor HN
          clear hx hr hP hq h2
          go_wp2
          go_round
          case rel => exact ⟨k + 1, q, (n : Int) + 1, hlt, by go_num, rfl, by go_num, HN⟩
          case measure => simp [intOf]; omega
    · have hlt' : ¬ (k : Int) < (s.length : Int) := by omega
      obtain rfl : k = s.length := by omega
      have Hm : Hid (m = maskL s) := Lib.hid (by rw [hr.out.em, List.take_length])
      by_cases hs : s = []
      · have Hz : Hid (setOk c s = false) := Lib.hid (by rw [hs]; rfl)
        have hm0 : m = 0 := by rw [Hm.out, hs]; rfl
        subst hm0
        clear hr hs
        go_wp2
        go_ret2
        exact ⟨⟨0, by rw [Hz.out]; rfl, fun h => by rw [Hz.out] at h; cases h⟩, rfl⟩
      · have hcl := hr.out.cols
        have Hz : Hid (setOk c s = true) := Lib.hid (setOk_iff.2 ⟨hs, hcl⟩)
        have hm0 : ¬ m = 0 := fun e => hs ((mask_zero (s := s) fun x hx => by
          obtain ⟨j, hj⟩ := List.mem_iff_getElem?.1 hx
          exact (hcl.1 j x (List.getElem?_eq_some_iff.1 hj).1 hj).1).1 (by rw [← Hm.out]; exact e))
        have hm1 : ¬ (m : Int) = 0 := by omega
        have hm2 : ((m : Int) != 0) = true := by rw [bne_iff_ne]; exact hm1
        clear hr hs hcl
        go_wp2
        go_ret2
        exact ⟨⟨m, by rw [Hz.out]; rfl, fun _ => Hm.out⟩, rfl⟩
end Go.Proofs.Ytiljpacmkmmlcaa

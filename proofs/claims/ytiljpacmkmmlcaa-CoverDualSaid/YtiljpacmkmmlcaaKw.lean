/- Columns as bits: which set is below which. -/
import Derived.Test.YtiljpacmkmmlcaaKu6
import Derived.Test.YtiljpacmkmmlcaaKv
set_option linter.unusedSimpArgs false
set_option linter.unusedVariables false
namespace Go.Proofs.Ytiljpacmkmmlcaa

def maskL (s : List Int) : Nat := s.foldl (fun m c => m ||| 2 ^ c.toNat) 0
theorem mask_fold : ∀ (s : List Int) (a j : Nat), (∀ x ∈ s, 0 ≤ x) → (s.foldl (fun m c => m ||| 2 ^ c.toNat) a).testBit j = (a.testBit j || decide ((j : Int) ∈ s))
  | [], a, j, _ => by simp
  | x :: s, a, j, h => by
    rw [List.foldl_cons, mask_fold s _ j fun y hy => h y (List.mem_cons_of_mem _ hy), Nat.testBit_or, Nat.testBit_two_pow, Bool.or_assoc]
    congr 1
    have hx := h x (List.mem_cons_self ..)
    have e : decide (x.toNat = j) = decide ((j : Int) = x) := by
      apply decide_eq_decide.2
      omega
    rw [e, ← Bool.decide_or]
    exact decide_eq_decide.2 List.mem_cons.symm
theorem mask_bit {s : List Int} (h : ∀ x ∈ s, 0 ≤ x) (j : Nat) : (maskL s).testBit j = decide ((j : Int) ∈ s) := by
  unfold maskL
  rw [mask_fold s 0 j h, Nat.zero_testBit, Bool.false_or]
theorem mask_snoc (s : List Int) (x : Int) : maskL (s ++ [x]) = maskL s ||| 2 ^ x.toNat := by
  unfold maskL
  rw [List.foldl_append]
  rfl
theorem mask_lt {s : List Int} {n : Nat} (h : ∀ x ∈ s, 0 ≤ x ∧ x < n) : maskL s < 2 ^ n := by
  refine Nat.lt_pow_two_of_testBit _ fun i hi => ?_
  rw [mask_bit fun x hx => (h x hx).1]
  refine decide_eq_false fun hm => ?_
  have := h _ hm
  omega
theorem mask_mem {s t : List Int} (hs : ∀ x ∈ s, 0 ≤ x) (ht : ∀ x ∈ t, 0 ≤ x) (h : ∀ j : Nat, (maskL s).testBit j = true → (maskL t).testBit j = true) : ∀ x ∈ s, x ∈ t := by
  intro x hx
  have h0 := hs x hx
  obtain ⟨n, rfl⟩ := Int.eq_ofNat_of_zero_le h0
  have := h n
  rw [mask_bit hs, mask_bit ht, decide_eq_true_eq, decide_eq_true_eq] at this
  exact this hx
theorem mask_inj {s t : List Int} (hs : ∀ x ∈ s, 0 ≤ x) (ht : ∀ x ∈ t, 0 ≤ x) (rs : riseI s = true) (rt : riseI t = true) (h : maskL s = maskL t) : s = t :=
  riseI_ext rs rt fun x => ⟨mask_mem hs ht (fun j hj => by rw [← h]; exact hj) x, mask_mem ht hs (fun j hj => by rw [h]; exact hj) x⟩
theorem mask_zero {s : List Int} (hs : ∀ x ∈ s, 0 ≤ x) : maskL s = 0 ↔ s = [] := by
  constructor
  · intro h
    cases s with
    | nil => rfl
    | cons x s =>
      have h0 := hs x (List.mem_cons_self ..)
      obtain ⟨n, rfl⟩ := Int.eq_ofNat_of_zero_le h0
      have := mask_bit hs n
      rw [h, Nat.zero_testBit] at this
      simp at this
  · rintro rfl; rfl
/-- All columns of a are b's, and b has more. -/
def belowN (a b : Nat) : Bool := a != b && a &&& b == a
theorem and_sub {a b : Nat} : a &&& b = a ↔ ∀ j, a.testBit j = true → b.testBit j = true := by
  constructor
  · intro h j hj
    rw [← h, Nat.testBit_and, Bool.and_eq_true] at hj
    exact hj.2
  · intro h
    apply Nat.eq_of_testBit_eq
    intro j
    rw [Nat.testBit_and]
    cases hj : a.testBit j with
    | false => rfl
    | true => rw [h j hj]; rfl
theorem below_inside {s t : List Int} (hs : ∀ x ∈ s, 0 ≤ x) (ht : ∀ x ∈ t, 0 ≤ x) (rs : riseI s = true) (rt : riseI t = true) : insideL s t = belowN (maskL s) (maskL t) := by
  rw [Bool.eq_iff_iff, inside_iff]
  unfold belowN
  rw [Bool.and_eq_true, bne_iff_ne, beq_iff_eq, and_sub]
  constructor
  · rintro ⟨h1, h2⟩
    refine ⟨fun e => ?_, fun j hj => ?_⟩
    · have := mask_inj hs ht rs rt e
      subst this
      omega
    · rw [mask_bit hs, decide_eq_true_eq] at hj
      rw [mask_bit ht, decide_eq_true_eq]
      exact h1 _ hj
  · rintro ⟨h1, h2⟩
    have h3 := mask_mem hs ht h2
    refine ⟨h3, ?_⟩
    have h4 := isub_len (riseI_nodup rs) h3
    rcases Nat.lt_or_ge s.length t.length with h5 | h5
    · exact h5
    · exfalso
      refine h1 (congrArg maskL (riseI_ext rs rt fun x => ⟨h3 x, fun hx => Classical.byContradiction fun hn => ?_⟩))
      have := isub_len (l := x :: s) (m := t) (List.nodup_cons.2 ⟨hn, riseI_nodup rs⟩) fun y hy => by
        rcases List.mem_cons.1 hy with rfl | hy
        · exact hx
        · exact h3 y hy
      simp only [List.length_cons] at this
      omega
/-- Set k is below set i, by their bits. -/
def RM (ms : List Nat) (i k : Nat) : Prop := belowN (ms.getD k 0) (ms.getD i 0) = true
theorem RM_RS {c : Int} {l : List (List Int)} (h : rightS c l = true) {i k : Nat} (hi : i < l.length) (hk : k < l.length) : RM (l.map maskL) i k ↔ RS l k i := by
  have gi : l[i]? = some (l.getD i []) := by rw [List.getD_eq_getElem?_getD, List.getElem?_eq_getElem hi]; rfl
  have gk : l[k]? = some (l.getD k []) := by rw [List.getD_eq_getElem?_getD, List.getElem?_eq_getElem hk]; rfl
  obtain ⟨_, ri, bi⟩ := rightS_at h gi
  obtain ⟨_, rk, bk⟩ := rightS_at h gk
  have ei : (l.map maskL).getD i 0 = maskL (l.getD i []) := by rw [List.getD_eq_getElem?_getD, List.getElem?_map, gi]; rfl
  have ek : (l.map maskL).getD k 0 = maskL (l.getD k []) := by rw [List.getD_eq_getElem?_getD, List.getElem?_map, gk]; rfl
  unfold RM RS
  rw [ei, ek, below_inside (fun x hx => (bk x hx).1) (fun x hx => (bi x hx).1) rk ri]
theorem masks_nodup {c : Int} {l : List (List Int)} (h : rightS c l = true) : (l.map maskL).Nodup := by
  rw [List.nodup_iff_pairwise_ne, List.pairwise_iff_getElem]
  intro i j hi hj hij e
  rw [List.length_map] at hi hj
  rw [List.getElem_map, List.getElem_map] at e
  have gi : l[i]? = some l[i] := List.getElem?_eq_getElem hi
  have gj : l[j]? = some l[j] := List.getElem?_eq_getElem hj
  obtain ⟨_, ri, bi⟩ := rightS_at h gi
  obtain ⟨_, rj, bj⟩ := rightS_at h gj
  have e2 := mask_inj (fun x hx => (bi x hx).1) (fun x hx => (bj x hx).1) ri rj e
  rw [← e2] at gj
  have hd : distinctL l = true := by
    unfold rightS at h
    simp only [Bool.and_eq_true] at h
    exact h.2.2
  have := distinct_at hd gi gj
  omega
end Go.Proofs.Ytiljpacmkmmlcaa

/- The least number of chains: what comes of a search that is at its end. -/
import Derived.Test.YtiljpacmkmmlcaaKu
set_option linter.unusedSimpArgs false
set_option linter.unusedVariables false
namespace Go.Proofs.Ytiljpacmkmmlcaa

theorem nsub_len : ∀ {l m : List Nat}, l.Nodup → (∀ x ∈ l, x ∈ m) → l.length ≤ m.length
  | [], _, _, _ => Nat.zero_le _
  | x :: l, m, hn, hs => by
    have hx := hs x (List.mem_cons_self ..)
    have hn' := List.nodup_cons.1 hn
    have := nsub_len (m := m.erase x) hn'.2 (fun y hy => (List.mem_erase_of_ne (by rintro rfl; exact hn'.1 hy)).2 (hs y (List.mem_cons_of_mem _ hy)))
    rw [List.length_erase_of_mem hx] at this
    have := List.length_pos_of_mem hx
    simp only [List.length_cons]
    omega
theorem nfilt_len {p : Nat → Bool} : ∀ (l : List Nat), (l.filter p).length + (l.filter fun x => !p x).length = l.length
  | [] => rfl
  | x :: l => by
    have := nfilt_len (p := p) l
    cases h : p x <;> simp [h] <;> omega
theorem nfilt_nodup {p : Nat → Bool} {l : List Nat} (h : l.Nodup) : (l.filter p).Nodup := List.Nodup.sublist List.filter_sublist h
theorem nmap_nodup {f : Nat → Nat} : ∀ {l : List Nat}, l.Nodup → (∀ x ∈ l, ∀ y ∈ l, f x = f y → x = y) → (l.map f).Nodup
  | [], _, _ => List.nodup_nil
  | x :: l, hn, hf => by
    have hn' := List.nodup_cons.1 hn
    rw [List.map_cons]
    refine List.nodup_cons.2 ⟨fun h => ?_, nmap_nodup hn'.2 fun a ha b hb => hf a (List.mem_cons_of_mem _ ha) b (List.mem_cons_of_mem _ hb)⟩
    obtain ⟨y, hy, e⟩ := List.mem_map.1 h
    have := hf y (List.mem_cons_of_mem _ hy) x (List.mem_cons_self ..) e
    subst this
    exact hn'.1 hy
/-- So many chains at least, and no fewer: a of them are apart from each other. -/
structure LeastN (n : Nat) (R : Nat → Nat → Prop) (a : Nat) : Prop where
  anti : ∃ A : List Nat, A.Nodup ∧ (∀ x ∈ A, x < n) ∧ (∀ x ∈ A, ∀ y ∈ A, ¬ R x y) ∧ A.length = a
  chain : ∃ f : Nat → Nat, (∀ i, i < n → f i < a) ∧ ∀ i j, i < n → j < n → i ≠ j → f i = f j → R i j ∨ R j i
section
variable {n : Nat} {R : Nat → Nat → Prop}
/-- Things apart from each other are no more than chains. -/
theorem anti_le {A : List Nat} {b : Nat} {f : Nat → Nat} (hn : A.Nodup) (hA : ∀ x ∈ A, x < n) (hR : ∀ x ∈ A, ∀ y ∈ A, ¬ R x y) (h1 : ∀ i, i < n → f i < b) (h2 : ∀ i j, i < n → j < n → i ≠ j → f i = f j → R i j ∨ R j i) : A.length ≤ b := by
  have hm : (A.map f).Nodup := nmap_nodup hn fun x hx y hy e => Classical.byContradiction fun hne => by
    rcases h2 x y (hA x hx) (hA y hy) hne e with h | h
    · exact hR x hx y hy h
    · exact hR y hy x hx h
  have := nsub_len (m := List.range b) hm fun z hz => by
    obtain ⟨x, hx, rfl⟩ := List.mem_map.1 hz
    exact List.mem_range.2 (h1 x (hA x hx))
  rwa [List.length_map, List.length_range] at this
theorem least_one {a b : Nat} (ha : LeastN n R a) (hb : LeastN n R b) : a = b := by
  obtain ⟨⟨A, a1, a2, a3, a4⟩, f, f1, f2⟩ := ha
  obtain ⟨⟨B, b1, b2, b3, b4⟩, g, g1, g2⟩ := hb
  have := anti_le a1 a2 a3 g1 g2
  have := anti_le b1 b2 b3 f1 f2
  omega
/-- Behind each other, over others. -/
inductive Up (B : Bh) : Nat → Nat → Prop
  | refl (i) : Up B i i
  | step {r j i} : B i = some j → Up B r j → Up B r i
theorem Up.first {B : Bh} {a b : Nat} (h : Up B a b) : a = b ∨ ∃ c, B c = some a ∧ Up B c b := by
  induction h with
  | refl => exact .inl rfl
  | @step j i hi h ih =>
    rcases ih with rfl | ⟨c, hc, h2⟩
    · exact .inr ⟨i, hi, .refl i⟩
    · exact .inr ⟨c, hc, .step hi h2⟩
theorem Up.both {B : Bh} (inj : ∀ k l i, B k = some i → B l = some i → k = l) {r i j : Nat} (h : Up B r i) : Up B r j → Up B i j ∨ Up B j i := by
  induction h with
  | refl => exact .inl
  | @step j' i hi h ih =>
    intro hj
    rcases ih hj with h1 | h1
    · rcases h1.first with rfl | ⟨c, hc, h2⟩
      · exact .inr (.step hi (.refl _))
      · obtain rfl := inj c i _ hc hi
        exact .inl h2
    · exact .inr (.step hi h1)
theorem Up.rel {B : Bh} (hR : ∀ k i, B k = some i → R i k) (tr : ∀ x y z, R x y → R y z → R x z) {a b : Nat} (h : Up B a b) : a = b ∨ R a b := by
  induction h with
  | refl => exact .inl rfl
  | @step j i hi h ih =>
    rcases ih with rfl | h2
    · exact .inr (hR _ _ hi)
    · exact .inr (tr _ _ _ h2 (hR _ _ hi))
theorem Up.root {B : Bh} {rank : Nat → Nat} (hk : ∀ k i, B k = some i → rank i < rank k) : ∀ (m i : Nat), rank i < m → ∃ r, B r = none ∧ Up B r i
  | 0, _, h => by omega
  | m + 1, i, h => by
    cases hb : B i with
    | none => exact ⟨i, hb, .refl i⟩
    | some j =>
      have := hk i j hb
      obtain ⟨r, h1, h2⟩ := Up.root hk m j (by omega)
      exact ⟨r, h1, .step hb h2⟩
theorem Up.lt {B : Bh} (hn : ∀ k i, B k = some i → i < n) {r i : Nat} (h : Up B r i) (hi : i < n) : r < n := by
  induction h with
  | refl => exact hi
  | step hb _ ih => exact ih (hn _ _ hb)
theorem nidx_inj {l : List Nat} {x y : Nat} (hx : x ∈ l) (hy : y ∈ l) (h : l.idxOf x = l.idxOf y) : x = y := by
  have h1 := List.getElem_idxOf (List.idxOf_lt_length_of_mem hx)
  have h2 := List.getElem_idxOf (List.idxOf_lt_length_of_mem hy)
  have h3 : l[l.idxOf x]? = some x := by rw [List.getElem?_eq_getElem (List.idxOf_lt_length_of_mem hx), h1]
  have h4 : l[l.idxOf y]? = some y := by rw [List.getElem?_eq_getElem (List.idxOf_lt_length_of_mem hy), h2]
  rw [h, h4] at h3
  exact (Option.some.inj h3).symm
/-- What an end of the search gives: those that come behind none are as many as there are apart from each other, and as many as chains. -/
theorem least_end {B : Bh} {K : Nat → Prop} {U : List Nat} {rank : Nat → Nat} (hM : MatchB n R B fun _ => False) (hW : Wall n R B K) (hU : U.Nodup) (hUn : ∀ u ∈ U, u < n ∧ Shut n R K u ∧ ¬ Has B (fun _ => False) u) (hall : ∀ i, i < n → i ∈ U ∨ Has B (fun _ => False) i)
    (hR : ∀ x y, R x y → rank x < rank y) (tr : ∀ x y z, R x y → R y z → R x z) : LeastN n R U.length := by
  classical
  have hok : ∀ k i, B k = some i → i < n ∧ k < n ∧ R i k := fun k i h => hM.ok k i (fun h => h) h
  have hin : ∀ k l i, B k = some i → B l = some i → k = l := fun k l i h1 h2 => hM.inj k l i (fun h => h) (fun h => h) h1 h2
  let get : Nat → Nat := fun k => (B k).getD 0
  have hget : ∀ {k i : Nat}, B k = some i → get k = i := fun h => by show (B _).getD 0 = _; rw [h]; rfl
  -- those of the wall
  let Kl := (List.range n).filter fun k => decide (K k)
  have hKl : ∀ k, k ∈ Kl ↔ K k := fun k => by
    show k ∈ (List.range n).filter _ ↔ _
    rw [List.mem_filter, List.mem_range, decide_eq_true_eq]
    exact ⟨fun h => h.2, fun h => ⟨by obtain ⟨i, hi, _⟩ := hW k h; exact (hok k i hi).2.1, h⟩⟩
  have hKn : Kl.Nodup := nfilt_nodup List.nodup_range
  -- all that matched places hold
  let Mr := (List.range n).filter fun k => (B k).isSome
  have hMr : ∀ k, k ∈ Mr ↔ ∃ i, B k = some i := fun k => by
    show k ∈ (List.range n).filter _ ↔ _
    rw [List.mem_filter, List.mem_range, Option.isSome_iff_exists]
    exact ⟨fun h => h.2, fun ⟨i, hi⟩ => ⟨(hok k i hi).2.1, i, hi⟩⟩
  have hinj : ∀ x ∈ Mr, ∀ y ∈ Mr, get x = get y → x = y := fun x hx y hy e => by
    obtain ⟨i, hi⟩ := (hMr x).1 hx
    obtain ⟨j, hj⟩ := (hMr y).1 hy
    rw [hget hi, hget hj] at e
    subst e
    exact hin x y i hi hj
  have hKM : ∀ k ∈ Kl, k ∈ Mr := fun k hk => by
    obtain ⟨i, hi, _⟩ := hW k ((hKl k).1 hk)
    exact (hMr k).2 ⟨i, hi⟩
  have hUG : ∀ (S : List Nat), S.Nodup → (∀ k ∈ S, k ∈ Mr) → (U ++ S.map get).Nodup := fun S hS hSM => by
    refine List.nodup_append.2 ⟨hU, nmap_nodup hS fun x hx y hy => hinj x (hSM x hx) y (hSM y hy), fun a ha b hb e => ?_⟩
    obtain ⟨k, hk, rfl⟩ := List.mem_map.1 hb
    obtain ⟨i, hi⟩ := (hMr k).1 (hSM k hk)
    rw [hget hi] at e
    subst e
    exact (hUn a ha).2.2 ⟨k, (fun h => h), hi⟩
  constructor
  · -- apart
    let L := U ++ Kl.map get
    have hLn : L.Nodup := hUG Kl hKn hKM
    have hLs : ∀ x ∈ L, x < n ∧ Shut n R K x := fun x hx => by
      rcases List.mem_append.1 hx with h | h
      · exact ⟨(hUn x h).1, (hUn x h).2.1⟩
      · obtain ⟨k, hk, rfl⟩ := List.mem_map.1 h
        obtain ⟨i, hi, hs⟩ := hW k ((hKl k).1 hk)
        rw [hget hi]
        exact ⟨(hok k i hi).1, hs⟩
    have hlen : L.length = U.length + Kl.length := by
      show (U ++ Kl.map get).length = _
      rw [List.length_append, List.length_map]
    have h1 := nfilt_len (p := fun x => decide (K x)) L
    have h2 := nsub_len (l := L.filter fun x => decide (K x)) (m := Kl) (nfilt_nodup hLn) fun x hx => by
      rw [List.mem_filter, decide_eq_true_eq] at hx
      exact (hKl x).2 hx.2
    refine ⟨(L.filter fun x => !decide (K x)).take U.length, List.Nodup.sublist (List.take_sublist _ _) (nfilt_nodup hLn), fun x hx => ?_, fun x hx y hy hr => ?_, by rw [List.length_take]; omega⟩
    · have := List.mem_filter.1 (List.mem_of_mem_take hx)
      exact (hLs x this.1).1
    · have h3 := List.mem_filter.1 (List.mem_of_mem_take hx)
      have h4 := List.mem_filter.1 (List.mem_of_mem_take hy)
      have h5 := (hLs x h3.1).2 y (hLs y h4.1).1 hr
      simp [h5] at h4
  · -- chains
    let Rt := (List.range n).filter fun k => !(B k).isSome
    have hRt : ∀ k, k ∈ Rt ↔ k < n ∧ B k = none := fun k => by
      show k ∈ (List.range n).filter _ ↔ _
      rw [List.mem_filter, List.mem_range]
      cases B k <;> simp
    have hlen : Rt.length = U.length := by
      have h1 := nfilt_len (p := fun k => (B k).isSome) (List.range n)
      have h2 := hUG Mr (nfilt_nodup List.nodup_range) fun _ h => h
      have h3 := nsub_len (m := List.range n) h2 fun x hx => by
        rcases List.mem_append.1 hx with h | h
        · exact List.mem_range.2 (hUn x h).1
        · obtain ⟨k, hk, rfl⟩ := List.mem_map.1 h
          obtain ⟨i, hi⟩ := (hMr k).1 hk
          rw [hget hi]
          exact List.mem_range.2 (hok k i hi).1
      have h4 := nsub_len (l := List.range n) (m := U ++ Mr.map get) List.nodup_range fun x hx => by
        rcases hall x (List.mem_range.1 hx) with h | ⟨k, _, hk⟩
        · exact List.mem_append_left _ h
        · exact List.mem_append_right _ (List.mem_map.2 ⟨k, (hMr k).2 ⟨x, hk⟩, hget hk⟩)
      rw [List.length_append, List.length_map, List.length_range] at h3 h4
      rw [List.length_range] at h1
      have h5 : ((List.range n).filter fun k => (B k).isSome).length = Mr.length := rfl
      have h6 : ((List.range n).filter fun k => !(B k).isSome).length = Rt.length := rfl
      omega
    have hroot : ∀ i, ∃ r, B r = none ∧ Up B r i := fun i => Up.root (rank := rank) (fun k i h => hR _ _ (hok k i h).2.2) (rank i + 1) i (Nat.lt_succ_self _)
    let root : Nat → Nat := fun i => (hroot i).choose
    have hr : ∀ i, B (root i) = none ∧ Up B (root i) i := fun i => (hroot i).choose_spec
    have hrm : ∀ i, i < n → root i ∈ Rt := fun i hi => (hRt _).2 ⟨(hr i).2.lt (fun k i h => (hok k i h).1) hi, (hr i).1⟩
    refine ⟨fun i => Rt.idxOf (root i), fun i hi => by rw [← hlen]; exact List.idxOf_lt_length_of_mem (hrm i hi), fun i j hi hj hne e => ?_⟩
    have e2 : root i = root j := nidx_inj (hrm i hi) (hrm j hj) e
    have h1 := (hr i).2
    have h2 := (hr j).2
    rw [← e2] at h2
    rcases Up.both (hin) h1 h2 with h | h
    · rcases h.rel (fun k i h => (hok k i h).2.2) tr with h | h
      · exact absurd h hne
      · exact .inl h
    · rcases h.rel (fun k i h => (hok k i h).2.2) tr with h | h
      · exact absurd h.symm hne
      · exact .inr h
end
end Go.Proofs.Ytiljpacmkmmlcaa

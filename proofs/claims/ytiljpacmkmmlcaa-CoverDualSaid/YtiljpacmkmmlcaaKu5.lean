/- Sets of columns, in plain: within each other, right ones, served by an order. -/
import Derived.Test.YtiljpacmkmmlcaaKu4
set_option linter.unusedSimpArgs false
set_option linter.unusedVariables false
namespace Go.Proofs.Ytiljpacmkmmlcaa

def withinL (a b : List Int) : Bool := a.all fun x => b.contains x
def insideL (a b : List Int) : Bool := withinL a b && decide (a.length < b.length)
def servesL (o s : List Int) : Bool := decide (s.length ≤ o.length) && (withinL (o.take s.length) s && withinL s (o.take s.length))
theorem within_iff {a b : List Int} : withinL a b = true ↔ ∀ x ∈ a, x ∈ b := by
  unfold withinL
  rw [List.all_eq_true]
  exact ⟨fun h x hx => by simpa using h x hx, fun h x hx => by simpa using h x hx⟩
theorem inside_iff {a b : List Int} : insideL a b = true ↔ (∀ x ∈ a, x ∈ b) ∧ a.length < b.length := by
  unfold insideL
  rw [Bool.and_eq_true, within_iff, decide_eq_true_eq]
/-- Set i comes ahead of set k. -/
def RS (l : List (List Int)) (i k : Nat) : Prop := insideL (l.getD i []) (l.getD k []) = true
theorem RS.rank {l : List (List Int)} {i k : Nat} (h : RS l i k) : (l.getD i []).length < (l.getD k []).length := (inside_iff.1 h).2
theorem RS.trans {l : List (List Int)} {i j k : Nat} (h : RS l i j) (h2 : RS l j k) : RS l i k := by
  obtain ⟨a, b⟩ := inside_iff.1 h
  obtain ⟨c, d⟩ := inside_iff.1 h2
  exact inside_iff.2 ⟨fun x hx => c x (a x hx), by omega⟩
theorem RS.irr {l : List (List Int)} (i : Nat) : ¬ RS l i i := fun h => Nat.lt_irrefl _ h.rank
/-- Do its columns rise, from 0 on, below c? -/
def riseI : List Int → Bool
  | [] => true
  | [_] => true
  | a :: b :: r => decide (a < b) && riseI (b :: r)
def setOk (c : Int) (s : List Int) : Bool := !s.isEmpty && (s.all (fun x => decide (0 ≤ x) && decide (x < c)) && riseI s)
def distinctL : List (List Int) → Bool
  | [] => true
  | s :: l => !(l.any fun t => s == t) && distinctL l
def rightS (c : Int) (l : List (List Int)) : Bool := decide (1 ≤ c) && decide (c ≤ 8) && decide (l.length ≤ 60) && (l.all (setOk c) && distinctL l)
theorem riseI_lt : ∀ {l : List Int} {a : Int}, riseI (a :: l) = true → ∀ x ∈ l, a < x
  | b :: l, a, h, x, hx => by
    unfold riseI at h
    rw [Bool.and_eq_true, decide_eq_true_eq] at h
    rcases List.mem_cons.1 hx with rfl | hx
    · exact h.1
    · have := riseI_lt h.2 x hx
      omega
theorem riseI_tail {l : List Int} {a : Int} (h : riseI (a :: l) = true) : riseI l = true := by
  cases l with
  | nil => rfl
  | cons b l => unfold riseI at h; rw [Bool.and_eq_true] at h; exact h.2
theorem riseI_nodup : ∀ {l : List Int}, riseI l = true → l.Nodup
  | [], _ => List.nodup_nil
  | a :: l, h => List.nodup_cons.2 ⟨fun hm => by have := riseI_lt h a hm; omega, riseI_nodup (riseI_tail h)⟩
/-- Lists that rise and have the same numbers are the same. -/
theorem riseI_ext : ∀ {l m : List Int}, riseI l = true → riseI m = true → (∀ x, x ∈ l ↔ x ∈ m) → l = m
  | [], [], _, _, _ => rfl
  | [], b :: m, _, _, h => by have := (h b).2 (List.mem_cons_self ..); simp at this
  | a :: l, [], _, _, h => by have := (h a).1 (List.mem_cons_self ..); simp at this
  | a :: l, b :: m, hl, hm, h => by
    have e : a = b := by
      rcases List.mem_cons.1 ((h a).1 (List.mem_cons_self ..)) with e | h1
      · exact e
      · rcases List.mem_cons.1 ((h b).2 (List.mem_cons_self ..)) with e | h2
        · exact e.symm
        · have := riseI_lt hm a h1
          have := riseI_lt hl b h2
          omega
    subst e
    rw [riseI_ext (riseI_tail hl) (riseI_tail hm) fun x => by
      have h1 := h x
      have h2 := fun hx => riseI_lt hl x hx
      have h3 := fun hx => riseI_lt hm x hx
      rw [List.mem_cons, List.mem_cons] at h1
      constructor
      · intro hx
        rcases h1.1 (.inr hx) with e | h4
        · have := h2 hx; omega
        · exact h4
      · intro hx
        rcases h1.2 (.inr hx) with e | h4
        · have := h3 hx; omega
        · exact h4]
theorem isub_len : ∀ {l m : List Int}, l.Nodup → (∀ x ∈ l, x ∈ m) → l.length ≤ m.length
  | [], _, _, _ => Nat.zero_le _
  | x :: l, m, hn, hs => by
    have hx := hs x (List.mem_cons_self ..)
    have hn' := List.nodup_cons.1 hn
    have := isub_len (m := m.erase x) hn'.2 (fun y hy => (List.mem_erase_of_ne (by rintro rfl; exact hn'.1 hy)).2 (hs y (List.mem_cons_of_mem _ hy)))
    rw [List.length_erase_of_mem hx] at this
    have := List.length_pos_of_mem hx
    simp only [List.length_cons]
    omega
theorem distinct_at : ∀ {l : List (List Int)}, distinctL l = true → ∀ {i j : Nat} {s : List Int}, l[i]? = some s → l[j]? = some s → i = j
  | t :: l, h, i, j, s, hi, hj => by
    unfold distinctL at h
    rw [Bool.and_eq_true] at h
    have hno : ∀ k, l[k]? = some t → False := fun k hk => by
      have h1 := h.1
      have : (l.any fun u => t == u) = true := List.any_eq_true.2 ⟨t, List.mem_of_getElem? hk, by simp⟩
      rw [this] at h1
      cases h1
    match i, j with
    | 0, 0 => rfl
    | 0, j + 1 =>
      have e : t = s := by simpa using hi
      subst e
      exact (hno j (by simpa using hj)).elim
    | i + 1, 0 =>
      have e : t = s := by simpa using hj
      subst e
      exact (hno i (by simpa using hi)).elim
    | i + 1, j + 1 => rw [distinct_at h.2 (i := i) (j := j) (by simpa using hi) (by simpa using hj)]
theorem rightS_at {c : Int} {l : List (List Int)} (h : rightS c l = true) {i : Nat} {s : List Int} (hi : l[i]? = some s) : s ≠ [] ∧ riseI s = true ∧ ∀ x ∈ s, 0 ≤ x ∧ x < c := by
  unfold rightS at h
  simp only [Bool.and_eq_true, List.all_eq_true] at h
  have := h.2.1 s (List.mem_of_getElem? hi)
  unfold setOk at this
  rw [Bool.and_eq_true, Bool.and_eq_true, List.all_eq_true] at this
  refine ⟨fun e => by rw [e] at this; simp at this, this.2.2, fun x hx => ?_⟩
  have := this.2.1 x hx
  simpa using this
/-- What one order serves lies within each other. -/
theorem serves_chain {c : Int} {l : List (List Int)} (h : rightS c l = true) {o : List Int} {i j : Nat} (hi : i < l.length) (hj : j < l.length) (hne : i ≠ j) (h1 : servesL o (l.getD i []) = true) (h2 : servesL o (l.getD j []) = true) : RS l i j ∨ RS l j i := by
  have gi : l[i]? = some (l.getD i []) := by rw [List.getD_eq_getElem?_getD, List.getElem?_eq_getElem hi]; rfl
  have gj : l[j]? = some (l.getD j []) := by rw [List.getD_eq_getElem?_getD, List.getElem?_eq_getElem hj]; rfl
  obtain ⟨_, ri, _⟩ := rightS_at h gi
  obtain ⟨_, rj, _⟩ := rightS_at h gj
  unfold servesL at h1 h2
  simp only [Bool.and_eq_true, decide_eq_true_eq, within_iff] at h1 h2
  obtain ⟨a1, a2, a3⟩ := h1
  obtain ⟨b1, b2, b3⟩ := h2
  have pre : ∀ {m n : Nat}, m ≤ n → ∀ x ∈ o.take m, x ∈ o.take n := fun {m n} hmn x hx => by
    have : o.take m = (o.take n).take m := by rw [List.take_take, Nat.min_eq_left hmn]
    rw [this] at hx
    exact List.mem_of_mem_take hx
  rcases Nat.lt_trichotomy (l.getD i []).length (l.getD j []).length with hlt | heq | hlt
  · exact .inl (inside_iff.2 ⟨fun x hx => b2 x (pre (Nat.le_of_lt hlt) x (a3 x hx)), hlt⟩)
  · have e : l.getD i [] = l.getD j [] := riseI_ext ri rj fun x => ⟨fun hx => b2 x (by rw [← heq]; exact a3 x hx), fun hx => a2 x (by rw [heq]; exact b3 x hx)⟩
    have hd : distinctL l = true := by
      unfold rightS at h
      simp only [Bool.and_eq_true] at h
      exact h.2.2
    rw [e] at gi
    exact absurd (distinct_at hd gi gj) hne
  · exact .inr (inside_iff.2 ⟨fun x hx => a2 x (pre (Nat.le_of_lt hlt) x (b3 x hx)), hlt⟩)
end Go.Proofs.Ytiljpacmkmmlcaa

/- Comparisons that are total orders, lists of things that rise, sets of things as rising lists. Plain facts, no program here. -/
import Derived.Test.YtphmiifochjemaaSl
namespace Go.Proofs.Ytphmiifochjemaa

/-- A comparison: -1, 0, 1; turned round it is the opposite; it goes over a third one. -/
structure TotC {α : Type} (c : α → α → Int) : Prop where
  range : ∀ a b, c a b = -1 ∨ c a b = 0 ∨ c a b = 1
  anti : ∀ a b, c b a = - c a b
  trans : ∀ a b d, c a b ≤ 0 → c b d ≤ 0 → c a d ≤ 0
section
variable {α : Type} {c : α → α → Int}
theorem TotC.refl (h : TotC c) (a : α) : c a a = 0 := by have := h.anti a a; omega
theorem TotC.lt_le (h : TotC c) {a b d : α} (h1 : c a b < 0) (h2 : c b d ≤ 0) : c a d < 0 := by
  have h3 := h.trans a b d (by omega) h2
  have h4 := h.anti a d
  have h5 := h.anti a b
  rcases Int.lt_or_le (c a d) 0 with h6 | h6
  · exact h6
  · have := h.trans b d a h2 (by omega)
    omega
theorem TotC.le_lt (h : TotC c) {a b d : α} (h1 : c a b ≤ 0) (h2 : c b d < 0) : c a d < 0 := by
  have h3 := h.trans a b d h1 (by omega)
  have h4 := h.anti a d
  have h5 := h.anti b d
  rcases Int.lt_or_le (c a d) 0 with h6 | h6
  · exact h6
  · have := h.trans d a b (by omega) h1
    omega
theorem TotC.eq_eq (h : TotC c) {a b d : α} (h1 : c a b = 0) (h2 : c b d = 0) : c a d = 0 := by
  have h3 := h.trans a b d (by omega) (by omega)
  have h4 := h.anti a b
  have h5 := h.anti b d
  have h6 := h.trans d b a (by omega) (by omega)
  have h7 := h.anti a d
  omega
theorem TotC.congr (h : TotC c) {a b d : α} (h1 : c a b = 0) : c a d = c b d := by
  have ha := h.anti a b
  rcases h.range b d with h2 | h2 | h2
  · have := h.le_lt (a := a) (b := b) (d := d) (by omega) (by omega)
    have := h.range a d
    omega
  · rw [h2]; exact h.eq_eq h1 h2
  · have h3 := h.anti b d
    have h4 := h.lt_le (a := d) (b := b) (d := a) (by omega) (by omega)
    have h5 := h.anti a d
    have := h.range a d
    omega

/-! ### Lists, place by place -/
def lexC (c : α → α → Int) : List α → List α → Int
  | [], [] => 0
  | [], _ :: _ => -1
  | _ :: _, [] => 1
  | a :: x, b :: y => if c a b = 0 then lexC c x y else c a b
theorem TotC.lex (h : TotC c) : TotC (lexC c) := by
  refine ⟨?_, ?_, ?_⟩
  · intro a
    induction a with
    | nil => intro b; cases b <;> simp [lexC]
    | cons a x ih =>
      intro b
      cases b with
      | nil => simp [lexC]
      | cons b y =>
        unfold lexC
        split
        · exact ih y
        · exact h.range a b
  · intro a
    induction a with
    | nil => intro b; cases b <;> simp [lexC]
    | cons a x ih =>
      intro b
      cases b with
      | nil => simp [lexC]
      | cons b y =>
        have hab := h.anti a b
        unfold lexC
        by_cases h0 : c a b = 0
        · rw [if_pos h0, if_pos (by omega)]; exact ih y
        · rw [if_neg h0, if_neg (by omega)]; exact hab
  · intro a
    induction a with
    | nil =>
      intro b d _ _
      cases d <;> simp [lexC]
    | cons a x ih =>
      intro b d
      cases b with
      | nil => intro h1; simp [lexC] at h1
      | cons b y =>
        cases d with
        | nil => intro _ h2; simp [lexC] at h2
        | cons d z =>
          unfold lexC
          intro h1 h2
          by_cases hab : c a b = 0
          · rw [if_pos hab] at h1
            rw [h.congr hab]
            by_cases hbd : c b d = 0
            · rw [if_pos hbd] at h2 ⊢
              exact ih y z h1 h2
            · rw [if_neg hbd] at h2 ⊢
              exact h2
          · rw [if_neg hab] at h1
            have h3 : c b d ≤ 0 := by
              by_cases hbd : c b d = 0
              · omega
              · rw [if_neg hbd] at h2; exact h2
            have h4 := h.lt_le (a := a) (b := b) (d := d) (by omega) h3
            rw [if_neg (by omega)]
            omega

/-! ### Rising lists -/
def riseL (c : α → α → Int) : List α → Bool
  | [] => true
  | [_] => true
  | a :: b :: l => decide (c a b < 0) && riseL c (b :: l)
theorem rise_tail {a : α} {l : List α} (h : riseL c (a :: l) = true) : riseL c l = true := by
  cases l with
  | nil => rfl
  | cons b l => unfold riseL at h; rw [Bool.and_eq_true] at h; exact h.2
theorem rise_all (hc : TotC c) : ∀ {l : List α} {a : α}, riseL c (a :: l) = true → ∀ x ∈ l, c a x < 0
  | [], _, _, x, hx => by simp at hx
  | b :: l, a, h, x, hx => by
    unfold riseL at h
    rw [Bool.and_eq_true, decide_eq_true_eq] at h
    rcases List.mem_cons.1 hx with rfl | hx
    · exact h.1
    · exact hc.lt_le h.1 (by have := rise_all hc h.2 x hx; omega)
theorem rise_cons {l : List α} {a : α} (h1 : ∀ x ∈ l, c a x < 0) (h2 : riseL c l = true) : riseL c (a :: l) = true := by
  cases l with
  | nil => rfl
  | cons b l => unfold riseL; rw [Bool.and_eq_true, decide_eq_true_eq]; exact ⟨h1 b (by simp), h2⟩
/-- Two rising lists of the same things are one. -/
theorem rise_ext (hc : TotC c) : ∀ {l m : List α}, riseL c l = true → riseL c m = true → (∀ x, x ∈ l ↔ x ∈ m) → l = m
  | [], [], _, _, _ => rfl
  | [], b :: m, _, _, h => by have := (h b).2 (by simp); simp at this
  | a :: l, [], _, _, h => by have := (h a).1 (by simp); simp at this
  | a :: l, b :: m, hl, hm, h => by
    have e : a = b := by
      have h1 := (h a).1 (by simp)
      have h2 := (h b).2 (by simp)
      rcases List.mem_cons.1 h1 with h1 | h1
      · exact h1
      · rcases List.mem_cons.1 h2 with h2 | h2
        · exact h2.symm
        · have h3 := rise_all hc hm a h1
          have h4 := rise_all hc hl b h2
          have h5 := hc.anti a b
          omega
    subst e
    have : l = m := rise_ext hc (rise_tail hl) (rise_tail hm) (fun x => by
      constructor
      · intro hx
        rcases List.mem_cons.1 ((h x).1 (List.mem_cons_of_mem _ hx)) with h1 | h1
        · subst h1
          have := rise_all hc hl x hx
          rw [hc.refl] at this
          omega
        · exact h1
      · intro hx
        rcases List.mem_cons.1 ((h x).2 (List.mem_cons_of_mem _ hx)) with h1 | h1
        · subst h1
          have := rise_all hc hm x hx
          rw [hc.refl] at this
          omega
        · exact h1)
    rw [this]

/-! ### A thing put among rising ones -/
def putL (c : α → α → Int) : List α → α → List α
  | [], t => [t]
  | a :: l, t => if c a t < 0 then a :: putL c l t else if c a t = 0 then a :: l else t :: a :: l
def newL (c : α → α → Int) : List α → α → Bool
  | [], _ => true
  | a :: l, t => if c a t < 0 then newL c l t else if c a t = 0 then false else true
def inL (c : α → α → Int) (l : List α) (t : α) : Bool := l.any fun x => decide (c x t = 0)
/-- Where nothing but the same compares as the same. -/
def Apart (c : α → α → Int) (l : List α) : Prop := ∀ x ∈ l, ∀ y ∈ l, c x y = 0 → x = y
theorem put_mem (hc : TotC c) {t : α} : ∀ {l : List α}, (∀ x ∈ l, c x t = 0 → x = t) → ∀ x, x ∈ putL c l t ↔ x ∈ l ∨ x = t
  | [], _, x => by simp [putL]
  | a :: l, h, x => by
    unfold putL
    split
    · rw [List.mem_cons, put_mem hc (fun y hy => h y (List.mem_cons_of_mem _ hy)) x, List.mem_cons]
      constructor
      · rintro (h1 | h1 | h1)
        · exact .inl (.inl h1)
        · exact .inl (.inr h1)
        · exact .inr h1
      · rintro ((h1 | h1) | h1)
        · exact .inl h1
        · exact .inr (.inl h1)
        · exact .inr (.inr h1)
    · split
      · rename_i h0
        have e := h a (by simp) h0
        subst e
        constructor
        · exact .inl
        · rintro (h1 | h1)
          · exact h1
          · rw [h1]; simp
      · simp only [List.mem_cons]
        constructor
        · rintro (h1 | h1)
          · exact .inr h1
          · exact .inl h1
        · rintro (h1 | h1)
          · exact .inr h1
          · exact .inl h1
theorem put_lo (hc : TotC c) {a t : α} : ∀ {l : List α}, (∀ x ∈ l, c a x < 0) → c a t < 0 → ∀ x ∈ putL c l t, c a x < 0
  | [], _, h2, x, hx => by simp [putL] at hx; rw [hx]; exact h2
  | b :: l, h1, h2, x, hx => by
    unfold putL at hx
    split at hx
    · rcases List.mem_cons.1 hx with rfl | hx
      · exact h1 x (by simp)
      · exact put_lo hc (fun y hy => h1 y (List.mem_cons_of_mem _ hy)) h2 x hx
    · split at hx
      · exact h1 x hx
      · rcases List.mem_cons.1 hx with rfl | hx
        · exact h2
        · exact h1 x hx
theorem put_rise (hc : TotC c) {t : α} : ∀ {l : List α}, riseL c l = true → riseL c (putL c l t) = true
  | [], _ => rfl
  | a :: l, h => by
    unfold putL
    split
    · rename_i h0
      exact rise_cons (put_lo hc (rise_all hc h) h0) (put_rise hc (rise_tail h))
    · split
      · exact h
      · rename_i h0 h1
        have h2 : c t a < 0 := by have := hc.anti a t; have := hc.range a t; omega
        exact rise_cons (fun x hx => by
          rcases List.mem_cons.1 hx with rfl | hx
          · exact h2
          · exact hc.lt_le h2 (by have := rise_all hc h x hx; omega)) h
theorem put_len : ∀ (l : List α) (t : α), (putL c l t).length = l.length + (if newL c l t = true then 1 else 0)
  | [], t => rfl
  | a :: l, t => by
    unfold putL newL
    split
    · rw [List.length_cons, put_len l t, List.length_cons]; omega
    · split
      · simp
      · simp
theorem new_in (hc : TotC c) {t : α} : ∀ {l : List α}, riseL c l = true → newL c l t = !inL c l t
  | [], _ => rfl
  | a :: l, h => by
    unfold newL
    have ih := new_in hc (t := t) (rise_tail h)
    have e : inL c (a :: l) t = (decide (c a t = 0) || inL c l t) := rfl
    split
    · rw [ih, e, decide_eq_false (by omega)]; rfl
    · split
      · rename_i h0
        rw [e, decide_eq_true h0]; rfl
      · rename_i h0 h1
        have : inL c l t = false := by
          unfold inL
          rw [List.any_eq_false]
          intro x hx
          have h2 : c t a < 0 := by have := hc.anti a t; have := hc.range a t; omega
          have h3 := hc.lt_le h2 (show c a x ≤ 0 by have := rise_all hc h x hx; omega)
          have := hc.anti t x
          simp only [decide_eq_true_eq]
          omega
        rw [e, decide_eq_false h1, this]; rfl
def sortL (c : α → α → Int) (l : List α) : List α := l.foldl (putL c) []
def unionL (c : α → α → Int) (a b : List α) : List α := b.foldl (putL c) a
def minusL (c : α → α → Int) (a b : List α) : List α := a.filter fun x => !inL c b x
theorem fold_rise (hc : TotC c) : ∀ (b a : List α), riseL c a = true → riseL c (b.foldl (putL c) a) = true
  | [], _, h => h
  | t :: b, a, h => fold_rise hc b (putL c a t) (put_rise hc h)
theorem sort_rise (hc : TotC c) (l : List α) : riseL c (sortL c l) = true := fold_rise hc l [] rfl
theorem union_rise (hc : TotC c) {a : List α} (b : List α) (h : riseL c a = true) : riseL c (unionL c a b) = true := fold_rise hc b a h
/-- Things of a kind P, of which none but the same compare as the same. -/
theorem fold_mem (hc : TotC c) {P : α → Prop} (hP : ∀ x y, P x → P y → c x y = 0 → x = y) : ∀ (b a : List α), (∀ x ∈ a, P x) → (∀ x ∈ b, P x) → (∀ x, x ∈ b.foldl (putL c) a ↔ x ∈ a ∨ x ∈ b) ∧ ∀ x ∈ b.foldl (putL c) a, P x
  | [], a, ha, _ => by simpa using ha
  | t :: b, a, ha, hb => by
    have ht := hb t (by simp)
    have hm := put_mem hc (t := t) (l := a) (fun x hx h0 => hP x t (ha x hx) ht h0)
    have ha' : ∀ x ∈ putL c a t, P x := fun x hx => by
      rcases (hm x).1 hx with h1 | h1
      · exact ha x h1
      · rw [h1]; exact ht
    obtain ⟨h1, h2⟩ := fold_mem hc hP b (putL c a t) ha' (fun x hx => hb x (List.mem_cons_of_mem _ hx))
    refine ⟨fun x => ?_, h2⟩
    rw [List.foldl_cons, h1 x, hm x, List.mem_cons]
    constructor
    · rintro ((h3 | h3) | h3)
      · exact .inl h3
      · exact .inr (.inl h3)
      · exact .inr (.inr h3)
    · rintro (h3 | h3 | h3)
      · exact .inl (.inl h3)
      · exact .inl (.inr h3)
      · exact .inr h3
theorem sort_mem (hc : TotC c) {P : α → Prop} (hP : ∀ x y, P x → P y → c x y = 0 → x = y) {l : List α} (hl : ∀ x ∈ l, P x) (x : α) : x ∈ sortL c l ↔ x ∈ l := by
  have := (fold_mem hc hP l [] (by simp) hl).1 x
  unfold sortL
  simpa using this
theorem union_mem (hc : TotC c) {P : α → Prop} (hP : ∀ x y, P x → P y → c x y = 0 → x = y) {a b : List α} (ha : ∀ x ∈ a, P x) (hb : ∀ x ∈ b, P x) (x : α) : x ∈ unionL c a b ↔ x ∈ a ∨ x ∈ b := (fold_mem hc hP b a ha hb).1 x
theorem in_mem (hc : TotC c) {P : α → Prop} (hP : ∀ x y, P x → P y → c x y = 0 → x = y) {l : List α} (hl : ∀ x ∈ l, P x) {t : α} (ht : P t) : inL c l t = true ↔ t ∈ l := by
  unfold inL
  rw [List.any_eq_true]
  constructor
  · rintro ⟨x, hx, h⟩
    rw [← hP x t (hl x hx) ht (by simpa using h)]
    exact hx
  · intro h
    exact ⟨t, h, by simp [hc.refl]⟩
theorem rise_filter (hc : TotC c) (f : α → Bool) : ∀ {l : List α}, riseL c l = true → riseL c (l.filter f) = true
  | [], _ => rfl
  | a :: l, h => by
    have ih := rise_filter hc f (rise_tail h)
    rw [List.filter_cons]
    split
    · exact rise_cons (fun x hx => rise_all hc h x (List.mem_filter.1 hx).1) ih
    · exact ih
theorem sort_same (hc : TotC c) {P : α → Prop} (hP : ∀ x y, P x → P y → c x y = 0 → x = y) {l : List α} (hl : ∀ x ∈ l, P x) (h : riseL c l = true) : sortL c l = l :=
  rise_ext hc (sort_rise hc l) h (sort_mem hc hP hl)
theorem union_comm (hc : TotC c) {P : α → Prop} (hP : ∀ x y, P x → P y → c x y = 0 → x = y) {a b : List α} (ha : ∀ x ∈ a, P x) (hb : ∀ x ∈ b, P x) (ra : riseL c a = true) (rb : riseL c b = true) : unionL c a b = unionL c b a :=
  rise_ext hc (union_rise hc b ra) (union_rise hc a rb) (fun x => by rw [union_mem hc hP ha hb, union_mem hc hP hb ha]; exact Or.comm)
theorem minus_mem (hc : TotC c) {P : α → Prop} (hP : ∀ x y, P x → P y → c x y = 0 → x = y) {a b : List α} (ha : ∀ x ∈ a, P x) (hb : ∀ x ∈ b, P x) (x : α) : x ∈ minusL c a b ↔ x ∈ a ∧ x ∉ b := by
  unfold minusL
  rw [List.mem_filter]
  constructor
  · rintro ⟨h1, h2⟩
    refine ⟨h1, fun h3 => ?_⟩
    rw [(in_mem hc hP hb (ha x h1)).2 h3] at h2
    simp at h2
  · rintro ⟨h1, h2⟩
    refine ⟨h1, ?_⟩
    cases h3 : inL c b x with
    | false => rfl
    | true => exact absurd ((in_mem hc hP hb (ha x h1)).1 h3) h2
theorem union_minus (hc : TotC c) {P : α → Prop} (hP : ∀ x y, P x → P y → c x y = 0 → x = y) {a b : List α} (ha : ∀ x ∈ a, P x) (hb : ∀ x ∈ b, P x) (ra : riseL c a = true) (_ : riseL c b = true) : unionL c (minusL c a b) b = unionL c a b := by
  have hz : ∀ x ∈ minusL c a b, P x := fun x hx => ha x (List.mem_filter.1 hx).1
  refine rise_ext hc (union_rise hc b (rise_filter hc _ ra)) (union_rise hc b ra) (fun x => ?_)
  rw [union_mem hc hP hz hb, union_mem hc hP ha hb, minus_mem hc hP ha hb]
  by_cases h : x ∈ b
  · simp [h]
  · simp [h]
theorem fold_len (hc : TotC c) {P : α → Prop} (hP : ∀ x y, P x → P y → c x y = 0 → x = y) {a0 : List α} (ha0 : ∀ x ∈ a0, P x) : ∀ (b a : List α), (∀ x ∈ a, P x) → (∀ x ∈ b, P x) → riseL c a = true → riseL c b = true → (∀ x, x ∈ a → x ∈ a0 ∨ ∀ y ∈ b, c x y < 0) → (∀ x ∈ a0, x ∈ a) →
    (b.foldl (putL c) a).length = a.length + (minusL c b a0).length
  | [], a, _, _, _, _, _, _ => by simp [minusL]
  | t :: b, a, ha, hb, ra, rb, h1, h2 => by
    have ht := hb t (by simp)
    have hb' : ∀ x ∈ b, P x := fun x hx => hb x (List.mem_cons_of_mem _ hx)
    have hm := put_mem hc (t := t) (l := a) (fun x hx h0 => hP x t (ha x hx) ht h0)
    have ha' : ∀ x ∈ putL c a t, P x := fun x hx => by
      rcases (hm x).1 hx with h3 | h3
      · exact ha x h3
      · rw [h3]; exact ht
    have ih := fold_len hc hP ha0 b (putL c a t) ha' hb' (put_rise hc ra) (rise_tail rb) (fun x hx => by
      rcases (hm x).1 hx with h3 | h3
      · rcases h1 x h3 with h4 | h4
        · exact .inl h4
        · exact .inr fun y hy => h4 y (List.mem_cons_of_mem _ hy)
      · rw [h3]; exact .inr (rise_all hc rb)) (fun x hx => (hm x).2 (.inl (h2 x hx)))
    have e : inL c a t = inL c a0 t := by
      rw [Bool.eq_iff_iff, in_mem hc hP ha ht, in_mem hc hP ha0 ht]
      refine ⟨fun h => ?_, h2 t⟩
      rcases h1 t h with h3 | h3
      · exact h3
      · have := h3 t (by simp)
        rw [hc.refl] at this
        omega
    rw [List.foldl_cons, ih, put_len, new_in hc ra, e]
    unfold minusL
    rw [List.filter_cons]
    cases inL c a0 t <;> simp <;> omega
/-- As many as the one's, and the other one's that are not there. -/
theorem union_len (hc : TotC c) {P : α → Prop} (hP : ∀ x y, P x → P y → c x y = 0 → x = y) {a b : List α} (ha : ∀ x ∈ a, P x) (hb : ∀ x ∈ b, P x) (ra : riseL c a = true) (rb : riseL c b = true) : (unionL c a b).length = a.length + (minusL c b a).length :=
  fold_len hc hP ha b a ha hb ra rb (fun _ hx => .inl hx) (fun _ hx => hx)
end
end Go.Proofs.Ytphmiifochjemaa

/- Runs of the same thing made one, two rising lists gone through at once: plain facts about lists, no program here. -/
import Derived.Test.YtphmiifochjemaaSt
namespace Go.Proofs.Ytphmiifochjemaa

section
variable {α : Type} {c : α → α → Int}
/-! ### Of each run of the same the first -/
def runL (c : α → α → Int) : α → List α → List α
  | _, [] => []
  | p, y :: r => if c y p = 0 then runL c y r else y :: runL c y r
def compL (c : α → α → Int) : List α → List α
  | [] => []
  | x :: r => x :: runL c x r
theorem run_rise (hc : TotC c) : ∀ {r : List α} {p x : α}, upL c (p :: r) → c x p = 0 → riseL c (x :: runL c p r) = true
  | [], _, _, _, _ => rfl
  | y :: r, p, x, h, h0 => by
    obtain ⟨h1, h2⟩ := up_cons.1 h
    have hpy := h1 y (by simp)
    have ha := hc.anti p y
    unfold runL
    split
    · rename_i he
      have : c x y = 0 := hc.eq_eq h0 (by omega)
      exact run_rise hc h2 this
    · rename_i he
      have h3 : c x y < 0 := hc.le_lt (b := p) (by omega) (by omega)
      have ih := run_rise hc h2 (hc.refl y)
      unfold riseL
      rw [ih, decide_eq_true h3]
      rfl
theorem comp_rise (hc : TotC c) : ∀ {l : List α}, upL c l → riseL c (compL c l) = true
  | [], _ => rfl
  | x :: r, h => run_rise hc h (hc.refl x)
theorem run_mem {P : α → Prop} (hP : ∀ x y, P x → P y → c x y = 0 → x = y) : ∀ {r : List α} {p : α}, P p → (∀ x ∈ r, P x) → ∀ x, (x = p ∨ x ∈ runL c p r) ↔ (x = p ∨ x ∈ r)
  | [], _, _, _, _ => Iff.rfl
  | y :: r, p, hp, hr, x => by
    have hy := hr y (by simp)
    have ih := run_mem hP hy (fun z hz => hr z (List.mem_cons_of_mem _ hz)) x
    unfold runL
    split
    · rename_i he
      have e := hP y p hy hp he
      subst e
      rw [ih, List.mem_cons]
      constructor
      · rintro (h | h)
        · exact .inl h
        · exact .inr (.inr h)
      · rintro (h | h | h)
        · exact .inl h
        · exact .inl h
        · exact .inr h
    · rw [List.mem_cons, List.mem_cons, ih]
theorem comp_mem {P : α → Prop} (hP : ∀ x y, P x → P y → c x y = 0 → x = y) : ∀ {l : List α}, (∀ x ∈ l, P x) → ∀ x, x ∈ compL c l ↔ x ∈ l
  | [], _, _ => Iff.rfl
  | y :: r, h, x => by
    have := run_mem hP (h y (by simp)) (fun z hz => h z (List.mem_cons_of_mem _ hz)) x
    unfold compL
    rw [List.mem_cons, List.mem_cons, this]
/-- Sorted, and of each run one: the same as each put where it belongs. -/
theorem comp_sort (hc : TotC c) {P : α → Prop} (hP : ∀ x y, P x → P y → c x y = 0 → x = y) {l d : List α} (hl : ∀ x ∈ l, P x) (hp : d.Perm l) (hu : upL c d) : compL c d = sortL c l :=
  rise_ext hc (comp_rise hc hu) (sort_rise hc l) fun x => by
    rw [comp_mem hP (fun y hy => hl y (hp.mem_iff.1 hy)), sort_mem hc hP hl, hp.mem_iff]
theorem run_len : ∀ (r : List α) (p : α), (runL c p r).length ≤ r.length
  | [], _ => Nat.le_refl _
  | y :: r, p => by
    have := run_len r y
    unfold runL
    split
    · rw [List.length_cons]; omega
    · rw [List.length_cons, List.length_cons]; omega

/-! ### Two lists at once -/
def bothL (c : α → α → Int) : List α → List α → List ((Bool × Bool) × α)
  | [], b => b.map fun y => ((false, true), y)
  | x :: a, [] => (x :: a).map fun x => ((true, false), x)
  | x :: a, y :: b => if c x y > 0 then ((false, true), y) :: bothL c (x :: a) b else if c x y = 0 then ((true, true), x) :: bothL c a b else ((true, false), x) :: bothL c a (y :: b)
  termination_by a b => a.length + b.length
theorem both_nil (b : List α) : bothL c [] b = b.map fun y => ((false, true), y) := by
  cases b <;> simp [bothL]
theorem both_nil' (a : List α) : bothL c a [] = a.map fun x => ((true, false), x) := by
  cases a <;> simp [bothL]
theorem both_gt {x y : α} {a b : List α} (h : c x y > 0) : bothL c (x :: a) (y :: b) = ((false, true), y) :: bothL c (x :: a) b := by
  rw [bothL, if_pos h]
theorem both_eq {x y : α} {a b : List α} (h : c x y = 0) : bothL c (x :: a) (y :: b) = ((true, true), x) :: bothL c a b := by
  rw [bothL, if_neg (by omega), if_pos h]
theorem both_lt {x y : α} {a b : List α} (h : c x y < 0) : bothL c (x :: a) (y :: b) = ((true, false), x) :: bothL c a (y :: b) := by
  rw [bothL, if_neg (by omega), if_neg (by omega)]
theorem both_len : ∀ (a b : List α), (bothL c a b).length ≤ a.length + b.length
  | [], b => by rw [both_nil]; simp
  | x :: a, [] => by rw [both_nil']; simp
  | x :: a, y :: b => by
    rcases Int.lt_or_le (c x y) 0 with h | h
    · rw [both_lt h]
      have := both_len a (y :: b)
      simp only [List.length_cons] at this ⊢
      omega
    · by_cases h0 : c x y = 0
      · rw [both_eq h0]
        have := both_len a b
        simp only [List.length_cons] at this ⊢
        omega
      · rw [both_gt (by omega)]
        have := both_len (x :: a) b
        simp only [List.length_cons] at this ⊢
        omega
  termination_by a b => a.length + b.length
/-- What comes is of the one or of the other, and in which of them it is told. -/
theorem both_mem (hc : TotC c) {P : α → Prop} (hP : ∀ x y, P x → P y → c x y = 0 → x = y) : ∀ {a b : List α}, (∀ x ∈ a, P x) → (∀ x ∈ b, P x) → riseL c a = true → riseL c b = true →
    ∀ p q x, ((p, q), x) ∈ bothL c a b ↔ (x ∈ a ∨ x ∈ b) ∧ (p = true ↔ x ∈ a) ∧ (q = true ↔ x ∈ b)
  | [], b, _, _, _, _, p, q, x => by
    rw [both_nil]
    simp only [List.mem_map, Prod.mk.injEq, List.not_mem_nil, false_or, iff_false]
    constructor
    · rintro ⟨y, hy, ⟨rfl, rfl⟩, rfl⟩; exact ⟨hy, by simp, by simp [hy]⟩
    · rintro ⟨h1, h2, h3⟩; exact ⟨x, h1, ⟨by simpa using h2, (h3.2 h1).symm⟩, rfl⟩
  | x0 :: a, [], _, _, _, _, p, q, x => by
    rw [both_nil']
    simp only [List.mem_map, Prod.mk.injEq, List.not_mem_nil, or_false, iff_false]
    constructor
    · rintro ⟨y, hy, ⟨rfl, rfl⟩, rfl⟩; exact ⟨hy, by simp [hy], by simp⟩
    · rintro ⟨h1, h2, h3⟩; exact ⟨x, h1, ⟨(h2.2 h1).symm, by simpa using h3⟩, rfl⟩
  | x0 :: a, y0 :: b, ha, hb, ra, rb, p, q, x => by
    have hx0 := ha x0 (by simp)
    have hy0 := hb y0 (by simp)
    have la := rise_all hc ra
    have lb := rise_all hc rb
    have hx0a : x0 ∉ a := fun h => by have := la x0 h; rw [hc.refl] at this; omega
    have hy0b : y0 ∉ b := fun h => by have := lb y0 h; rw [hc.refl] at this; omega
    have ha' : ∀ x ∈ a, P x := fun z hz => ha z (List.mem_cons_of_mem _ hz)
    have hb' : ∀ x ∈ b, P x := fun z hz => hb z (List.mem_cons_of_mem _ hz)
    rcases Int.lt_or_le (c x0 y0) 0 with h | h
    · rw [both_lt h, List.mem_cons, both_mem hc hP ha' hb (rise_tail ra) rb p q x]
      have hn : x0 ∉ y0 :: b := fun hm => by
        rcases List.mem_cons.1 hm with e | hm
        · rw [e, hc.refl] at h; omega
        · have h1 := lb x0 hm
          have h2 := hc.anti x0 y0
          omega
      simp only [Prod.mk.injEq]
      constructor
      · rintro (⟨⟨rfl, rfl⟩, rfl⟩ | ⟨h1, h2, h3⟩)
        · exact ⟨.inl (by simp), by simp, by simpa using hn⟩
        · refine ⟨?_, ?_, h3⟩
          · rcases h1 with h1 | h1
            · exact .inl (List.mem_cons_of_mem _ h1)
            · exact .inr h1
          · rw [h2]
            constructor
            · exact List.mem_cons_of_mem _
            · intro hm
              rcases List.mem_cons.1 hm with rfl | hm
              · rcases h1 with h1 | h1
                · exact h1
                · exact absurd h1 hn
              · exact hm
      · rintro ⟨h1, h2, h3⟩
        by_cases e : x = x0
        · subst e
          refine .inl ⟨⟨h2.2 (by simp), ?_⟩, rfl⟩
          cases q with
          | false => rfl
          | true => exact absurd (h3.1 rfl) hn
        · refine .inr ⟨?_, ?_, h3⟩
          · rcases h1 with h1 | h1
            · rcases List.mem_cons.1 h1 with h1 | h1
              · exact absurd h1 e
              · exact .inl h1
            · exact .inr h1
          · rw [h2, List.mem_cons]
            constructor
            · rintro (h | h)
              · exact absurd h e
              · exact h
            · exact .inr
    · by_cases h0 : c x0 y0 = 0
      · have e := hP x0 y0 hx0 hy0 h0
        subst e
        rw [both_eq h0, List.mem_cons, both_mem hc hP ha' hb' (rise_tail ra) (rise_tail rb) p q x]
        simp only [Prod.mk.injEq]
        constructor
        · rintro (⟨⟨rfl, rfl⟩, rfl⟩ | ⟨h1, h2, h3⟩)
          · exact ⟨.inl (by simp), by simp, by simp⟩
          · have hne : x ≠ x0 := by
              rintro rfl
              rcases h1 with h1 | h1
              · exact hx0a h1
              · exact hy0b h1
            refine ⟨?_, ?_, ?_⟩
            · rcases h1 with h1 | h1
              · exact .inl (List.mem_cons_of_mem _ h1)
              · exact .inr (List.mem_cons_of_mem _ h1)
            · rw [h2, List.mem_cons]; simp [hne]
            · rw [h3, List.mem_cons]; simp [hne]
        · rintro ⟨h1, h2, h3⟩
          by_cases e : x = x0
          · subst e
            exact .inl ⟨⟨h2.2 (by simp), h3.2 (by simp)⟩, rfl⟩
          · simp only [List.mem_cons, e, false_or] at h1 h2 h3
            exact .inr ⟨h1, h2, h3⟩
      · have h' : c y0 x0 < 0 := by have := hc.anti x0 y0; omega
        have hn : y0 ∉ x0 :: a := fun hm => by
          rcases List.mem_cons.1 hm with e | hm
          · rw [e, hc.refl] at h'; omega
          · have h1 := la y0 hm
            have h2 := hc.anti x0 y0
            omega
        rw [both_gt (by omega), List.mem_cons, both_mem hc hP ha hb' ra (rise_tail rb) p q x]
        simp only [Prod.mk.injEq]
        constructor
        · rintro (⟨⟨rfl, rfl⟩, rfl⟩ | ⟨h1, h2, h3⟩)
          · exact ⟨.inr (by simp), by simpa using hn, by simp⟩
          · have hne : x ≠ y0 := by
              rintro rfl
              rcases h1 with h1 | h1
              · exact hn h1
              · exact hy0b h1
            refine ⟨?_, h2, ?_⟩
            · rcases h1 with h1 | h1
              · exact .inl h1
              · exact .inr (List.mem_cons_of_mem _ h1)
            · rw [h3, List.mem_cons]; simp [hne]
        · rintro ⟨h1, h2, h3⟩
          by_cases e : x = y0
          · subst e
            refine .inl ⟨⟨?_, h3.2 (by simp)⟩, rfl⟩
            cases p with
            | false => rfl
            | true => exact absurd (h2.1 rfl) hn
          · refine .inr ⟨?_, h2, ?_⟩
            · rcases h1 with h1 | h1
              · exact .inl h1
              · rcases List.mem_cons.1 h1 with h1 | h1
                · exact absurd h1 e
                · exact .inr h1
            · rw [h3, List.mem_cons]; simp [e]
  termination_by a b => a.length + b.length
/-- What comes rises. -/
theorem both_lo (hc : TotC c) : ∀ {a b : List α} {z : α}, (∀ x ∈ a, c z x < 0) → (∀ x ∈ b, c z x < 0) → ∀ x ∈ (bothL c a b).map Prod.snd, c z x < 0
  | [], b, z, _, hb, x, hx => by
    rw [both_nil, List.map_map] at hx
    simp at hx
    exact hb x hx
  | x0 :: a, [], z, ha, _, x, hx => by
    rw [both_nil', List.map_map] at hx
    exact ha x (by simpa [eq_comm] using hx)
  | x0 :: a, y0 :: b, z, ha, hb, x, hx => by
    have ha' : ∀ x ∈ a, c z x < 0 := fun w hw => ha w (List.mem_cons_of_mem _ hw)
    have hb' : ∀ x ∈ b, c z x < 0 := fun w hw => hb w (List.mem_cons_of_mem _ hw)
    rcases Int.lt_or_le (c x0 y0) 0 with h | h
    · rw [both_lt h, List.map_cons, List.mem_cons] at hx
      rcases hx with rfl | hx
      · exact ha _ (by simp)
      · exact both_lo hc ha' hb x hx
    · by_cases h0 : c x0 y0 = 0
      · rw [both_eq h0, List.map_cons, List.mem_cons] at hx
        rcases hx with rfl | hx
        · exact ha _ (by simp)
        · exact both_lo hc ha' hb' x hx
      · rw [both_gt (by omega), List.map_cons, List.mem_cons] at hx
        rcases hx with rfl | hx
        · exact hb _ (by simp)
        · exact both_lo hc ha hb' x hx
  termination_by a b => a.length + b.length
theorem both_rise (hc : TotC c) : ∀ {a b : List α}, riseL c a = true → riseL c b = true → riseL c ((bothL c a b).map Prod.snd) = true
  | [], b, _, hb => by rw [both_nil, List.map_map]; simpa [Function.comp_def] using hb
  | x0 :: a, [], ha, _ => by rw [both_nil', List.map_map]; simpa [Function.comp_def] using ha
  | x0 :: a, y0 :: b, ha, hb => by
    have la := rise_all hc ha
    have lb := rise_all hc hb
    rcases Int.lt_or_le (c x0 y0) 0 with h | h
    · rw [both_lt h, List.map_cons]
      refine rise_cons (both_lo hc la fun x hx => ?_) (both_rise hc (rise_tail ha) hb)
      rcases List.mem_cons.1 hx with rfl | hx
      · exact h
      · exact hc.lt_le h (by have := lb x hx; omega)
    · by_cases h0 : c x0 y0 = 0
      · rw [both_eq h0, List.map_cons]
        exact rise_cons (both_lo hc la fun x hx => hc.le_lt (b := y0) (Int.le_of_eq h0) (lb x hx)) (both_rise hc (rise_tail ha) (rise_tail hb))
      · have h' : c y0 x0 < 0 := by have := hc.anti x0 y0; omega
        rw [both_gt (by omega), List.map_cons]
        refine rise_cons (both_lo hc (fun x hx => ?_) lb) (both_rise hc ha (rise_tail hb))
        rcases List.mem_cons.1 hx with rfl | hx
        · exact h'
        · exact hc.lt_le h' (by have := la x hx; omega)
  termination_by a b => a.length + b.length
theorem rise_map_filter (hc : TotC c) (f : (Bool × Bool) × α → Bool) {l : List ((Bool × Bool) × α)} (h : riseL c (l.map Prod.snd) = true) : riseL c ((l.filter f).map Prod.snd) = true := by
  induction l with
  | nil => rfl
  | cons x l ih =>
    have ih := ih (rise_tail h)
    rw [List.filter_cons]
    split
    · rw [List.map_cons]
      refine rise_cons (fun y hy => ?_) ih
      obtain ⟨z, hz, rfl⟩ := List.mem_map.1 hy
      exact rise_all hc h _ (List.mem_map.2 ⟨z, (List.mem_filter.1 hz).1, rfl⟩)
    · exact ih
/-- Both, gone through at once, are the union; what is not in the second one is what Minus asks for. -/
theorem both_union (hc : TotC c) {P : α → Prop} (hP : ∀ x y, P x → P y → c x y = 0 → x = y) {a b : List α} (ha : ∀ x ∈ a, P x) (hb : ∀ x ∈ b, P x) (ra : riseL c a = true) (rb : riseL c b = true) : (bothL c a b).map Prod.snd = unionL c a b := by
  refine rise_ext hc (both_rise hc ra rb) (union_rise hc b ra) fun x => ?_
  rw [union_mem hc hP ha hb, List.mem_map]
  constructor
  · rintro ⟨⟨⟨p, q⟩, y⟩, h, rfl⟩
    exact ((both_mem hc hP ha hb ra rb p q y).1 h).1
  · intro h
    haveI := Classical.propDecidable (x ∈ a)
    haveI := Classical.propDecidable (x ∈ b)
    exact ⟨((decide (x ∈ a), decide (x ∈ b)), x), (both_mem hc hP ha hb ra rb _ _ x).2 ⟨h, by simp, by simp⟩, rfl⟩
theorem both_minus (hc : TotC c) {P : α → Prop} (hP : ∀ x y, P x → P y → c x y = 0 → x = y) {a b : List α} (ha : ∀ x ∈ a, P x) (hb : ∀ x ∈ b, P x) (ra : riseL c a = true) (rb : riseL c b = true) : ((bothL c a b).filter fun p => !p.1.2).map Prod.snd = minusL c a b := by
  refine rise_ext hc (rise_map_filter hc _ (both_rise hc ra rb)) (rise_filter hc _ ra) fun x => ?_
  show _ ↔ x ∈ minusL c a b
  rw [minus_mem hc hP ha hb, List.mem_map]
  constructor
  · rintro ⟨⟨⟨p, q⟩, y⟩, h, rfl⟩
    obtain ⟨h1, h2⟩ := List.mem_filter.1 h
    obtain ⟨h3, h4, h5⟩ := (both_mem hc hP ha hb ra rb p q y).1 h1
    have hq : q = false := by simpa using h2
    have : y ∉ b := fun hy => by rw [h5.2 hy] at hq; cases hq
    rcases h3 with h3 | h3
    · exact ⟨h3, this⟩
    · exact absurd h3 this
  · rintro ⟨h1, h2⟩
    exact ⟨((true, false), x), List.mem_filter.2 ⟨(both_mem hc hP ha hb ra rb _ _ x).2 ⟨.inl h1, by simp [h1], by simp [h2]⟩, rfl⟩, rfl⟩
/-- One row beside rising ones. -/
theorem both_put (hc : TotC c) {P : α → Prop} (hP : ∀ x y, P x → P y → c x y = 0 → x = y) {a : List α} {t : α} (ha : ∀ x ∈ a, P x) (ht : P t) (ra : riseL c a = true) : (bothL c a [t]).map Prod.snd = putL c a t ∧ (bothL c a [t]).any (fun p => !p.1.1) = newL c a t := by
  have hb : ∀ x ∈ [t], P x := fun x hx => by rw [List.mem_singleton.1 hx]; exact ht
  refine ⟨both_union hc hP ha hb ra rfl, ?_⟩
  rw [new_in hc ra, Bool.eq_iff_iff, List.any_eq_true]
  constructor
  · rintro ⟨⟨⟨p, q⟩, y⟩, h, hp⟩
    obtain ⟨h1, h2, h3⟩ := (both_mem hc hP ha hb ra rfl p q y).1 h
    have hp : p = false := by simpa using hp
    have hya : y ∉ a := fun hy => by rw [h2.2 hy] at hp; cases hp
    have hyt : y = t := by
      rcases h1 with h1 | h1
      · exact absurd h1 hya
      · exact List.mem_singleton.1 h1
    subst hyt
    cases hi : inL c a y with
    | false => rfl
    | true => exact absurd ((in_mem hc hP ha ht).1 hi) hya
  · intro h
    have hta : t ∉ a := fun hm => by rw [(in_mem hc hP ha ht).2 hm] at h; cases h
    exact ⟨((false, true), t), (both_mem hc hP ha hb ra rfl _ _ t).2 ⟨.inr (by simp), by simp [hta], by simp⟩, rfl⟩
end
end Go.Proofs.Ytphmiifochjemaa

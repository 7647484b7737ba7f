/- Which types variables have: what package dtype does, as plain functions, and what that comes to whatever the order. -/
import Derived.Test.YtbpdfmpfnbdeoaaDoorTm
namespace Go.Proofs.YtbpdfmpfnbdeoaaDoor

def nm (t : Tm) : List UInt8 := t.s.data.toList
abbrev Kn := List (List UInt8 × Int)
def look : Kn → List UInt8 → Int
  | [], _ => 0
  | (s, k) :: K, n => if s = n then k else look K n
/-- The type of a term that is no variable; 0: it has none of its own. -/
def tyC (t : Tm) : Int := if t.op = 2 ∨ t.op = 5 ∨ t.op = 6 ∨ t.op = 7 then 1 else if t.op = 3 then 2 else 0
def ofK (K : Kn) (t : Tm) : Int := if t.op = 1 then look K (nm t) else tyC t
def learn1 (K : Kn) (t : Tm) (k : Int) : Option Kn :=
  if ofK K t = k then some K else if ofK K t ≠ 0 then none else if t.op = 1 then some (K ++ [(nm t, k)]) else some K
def learnL : Kn → List (Tm × Int) → Option Kn
  | K, [] => some K
  | K, (t, k) :: l => match learn1 K t k with
    | none => none
    | some K' => learnL K' l
def alike1 (K : Kn) (x y : Tm) : Option Kn :=
  if ofK K y = 0 then (if ofK K x ≠ 0 then learn1 K y (ofK K x) else some K) else learn1 K x (ofK K y)
def alikeL : Kn → List (Tm × Tm) → Option Kn
  | K, [] => some K
  | K, (x, y) :: l => match alike1 K x y with
    | none => none
    | some K' => alikeL K' l

/-! ### What can be drawn -/
inductive Der (base : List (Tm × Int)) (prs : List (Tm × Tm)) : List UInt8 → Int → Prop
  | base {t : Tm} {k : Int} : (t, k) ∈ base → t.op = 1 → Der base prs (nm t) k
  | lc {x y : Tm} {k : Int} : (x, y) ∈ prs → x.op = 1 → y.op ≠ 1 → tyC y = k → k ≠ 0 → Der base prs (nm x) k
  | lv {x y : Tm} {k : Int} : (x, y) ∈ prs → x.op = 1 → y.op = 1 → Der base prs (nm y) k → Der base prs (nm x) k
  | rc {x y : Tm} {k : Int} : (x, y) ∈ prs → y.op = 1 → x.op ≠ 1 → tyC x = k → k ≠ 0 → Der base prs (nm y) k
  | rv {x y : Tm} {k : Int} : (x, y) ∈ prs → y.op = 1 → x.op = 1 → Der base prs (nm x) k → Der base prs (nm y) k
structure NoConf (base : List (Tm × Int)) (prs : List (Tm × Tm)) : Prop where
  one : ∀ s k k', Der base prs s k → Der base prs s k' → k = k'
  con : ∀ t k, (t, k) ∈ base → t.op ≠ 1 → tyC t = 0 ∨ tyC t = k
  two : ∀ x y, (x, y) ∈ prs → x.op ≠ 1 → y.op ≠ 1 → tyC x = 0 ∨ tyC y = 0 ∨ tyC x = tyC y
/-- The order is nothing. -/
theorem Der.sub {b b' : List (Tm × Int)} {p p' : List (Tm × Tm)} (hb : ∀ x ∈ b, x ∈ b') (hp : ∀ x ∈ p, x ∈ p') {s : List UInt8} {k : Int} (h : Der b p s k) : Der b' p' s k := by
  induction h with
  | base h1 h2 => exact .base (hb _ h1) h2
  | lc h1 h2 h3 h4 h5 => exact .lc (hp _ h1) h2 h3 h4 h5
  | lv h1 h2 h3 _ ih => exact .lv (hp _ h1) h2 h3 ih
  | rc h1 h2 h3 h4 h5 => exact .rc (hp _ h1) h2 h3 h4 h5
  | rv h1 h2 h3 _ ih => exact .rv (hp _ h1) h2 h3 ih
theorem NoConf.sub {b b' : List (Tm × Int)} {p p' : List (Tm × Tm)} (hb : ∀ x ∈ b, x ∈ b') (hp : ∀ x ∈ p, x ∈ p') (h : NoConf b' p') : NoConf b p :=
  ⟨fun s k k' h1 h2 => h.one s k k' (h1.sub hb hp) (h2.sub hb hp), fun t k h1 h2 => h.con t k (hb _ h1) h2, fun x y h1 h2 h3 => h.two x y (hp _ h1) h2 h3⟩

/-! ### What is known -/
/-- What is known is sound, and bears no type 0. -/
def Sound (base : List (Tm × Int)) (prs : List (Tm × Tm)) (K : Kn) : Prop := ∀ s, look K s ≠ 0 → Der base prs s (look K s)
theorem look_snoc {K : Kn} {s n : List UInt8} {k : Int} (h : look K s = 0) (h0 : ∀ x ∈ K, x.2 ≠ 0) : look (K ++ [(s, k)]) n = if n = s then k else look K n := by
  induction K with
  | nil =>
    show (if s = n then k else 0) = _
    by_cases e : n = s
    · rw [if_pos e, if_pos e.symm]
    · rw [if_neg e, if_neg (Ne.symm e)]; rfl
  | cons x K ih =>
    obtain ⟨a, b⟩ := x
    have hb : b ≠ 0 := h0 (a, b) (List.mem_cons_self ..)
    have ha : a ≠ s := by
      rintro rfl
      exact hb (by simpa [look] using h)
    have hK : look K s = 0 := by simpa [look, ha] using h
    have ih := ih hK (fun x hx => h0 x (List.mem_cons_of_mem _ hx))
    show (if a = n then b else look (K ++ [(s, k)]) n) = _
    rw [ih]
    by_cases e : n = s
    · subst e
      rw [if_neg ha]
      simp
    · rw [if_neg e, if_neg e]
      rfl
/-- A state of what is known. -/
structure KnOk (K : Kn) : Prop where
  pos : ∀ x ∈ K, x.2 ≠ 0
  nod : (K.map (·.1)).Nodup
theorem look_mem {K : Kn} (h : KnOk K) {s : List UInt8} : look K s ≠ 0 ↔ s ∈ K.map (·.1) := by
  have hp := h.pos
  clear h
  induction K with
  | nil => simp [look]
  | cons x K ih =>
    obtain ⟨a, b⟩ := x
    have hb : b ≠ 0 := hp (a, b) (List.mem_cons_self ..)
    have ih := ih (fun x hx => hp x (List.mem_cons_of_mem _ hx))
    by_cases e : a = s
    · subst e; simp [look, hb]
    · have : look ((a, b) :: K) s = look K s := by simp [look, e]
      rw [this]
      refine ih.trans ?_
      simp [Ne.symm e]
/-- What comes of one more. -/
theorem KnOk.snoc {K : Kn} (h : KnOk K) {s : List UInt8} {k : Int} (hs : look K s = 0) (hk : k ≠ 0) : KnOk (K ++ [(s, k)]) := by
  refine ⟨fun x hx => ?_, ?_⟩
  · rcases List.mem_append.1 hx with hx | hx
    · exact h.pos x hx
    · simp at hx; subst hx; exact hk
  · have hn : s ∉ K.map (·.1) := fun hm => (look_mem h).2 hm hs
    rw [List.map_append]
    refine List.nodup_append.2 ⟨h.nod, by simp, ?_⟩
    rintro a ha b hb rfl
    simp at hb
    subst hb
    exact hn ha
theorem learn_cases {K K' : Kn} {t : Tm} {k : Int} (h : learn1 K t k = some K') : (ofK K t = k ∧ K' = K) ∨ (ofK K t = 0 ∧ t.op ≠ 1 ∧ K' = K) ∨ (t.op = 1 ∧ look K (nm t) = 0 ∧ k ≠ 0 ∧ K' = K ++ [(nm t, k)]) := by
  unfold learn1 at h
  by_cases h1 : ofK K t = k
  · rw [if_pos h1] at h; cases h; exact .inl ⟨h1, rfl⟩
  · rw [if_neg h1] at h
    by_cases h2 : ofK K t ≠ 0
    · rw [if_pos h2] at h; cases h
    · rw [if_neg h2] at h
      have h2 : ofK K t = 0 := Decidable.not_not.1 h2
      by_cases h3 : t.op = 1
      · rw [if_pos h3] at h; cases h
        refine .inr (.inr ⟨h3, ?_, ?_, rfl⟩)
        · unfold ofK at h2; rw [if_pos h3] at h2; exact h2
        · rintro rfl; exact h1 h2
      · rw [if_neg h3] at h; cases h
        exact .inr (.inl ⟨h2, h3, rfl⟩)
/-- K' knows all that K knows. -/
def KLe (K K' : Kn) : Prop := ∀ s, look K s ≠ 0 → look K' s = look K s
theorem KLe.refl (K : Kn) : KLe K K := fun _ _ => rfl
theorem KLe.trans {A B C : Kn} (h : KLe A B) (k : KLe B C) : KLe A C := fun s hs => (k s (by rw [h s hs]; exact hs)).trans (h s hs)
theorem KLe.of {K K' : Kn} (h : KLe K K') {t : Tm} (ht : ofK K t ≠ 0) : ofK K' t = ofK K t := by
  unfold ofK at ht ⊢
  by_cases h1 : t.op = 1
  · rw [if_pos h1] at ht ⊢; rw [if_pos h1]; exact h _ ht
  · rw [if_neg h1, if_neg h1]
structure Step (base : List (Tm × Int)) (prs : List (Tm × Tm)) (K K' : Kn) : Prop where
  ok : KnOk K'
  le : KLe K K'
  snd : Sound base prs K'
  len : K.length ≤ K'.length
  same : K'.length = K.length → K' = K
theorem Step.trans {b : List (Tm × Int)} {p : List (Tm × Tm)} {A B C : Kn} (h : Step b p A B) (k : Step b p B C) : Step b p A C :=
  ⟨k.ok, h.le.trans k.le, k.snd, Nat.le_trans h.len k.len, fun e => by
    have h1 := h.len
    have h2 := k.len
    have e1 := k.same (by omega)
    subst e1
    exact h.same (by omega)⟩
theorem learn_step {b : List (Tm × Int)} {p : List (Tm × Tm)} {K K' : Kn} {t : Tm} {k : Int} (hK : KnOk K) (hs : Sound b p K) (h : learn1 K t k = some K') (hd : t.op = 1 → k ≠ 0 → Der b p (nm t) k) : Step b p K K' ∧ (ofK K' t = k ∨ (t.op ≠ 1 ∧ tyC t = 0)) := by
  rcases learn_cases h with ⟨h1, rfl⟩ | ⟨h1, h2, rfl⟩ | ⟨h1, h2, h3, rfl⟩
  · exact ⟨⟨hK, .refl _, hs, Nat.le_refl _, fun _ => rfl⟩, .inl h1⟩
  · refine ⟨⟨hK, .refl _, hs, Nat.le_refl _, fun _ => rfl⟩, .inr ⟨h2, ?_⟩⟩
    unfold ofK at h1; rw [if_neg h2] at h1; exact h1
  · have hl : ∀ n, look (K ++ [(nm t, k)]) n = if n = nm t then k else look K n := fun n => look_snoc h2 hK.pos
    refine ⟨⟨hK.snoc h2 h3, fun s hs => ?_, fun s hs' => ?_, by simp, fun e => by simp at e⟩, .inl ?_⟩
    · rw [hl, if_neg (by rintro rfl; exact hs h2)]
    · rw [hl] at hs' ⊢
      by_cases e : s = nm t
      · rw [if_pos e] at hs' ⊢; subst e; exact hd h1 h3
      · rw [if_neg e] at hs' ⊢; exact hs s hs'
    · unfold ofK; rw [if_pos h1, hl, if_pos rfl]
theorem learnL_step {b : List (Tm × Int)} {p : List (Tm × Tm)} : ∀ {l : List (Tm × Int)} {K K' : Kn}, KnOk K → Sound b p K → learnL K l = some K' → (∀ x ∈ l, x ∈ b) → Step b p K K' ∧ ∀ x ∈ l, ofK K' x.1 = x.2 ∨ x.2 = 0 ∨ (x.1.op ≠ 1 ∧ tyC x.1 = 0)
  | [], K, K', hK, hs, h, _ => by cases h; exact ⟨⟨hK, .refl _, hs, Nat.le_refl _, fun _ => rfl⟩, fun x hx => by cases hx⟩
  | (t, k) :: l, K, K', hK, hs, h, hb => by
    unfold learnL at h
    cases h1 : learn1 K t k with
    | none => rw [h1] at h; cases h
    | some K1 =>
      rw [h1] at h
      obtain ⟨s1, e1⟩ := learn_step hK hs h1 (fun hv _ => .base (hb _ (List.mem_cons_self ..)) hv)
      obtain ⟨s2, e2⟩ := learnL_step s1.ok s1.snd h (fun x hx => hb x (List.mem_cons_of_mem _ hx))
      refine ⟨s1.trans s2, fun x hx => ?_⟩
      rcases List.mem_cons.1 hx with rfl | hx
      · rcases e1 with e1 | e1
        · by_cases hk : k = 0
          · exact .inr (.inl hk)
          · exact .inl ((s2.le.of (by rw [e1]; exact hk)).trans e1)
        · exact .inr (.inr e1)
      · exact e2 x hx
/-- A term has a type that can be drawn. -/
def HasT (b : List (Tm × Int)) (p : List (Tm × Tm)) (t : Tm) (k : Int) : Prop := k ≠ 0 ∧ ((t.op = 1 ∧ Der b p (nm t) k) ∨ (t.op ≠ 1 ∧ tyC t = k))
theorem Sound.has {b : List (Tm × Int)} {p : List (Tm × Tm)} {K : Kn} (h : Sound b p K) {t : Tm} (ht : ofK K t ≠ 0) : HasT b p t (ofK K t) := by
  refine ⟨ht, ?_⟩
  unfold ofK at ht ⊢
  by_cases h1 : t.op = 1
  · rw [if_pos h1] at ht ⊢; exact .inl ⟨h1, h _ ht⟩
  · rw [if_neg h1]; exact .inr ⟨h1, rfl⟩
theorem alike_step {b : List (Tm × Int)} {p : List (Tm × Tm)} {K K' : Kn} {x y : Tm} (hK : KnOk K) (hs : Sound b p K) (h : alike1 K x y = some K') (hp : (x, y) ∈ p) : Step b p K K' := by
  have self : Step b p K K := ⟨hK, .refl _, hs, Nat.le_refl _, fun _ => rfl⟩
  unfold alike1 at h
  by_cases h1 : ofK K y = 0
  · rw [if_pos h1] at h
    by_cases h2 : ofK K x ≠ 0
    · rw [if_pos h2] at h
      refine (learn_step hK hs h fun hv _ => ?_).1
      obtain ⟨h3, ⟨h4, h5⟩ | ⟨h4, h5⟩⟩ := hs.has h2
      · exact .rv hp hv h4 h5
      · exact .rc hp hv h4 h5 h3
    · rw [if_neg h2] at h; cases h; exact self
  · rw [if_neg h1] at h
    refine (learn_step hK hs h fun hv _ => ?_).1
    obtain ⟨h3, ⟨h4, h5⟩ | ⟨h4, h5⟩⟩ := hs.has h1
    · exact .lv hp hv h4 h5
    · exact .lc hp hv h4 h5 h3
theorem alikeL_step {b : List (Tm × Int)} {p : List (Tm × Tm)} : ∀ {l : List (Tm × Tm)} {K K' : Kn}, KnOk K → Sound b p K → alikeL K l = some K' → (∀ x ∈ l, x ∈ p) → Step b p K K'
  | [], K, K', hK, hs, h, _ => by cases h; exact ⟨hK, .refl _, hs, Nat.le_refl _, fun _ => rfl⟩
  | (x, y) :: l, K, K', hK, hs, h, hp => by
    unfold alikeL at h
    cases h1 : alike1 K x y with
    | none => rw [h1] at h; cases h
    | some K1 =>
      rw [h1] at h
      have s1 := alike_step hK hs h1 (hp _ (List.mem_cons_self ..))
      exact s1.trans (alikeL_step s1.ok s1.snd h (fun z hz => hp z (List.mem_cons_of_mem _ hz)))
/-- A round that learns nothing finds all pairs alike. -/
theorem alike_still {K : Kn} {x y : Tm} (h : alike1 K x y = some K) : ofK K x = ofK K y ∨ (ofK K x = 0 ∧ x.op ≠ 1) ∨ (ofK K y = 0 ∧ y.op ≠ 1) := by
  have no : ∀ {t : Tm} {k : Int}, learn1 K t k = some K → ofK K t = k ∨ (ofK K t = 0 ∧ t.op ≠ 1) := by
    intro t k h
    rcases learn_cases h with ⟨h1, _⟩ | ⟨h1, h2, _⟩ | ⟨_, _, _, h4⟩
    · exact .inl h1
    · exact .inr ⟨h1, h2⟩
    · have := congrArg List.length h4; simp at this
  unfold alike1 at h
  by_cases h1 : ofK K y = 0
  · rw [if_pos h1] at h
    by_cases h2 : ofK K x ≠ 0
    · rw [if_pos h2] at h
      rcases no h with h | h
      · exact .inl h.symm
      · exact .inr (.inr h)
    · exact .inl ((Decidable.not_not.1 h2).trans h1.symm)
  · rw [if_neg h1] at h
    rcases no h with h | h
    · exact .inl h
    · exact .inr (.inl h)
theorem alikeL_still {b : List (Tm × Int)} {p : List (Tm × Tm)} : ∀ {l : List (Tm × Tm)} {K : Kn}, KnOk K → Sound b p K → alikeL K l = some K → (∀ x ∈ l, x ∈ p) → ∀ x ∈ l, alike1 K x.1 x.2 = some K
  | [], _, _, _, _, _, x, hx => by cases hx
  | (x, y) :: l, K, hK, hs, h, hp, z, hz => by
    unfold alikeL at h
    cases h1 : alike1 K x y with
    | none => rw [h1] at h; cases h
    | some K1 =>
      rw [h1] at h
      have s1 := alike_step hK hs h1 (hp _ (List.mem_cons_self ..))
      have s2 := alikeL_step s1.ok s1.snd h (fun z hz => hp z (List.mem_cons_of_mem _ hz))
      have e1 : K1 = K := s1.same (by have := s1.len; have := s2.len; omega)
      subst e1
      rcases List.mem_cons.1 hz with rfl | hz
      · exact h1
      · exact alikeL_still hK hs h (fun z hz => hp z (List.mem_cons_of_mem _ hz)) z hz
/-- What is known in the end is what can be drawn. -/
theorem known_all {b : List (Tm × Int)} {p : List (Tm × Tm)} {K : Kn} (hb : ∀ x ∈ b, ofK K x.1 = x.2 ∨ x.2 = 0 ∨ (x.1.op ≠ 1 ∧ tyC x.1 = 0)) (h0 : ∀ x ∈ b, x.2 ≠ 0) (hp : ∀ x ∈ p, alike1 K x.1 x.2 = some K) {s : List UInt8} {k : Int} (h : Der b p s k) : look K s = k ∧ k ≠ 0 := by
  have ofv : ∀ {t : Tm}, t.op = 1 → ofK K t = look K (nm t) := fun h => by unfold ofK; rw [if_pos h]
  have ofc : ∀ {t : Tm}, t.op ≠ 1 → ofK K t = tyC t := fun h => by unfold ofK; rw [if_neg h]
  induction h with
  | @base t k h1 h2 =>
    rcases hb _ h1 with h | h | h
    · rw [ofv h2] at h; exact ⟨h, h0 _ h1⟩
    · exact absurd h (h0 _ h1)
    · exact absurd h2 h.1
  | @lc x y k h1 h2 h3 h4 h5 =>
    rcases alike_still (hp _ h1) with h | h | h
    · rw [ofv h2, ofc h3] at h; exact ⟨h.trans h4, h5⟩
    · exact absurd h2 h.2
    · rw [ofc h3, h4] at h; exact absurd h.1 h5
  | @lv x y k h1 h2 h3 _ ih =>
    rcases alike_still (hp _ h1) with h | h | h
    · rw [ofv h2, ofv h3] at h; exact ⟨h.trans ih.1, ih.2⟩
    · exact absurd h2 h.2
    · exact absurd h3 h.2
  | @rc x y k h1 h2 h3 h4 h5 =>
    rcases alike_still (hp _ h1) with h | h | h
    · rw [ofv h2, ofc h3] at h; exact ⟨h.symm.trans h4, h5⟩
    · rw [ofc h3, h4] at h; exact absurd h.1 h5
    · exact absurd h2 h.2
  | @rv x y k h1 h2 h3 _ ih =>
    rcases alike_still (hp _ h1) with h | h | h
    · rw [ofv h2, ofv h3] at h; exact ⟨h.symm.trans ih.1, ih.2⟩
    · exact absurd h3 h.2
    · exact absurd h2 h.2
/-- What is refused cannot be had. -/
theorem learn_none {b : List (Tm × Int)} {p : List (Tm × Tm)} {K : Kn} {t : Tm} {k : Int} (_ : Sound b p K) (h : learn1 K t k = none) : ofK K t ≠ 0 ∧ ofK K t ≠ k := by
  unfold learn1 at h
  by_cases h1 : ofK K t = k
  · rw [if_pos h1] at h; cases h
  · rw [if_neg h1] at h
    by_cases h2 : ofK K t ≠ 0
    · exact ⟨h2, h1⟩
    · rw [if_neg h2] at h
      by_cases h3 : t.op = 1
      · rw [if_pos h3] at h; cases h
      · rw [if_neg h3] at h; cases h
theorem learnL_none {b : List (Tm × Int)} {p : List (Tm × Tm)} (hn : NoConf b p) (h0 : ∀ x ∈ b, x.2 ≠ 0) : ∀ {l : List (Tm × Int)} {K : Kn}, KnOk K → Sound b p K → (∀ x ∈ l, x ∈ b) → ∃ K', learnL K l = some K'
  | [], K, _, _, _ => ⟨K, rfl⟩
  | (t, k) :: l, K, hK, hs, hb => by
    have hm := hb _ (List.mem_cons_self ..)
    cases h1 : learn1 K t k with
    | none =>
      obtain ⟨h2, h3⟩ := learn_none hs h1
      obtain ⟨_, ⟨h4, h5⟩ | ⟨h4, h5⟩⟩ := hs.has h2
      · exact absurd (hn.one _ _ _ h5 (.base hm h4)) h3
      · rcases hn.con t k hm h4 with h | h
        · rw [h] at h5; exact absurd h5.symm h2
        · rw [h] at h5; exact absurd h5.symm h3
    | some K1 =>
      obtain ⟨s1, _⟩ := learn_step hK hs h1 (fun hv _ => .base hm hv)
      obtain ⟨K', h⟩ := learnL_none hn h0 s1.ok s1.snd (fun x hx => hb x (List.mem_cons_of_mem _ hx))
      exact ⟨K', by unfold learnL; rw [h1]; exact h⟩
theorem alikeL_none {b : List (Tm × Int)} {p : List (Tm × Tm)} (hn : NoConf b p) : ∀ {l : List (Tm × Tm)} {K : Kn}, KnOk K → Sound b p K → (∀ x ∈ l, x ∈ p) → ∃ K', alikeL K l = some K'
  | [], K, _, _, _ => ⟨K, rfl⟩
  | (x, y) :: l, K, hK, hs, hp => by
    have hm := hp _ (List.mem_cons_self ..)
    have good : ∃ K1, alike1 K x y = some K1 := by
      unfold alike1
      by_cases h1 : ofK K y = 0
      · rw [if_pos h1]
        by_cases h2 : ofK K x ≠ 0
        · rw [if_pos h2]
          cases h3 : learn1 K y (ofK K x) with
          | some K1 => exact ⟨K1, rfl⟩
          | none => exact absurd h1 (learn_none hs h3).1
        · rw [if_neg h2]; exact ⟨K, rfl⟩
      · rw [if_neg h1]
        cases h3 : learn1 K x (ofK K y) with
        | some K1 => exact ⟨K1, rfl⟩
        | none =>
          obtain ⟨h4, h5⟩ := learn_none hs h3
          obtain ⟨g1, ⟨g2, g3⟩ | ⟨g2, g3⟩⟩ := hs.has h1
          · obtain ⟨_, ⟨f2, f3⟩ | ⟨f2, f3⟩⟩ := hs.has h4
            · exact absurd (hn.one _ _ _ f3 (.lv hm f2 g2 g3)) h5
            · exact absurd (hn.one _ _ _ (.rc hm g2 f2 f3 h4) g3) h5
          · obtain ⟨_, ⟨f2, f3⟩ | ⟨f2, f3⟩⟩ := hs.has h4
            · exact absurd (hn.one _ _ _ f3 (.lc hm f2 g2 g3 g1)) h5
            · rcases hn.two x y hm f2 g2 with h | h | h
              · rw [h] at f3; exact absurd f3.symm h4
              · rw [h] at g3; exact absurd g3.symm g1
              · rw [f3, g3] at h; exact absurd h h5
    obtain ⟨K1, h1⟩ := good
    have s1 := alike_step hK hs h1 hm
    obtain ⟨K', h⟩ := alikeL_none hn s1.ok s1.snd (fun z hz => hp z (List.mem_cons_of_mem _ hz))
    exact ⟨K', by unfold alikeL; rw [h1]; exact h⟩
/-- Rounds, till nothing more is learned. -/
inductive Rounds (p : List (Tm × Tm)) : Kn → Option Kn → Prop
  | bad {K : Kn} : alikeL K p = none → Rounds p K none
  | still {K K' : Kn} : alikeL K p = some K' → K'.length = K.length → Rounds p K (some K')
  | more {K K' : Kn} {r : Option Kn} : alikeL K p = some K' → K.length < K'.length → Rounds p K' r → Rounds p K r
theorem rounds_some {b : List (Tm × Int)} {p : List (Tm × Tm)} {K : Kn} {r : Option Kn} (h : Rounds p K r) (hK : KnOk K) (hs : Sound b p K) : (∀ K', r = some K' → Step b p K K' ∧ ∀ x ∈ p, alike1 K' x.1 x.2 = some K') ∧ (r = none → ¬ NoConf b p) := by
  induction h with
  | bad h1 =>
    refine ⟨fun _ h => (by cases h), fun _ hn => ?_⟩
    obtain ⟨K', h⟩ := alikeL_none hn hK hs (fun _ h => h)
    rw [h1] at h; cases h
  | still h1 h2 =>
    refine ⟨fun K2 h => ?_, fun h => by cases h⟩
    cases h
    have s1 := alikeL_step hK hs h1 (fun _ h => h)
    have e := s1.same h2
    subst e
    exact ⟨s1, alikeL_still hK hs h1 (fun _ h => h)⟩
  | more h1 h2 _ ih =>
    have s1 := alikeL_step hK hs h1 (fun _ h => h)
    obtain ⟨i1, i2⟩ := ih s1.ok s1.snd
    exact ⟨fun K2 h => ⟨s1.trans (i1 K2 h).1, (i1 K2 h).2⟩, i2⟩
/-- THE WHOLE: what is learned from places, and from each other. -/
theorem types_all {b : List (Tm × Int)} {p : List (Tm × Tm)} (h0 : ∀ x ∈ b, x.2 ≠ 0) : (learnL [] b = none → ¬ NoConf b p) ∧ ∀ K r, learnL [] b = some K → Rounds p K r → (r = none → ¬ NoConf b p) ∧ ∀ K', r = some K' → NoConf b p ∧ (∀ s k, k ≠ 0 → (look K' s = k ↔ Der b p s k)) ∧ KnOk K' := by
  have hK0 : KnOk [] := ⟨fun _ h => (by cases h), List.nodup_nil⟩
  have hs0 : Sound b p [] := fun s h => absurd rfl h
  refine ⟨fun h hn => ?_, fun K r h1 h2 => ?_⟩
  · obtain ⟨K', h'⟩ := learnL_none hn h0 hK0 hs0 (fun _ h => h)
    rw [h] at h'; cases h'
  · obtain ⟨s1, e1⟩ := learnL_step hK0 hs0 h1 (fun _ h => h)
    obtain ⟨i1, i2⟩ := rounds_some h2 s1.ok s1.snd
    refine ⟨i2, fun K' h => ?_⟩
    obtain ⟨s2, e2⟩ := i1 K' h
    have hb : ∀ x ∈ b, ofK K' x.1 = x.2 ∨ x.2 = 0 ∨ (x.1.op ≠ 1 ∧ tyC x.1 = 0) := by
      intro x hx
      rcases e1 x hx with h | h
      · exact .inl ((s2.le.of (by rw [h]; exact h0 x hx)).trans h)
      · exact .inr h
    have key := fun {s : List UInt8} {k : Int} (h : Der b p s k) => known_all hb h0 e2 h
    refine ⟨⟨fun s k k' d1 d2 => (key d1).1.symm.trans (key d2).1, fun t k hm hv => ?_, fun x y hm hx hy => ?_⟩, fun s k hk => ⟨fun e => by subst e; exact s2.snd s hk, fun d => (key d).1⟩, s2.ok⟩
    · rcases hb _ hm with h | h | h
      · unfold ofK at h; rw [if_neg hv] at h; exact .inr h
      · exact absurd h (h0 _ hm)
      · exact .inl h.2
    · have ofc : ∀ {t : Tm}, t.op ≠ 1 → ofK K' t = tyC t := fun h => by unfold ofK; rw [if_neg h]
      rcases alike_still (e2 _ hm) with h | h | h
      · rw [ofc hx, ofc hy] at h; exact .inr (.inr h)
      · rw [ofc hx] at h; exact .inl h.1
      · rw [ofc hy] at h; exact .inr (.inl h.1)
end Go.Proofs.YtbpdfmpfnbdeoaaDoor

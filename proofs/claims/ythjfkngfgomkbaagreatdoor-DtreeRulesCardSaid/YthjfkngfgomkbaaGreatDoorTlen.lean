/- The text of a small right program has less than a gibibyte. Plain facts, no program here. -/
import Derived.Test.YthjfkngfgomkbaaGreatDoorTamb
import Derived.Test.YthjfkngfgomkbaaGreatDoorTlook
namespace Go.Proofs.YthjfkngfgomkbaaGreatDoor
open Go.RowKit

/-! ### Numbers of 64 bits -/
inductive N64 : Tm → Prop where
  | mk (op : Int) (s : ByteArray) (n : Int) (l : List Tm) : I64 n → (∀ (i : Nat) (t : Tm), l[i]? = some t → N64 t) → N64 (.mk op s n l)
theorem N64.n {t : Tm} (h : N64 t) : I64 t.n := by cases h with | mk _ _ _ _ h _ => exact h
theorem N64.l {t : Tm} (h : N64 t) : ∀ u ∈ t.l, N64 u := by
  cases h with
  | mk _ _ _ l _ h2 =>
    intro u hu
    obtain ⟨i, hi⟩ := List.mem_iff_getElem?.1 hu
    exact h2 i u hi
theorem TmC.n64 {w : World} {B : Nat} {t : Tm} {cs : List Value} (h : TmC w B t cs) : N64 t := by
  induction h with
  | nil op s n _ _ h3 => exact .mk op s n [] h3 (fun i t ht => by simp at ht)
  | row op s n l a cap cs _ _ h3 _ _ _ _ _ ih => exact .mk op s n l h3 ih
def A64 (a : Am) : Prop := ∀ t ∈ a.l, N64 t
def L64 (l : Lt) : Prop := A64 l.a ∧ N64 l.x ∧ N64 l.y
def R64 (r : Ru) : Prop := A64 r.head ∧ ∀ l ∈ r.body, L64 l
def P64 (p : Pg) : Prop := ∀ r ∈ p.rules, R64 r
theorem SlOf.each {α : Type} {w : World} {B z : Nat} {R : α → List Value → Prop} {l : List α} {v : Value} (h : SlOf w B z R l v) : ∀ x ∈ l, ∃ cs, R x cs := by
  intro x hx
  obtain ⟨i, hi⟩ := List.mem_iff_getElem?.1 hx
  obtain ⟨o, cap, _, _, _, h4⟩ := SlOf.uni h
  obtain ⟨_, cs, _, _, _, h5, _⟩ := h4 i x hi
  exact ⟨cs, h5⟩
theorem AmC.a64 {w : World} {B : Nat} {a : Am} {cs : List Value} (h : AmC w B a cs) : A64 a := by
  obtain ⟨v, _, _, h3⟩ := h
  intro t ht
  obtain ⟨c, hc⟩ := SlOf.each h3 t ht
  exact hc.n64
theorem LtC.l64 {w : World} {B : Nat} {l : Lt} {cs : List Value} (h : LtC w B l cs) : L64 l := by
  obtain ⟨_, _, _, _, _, h1, h2, h3⟩ := h
  exact ⟨h1.a64, h2.n64, h3.n64⟩
theorem RuC.r64 {w : World} {B : Nat} {r : Ru} {cs : List Value} (h : RuC w B r cs) : R64 r := by
  obtain ⟨_, v, _, _, h1, h2⟩ := h
  refine ⟨h1.a64, fun l hl => ?_⟩
  obtain ⟨c, hc⟩ := SlOf.each h2 l hl
  exact hc.l64
theorem PgC.p64 {w : World} {B : Nat} {p : Pg} {cs : List Value} (h : PgC w B p cs) : P64 p := by
  obtain ⟨_, _, _, _, h2⟩ := h
  intro r hr
  obtain ⟨c, hc⟩ := SlOf.each h2 r hr
  exact hc.r64

/-! ### Lengths -/
theorem nDigits_le' : ∀ (k u : Nat), u < 10 ^ (k + 1) → Lib.nDigits u ≤ k + 1
  | 0, u, h => by rw [Lib.nDigits_small (by omega)]; omega
  | k + 1, u, h => by
    by_cases h10 : u < 10
    · rw [Lib.nDigits_small h10]; omega
    · rw [Lib.nDigits_big h10]
      have := nDigits_le' k (u / 10) (by rw [Nat.pow_succ] at h; omega)
      omega
theorem itoa_len' {n : Int} (h : I64 n) : (Lib.itoa n).length ≤ 20 := by
  have h0 := h.1
  have h1 := h.2
  have h19 : ∀ u : Nat, u ≤ 9223372036854775808 → (Lib.decDigits u).length ≤ 19 := by
    intro u hu
    rw [Lib.decDigits_length]
    exact nDigits_le' 18 u (by omega)
  unfold Lib.itoa
  split
  · have := h19 n.natAbs (by omega)
    simp only [List.length_cons]
    omega
  · have := h19 n.toNat (by omega)
    omega
theorem quote_len' (l : List UInt8) : (quoteL l).length ≤ 4 * l.length + 2 := by
  have := flat_len l
  simp only [quoteL, List.length_cons, List.length_append, List.length_nil]
  omega
theorem dataLen (s : ByteArray) : s.data.toList.length = s.size := by simp
theorem foldS_step {α : Type} {f : α → Int → Int} {a : α} {l : List α} {left : Int} (h : 0 ≤ left) : foldS f (a :: l) left = foldS f l (f a left) := by
  show (if left < 0 then left else foldS f l (f a left)) = _
  rw [if_neg (by omega)]
theorem join_len {α : Type} {f : α → Int → Int} {g : α → List UInt8} {C : Int} (hlo : ∀ x left, 0 ≤ left → -1 ≤ f x left ∧ f x left ≤ left) : ∀ (l : List α) (left : Int), (∀ x ∈ l, ∀ left : Int, 0 ≤ left → 0 ≤ f x left → ((g x).length : Int) + 2 ≤ C * (left - f x left)) → 0 ≤ left → 0 ≤ foldS f l left → ((joinL [44, 32] (l.map g)).length : Int) ≤ C * (left - foldS f l left)
  | [], left, _, h, _ => by simp [joinL, foldS]
  | [x], left, hx, h, h2 => by
    have e : foldS f [x] left = f x left := by unfold foldS; rw [if_neg (by omega)]; rfl
    rw [e] at h2 ⊢
    have := hx x (by simp) left h h2
    simp only [List.map_cons, List.map_nil, joinL]
    omega
  | x :: y :: l, left, hx, h, h2 => by
    have e : foldS f (x :: y :: l) left = foldS f (y :: l) (f x left) := foldS_step (by omega)
    rw [e] at h2 ⊢
    have lo := hlo x left h
    have h0 : 0 ≤ f x left := by
      rcases Int.lt_or_le (f x left) 0 with h3 | h3
      · rw [foldS_neg f _ h3] at h2; exact h2
      · exact h3
    have h3 := hx x (by simp) left h h0
    have h4 := join_len hlo (y :: l) (f x left) (fun a ha => hx a (by simp [ha])) h0 h2
    have h5 : ((joinL [44, 32] ((x :: y :: l).map g)).length : Int) = (g x).length + 2 + (joinL [44, 32] ((y :: l).map g)).length := by
      simp only [List.map_cons, joinL, List.length_append, List.length_cons, List.length_nil]
      omega
    rw [h5]
    have h6 : C * (left - foldS f (y :: l) (f x left)) = C * (left - f x left) + C * (f x left - foldS f (y :: l) (f x left)) := by rw [← Int.mul_add]; congr 1; omega
    rw [h6]
    omega
theorem foldS_two {α : Type} {f : α → Int → Int} {a b : α} {left : Int} (h : 0 ≤ left) (h2 : 0 ≤ f a left) : foldS f [a, b] left = f b (f a left) := by
  unfold foldS
  rw [if_neg (by omega)]
  unfold foldS
  rw [if_neg (by omega)]
  rfl
theorem foldS_nonneg {α : Type} {f : α → Int → Int} {a : α} {l : List α} {left : Int} (h : 0 ≤ left) (h2 : 0 ≤ foldS f (a :: l) left) : 0 ≤ f a left := by
  have e : foldS f (a :: l) left = foldS f l (f a left) := foldS_step (by omega)
  rw [e] at h2
  rcases Int.lt_or_le (f a left) 0 with h3 | h3
  · rw [foldS_neg f _ h3] at h2; exact h2
  · exact h3
theorem term_len : ∀ (h : Nat) (t : Tm) (left : Int), N64 t → 0 ≤ left → 0 ≤ sizeT t left → ((showT h t).length : Int) ≤ 4100 * (left - sizeT t left) - 10
  | 0, t, left, hn, h0, h1 => by
    rw [sizeT_eq] at h1 ⊢
    split at h1
    · omega
    · rename_i hs
      rw [if_neg hs]
      have hl : 0 ≤ left - 1 := by
        rcases Int.lt_or_le (left - 1) 0 with h3 | h3
        · rw [foldS_neg sizeT _ h3] at h1; omega
        · exact h3
      have lo := foldS_lo sizeT_lo t.l (left - 1) (by omega)
      simp only [showT, List.length_nil]
      omega
  | h + 1, t, left, hn, h0, h1 => by
    rw [sizeT_eq] at h1 ⊢
    split at h1
    · omega
    · rename_i hs
      rw [if_neg hs]
      have hl : 0 ≤ left - 1 := by
        rcases Int.lt_or_le (left - 1) 0 with h3 | h3
        · rw [foldS_neg sizeT _ h3] at h1; omega
        · exact h3
      have lo := foldS_lo sizeT_lo t.l (left - 1) (by omega)
      unfold showT
      split
      · rw [dataLen]; omega
      · split
        · have := itoa_len' hn.n; omega
        · split
          · have := quote_len' t.s.data.toList
            rw [dataLen] at this
            omega
          · split
            · simp only [List.length_cons, List.length_nil]; omega
            · split
              · rename_i a b hab
                rw [hab] at h1 lo ⊢
                have ha := foldS_nonneg hl h1
                rw [foldS_two hl ha] at h1 ⊢
                have e1 := term_len h a (left - 1) (hn.l a (by rw [hab]; simp)) hl ha
                have e2 := term_len h b (sizeT a (left - 1)) (hn.l b (by rw [hab]; simp)) ha h1
                simp only [List.length_append, List.length_cons, List.length_nil]
                omega
              · simp only [List.length_nil]; omega
theorem atom_len (a : Am) (left : Int) (ha : A64 a) (h0 : 0 ≤ left) (h1 : 0 ≤ sizeA a left) : ((showA a).length : Int) ≤ 4100 * (left - sizeA a left) + 1002 := by
  unfold sizeA at h1 ⊢
  split at h1
  · omega
  · rename_i hs
    rw [if_neg hs]
    rw [sizeTs_fold] at h1 ⊢
    have := join_len (g := showT 20) (C := 4100) sizeT_lo a.l left (fun x hx l2 g0 g1 => by have := term_len 20 x l2 (ha x hx) g0 g1; omega) h0 h1
    unfold showA
    simp only [List.length_append, List.length_cons, List.length_nil, dataLen]
    omega
theorem sizeA_back (a : Am) {left : Int} (h : 0 ≤ sizeA a left) : 0 ≤ left := by
  rcases Int.lt_or_le left 0 with h3 | h3
  · unfold sizeA at h
    split at h
    · omega
    · rw [sizeTs_fold, foldS_neg sizeT _ h3] at h; exact h
  · exact h3
theorem wordL_len (n : Int) : (wordL n).length ≤ 5 := by
  unfold wordL
  repeat' split
  all_goals decide
theorem lit_len (l : Lt) (left : Int) (hl : L64 l) (_ : 0 ≤ left) (h1 : 0 ≤ sizeL1 l left) : ((showL l).length : Int) + 2 ≤ 4100 * (left - sizeL1 l left) := by
  unfold sizeL1 at h1 ⊢
  split at h1
  · omega
  · rename_i ha
    rw [if_neg ha]
    have ha' : 0 ≤ sizeA l.a (left - 1) := by omega
    split at h1
    · omega
    · rename_i hx
      rw [if_neg hx]
      have hx' : 0 ≤ sizeT l.x (sizeA l.a (left - 1)) := by omega
      have e1 := atom_len l.a (left - 1) hl.1 (sizeA_back _ ha') ha'
      have e2 := term_len 20 l.x _ hl.2.1 ha' hx'
      have e3 := term_len 20 l.y _ hl.2.2 hx' h1
      have l1 := sizeA_lo l.a (left - 1) (by have := sizeA_back _ ha'; omega)
      have l2 := sizeT_lo l.x _ ha'
      have l3 := sizeT_lo l.y _ hx'
      have e4 := wordL_len l.op
      unfold showL
      split
      · omega
      · split
        · simp only [List.length_append, List.length_cons, List.length_nil]; omega
        · split
          · simp only [List.length_append, List.length_cons, List.length_nil]; omega
          · split
            · simp only [List.length_append, List.length_cons, List.length_nil]; omega
            · simp only [List.length_append, List.length_cons, List.length_nil]; omega
theorem rule_len (r : Ru) (left : Int) (hr : R64 r) (_ : 0 ≤ left) (h1 : 0 ≤ sizeR r left) : ((showR r).length : Int) + 2 ≤ 4100 * (left - sizeR r left) := by
  unfold sizeR at h1 ⊢
  have ha : 0 ≤ sizeA r.head (left - 1) := by
    rcases Int.lt_or_le (sizeA r.head (left - 1)) 0 with h3 | h3
    · rw [foldS_neg sizeL1 _ h3] at h1; exact h1
    · exact h3
  have e1 := atom_len r.head (left - 1) hr.1 (sizeA_back _ ha) ha
  have e2 := join_len (g := showL) (C := 4100) sizeL1_lo r.body _ (fun x hx l2 g0 g1 => lit_len x l2 (hr.2 x hx) g0 g1) ha h1
  have lo := foldS_lo sizeL1_lo r.body _ (show -1 ≤ sizeA r.head (left - 1) by omega)
  have l1 := sizeA_lo r.head (left - 1) (by have := sizeA_back _ ha; omega)
  unfold showR
  split
  · simp only [List.length_append, List.length_cons, List.length_nil]; omega
  · simp only [List.length_append, List.length_cons, List.length_nil]; omega
theorem rule_small {r : Ru} (hr : R64 r) (h : 0 ≤ sizeR r 2000) : (showR r).length ≤ 8200000 := by
  have := rule_len r 2000 hr (by omega) h
  omega
theorem rules_len : ∀ (l : List Ru) (left : Int), (∀ r ∈ l, R64 r) → 0 ≤ left → 0 ≤ foldS sizeR l left → ((rulesT l).length : Int) ≤ 4100 * (left - foldS sizeR l left)
  | [], left, _, _, _ => by simp [rulesT, foldS]
  | r :: l, left, hr, h0, h1 => by
    have h2 := foldS_nonneg h0 h1
    have e : foldS sizeR (r :: l) left = foldS sizeR l (sizeR r left) := foldS_step (by omega)
    rw [e] at h1 ⊢
    have h3 := rule_len r left (hr r (by simp)) h0 h2
    have h4 := rules_len l _ (fun x hx => hr x (by simp [hx])) h2 h1
    rw [rules_cons]
    simp only [List.length_append, List.length_cons]
    omega
theorem join_le {α : Type} {g : α → List UInt8} {C : Nat} : ∀ (l : List α), (∀ x ∈ l, (g x).length + 2 ≤ C) → (joinL [44, 32] (l.map g)).length ≤ C * l.length
  | [], _ => by simp [joinL]
  | [x], h => by
    have := h x (by simp)
    simp only [List.map_cons, List.map_nil, joinL, List.length_cons, List.length_nil]
    omega
  | x :: y :: l, h => by
    have h1 := h x (by simp)
    have h2 := join_le (y :: l) (fun a ha => h a (by simp [ha]))
    have h5 : (joinL [44, 32] ((x :: y :: l).map g)).length = (g x).length + 2 + (joinL [44, 32] ((y :: l).map g)).length := by
      simp only [List.map_cons, joinL, List.length_append, List.length_cons, List.length_nil]
    rw [h5, List.length_cons (a := x), Nat.mul_succ]
    omega
theorem typeL_len (n : Int) : (typeL n).length ≤ 6 := by
  unfold typeL
  split <;> decide
theorem decl_len {d : De} (h : rightD d = true) : (showD d).length ≤ 1000 := by
  obtain ⟨h1, _, h3, h4, h5, _⟩ := rightD_parts h
  have n1 := name_len h1
  have e1 : (joinL [44, 32] ((d.names.zip d.types).map colL)).length ≤ 50 * (d.names.zip d.types).length := join_le _ (fun x hx => by
    have a1 := name_len (h5 _ (List.of_mem_zip hx).1)
    have a2 := typeL_len x.2
    simp only [colL, List.length_append, List.length_cons, List.length_nil]
    omega)
  rw [List.length_zip, h4, Nat.min_self] at e1
  unfold showD
  split <;> split <;> simp only [List.length_append, List.length_cons, List.length_nil] <;> omega
theorem decls_len : ∀ (l : List De), (∀ d ∈ l, rightD d = true) → (l.flatMap showD).length ≤ 1000 * l.length
  | [], _ => by simp
  | d :: l, h => by
    have h1 := decl_len (h d (by simp))
    have h2 := decls_len l (fun x hx => h x (by simp [hx]))
    rw [List.flatMap_cons, List.length_append, List.length_cons]
    omega
/-- A small right program's text. -/
theorem prog_len {p : Pg} (hn : P64 p) (hs : smallP p = true) (hr : rightP p = true) : (showP p).length ≤ 8300000 := by
  obtain ⟨h1, h2, h3, h4⟩ := rightP_parts hr
  unfold smallP at hs
  simp only [Bool.and_eq_true, decide_eq_true_eq] at hs
  have e1 := decls_len p.decls h3
  have e2 := rules_len p.rules 2000 hn (by omega) hs.1.1.2
  rw [showP_eq, List.length_append]
  omega
end Go.Proofs.YthjfkngfgomkbaaGreatDoor

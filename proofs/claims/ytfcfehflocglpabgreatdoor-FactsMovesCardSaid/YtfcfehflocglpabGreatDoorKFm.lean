/- Layer 10 in plain: a row's line, a stream's rows. Facts of lists alone. Layer 10 in plain: what follows. facts: values and rows, of their types or not; as texts. The iterator over a stream's lines. facts: a line's parts; a value of a text. -/
import Derived.Test.YtfcfehflocglpabGreatDoorKFlow
import Derived.Test.YtfcfehflocglpabGreatDoorKRng
import Derived.Test.YtfcfehflocglpabGreatDoorKTopen
import Derived.Test.YtfcfehflocglpabGreatDoorKTchk2
import Derived.Test.YtfcfehflocglpabGreatDoorKBytes
import Derived.Test.YtfcfehflocglpabGreatDoorKShelf
import Derived.Deep.RegionHeld3
import Derived.Test.YtfcfehflocglpabGreatDoorKPc
set_option linter.unusedSimpArgs false
set_option linter.unusedVariables false
namespace Go.Proofs.YtfcfehflocglpabGreatDoor

/-- Is a value of a type? -/
def fitV (k : Int) (x : Vl) : Bool := if k = 1 then !x.sym && x.s.toList.isEmpty else x.sym && x.n == 0
def fitR (ks : List Int) (r : Rw) : Bool := decide (r.length = ks.length) && (List.zipWith fitV ks r).all id
theorem fitV_clean {k : Int} {x : Vl} (h : fitV k x = true) : cleanV x = true := by
  unfold fitV at h
  unfold cleanV
  split at h
  · rw [Bool.and_eq_true] at h
    have : x.sym = false := by simpa using h.1
    rw [this]; exact h.2
  · rw [Bool.and_eq_true] at h
    rw [h.1]; exact h.2
theorem fitR_nil_iff (k : Int) (ks : List Int) (x : Vl) (r : Rw) : fitR (k :: ks) (x :: r) = (fitV k x && fitR ks r) := by
  unfold fitR
  simp only [List.length_cons, List.zipWith_cons_cons, List.all_cons, id, Nat.add_right_cancel_iff]
  cases fitV k x <;> simp
theorem fitR_ind {P : List Int → Rw → Prop} (h0 : P [] []) (hs : ∀ k ks x r, fitV k x = true → fitR ks r = true → P ks r → P (k :: ks) (x :: r)) : ∀ {ks : List Int} {r : Rw}, fitR ks r = true → P ks r
  | [], [], _ => h0
  | [], x :: r, h => by simp [fitR] at h
  | k :: ks, [], h => by simp [fitR] at h
  | k :: ks, x :: r, h => by
    rw [fitR_nil_iff, Bool.and_eq_true] at h
    exact hs k ks x r h.1 h.2 (fitR_ind h0 hs h.2)
theorem fitR_clean {ks : List Int} {r : Rw} (h : fitR ks r = true) : cleanR r = true :=
  fitR_ind (P := fun _ r => cleanR r = true) rfl (fun k ks x r h1 _ h3 => by
    unfold cleanR at *
    rw [List.all_cons, fitV_clean h1, h3]; rfl) h

/-! ### Texts -/
def textV (x : Vl) : List UInt8 := if x.sym = true then quoteL x.s.data.toList else Lib.itoa x.n
def rowT (r : Rw) : List UInt8 := r.flatMap fun x => 9 :: textV x
def lineT (rel : ByteArray) (r : Rw) : List UInt8 := rel.data.toList ++ (rowT r ++ [10])
theorem sign_no_fin : ∀ c : Fin 256, ((sign (UInt8.ofNat c.1)).all fun x => x != 9 && x != 10) = true := by decide +kernel
theorem sign_no (c : UInt8) : ∀ x ∈ sign c, x ≠ 9 ∧ x ≠ 10 := by
  have h := sign_no_fin ⟨c.toNat, c.toNat_lt⟩
  simp only [ofNat_toNat] at h
  intro x hx
  have := List.all_eq_true.1 h x hx
  simpa using this
theorem textV_no (x : Vl) : ∀ c ∈ textV x, c ≠ 9 ∧ c ≠ 10 := by
  intro c hc
  unfold textV at hc
  split at hc
  · unfold quoteL at hc
    rcases List.mem_cons.1 hc with rfl | hc
    · decide
    · rcases List.mem_append.1 hc with hc | hc
      · obtain ⟨d, _, hd⟩ := List.mem_flatMap.1 hc
        exact sign_no d c hd
      · rw [List.mem_singleton] at hc; rw [hc]; decide
  · have hd : ∀ u, c ∈ Lib.decDigits u → c ≠ 9 ∧ c ≠ 10 := fun u h => by
      have := dec_digits u c h
      constructor <;> (intro e; rw [e] at this; revert this; decide)
    unfold Lib.itoa at hc
    split at hc
    · rcases List.mem_cons.1 hc with rfl | hc
      · decide
      · exact hd _ hc
    · exact hd _ hc
theorem rowT_cons (x : Vl) (r : Rw) : rowT (x :: r) = 9 :: (textV x ++ rowT r) := rfl
theorem rowT_no (r : Rw) : ∀ c ∈ rowT r, c ≠ 10 := by
  intro c hc
  obtain ⟨x, _, hx⟩ := List.mem_flatMap.1 hc
  rcases List.mem_cons.1 hx with rfl | hx
  · decide
  · exact (textV_no x c hx).2
theorem cut_row : ∀ (r : Rw) (p : List UInt8), (∀ c ∈ p, c ≠ 9) → cutB 9 (p ++ rowT r) = p :: r.map textV
  | [], p, h => by
    show cutB 9 (p ++ []) = _
    rw [List.append_nil, cutB_none h]; rfl
  | x :: r, p, h => by
    rw [rowT_cons, cutB_first _ h, cut_row r _ fun c hc => (textV_no x c hc).1]; rfl

theorem no_bytes : (⟨#[]⟩ : ByteArray).toList.isEmpty = true := by rw [Lib.toList_data]; rfl
/-! ### Values out of texts -/
def valQ (k : Int) (t : List UInt8) : Option Vl := if k = 1 then (numL t).map fun n => ⟨false, n, ⟨#[]⟩⟩ else (unqL t).map fun s => ⟨true, 0, ⟨s.toArray⟩⟩
def badE (k : Int) : Int := if k = 1 then 95 else 96
def valsQ : List Int → List (List UInt8) → Sum Int Rw
  | k :: ks, t :: ts => match valQ k t with
    | none => .inl (badE k)
    | some x => match valsQ ks ts with
      | .inl e => .inl e
      | .inr r => .inr (x :: r)
  | _, _ => .inr []
theorem arr_eq {s : ByteArray} {l : List UInt8} (h : s.data.toList = l) : (⟨l.toArray⟩ : ByteArray) = s := by
  subst h; rfl
theorem valQ_text {k : Int} {x : Vl} (h : fitV k x = true) (h0 : -9223372036854775808 ≤ x.n) (h1 : x.n ≤ 9223372036854775807) : valQ k (textV x) = some x := by
  obtain ⟨sy, n, s⟩ := x
  unfold fitV at h
  unfold valQ textV
  split at h
  · rename_i hk
    rw [Bool.and_eq_true] at h
    have e1 : sy = false := by simpa using h.1
    have e2 : s = ⟨#[]⟩ := empty_eq h.2 no_bytes
    subst e1 e2
    rw [if_pos hk]
    simp only [Bool.false_eq_true, if_false]
    rw [numL_itoa n h0 h1]; rfl
  · rename_i hk
    rw [Bool.and_eq_true] at h
    have e1 : sy = true := h.1
    have e2 : n = 0 := by simpa using h.2
    subst e1 e2
    rw [if_neg hk]
    simp only [if_true]
    rw [unqL_quote]; rfl
theorem valsQ_text {ks : List Int} {r : Rw} (h : fitR ks r = true) : (∀ x ∈ r, -9223372036854775808 ≤ x.n ∧ x.n ≤ 9223372036854775807) → valsQ ks (r.map textV) = .inr r :=
  fitR_ind (P := fun ks r => (∀ x ∈ r, -9223372036854775808 ≤ x.n ∧ x.n ≤ 9223372036854775807) → valsQ ks (r.map textV) = .inr r) (fun _ => rfl) (fun k ks x r h1 _ ih hx => by
    have hx0 := hx x (List.mem_cons_self ..)
    rw [List.map_cons, valsQ, valQ_text h1 hx0.1 hx0.2, ih fun y hy => hx y (List.mem_cons_of_mem _ hy)]) h
/-- What is read fits. -/
theorem valQ_fit {k : Int} {t : List UInt8} {x : Vl} (h : valQ k t = some x) : fitV k x = true := by
  unfold valQ at h
  unfold fitV
  split at h
  · rename_i hk
    obtain ⟨n, _, rfl⟩ := Option.map_eq_some_iff.1 h
    rw [if_pos hk]
    exact no_bytes
  · rename_i hk
    obtain ⟨n, _, rfl⟩ := Option.map_eq_some_iff.1 h
    rw [if_neg hk]; rfl
theorem valsQ_fit : ∀ {ks : List Int} {ts : List (List UInt8)} {r : Rw}, ts.length = ks.length → valsQ ks ts = .inr r → fitR ks r = true
  | [], [], r, _, h => by
    rw [valsQ] at h
    · cases h; rfl
    · intro _ _ _ _ h; cases h
  | k :: ks, t :: ts, r, hl, h => by
    rw [valsQ] at h
    split at h
    · cases h
    · rename_i x hx
      split at h
      · cases h
      · rename_i r' hr
        cases h
        rw [fitR_nil_iff, valQ_fit hx, valsQ_fit (by simpa using hl) hr]; rfl
  | [], _ :: _, _, hl, _ => by simp at hl
  | _ :: _, [], _, hl, _ => by simp at hl

/-! ### A line, a stream -/
def inOf (ds : List De) (k : Nat) : Bool := (ds[k]?.map (·.inn)).getD false
def tyOf (ds : List De) (k : Nat) : List Int := (ds[k]?.map (·.types)).getD []
def headQ (l : List UInt8) : ByteArray := ⟨((cutB 9 l).headD []).toArray⟩
/-- A line (without its end): its relation's place and row, or what is wrong. -/
def oneQ (ds : List De) (l : List UInt8) : Sum Int (Nat × Rw) :=
  match findY (headQ l) ds with
  | none => .inl 93
  | some k => if inOf ds k = false then .inl 93 else if (cutB 9 l).tail.length ≠ (tyOf ds k).length then .inl 94 else
    match valsQ (tyOf ds k) (cutB 9 l).tail with
    | .inl e => .inl e
    | .inr r => .inr (k, r)
/-- Whole lines: their rows, or the first that is none and what is wrong. -/
def linesQ (ds : List De) : List (List UInt8) → Nat → Sum (Nat × Int) (List (Nat × Rw))
  | [], _ => .inr []
  | l :: ls, n => match oneQ ds l with
    | .inl e => .inl (n + 1, e)
    | .inr x => match linesQ ds ls (n + 1) with
      | .inl e => .inl e
      | .inr r => .inr (x :: r)
/-- .. and what stands behind the last one. -/
def streamQ (ds : List De) (ls : List (List UInt8)) : Sum (Nat × Int) (List (Nat × Rw)) :=
  match linesQ ds ls.dropLast 0 with
  | .inl e => .inl e
  | .inr r => if (ls.getLast?.getD []).isEmpty = true then .inr r else .inl (ls.dropLast.length + 1, 92)
def placedQ (acc : List (Nat × Rw)) (k : Nat) : List Rw := (acc.filter fun x => x.1 == k).map (·.2)
def sortedQ (n : Nat) (acc : List (Nat × Rw)) : List (List Rw) := (List.range n).map fun k => sortL rwC (placedQ acc k)
theorem oneQ_fit {ds : List De} {l : List UInt8} {k : Nat} {r : Rw} (h : oneQ ds l = .inr (k, r)) : k < ds.length ∧ fitR (tyOf ds k) r = true := by
  unfold oneQ at h
  split at h
  · cases h
  · rename_i k' hk
    split at h
    · cases h
    · rename_i hin
      split at h
      · cases h
      · rename_i hl
        split at h
        · cases h
        · rename_i r' hr
          cases h
          refine ⟨?_, valsQ_fit (by simpa using hl) hr⟩
          cases hd : ds[k]? with
          | none => unfold inOf at hin; rw [hd] at hin; exact absurd rfl hin
          | some d => exact (List.getElem?_eq_some_iff.1 hd).1
theorem linesQ_app (ds : List De) : ∀ (a b : List (List UInt8)) (n : Nat), linesQ ds (a ++ b) n = match linesQ ds a n with
    | .inl e => .inl e
    | .inr r => match linesQ ds b (n + a.length) with
      | .inl e => .inl e
      | .inr r' => .inr (r ++ r')
  | [], b, n => by
    simp only [List.nil_append, linesQ, List.length_nil, Nat.add_zero]
    cases linesQ ds b n <;> rfl
  | l :: a, b, n => by
    rw [List.cons_append, linesQ, linesQ]
    cases oneQ ds l with
    | inl e => rfl
    | inr x =>
      simp only []
      rw [linesQ_app ds a b (n + 1), List.length_cons, show n + 1 + a.length = n + (a.length + 1) by omega]
      cases linesQ ds a (n + 1) with
      | inl e => rfl
      | inr r =>
        simp only []
        cases linesQ ds b (n + (a.length + 1)) <;> rfl
def bad4 (e : Int) : Prop := e = 93 ∨ e = 94 ∨ e = 95 ∨ e = 96
theorem valsQ_bad : ∀ {ks : List Int} {ts : List (List UInt8)} {e : Int}, valsQ ks ts = .inl e → bad4 e
  | [], ts, e, h => by
    rw [valsQ] at h
    · cases h
    · intro _ _ _ _ h; cases h
  | _ :: _, [], e, h => by
    rw [valsQ] at h
    · cases h
    · intro _ _ _ _ _ h; cases h
  | k :: ks, t :: ts, e, h => by
    rw [valsQ] at h
    split at h
    · cases h
      unfold badE bad4
      split <;> simp
    · split at h
      · rename_i e' he
        cases h
        exact valsQ_bad he
      · cases h
theorem oneQ_bad {ds : List De} {l : List UInt8} {e : Int} (h : oneQ ds l = .inl e) : bad4 e := by
  unfold oneQ at h
  split at h
  · cases h; simp [bad4]
  · split at h
    · cases h; simp [bad4]
    · split at h
      · cases h; simp [bad4]
      · split at h
        · rename_i he
          cases h
          exact valsQ_bad he
        · cases h
theorem linesQ_bad (ds : List De) : ∀ (a : List (List UInt8)) (n i : Nat) (e : Int), linesQ ds a n = .inl (i, e) → n < i ∧ i ≤ n + a.length ∧ bad4 e
  | [], _, _, _, h => by cases h
  | l :: a, n, i, e, h => by
    rw [linesQ] at h
    cases ho : oneQ ds l with
    | inl e' =>
      rw [ho] at h
      cases h
      exact ⟨by omega, by rw [List.length_cons]; omega, oneQ_bad ho⟩
    | inr x =>
      rw [ho] at h
      simp only [] at h
      cases hl : linesQ ds a (n + 1) with
      | inl e' =>
        rw [hl] at h
        cases h
        have := linesQ_bad ds a (n + 1) i e hl
        exact ⟨by omega, by rw [List.length_cons]; omega, this.2.2⟩
      | inr r => rw [hl] at h; cases h
theorem linesQ_shift (ds : List De) : ∀ (a : List (List UInt8)) (n m : Nat), (∀ r, linesQ ds a n = .inr r → linesQ ds a m = .inr r) ∧ ∀ i e, linesQ ds a n = .inl (i, e) → ∃ j, linesQ ds a m = .inl (j, e)
  | [], _, _ => ⟨fun _ h => h, fun _ _ h => nomatch h⟩
  | l :: a, n, m => by
    obtain ⟨h1, h2⟩ := linesQ_shift ds a (n + 1) (m + 1)
    rw [linesQ, linesQ]
    cases ho : oneQ ds l with
    | inl e' => exact ⟨fun _ h => (nomatch h), fun i e h => ⟨m + 1, (by cases h; rfl)⟩⟩
    | inr x =>
      simp only []
      cases hl : linesQ ds a (n + 1) with
      | inl q =>
        obtain ⟨i', e'⟩ := q
        obtain ⟨j, hj⟩ := h2 i' e' hl
        rw [hj]
        exact ⟨fun _ h => (nomatch h), fun i e h => ⟨j, (by cases h; rfl)⟩⟩
      | inr r =>
        rw [h1 r hl]
        exact ⟨fun _ h => h, fun i e h => nomatch h⟩
theorem linesQ_fit (ds : List De) : ∀ (a : List (List UInt8)) (n : Nat) (r : List (Nat × Rw)), linesQ ds a n = .inr r → ∀ x ∈ r, x.1 < ds.length ∧ fitR (tyOf ds x.1) x.2 = true
  | [], _, r, h, x, hx => by cases h; cases hx
  | l :: a, n, r, h, x, hx => by
    rw [linesQ] at h
    cases ho : oneQ ds l with
    | inl e' => rw [ho] at h; cases h
    | inr y =>
      rw [ho] at h
      simp only [] at h
      cases hl : linesQ ds a (n + 1) with
      | inl e' => rw [hl] at h; cases h
      | inr r' =>
        rw [hl] at h
        cases h
        rcases List.mem_cons.1 hx with rfl | hx
        · exact oneQ_fit ho
        · exact linesQ_fit ds a (n + 1) r' hl x hx
end Go.Proofs.YtfcfehflocglpabGreatDoor
namespace Go.Proofs.YtfcfehflocglpabGreatDoor

/-! ### Unlike rows have unlike lines -/
theorem line_inj {rel : ByteArray} {ks : List Int} {s t : Rw} (hs : fitR ks s = true) (ht : fitR ks t = true) (is : ∀ x ∈ s, I64 x.n) (it : ∀ x ∈ t, I64 x.n) (h : lineT rel s = lineT rel t) : s = t := by
  unfold lineT at h
  have h1 : rowT s = rowT t := List.append_cancel_right (List.append_cancel_left h)
  have h2 := congrArg (cutB 9) (show [] ++ rowT s = [] ++ rowT t by rw [List.nil_append, List.nil_append, h1])
  rw [cut_row _ _ (fun _ h => by cases h), cut_row _ _ (fun _ h => by cases h)] at h2
  have h3 := (List.cons.inj h2).2
  have e1 := valsQ_text hs is
  have e2 := valsQ_text ht it
  rw [h3, e2] at e1
  cases e1
  rfl
theorem line_rel {a b : ByteArray} {r : Rw} (h : lineT a r = lineT b r) : a.data.toList = b.data.toList := by
  unfold lineT at h
  exact List.append_cancel_right h

/-! ### Streams behind each other -/
theorem cutB_cat (b : UInt8) : ∀ (l m : List UInt8), cutB b (l ++ m) = (cutB b l).dropLast ++ (((cutB b l).getLast?.getD []) ++ (cutB b m).headD []) :: (cutB b m).tail
  | [], m => by
    cases hm : cutB b m with
    | nil => exact absurd hm (cutB_ne b m)
    | cons x r => simp [cutB, hm]
  | c :: l, m => by
    have ih := cutB_cat b l m
    cases hl : cutB b l with
    | nil => exact absurd hl (cutB_ne b l)
    | cons x r =>
      rw [hl] at ih
      by_cases h : c = b
      · rw [List.cons_append, cutB, if_pos h, cutB, if_pos h, ih, hl]
        cases r <;> simp
      · rw [List.cons_append, cutB, if_neg h, cutB, if_neg h, ih, hl]
        cases r <;> simp
theorem last_append (A : List (List UInt8)) (z : List UInt8) (T : List (List UInt8)) : (A ++ z :: T).getLast?.getD [] = ((z :: T).getLast?.getD []) := by
  rw [List.getLast?_append]
  cases h : (z :: T).getLast? with
  | none => simp at h
  | some x => rfl
theorem drop_append (A : List (List UInt8)) (z : List UInt8) (T : List (List UInt8)) : (A ++ z :: T).dropLast = A ++ (z :: T).dropLast := List.dropLast_append_of_ne_nil (by simp)

/-- The answer of a stream by itself, or at its head. -/
theorem stream_head {ds : List De} {s t : List UInt8} {i : Nat} {e : Int} (h : streamQ ds (cutB 10 s) = .inl (i, e)) (he : e ≠ 92) : streamQ ds (cutB 10 (s ++ t)) = .inl (i, e) := by
  have h1 : linesQ ds (cutB 10 s).dropLast 0 = .inl (i, e) := by
    unfold streamQ at h
    cases hl : linesQ ds (cutB 10 s).dropLast 0 with
    | inl q => rw [hl] at h; cases h; rfl
    | inr r =>
      rw [hl] at h
      simp only [] at h
      split at h
      · cases h
      · cases h; exact absurd rfl he
  unfold streamQ
  rw [cutB_cat, drop_append, linesQ_app, h1]
theorem stream_whole {ds : List De} {s : List UInt8} {r : List (Nat × Rw)} (h : streamQ ds (cutB 10 s) = .inr r) : linesQ ds (cutB 10 s).dropLast 0 = .inr r ∧ (cutB 10 s).getLast?.getD [] = [] := by
  unfold streamQ at h
  cases hl : linesQ ds (cutB 10 s).dropLast 0 with
  | inl q => rw [hl] at h; cases h
  | inr r' =>
    rw [hl] at h
    simp only [] at h
    split at h
    · rename_i hz
      cases h
      exact ⟨rfl, List.isEmpty_iff.1 hz⟩
    · cases h
theorem head_tail (b : UInt8) (t : List UInt8) : (cutB b t).headD [] :: (cutB b t).tail = cutB b t := by
  cases h : cutB b t with
  | nil => exact absurd h (cutB_ne b t)
  | cons x r => rfl
/-- A whole stream ahead of another one. -/
theorem stream_app {ds : List De} {s t : List UInt8} {r : List (Nat × Rw)} (h : streamQ ds (cutB 10 s) = .inr r) :
    (∀ r', streamQ ds (cutB 10 t) = .inr r' → streamQ ds (cutB 10 (s ++ t)) = .inr (r ++ r')) ∧ ∀ i e, streamQ ds (cutB 10 t) = .inl (i, e) → ∃ j, streamQ ds (cutB 10 (s ++ t)) = .inl (j, e) ∧ (cutB 10 s).dropLast.length < j := by
  obtain ⟨h1, h2⟩ := stream_whole h
  have hc : cutB 10 (s ++ t) = (cutB 10 s).dropLast ++ cutB 10 t := by rw [cutB_cat, h2, List.nil_append, head_tail]
  have hd : ((cutB 10 s).dropLast ++ cutB 10 t).dropLast = (cutB 10 s).dropLast ++ (cutB 10 t).dropLast := List.dropLast_append_of_ne_nil (cutB_ne _ _)
  have hg : ((cutB 10 s).dropLast ++ cutB 10 t).getLast?.getD [] = (cutB 10 t).getLast?.getD [] := by
    rw [← head_tail 10 t, last_append]
  have hS : streamQ ds (cutB 10 (s ++ t)) = match linesQ ds (cutB 10 t).dropLast (0 + (cutB 10 s).dropLast.length) with
      | .inl e => .inl e
      | .inr r' => if ((cutB 10 t).getLast?.getD []).isEmpty = true then .inr (r ++ r') else .inl ((cutB 10 s).dropLast.length + (cutB 10 t).dropLast.length + 1, 92) := by
    unfold streamQ
    rw [hc, hd, hg, linesQ_app, h1, List.length_append]
    cases linesQ ds (cutB 10 t).dropLast (0 + (cutB 10 s).dropLast.length) <;> rfl
  obtain ⟨k1, k2⟩ := linesQ_shift ds (cutB 10 t).dropLast 0 (0 + (cutB 10 s).dropLast.length)
  rw [hS]
  unfold streamQ
  cases hl : linesQ ds (cutB 10 t).dropLast 0 with
  | inl q =>
    obtain ⟨i', e'⟩ := q
    obtain ⟨j, hj⟩ := k2 i' e' hl
    rw [hj]
    refine ⟨fun _ h => (nomatch h), fun i e h => ?_⟩
    cases h
    have := linesQ_bad ds _ _ _ _ hj
    exact ⟨j, rfl, by omega⟩
  | inr r' =>
    rw [k1 r' hl]
    simp only []
    split
    · exact ⟨fun r'' h => (by cases h; rfl), fun i e h => nomatch h⟩
    · exact ⟨fun r'' h => (nomatch h), fun i e h => ⟨_, (by cases h; rfl), by omega⟩⟩
/-- A stream that ends within a line, at the end of one. -/
theorem stream_open {ds : List De} {s t : List UInt8} {i : Nat} (h : streamQ ds (cutB 10 t) = .inl (i, 92)) : ∃ j e, streamQ ds (cutB 10 (s ++ t)) = .inl (j, e) := by
  have hz : ((cutB 10 t).getLast?.getD []).isEmpty = false := by
    unfold streamQ at h
    cases hl : linesQ ds (cutB 10 t).dropLast 0 with
    | inl q =>
      rw [hl] at h
      cases h
      have := (linesQ_bad ds _ _ _ _ hl).2.2
      unfold bad4 at this
      omega
    | inr r =>
      rw [hl] at h
      simp only [] at h
      split at h
      · cases h
      · rename_i hz; simpa using hz
  have hg : ((cutB 10 (s ++ t)).getLast?.getD []).isEmpty = false := by
    rw [cutB_cat, last_append]
    cases hc : cutB 10 t with
    | nil => exact absurd hc (cutB_ne _ _)
    | cons x r =>
      rw [hc] at hz
      cases r with
      | nil =>
        simp only [List.getLast?_singleton, Option.getD_some] at hz
        simp only [List.headD_cons, List.tail_cons, List.getLast?_singleton, Option.getD_some]
        rw [List.isEmpty_eq_false_iff] at hz ⊢
        intro hx
        exact hz (List.append_eq_nil_iff.1 hx).2
      | cons y r =>
        simp only [List.headD_cons, List.tail_cons]
        rw [List.getLast?_cons_cons] at hz ⊢
        exact hz
  unfold streamQ
  cases hl : linesQ ds (cutB 10 (s ++ t)).dropLast 0 with
  | inl q => exact ⟨q.1, q.2, rfl⟩
  | inr r =>
    simp only []
    rw [if_neg (by rw [hg]; decide)]
    exact ⟨_, _, rfl⟩
theorem placed_app (a b : List (Nat × Rw)) (k : Nat) : placedQ (a ++ b) k = placedQ a k ++ placedQ b k := by
  unfold placedQ
  rw [List.filter_append, List.map_append]
theorem sort_set {l m : List Rw} (hl : ∀ r ∈ l, cleanR r = true) (hm : ∀ r ∈ m, cleanR r = true) (h : ∀ r, r ∈ l ↔ r ∈ m) : sortL rwC l = sortL rwC m :=
  rise_ext rwC_tot (sort_rise rwC_tot l) (sort_rise rwC_tot m) fun x => by
    rw [sort_mem rwC_tot (P := fun r => cleanR r = true) rwC_zero hl, sort_mem rwC_tot (P := fun r => cleanR r = true) rwC_zero hm, h]
theorem placed_mem {acc : List (Nat × Rw)} {k : Nat} {r : Rw} : r ∈ placedQ acc k ↔ (k, r) ∈ acc := by
  unfold placedQ
  rw [List.mem_map]
  constructor
  · rintro ⟨x, hx, rfl⟩
    obtain ⟨h1, h2⟩ := List.mem_filter.1 hx
    rw [← beq_iff_eq.1 h2]
    exact h1
  · intro h
    exact ⟨(k, r), List.mem_filter.2 ⟨h, by simp⟩, rfl⟩
def CleanQ (acc : List (Nat × Rw)) : Prop := ∀ x ∈ acc, cleanR x.2 = true
theorem sorted_set {n : Nat} {a b : List (Nat × Rw)} (ha : CleanQ a) (hb : CleanQ b) (h : ∀ x, x ∈ a ↔ x ∈ b) : sortedQ n a = sortedQ n b := by
  unfold sortedQ
  apply List.map_congr_left
  intro k _
  refine sort_set (fun r hr => ha (k, r) (placed_mem.1 hr)) (fun r hr => hb (k, r) (placed_mem.1 hr)) fun r => ?_
  rw [placed_mem, placed_mem, h]

/-! ### What is told, read -/
theorem findY_apart {ds : List De} {k : Nat} {d : De} (hk : ds[k]? = some d) (hap : ∀ (i j : Nat) (x y : De), ds[i]? = some x → ds[j]? = some y → x.rel.data.toList = y.rel.data.toList → i = j) : findY d.rel ds = some k := by
  unfold findY
  rcases ixY_cases d.rel ds 0 with ⟨_, h2⟩ | ⟨i, e, h1, h2, h3⟩
  · have := h2 d (List.mem_of_getElem? hk)
    unfold relY at this
    simp at this
  · rw [h1, Nat.zero_add, if_neg (by omega)]
    have : e.rel.data.toList = d.rel.data.toList := by
      unfold relY at h3
      have := beq_iff_eq.1 h3
      rwa [Lib.toList_data, Lib.toList_data] at this
    have := hap i k e d h2 hk this
    rw [this]; simp
theorem one_line {ds : List De} {k : Nat} {d : De} {r : Rw} (hk : ds[k]? = some d) (hf : findY d.rel ds = some k) (hin : d.inn = true) (hno : ∀ c ∈ d.rel.data.toList, c ≠ 9) (hr : fitR d.types r = true) (hi : ∀ x ∈ r, I64 x.n) : oneQ ds (d.rel.data.toList ++ rowT r) = .inr (k, r) := by
  have hc := cut_row r _ hno
  have hl : r.length = d.types.length := by
    unfold fitR at hr
    rw [Bool.and_eq_true, decide_eq_true_eq] at hr
    exact hr.1
  have hh : headQ (d.rel.data.toList ++ rowT r) = d.rel := by
    unfold headQ
    rw [hc]
    rfl
  have e1 : inOf ds k = true := by unfold inOf; rw [hk]; exact hin
  have e2 : tyOf ds k = d.types := by unfold tyOf; rw [hk]; rfl
  unfold oneQ
  rw [hh, hf]
  simp only []
  rw [e1, e2, hc, if_neg (by decide), if_neg (by rw [List.tail_cons, List.length_map]; exact not_not_intro hl), List.tail_cons, valsQ_text hr hi]
theorem lines_of {ds : List De} {k : Nat} {d : De} (hk : ds[k]? = some d) (hf : findY d.rel ds = some k) (hin : d.inn = true) (hno : ∀ c ∈ d.rel.data.toList, c ≠ 9) : ∀ (rs : List Rw) (n : Nat), (∀ r ∈ rs, fitR d.types r = true ∧ ∀ x ∈ r, I64 x.n) → linesQ ds (rs.map fun r => d.rel.data.toList ++ rowT r) n = .inr (rs.map fun r => (k, r))
  | [], _, _ => rfl
  | r :: rs, n, h => by
    have h0 := h r (List.mem_cons_self ..)
    rw [List.map_cons, linesQ, one_line hk hf hin hno h0.1 h0.2, lines_of hk hf hin hno rs (n + 1) fun q hq => h q (List.mem_cons_of_mem _ hq)]
    rfl
theorem cut_lines : ∀ (ls : List (List UInt8)), (∀ l ∈ ls, ∀ c ∈ l, c ≠ 10) → cutB 10 (ls.flatMap fun l => l ++ [10]) = ls ++ [[]]
  | [], _ => rfl
  | l :: ls, h => by
    rw [List.flatMap_cons, List.append_assoc, List.singleton_append, cutB_first _ (h l (List.mem_cons_self ..)), cut_lines ls fun q hq => h q (List.mem_cons_of_mem _ hq)]
    rfl
end Go.Proofs.YtfcfehflocglpabGreatDoor
namespace Go.Proofs.YtfcfehflocglpabGreatDoor
open Go.RowKit

def vlCells (x : Vl) : List Value := [.bool x.sym, .int .i64 x.n, .string x.s]
set_option maxRecDepth 100000 in
theorem fnumber_c (n : Int) (w : World) :
    Calls Tryz.prog 86 #[.int .i64 n] w fun e w' => e = .returned (.agg #[.bool false, .int .i64 n, .string ⟨#[]⟩]) ∧ Below w.heap.size w w' := by
  have hr := rowNew w 51 [.bool false, .int .i64 n, .string ⟨#[]⟩]
  have h0 := row_cells hr 0
  have h1 := row_cells hr 1
  have h2 := row_cells hr 2
  simp at h0 h1 h2
  go_enter Tryz.func86, Tryz.ntmps86
  go_wp2
  refine bodyPost_ret (v := .agg #[.bool false, .int .i64 n, .string ⟨#[]⟩]) (by simp [results, Tryz.results86, go_sem, h0, h1, h2]) rfl ?_
  exact ⟨rfl, (Below.refl _ _).alloc (Nat.le_refl _) _⟩
set_option maxRecDepth 100000 in
theorem fsymbol_c (s : ByteArray) (w : World) :
    Calls Tryz.prog 88 #[.string s] w fun e w' => e = .returned (.agg #[.bool true, .int .i64 0, .string s]) ∧ Below w.heap.size w w' := by
  have hr := rowNew w 51 [.bool true, .int .i64 0, .string s]
  have h0 := row_cells hr 0
  have h1 := row_cells hr 1
  have h2 := row_cells hr 2
  simp at h0 h1 h2
  go_enter Tryz.func88, Tryz.ntmps88
  go_wp2
  refine bodyPost_ret (v := .agg #[.bool true, .int .i64 0, .string s]) (by simp [results, Tryz.results88, go_sem, h0, h1, h2]) rfl ?_
  exact ⟨rfl, (Below.refl _ _).alloc (Nat.le_refl _) _⟩
set_option maxRecDepth 100000 in
set_option maxHeartbeats 4000000 in
theorem isOf_c (x : Vl) (k : Int) (w : World) :
    Calls Tryz.prog 66 #[.agg (vlCells x).toArray, .int .i64 k] w fun e w' => e = .returned (.bool (fitV k x)) ∧ Below w.heap.size w w' := by
  obtain ⟨sy, n, s⟩ := x
  unfold vlCells
  have hr := rowNew w 51 [.bool sy, .int .i64 n, .string s]
  obtain ⟨W, hW⟩ : ∃ W, w.alloc (.cells #[.bool sy, .int .i64 n, .string s] 51) = W := ⟨_, rfl⟩
  have hb : Below w.heap.size w W := by rw [← hW]; exact (Below.refl _ _).alloc (Nat.le_refl _) _
  have hr1 : W.heap[w.heap.size]? = some (.cells #[.bool sy, .int .i64 n, .string s] 51 (0, 0)) := by rw [← hW]; exact hr
  have hz := heap_lt hr1
  have HB := Lib.hid hb
  have hS : ∀ W', Below W.heap.size W.drew W' → W'.cell? ⟨w.heap.size, 0, none⟩ = some (.bool sy) ∧ W'.cell? ⟨w.heap.size, 1, none⟩ = some (.int .i64 n) ∧ W'.cell? ⟨w.heap.size, 2, none⟩ = some (.string s) ∧ Below W.heap.size W.drew W' := fun W' h => by
    have q := (h.block _ hz).trans hr1
    exact ⟨row_cells q 0, row_cells q 1, row_cells q 2, h⟩
  have hS0 := hS W.drew (Below.refl _ _)
  have HS := Lib.hid hS
  have HK : Hid (∀ (w' w'' : World), Below W.heap.size W.drew w' → Below w'.heap.size w' w'' → w''.cell? ⟨w.heap.size, 0, none⟩ = some (.bool sy) ∧ w''.cell? ⟨w.heap.size, 1, none⟩ = some (.int .i64 n) ∧ w''.cell? ⟨w.heap.size, 2, none⟩ = some (.string s) ∧ Below W.heap.size W.drew w'') := Lib.hid fun w' w'' h1 h2 => HS.out _ (h1.trans (h2.mono h1.size))
  obtain ⟨c0, c1, c2⟩ : W.cell? ⟨w.heap.size, 0, none⟩ = some (.bool sy) ∧ W.cell? ⟨w.heap.size, 1, none⟩ = some (.int .i64 n) ∧ W.cell? ⟨w.heap.size, 2, none⟩ = some (.string s) := ⟨row_cells hr1 0, row_cells hr1 1, row_cells hr1 2⟩
  clear hr hb hS hr1
  by_cases hk : k = 1
  · subst hk
    obtain ⟨em, hem⟩ : ∃ em, (s.toList == (⟨#[]⟩ : ByteArray).toList) = em := ⟨_, rfl⟩
    have hF : fitV 1 ⟨sy, n, s⟩ = (!sy && em) := by
      unfold fitV
      rw [if_pos rfl, ← hem, Lib.toList_data, Lib.toList_data]
      cases s.data.toList <;> rfl
    rw [hF]
    have hem2 : (s.toList == ([] : List UInt8)) = em := by rw [← hem, Lib.toList_data (⟨#[]⟩ : ByteArray)]
    have hem3 : s.toList = [] ↔ em = true := by rw [← hem2, beq_iff_eq]
    clear hF
    cases sy with
    | false =>
      cases em
      all_goals
        go_enter Tryz.func66, Tryz.ntmps66
        go_wp2_with fail
        (try rw [hW])
        go_region_held3 (fun w' => w'.cell? ⟨w.heap.size, 0, none⟩ = some (.bool false) ∧ w'.cell? ⟨w.heap.size, 1, none⟩ = some (.int .i64 n) ∧ w'.cell? ⟨w.heap.size, 2, none⟩ = some (.string s) ∧ Below W.heap.size W.drew w') (first | exact hk1 | exact hS0)
          (first | (go_at_call 86; (with_reducible refine (fnumber_c n _).mono ?_); rintro e1 w1 ⟨rfl, b1⟩; have hk1 := HK.out _ _ hS0.2.2.2 b1))
        all_goals
          go_wp2
          go_ret
          exact ⟨rfl, HB.out.trans ((drewB hk1.2.2.2).mono HB.out.size)⟩
    | true =>
      cases em
      all_goals
        go_enter Tryz.func66, Tryz.ntmps66
        go_wp2_with fail
        (try rw [hW])
        go_region_held3 (fun w' => w'.cell? ⟨w.heap.size, 0, none⟩ = some (.bool true) ∧ w'.cell? ⟨w.heap.size, 1, none⟩ = some (.int .i64 n) ∧ w'.cell? ⟨w.heap.size, 2, none⟩ = some (.string s) ∧ Below W.heap.size W.drew w') (first | exact hk1 | exact hS0)
          (first | (go_at_call 86; (with_reducible refine (fnumber_c n _).mono ?_); rintro e1 w1 ⟨rfl, b1⟩; have hk1 := HK.out _ _ hS0.2.2.2 b1))
        all_goals
          go_wp2
          go_ret
          exact ⟨rfl, HB.out.trans ((drewB hk1.2.2.2).mono HB.out.size)⟩
  · obtain ⟨ez, hez⟩ : ∃ ez, (n == 0) = ez := ⟨_, rfl⟩
    have hF : fitV k ⟨sy, n, s⟩ = (sy && ez) := by
      unfold fitV
      rw [if_neg hk, ← hez]
    rw [hF]
    have hk' : (k == 1) = false := by simpa using hk
    clear hF
    cases sy with
    | false =>
      cases ez
      all_goals
        go_enter Tryz.func66, Tryz.ntmps66
        go_wp2_with fail
        (try rw [hW])
        go_region_held3 (fun w' => w'.cell? ⟨w.heap.size, 0, none⟩ = some (.bool false) ∧ w'.cell? ⟨w.heap.size, 1, none⟩ = some (.int .i64 n) ∧ w'.cell? ⟨w.heap.size, 2, none⟩ = some (.string s) ∧ Below W.heap.size W.drew w') (first | exact hk1 | exact hS0)
          (first | (go_at_call 88; (with_reducible refine (fsymbol_c s _).mono ?_); rintro e1 w1 ⟨rfl, b1⟩; have hk1 := HK.out _ _ hS0.2.2.2 b1))
        all_goals
          go_wp2
          go_ret
          exact ⟨rfl, HB.out.trans ((drewB hk1.2.2.2).mono HB.out.size)⟩
    | true =>
      cases ez
      all_goals
        go_enter Tryz.func66, Tryz.ntmps66
        go_wp2_with fail
        (try rw [hW])
        go_region_held3 (fun w' => w'.cell? ⟨w.heap.size, 0, none⟩ = some (.bool true) ∧ w'.cell? ⟨w.heap.size, 1, none⟩ = some (.int .i64 n) ∧ w'.cell? ⟨w.heap.size, 2, none⟩ = some (.string s) ∧ Below W.heap.size W.drew w') (first | exact hk1 | exact hS0)
          (first | (go_at_call 88; (with_reducible refine (fsymbol_c s _).mono ?_); rintro e1 w1 ⟨rfl, b1⟩; have hk1 := HK.out _ _ hS0.2.2.2 b1))
        all_goals
          go_wp2
          go_ret
          exact ⟨rfl, HB.out.trans ((drewB hk1.2.2.2).mono HB.out.size)⟩
theorem isOf_x (x : Vl) (k : Int) (w : World) :
    Calls Tryz.prog 66 #[.agg #[.bool x.sym, .int .i64 x.n, .string x.s], .int .i64 k] w fun e w' => e = .returned (.bool (fitV k x)) ∧ Below w.heap.size w w' := isOf_c x k w
theorem zip_drop {ks : List Int} {r : Rw} {c : Nat} {k : Int} {x : Vl} (hk : ks[c]? = some k) (hx : r[c]? = some x) : ((List.zipWith fitV ks r).drop c).all id = (fitV k x && ((List.zipWith fitV ks r).drop (c + 1)).all id) := by
  have hz : (List.zipWith fitV ks r)[c]? = some (fitV k x) := by rw [List.getElem?_zipWith, hk, hx]
  have h1 := List.getElem?_eq_some_iff.1 hz
  rw [List.drop_eq_getElem_cons h1.1, h1.2]; rfl
set_option maxRecDepth 100000 in
set_option maxHeartbeats 4000000 in
theorem fits_c (r : Rw) (ks : List Int) (v u : Value) (w : World) (hv : SlOf w w.heap.size 3 VlC r v) (hu : SlOf w w.heap.size 1 IntC ks u) :
    Calls Tryz.prog 35 #[v, u] w fun e w' => e = .returned (.bool (fitR ks r)) ∧ Below w.heap.size w w' := by
  obtain ⟨o1, cap1, rfl, hc1, hm1, S1⟩ := SlOf.open hv
  obtain ⟨o2, cap2, rfl, hc2, hm2, S2⟩ := SlOf.open hu
  have HB0 : Hid (Below w.heap.size w w) := Lib.hid (Below.refl _ _)
  clear hv hu
  by_cases hl : r.length = ks.length
  · have hR : fitR ks r = ((List.zipWith fitV ks r).drop 0).all id := by
      unfold fitR
      rw [decide_eq_true hl]; rfl
    have Hl := Lib.hid hl
    have HR := Lib.hid hR
    have hne : ((r.length : Int) != (ks.length : Int)) = false := by simp; omega
    clear hl hR
    go_enter Tryz.func35, Tryz.ntmps35
    go_wp2
    go_loopw [14] (fun i wr => ∃ k : Nat, k ≤ r.length ∧ i = .int .i64 (k : Int) ∧ fitR ks r = ((List.zipWith fitV ks r).drop k).all id ∧ Below w.heap.size w wr) (fun i _ => r.length - (intOf i).toNat)
    case atStart => exact ⟨0, Nat.zero_le _, rfl, HR.out, HB0.out⟩
    case round =>
      obtain ⟨k, hk, rfl, hR2, hB⟩ := hrel
      have hBs := hB.size
      by_cases hlt : k < r.length
      · have hlt' : (k : Int) < (r.length : Int) := by omega
        have hlt2 : (k : Int) < (ks.length : Int) := by have := Hl.out; omega
        have hk0 : (0 : Int) ≤ (k : Int) := by omega
        obtain ⟨x, hx⟩ : ∃ x, r[k]? = some x := ⟨r[k], List.getElem?_eq_getElem hlt⟩
        obtain ⟨z, hz⟩ : ∃ z, ks[k]? = some z := ⟨ks[k]'(by have := Hl.out; omega), List.getElem?_eq_getElem _⟩
        have Hz := Lib.hid (hR2.trans (zip_drop hz hx))
        obtain ⟨a1, rfl, ha1, hI1, hs1, c0, c1, c2⟩ := vl_at S1 hB hx
        obtain ⟨a2, rfl, ha2, hI2, d0⟩ := int_at S2 hB hz
        have hr1 := rowNew wr 51 (vlCells x)
        obtain ⟨W, hW⟩ : ∃ W, wr.alloc (.cells (vlCells x).toArray 51) = W := ⟨_, rfl⟩
        have hbW : Below wr.heap.size wr W := by rw [← hW]; exact alB _ _
        rw [hW] at hr1
        have hzW := heap_lt hr1
        have hS : ∀ W', Below W.heap.size W.drew W' → W'.cell? ⟨wr.heap.size, 0, none⟩ = some (.bool x.sym) ∧ W'.cell? ⟨wr.heap.size, 1, none⟩ = some (.int .i64 x.n) ∧ W'.cell? ⟨wr.heap.size, 2, none⟩ = some (.string x.s) ∧ W'.cell? (a2.add k) = some (.int .i64 z) ∧ Below W.heap.size W.drew W' := fun W' h => by
          have q := (h.block _ hzW).trans hr1
          exact ⟨row_cells q 0, row_cells q 1, row_cells q 2, (h.cell (by rw [addBlock]; have := hbW.size; show a2.block < W.heap.size; omega)).trans ((hbW.cell (by rw [addBlock]; omega)).trans d0), h⟩
        have hS0 := hS W.drew (Below.refl _ _)
        have HK : Hid (∀ (w' w'' : World), Below W.heap.size W.drew w' → Below w'.heap.size w' w'' → w''.cell? ⟨wr.heap.size, 0, none⟩ = some (.bool x.sym) ∧ w''.cell? ⟨wr.heap.size, 1, none⟩ = some (.int .i64 x.n) ∧ w''.cell? ⟨wr.heap.size, 2, none⟩ = some (.string x.s) ∧ w''.cell? (a2.add k) = some (.int .i64 z) ∧ Below W.heap.size W.drew w'') := Lib.hid fun w' w'' h1 h2 => hS _ (h1.trans (h2.mono h1.size))
        have HBW := Lib.hid (hB.trans (hbW.mono hBs))
        unfold vlCells at hW
        clear hx hz hR2 hS hbW hr1
        go_wp2_with fail
        (try rw [hW])
        go_region_held3 (fun w' => w'.cell? ⟨wr.heap.size, 0, none⟩ = some (.bool x.sym) ∧ w'.cell? ⟨wr.heap.size, 1, none⟩ = some (.int .i64 x.n) ∧ w'.cell? ⟨wr.heap.size, 2, none⟩ = some (.string x.s) ∧ w'.cell? (a2.add k) = some (.int .i64 z) ∧ Below W.heap.size W.drew w') (first | exact hk1 | exact hS0)
          (first | (go_at_call 66; (with_reducible refine (isOf_x x z _).mono ?_); rintro e1 w1 ⟨rfl, b1⟩; have hk1 := HK.out _ _ hS0.2.2.2.2 b1))
        all_goals
          have HB1 := Lib.hid (HBW.out.trans ((drewB hk1.2.2.2.2).mono HBW.out.size))
          clear hk1 hS0
          cases hf : fitV z x with
          | false =>
            have Hr : Hid (fitR ks r = false) := Lib.hid (by rw [Hz.out, hf]; rfl)
            clear hf
            go_wp2
            go_ret
            exact ⟨by rw [Hr.out]; rfl, HB1.out⟩
          | true =>
            have Hr : Hid (fitR ks r = ((List.zipWith fitV ks r).drop (k + 1)).all id) := Lib.hid (by rw [Hz.out, hf]; rfl)
            clear hf
            go_wp2
            go_roundw
            case rel => exact ⟨k + 1, by omega, by go_num, Hr.out, HB1.out⟩
            case measure => simp [intOf]; omega
      · have hlt' : ¬ (k : Int) < (r.length : Int) := by omega
        have Hr : Hid (fitR ks r = true) := Lib.hid (by
          rw [hR2, List.drop_of_length_le (by rw [List.length_zipWith]; omega)]; rfl)
        clear hR2
        go_wp2
        go_ret
        exact ⟨by rw [Hr.out]; rfl, hB⟩
  · have hne : ((r.length : Int) != (ks.length : Int)) = true := by simp; omega
    have hR : fitR ks r = false := by unfold fitR; rw [decide_eq_false hl]; rfl
    go_enter Tryz.func35, Tryz.ntmps35
    go_wp2
    go_ret
    exact ⟨by rw [hR]; rfl, HB0.out⟩

/-! ### Texts -/
structure TabE (w : World) : Prop where
  tab : Lib.TabIs Tryz.prog w "internal/strconv.uint64pow10" .u64 Lib.pow10Tab
  size : 9 ≤ w.heap.size
theorem gPow : Tryz.prog.globalNamed "internal/strconv.uint64pow10" = some 4 := by kernel_rfl
theorem TabE.belowB {w w' : World} {B : Nat} (h : TabE w) (hB : 9 ≤ B) (hb : Below B w w') : TabE w' := by
  refine ⟨?_, Nat.le_trans h.size hb.size⟩
  have ht := h.tab
  have he := hb.block 4 (by omega)
  unfold Lib.TabIs World.var? at ht ⊢
  simp only [gPow, Option.bind_some, he] at ht ⊢
  exact ht
theorem TabE.below {w w' : World} (h : TabE w) (hb : Below w.heap.size w w') : TabE w' := h.belowB h.size hb
set_option maxRecDepth 100000 in
set_option maxHeartbeats 4000000 in
theorem textOf_c (x : Vl) (w : World) (hI : I64 x.n) (hs : x.s.size ≤ 1073741824) (E : TabE w) :
    Calls Tryz.prog 68 #[.agg #[.bool x.sym, .int .i64 x.n, .string x.s]] w fun e w' => e = .returned (.string ⟨(textV x).toArray⟩) ∧ Below w.heap.size w w' := by
  obtain ⟨sy, n, s⟩ := x
  have hr := rowNew w 51 [.bool sy, .int .i64 n, .string s]
  have h0 := row_cells hr 0
  have h1 := row_cells hr 1
  have h2 := row_cells hr 2
  simp at h0 h1 h2
  have HB := Lib.hid (alB w (.cells #[.bool sy, .int .i64 n, .string s] 51))
  have HQ := Lib.hid (fun W => quote_c s hs W)
  have HN := Lib.hid (num_c n hI.1 hI.2 _ (E.below HB.out).tab)
  clear hr hs hI E
  cases sy with
  | true =>
    go_enter Tryz.func68, Tryz.ntmps68
    go_wp2_with fail
    refine (HQ.out _).mono ?_
    rintro e w1 ⟨rfl, b1⟩
    go_wp2
    go_ret
    exact ⟨rfl, HB.out.trans (b1.mono HB.out.size)⟩
  | false =>
    go_enter Tryz.func68, Tryz.ntmps68
    go_wp2_with fail
    refine HN.out.mono ?_
    rintro e w1 ⟨rfl, b1⟩
    go_wp2
    go_ret
    exact ⟨rfl, HB.out.trans (b1.mono HB.out.size)⟩
end Go.Proofs.YtfcfehflocglpabGreatDoor
namespace Go.Proofs.YtfcfehflocglpabGreatDoor
open Go.RowKit Go.Shelf

attribute [local go_sem] Oper.semAt_some

theorem byte_index (c : UInt8) : ∀ l : List UInt8, Lib.indexByte l c = Lib.index l [c]
  | [] => rfl
  | b :: l => by
    rw [Lib.indexByte, Lib.index, pre_one, byte_index c l]
    have : (b == c) = (c == b) := by rw [Bool.eq_iff_iff, beq_iff_eq, beq_iff_eq]; exact eq_comm
    rw [this]
/-- How long the first line is, with its end. -/
def sizeN (l : List UInt8) : Nat := if 0 ≤ Lib.index l [10] then (Lib.index l [10]).toNat + 1 else l.length
theorem sizeN_first {p : List UInt8} (q : List UInt8) (h : ∀ c ∈ p, c ≠ 10) : sizeN (p ++ 10 :: q) = p.length + 1 := by
  unfold sizeN
  rw [index_first q h, if_pos (by omega)]
  simp
theorem sizeN_none {p : List UInt8} (h : ∀ c ∈ p, c ≠ 10) : sizeN p = p.length := by
  unfold sizeN
  rw [index_none h]; rfl
theorem sizeN_le (l : List UInt8) : sizeN l ≤ l.length := by
  rcases cut_at 10 l with h | ⟨p, q, rfl, h⟩
  · rw [sizeN_none h]; exact Nat.le_refl _
  · rw [sizeN_first q h, List.length_append, List.length_cons]; omega
theorem sizeN_pos {l : List UInt8} (hl : l ≠ []) : 1 ≤ sizeN l := by
  rcases cut_at 10 l with h | ⟨p, q, rfl, h⟩
  · rw [sizeN_none h]; exact List.length_pos_iff.2 hl
  · rw [sizeN_first q h]; omega
set_option maxRecDepth 100000 in
theorem lineSize_c (s : ByteArray) (hs : s.size ≤ 1073741824) (w : World) :
    Calls Tryz.prog 79 #[.string s] w fun e w' => e = .returned (.int .i64 (sizeN s.data.toList : Nat)) ∧ w' = w := by
  have hI := byte_index 10 s.data.toList
  have hlen : s.data.toList.length = s.size := by simp
  by_cases hx : 0 ≤ Lib.index s.data.toList [10]
  · obtain ⟨m, hm⟩ : ∃ m : Nat, Lib.index s.data.toList [10] = (m : Int) := ⟨(Lib.index s.data.toList [10]).toNat, by omega⟩
    have hS : sizeN s.data.toList = m + 1 := by unfold sizeN; rw [if_pos hx, hm]; simp
    have hle := sizeN_le s.data.toList
    rw [hS, hlen] at hle
    have wm : IntKind.i64.wrap ((m : Int) + 1) = (m : Int) + 1 := by rw [IntKind.wrap_i64]; omega
    have HS := Lib.hid hS
    have hi : Lib.indexByte s.data.toList 10 = (m : Int) := hI.trans hm
    have HX := Lib.hid (Tryz.strings_Index_one s 10 w)
    rw [hi] at HX
    clear hx hm hS hle hI hi
    go_enter Tryz.func79, Tryz.ntmps79
    go_wp2_with fail
    refine HX.out.mono ?_
    rintro e w1 ⟨rfl, rfl⟩
    go_wp2
    go_ret
    exact ⟨by rw [HS.out]; rfl, rfl⟩
  · have hm : Lib.index s.data.toList [10] = -1 := by have := Lib.index_ge s.data.toList [10]; omega
    have hS : sizeN s.data.toList = s.size := by unfold sizeN; rw [if_neg hx, hlen]
    have HS := Lib.hid hS
    have HX := Lib.hid (Tryz.strings_Index_one s 10 w)
    rw [hI, hm] at HX
    clear hx hm hS hI
    go_enter Tryz.func79, Tryz.ntmps79
    go_wp2_with fail
    refine HX.out.mono ?_
    rintro e w1 ⟨rfl, rfl⟩
    go_wp2
    go_ret
    exact ⟨by rw [HS.out]; rfl, rfl⟩

/-! ### The iterator -/
abbrev Ln := Nat × ByteArray × ByteArray
def lnE (x : Ln) : Array Value := #[.agg #[.int .i64 (x.1 : Int), .string x.2.1]]
def LnG (B1 : Nat) (s : ByteArray) (_ : Ln) (W : World) : Prop := W.heap[B1]? = some (.cells #[.string s] 9 (0, 0))
def LnT (x : Ln) (W : World) (x' : Ln) (W' : World) : Prop := x'.1 = x.1 + 1 ∧ x.2.2.data.toList ≠ [] ∧ x'.2.1.data.toList = x.2.2.data.toList.take (sizeN x.2.2.data.toList) ∧ x'.2.2.data.toList = x.2.2.data.toList.drop (sizeN x.2.2.data.toList) ∧ Below W.heap.size W W'
def LnZ (x : Ln) (W W' : World) : Prop := x.2.2.data.toList = [] ∧ Below W.heap.size W W'
theorem eachLine_in (n : Nat) (s : ByteArray) (w : World) :
    CallsIn Fence.wide n Tryz.prog 48 #[.string s] w fun e w' => e = .returned (.func (.func 78) #[] #[.pointer (some ⟨w.heap.size, 0, none⟩)]) ∧ w' = w.alloc (.cells #[.string s] 9) := by
  refine callsIn_of_wp Tryz.func48 rfl trivial ?_ rfl
  simp only [Tryz.ntmps48, List.size_toArray, List.length_cons, List.length_nil, Nat.reduceAdd, Nat.reduceSub, Array.replicate_succ, Array.replicate_zero, List.push_toArray, List.append_toArray, List.nil_append, List.cons_append]
  gi_wp2
  go_ret
  exact ⟨rfl, rfl⟩
def strSz : Value → Nat
  | .string b => b.size
  | _ => 0
theorem str_empty {b : ByteArray} (h : b.data.toList = []) : b = ⟨#[]⟩ := by
  obtain ⟨⟨l⟩⟩ := b
  simp only at h
  rw [h]
set_option linter.unusedSimpArgs false in
set_option maxRecDepth 100000 in
set_option maxHeartbeats 4000000 in
theorem eachLine_moves (n : Nat) (hn : 1 ≤ n) (B1 : Nat) (s : ByteArray) (hs : s.size ≤ 1073741824) :
    Moves2 Fence.wide n Tryz.prog 78 (fun l => #[] ++ #[.func (.yield l) #[] #[]] ++ #[.pointer (some ⟨B1, 0, none⟩)]) lnE (LnG B1 s) LnT LnZ (0, ⟨#[]⟩, s) := by
  intro lp A B X Z W hY hB h0
  have HY := Lib.hid hY
  have HB := Lib.hid hB
  have HB0 := Lib.hid h0
  have hr0 := (hB _ W h0).1
  unfold LnG at hr0
  have c1 : W.cell? ⟨B1, 0, none⟩ = some (.string s) := (row_cell hr0 0).1
  clear hY hB hr0 h0
  simp only [List.append_toArray, List.cons_append, List.nil_append, List.append_nil]
  refine callsIn_of_wp Tryz.func78 rfl trivial ?_ rfl
  simp only [Tryz.ntmps78, List.size_toArray, List.length_cons, List.length_nil, Nat.reduceAdd, Nat.reduceSub, Array.replicate_succ, Array.replicate_zero, List.push_toArray, List.append_toArray, List.nil_append, List.cons_append]
  gi_wp2
  gi_loopw [3, 4] (fun r i wr => ∃ (x : Ln), r = .string x.2.2 ∧ i = .int .i64 ((x.1 + 1 : Nat) : Int) ∧ x.1 + x.2.2.size ≤ s.size ∧ B x wr) (fun r _ _ => strSz r)
  case atStart => exact ⟨_, rfl, rfl, by simp, HB0.out⟩
  case round =>
    obtain ⟨x, rfl, rfl, hx1, hBx⟩ := hrel
    obtain ⟨_, hT, hE⟩ := HB.out x wr hBx
    obtain ⟨num, ln, rest⟩ := x
    simp only at hx1
    by_cases hne : rest.data.toList = []
    · have hre := str_empty hne
      have HZ := Lib.hid (hE wr ⟨hne, Below.refl _ _⟩)
      subst hre
      clear hT hE hBx hne
      gi_wp2
      go_end0
      exact ⟨⟨_, rfl⟩, .inr HZ.out⟩
    · have hq1 : (rest.toList == ([] : List UInt8)) = false := by rw [Lib.toList_data]; exact beq_eq_false_iff_ne.2 hne
      have hq2 : (!rest.toList == ([] : List UInt8)) = true := by rw [hq1]; rfl
      have hlen : rest.data.toList.length = rest.size := by simp
      obtain ⟨m, hm⟩ : ∃ m, sizeN rest.data.toList = m := ⟨_, rfl⟩
      have hm1 : m ≤ rest.size := by rw [← hm, ← hlen]; exact sizeN_le _
      have hm0 : 1 ≤ m := by rw [← hm]; exact sizeN_pos hne
      have hm2 : (m : Int) ≤ (rest.size : Int) := by omega
      have hm3 : (0 : Int) ≤ (m : Int) := by omega
      have e1 : (rest.extract 0 m).data.toList = rest.data.toList.take m := by rw [Lib.extract_data]; simp
      have e2 : (rest.extract m rest.size).data.toList = rest.data.toList.drop m := by rw [Lib.extract_data, List.take_of_length_le (by simp)]
      have e3 : (rest.extract m rest.size).size = rest.size - m := by rw [ByteArray.size_extract]; omega
      have hA := hT (num + 1, rest.extract 0 m, rest.extract m rest.size) wr ⟨rfl, hne, by rw [hm]; exact e1, by rw [hm]; exact e2, Below.refl _ _⟩
      obtain ⟨fn, tmps, assign, body, hyl, hR⟩ := HY.out _ _ hA
      simp only [lnE, show ((num + 1 : Nat) : Int) = (num : Int) + 1 by omega] at hyl
      have wk : IntKind.i64.wrap ((num : Int) + 1 + 1) = (num : Int) + 1 + 1 := by rw [IntKind.wrap_i64]; omega
      have HS := Lib.hid (lineSize_c rest (by omega) wr)
      rw [hm] at HS
      have He3 := Lib.hid e3
      clear hT hE hBx hne e1 e2 e3 hA hm hlen
      gi_wp2_with fail
      refine ⟨trivial, (callsIn_wide.2 HS.out).mono ?_⟩
      rintro e w1 ⟨rfl, rfl⟩
      gi_wp2_with fail
      refine hR.mono ?_
      rintro e W1 (⟨rfl, hB1⟩ | ⟨rfl, hX1⟩)
      · have HB1 := Lib.hid hB1
        clear hR hB1 hyl
        gi_wp2
        go_roundw
        case rel => exact ⟨_, rfl, rfl, by show num + 1 + _ ≤ _; rw [He3.out]; omega, HB1.out⟩
        case measure => simp [strSz]; omega
      · have HX := Lib.hid hX1
        clear hR hX1 hyl
        gi_wp2
        refine bodyPost_ret (results_none rfl _ _ _) rfl ?_
        exact ⟨⟨_, rfl⟩, .inl HX.out⟩
end Go.Proofs.YtfcfehflocglpabGreatDoor
namespace Go.Proofs.YtfcfehflocglpabGreatDoor
open Go.RowKit

def errL (n e : Int) : Value := .iface 67 (.agg #[.int .i64 n, .int .i64 e])
set_option maxRecDepth 100000 in
theorem fail_c (n e : Int) (s : ByteArray) (w : World) :
    Calls Tryz.prog 51 #[.agg #[.int .i64 n, .string s], .int .i64 e] w fun r w' => r = .returned (errL n e) ∧ Below w.heap.size w w' := by
  have hr := rowNew w 98 [.int .i64 n, .string s]
  have h0 := row_cells hr 0
  have h1 := row_cells hr 1
  simp at h0 h1
  have HB := Lib.hid (alB w (.cells #[.int .i64 n, .string s] 98))
  clear hr
  go_enter Tryz.func51, Tryz.ntmps51
  go_wp2
  go_ret
  exact ⟨rfl, HB.out⟩

/-! ### A value -/
def valV (k : Int) : Option Vl → Value
  | some x => .tuple #[.agg #[.bool x.sym, .int .i64 x.n, .string x.s], .int .i64 0]
  | none => .tuple #[.agg #[.bool false, .int .i64 0, .string ⟨#[]⟩], .int .i64 (badE k)]
set_option maxRecDepth 100000 in
set_option maxHeartbeats 4000000 in
theorem value_c (t : ByteArray) (k : Int) (a : Addr) (w : World) (hs : t.size ≤ 1073741824) (E : Env a w) :
    Calls Tryz.prog 50 #[.string t, .int .i64 k] w fun e w' => e = .returned (valV k (valQ k t.data.toList)) ∧ Below w.heap.size w w' := by
  have hr := rowNew w 51 [.bool false, .int .i64 0, .string ⟨#[]⟩]
  obtain ⟨W, hW⟩ : ∃ W, w.alloc (.cells #[.bool false, .int .i64 0, .string ⟨#[]⟩] 51) = W := ⟨_, rfl⟩
  have hb : Below w.heap.size w W := by rw [← hW]; exact alB _ _
  have hr1 : W.heap[w.heap.size]? = some (.cells #[.bool false, .int .i64 0, .string ⟨#[]⟩] 51 (0, 0)) := by rw [← hW]; exact hr
  have HR := Lib.hid hr1
  have HB := Lib.hid hb
  have hEW := E.below hb
  have HP := Lib.hid (parse_c t a W (by unfold maxLen; omega) hEW)
  have HU := Lib.hid (unquote_c t a W hs hEW)
  clear hr hb E hEW hr1
  have hfix : ∀ (w1 : World), Below W.heap.size W w1 → w1.heap[w.heap.size]? = some (.cells #[.bool false, .int .i64 0, .string ⟨#[]⟩] 51 (0, 0)) := fun w1 b => (b.block _ (heap_lt HR.out)).trans HR.out
  have HF := Lib.hid hfix
  clear hfix
  by_cases hk : k = 1
  · subst hk
    cases hn : numL t.data.toList with
    | none =>
      have Hq : Hid (valQ 1 t.data.toList = none) := Lib.hid (by unfold valQ; rw [if_pos rfl, hn]; rfl)
      rw [hn] at HP
      clear hn
      go_enter Tryz.func50, Tryz.ntmps50
      go_wp2_with fail
      (try rw [hW])
      refine HP.out.mono ?_
      rintro e w1 ⟨rfl, b1⟩
      simp only [parseV]
      have r1 := HF.out w1 b1
      obtain ⟨c0, c1, c2, f0, f1, f2⟩ : w1.cell? ⟨w.heap.size, 0, none⟩ = some (.bool false) ∧ w1.cell? ⟨w.heap.size, 1, none⟩ = some (.int .i64 0) ∧ w1.cell? ⟨w.heap.size, 2, none⟩ = some (.string ⟨#[]⟩) ∧ w1.frozen? ⟨w.heap.size, 0, none⟩ = false ∧ w1.frozen? ⟨w.heap.size, 1, none⟩ = false ∧ w1.frozen? ⟨w.heap.size, 2, none⟩ = false := ⟨row_cells r1 0, row_cells r1 1, row_cells r1 2, frz_row r1 0, frz_row r1 1, frz_row r1 2⟩
      have hz := heap_lt r1
      have HB1 := Lib.hid (HB.out.trans (b1.mono HB.out.size))
      clear b1
      have r3 := set3 r1 (.bool false) (.int .i64 0) (.string ⟨#[]⟩)
      have HB3 := Lib.hid (set3B HB1.out (Nat.le_refl _) (.bool false) (.int .i64 0) (.string ⟨#[]⟩))
      obtain ⟨x0, x1, x2⟩ : (((w1.setCell ⟨w.heap.size, 0, none⟩ (.bool false)).setCell ⟨w.heap.size, 1, none⟩ (.int .i64 0)).setCell ⟨w.heap.size, 2, none⟩ (.string ⟨#[]⟩)).cell? ⟨w.heap.size, 0, none⟩ = some (.bool false) ∧ (((w1.setCell ⟨w.heap.size, 0, none⟩ (.bool false)).setCell ⟨w.heap.size, 1, none⟩ (.int .i64 0)).setCell ⟨w.heap.size, 2, none⟩ (.string ⟨#[]⟩)).cell? ⟨w.heap.size, 1, none⟩ = some (.int .i64 0) ∧ (((w1.setCell ⟨w.heap.size, 0, none⟩ (.bool false)).setCell ⟨w.heap.size, 1, none⟩ (.int .i64 0)).setCell ⟨w.heap.size, 2, none⟩ (.string ⟨#[]⟩)).cell? ⟨w.heap.size, 2, none⟩ = some (.string ⟨#[]⟩) := ⟨row_cells r3 0, row_cells r3 1, row_cells r3 2⟩
      clear r3
      go_wp2
      refine bodyPost_ret (v := .tuple #[.agg #[.bool false, .int .i64 0, .string ⟨#[]⟩], .int .i64 95]) (by simp [results, Tryz.results50, go_sem, x0, x1, x2]) rfl ?_
      exact ⟨by first | (rw [Hq.out]; rfl) | rw [Hq.out], HB3.out⟩
    | some n =>
      have Hq : Hid (valQ 1 t.data.toList = some ⟨false, n, ⟨#[]⟩⟩) := Lib.hid (by unfold valQ; rw [if_pos rfl, hn]; rfl)
      rw [hn] at HP
      clear hn
      go_enter Tryz.func50, Tryz.ntmps50
      go_wp2_with fail
      (try rw [hW])
      refine HP.out.mono ?_
      rintro e w0 ⟨rfl, b0⟩
      simp only [parseV]
      have B0 := Lib.hid b0
      clear b0
      go_wp2_with fail
      refine (fnumber_c n w0).mono ?_
      rintro e w1 ⟨rfl, b1'⟩
      have b1 := B0.out.trans (b1'.mono B0.out.size)
      have r1 := HF.out w1 b1
      obtain ⟨c0, c1, c2, f0, f1, f2⟩ : w1.cell? ⟨w.heap.size, 0, none⟩ = some (.bool false) ∧ w1.cell? ⟨w.heap.size, 1, none⟩ = some (.int .i64 0) ∧ w1.cell? ⟨w.heap.size, 2, none⟩ = some (.string ⟨#[]⟩) ∧ w1.frozen? ⟨w.heap.size, 0, none⟩ = false ∧ w1.frozen? ⟨w.heap.size, 1, none⟩ = false ∧ w1.frozen? ⟨w.heap.size, 2, none⟩ = false := ⟨row_cells r1 0, row_cells r1 1, row_cells r1 2, frz_row r1 0, frz_row r1 1, frz_row r1 2⟩
      have hz := heap_lt r1
      have HB1 := Lib.hid (HB.out.trans (b1.mono HB.out.size))
      clear b1 b1'
      have r3 := set3 r1 (.bool false) (.int .i64 n) (.string ⟨#[]⟩)
      have HB3 := Lib.hid (set3B HB1.out (Nat.le_refl _) (.bool false) (.int .i64 n) (.string ⟨#[]⟩))
      obtain ⟨x0, x1, x2⟩ : (((w1.setCell ⟨w.heap.size, 0, none⟩ (.bool false)).setCell ⟨w.heap.size, 1, none⟩ (.int .i64 n)).setCell ⟨w.heap.size, 2, none⟩ (.string ⟨#[]⟩)).cell? ⟨w.heap.size, 0, none⟩ = some (.bool false) ∧ (((w1.setCell ⟨w.heap.size, 0, none⟩ (.bool false)).setCell ⟨w.heap.size, 1, none⟩ (.int .i64 n)).setCell ⟨w.heap.size, 2, none⟩ (.string ⟨#[]⟩)).cell? ⟨w.heap.size, 1, none⟩ = some (.int .i64 n) ∧ (((w1.setCell ⟨w.heap.size, 0, none⟩ (.bool false)).setCell ⟨w.heap.size, 1, none⟩ (.int .i64 n)).setCell ⟨w.heap.size, 2, none⟩ (.string ⟨#[]⟩)).cell? ⟨w.heap.size, 2, none⟩ = some (.string ⟨#[]⟩) := ⟨row_cells r3 0, row_cells r3 1, row_cells r3 2⟩
      clear r3
      go_wp2
      refine bodyPost_ret (v := .tuple #[.agg #[.bool false, .int .i64 n, .string ⟨#[]⟩], .int .i64 0]) (by simp [results, Tryz.results50, go_sem, x0, x1, x2]) rfl ?_
      exact ⟨by first | (rw [Hq.out]; rfl) | rw [Hq.out], HB3.out⟩
  · have hk' : (k == 1) = false := by simpa using hk
    have Hbe : Hid (badE k = 96) := Lib.hid (by unfold badE; rw [if_neg hk])
    cases hn : unqL t.data.toList with
    | none =>
      have Hq : Hid (valV k (valQ k t.data.toList) = .tuple #[.agg #[.bool false, .int .i64 0, .string ⟨#[]⟩], .int .i64 96]) := Lib.hid (by unfold valQ; rw [if_neg hk, hn]; show Value.tuple #[_, .int .i64 (badE k)] = _; rw [Hbe.out])
      rw [hn] at HU
      clear hn
      go_enter Tryz.func50, Tryz.ntmps50
      go_wp2_with fail
      (try rw [hW])
      refine HU.out.mono ?_
      rintro e w1 ⟨rfl, b1⟩
      simp only [unqV]
      have r1 := HF.out w1 b1
      obtain ⟨c0, c1, c2, f0, f1, f2⟩ : w1.cell? ⟨w.heap.size, 0, none⟩ = some (.bool false) ∧ w1.cell? ⟨w.heap.size, 1, none⟩ = some (.int .i64 0) ∧ w1.cell? ⟨w.heap.size, 2, none⟩ = some (.string ⟨#[]⟩) ∧ w1.frozen? ⟨w.heap.size, 0, none⟩ = false ∧ w1.frozen? ⟨w.heap.size, 1, none⟩ = false ∧ w1.frozen? ⟨w.heap.size, 2, none⟩ = false := ⟨row_cells r1 0, row_cells r1 1, row_cells r1 2, frz_row r1 0, frz_row r1 1, frz_row r1 2⟩
      have hz := heap_lt r1
      have HB1 := Lib.hid (HB.out.trans (b1.mono HB.out.size))
      clear b1
      have r3 := set3 r1 (.bool false) (.int .i64 0) (.string ⟨#[]⟩)
      have HB3 := Lib.hid (set3B HB1.out (Nat.le_refl _) (.bool false) (.int .i64 0) (.string ⟨#[]⟩))
      obtain ⟨x0, x1, x2⟩ : (((w1.setCell ⟨w.heap.size, 0, none⟩ (.bool false)).setCell ⟨w.heap.size, 1, none⟩ (.int .i64 0)).setCell ⟨w.heap.size, 2, none⟩ (.string ⟨#[]⟩)).cell? ⟨w.heap.size, 0, none⟩ = some (.bool false) ∧ (((w1.setCell ⟨w.heap.size, 0, none⟩ (.bool false)).setCell ⟨w.heap.size, 1, none⟩ (.int .i64 0)).setCell ⟨w.heap.size, 2, none⟩ (.string ⟨#[]⟩)).cell? ⟨w.heap.size, 1, none⟩ = some (.int .i64 0) ∧ (((w1.setCell ⟨w.heap.size, 0, none⟩ (.bool false)).setCell ⟨w.heap.size, 1, none⟩ (.int .i64 0)).setCell ⟨w.heap.size, 2, none⟩ (.string ⟨#[]⟩)).cell? ⟨w.heap.size, 2, none⟩ = some (.string ⟨#[]⟩) := ⟨row_cells r3 0, row_cells r3 1, row_cells r3 2⟩
      clear r3
      go_wp2
      refine bodyPost_ret (v := .tuple #[.agg #[.bool false, .int .i64 0, .string ⟨#[]⟩], .int .i64 96]) (by simp [results, Tryz.results50, go_sem, x0, x1, x2]) rfl ?_
      exact ⟨by first | (rw [Hq.out]; rfl) | rw [Hq.out], HB3.out⟩
    | some l =>
      have Hq : Hid (valQ k t.data.toList = some ⟨true, 0, ⟨l.toArray⟩⟩) := Lib.hid (by unfold valQ; rw [if_neg hk, hn]; rfl)
      rw [hn] at HU
      clear hn
      go_enter Tryz.func50, Tryz.ntmps50
      go_wp2_with fail
      (try rw [hW])
      refine HU.out.mono ?_
      rintro e w0 ⟨rfl, b0⟩
      simp only [unqV]
      have B0 := Lib.hid b0
      clear b0
      go_wp2_with fail
      refine (fsymbol_c ⟨l.toArray⟩ w0).mono ?_
      rintro e w1 ⟨rfl, b1'⟩
      have b1 := B0.out.trans (b1'.mono B0.out.size)
      have r1 := HF.out w1 b1
      obtain ⟨c0, c1, c2, f0, f1, f2⟩ : w1.cell? ⟨w.heap.size, 0, none⟩ = some (.bool false) ∧ w1.cell? ⟨w.heap.size, 1, none⟩ = some (.int .i64 0) ∧ w1.cell? ⟨w.heap.size, 2, none⟩ = some (.string ⟨#[]⟩) ∧ w1.frozen? ⟨w.heap.size, 0, none⟩ = false ∧ w1.frozen? ⟨w.heap.size, 1, none⟩ = false ∧ w1.frozen? ⟨w.heap.size, 2, none⟩ = false := ⟨row_cells r1 0, row_cells r1 1, row_cells r1 2, frz_row r1 0, frz_row r1 1, frz_row r1 2⟩
      have hz := heap_lt r1
      have HB1 := Lib.hid (HB.out.trans (b1.mono HB.out.size))
      clear b1 b1'
      have r3 := set3 r1 (.bool true) (.int .i64 0) (.string ⟨l.toArray⟩)
      have HB3 := Lib.hid (set3B HB1.out (Nat.le_refl _) (.bool true) (.int .i64 0) (.string ⟨l.toArray⟩))
      obtain ⟨x0, x1, x2⟩ : (((w1.setCell ⟨w.heap.size, 0, none⟩ (.bool true)).setCell ⟨w.heap.size, 1, none⟩ (.int .i64 0)).setCell ⟨w.heap.size, 2, none⟩ (.string ⟨l.toArray⟩)).cell? ⟨w.heap.size, 0, none⟩ = some (.bool true) ∧ (((w1.setCell ⟨w.heap.size, 0, none⟩ (.bool true)).setCell ⟨w.heap.size, 1, none⟩ (.int .i64 0)).setCell ⟨w.heap.size, 2, none⟩ (.string ⟨l.toArray⟩)).cell? ⟨w.heap.size, 1, none⟩ = some (.int .i64 0) ∧ (((w1.setCell ⟨w.heap.size, 0, none⟩ (.bool true)).setCell ⟨w.heap.size, 1, none⟩ (.int .i64 0)).setCell ⟨w.heap.size, 2, none⟩ (.string ⟨l.toArray⟩)).cell? ⟨w.heap.size, 2, none⟩ = some (.string ⟨l.toArray⟩) := ⟨row_cells r3 0, row_cells r3 1, row_cells r3 2⟩
      clear r3
      go_wp2
      refine bodyPost_ret (v := .tuple #[.agg #[.bool true, .int .i64 0, .string ⟨l.toArray⟩], .int .i64 0]) (by simp [results, Tryz.results50, go_sem, x0, x1, x2]) rfl ?_
      exact ⟨by first | (rw [Hq.out]; rfl) | rw [Hq.out], HB3.out⟩
end Go.Proofs.YtfcfehflocglpabGreatDoor

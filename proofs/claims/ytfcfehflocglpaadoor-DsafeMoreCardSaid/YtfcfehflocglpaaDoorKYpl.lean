/- soritesref05.SameInts, place, Place; soriteslaw05.typed; a row of one's own as a slice. What the reference of dtype comes to, as plain functions. -/
import Derived.Test.YtfcfehflocglpaaDoorKYvars
import Derived.BigQuiet
import Derived.Deep.QuietTactic
namespace Go.Proofs.YtfcfehflocglpaaDoor
open Go.RowKit

/-- A row of cells, one to an element, as a slice. -/
theorem sl_row {α : Type} {w : World} {base : Nat} {T : TypeId} {v : Value} {l : List α} {f : α → Value} {R : α → List Value → Prop} (h : w.ownsRow base T 1 v l.length (l.map f)) (hR : ∀ x ∈ l, R x [f x]) : SlOf w w.heap.size 1 R l v := by
  rcases h.2 with ⟨rfl, h0⟩ | ⟨g, cap, cur, hv, hb, hg, hn, hc, hcur, ht⟩
  · exact .inl ⟨rfl, List.eq_nil_of_length_eq_zero h0⟩
  · refine .inr ⟨⟨g, 0, none⟩, cap, hv, hn, hc, fun _ => (Array.getElem?_eq_some_iff.1 hg).1, fun i x hx => ⟨[f x], rfl, hR x (List.mem_of_getElem? hx), fun j c hj => ?_⟩⟩
    have h1 := h.cells (g := g) (by rw [hv]; rfl) i (f x) (by simp [hx])
    cases j with
    | zero =>
      have e : f x = c := by simpa using hj
      subst e
      simpa using h1
    | succ j => simp at hj
theorem drop_int {l : List Int} {k : Nat} {t : Int} (h : l[k]? = some t) : l.drop k = t :: l.drop (k + 1) := by
  rw [List.drop_eq_getElem_cons (List.getElem?_eq_some_iff.1 h).1, (List.getElem?_eq_some_iff.1 h).2]
set_option maxRecDepth 100000 in
set_option maxHeartbeats 4000000 in
theorem sameInts_c (l m : List Int) (v u : Value) (w : World) (h1 : SlOf w w.heap.size 1 IntC l v) (h2 : SlOf w w.heap.size 1 IntC m u) :
    Calls Tryd.prog 20 #[v, u] w fun e w' => e = .returned (.bool (decide (l = m))) ∧ Below w.heap.size w w' := by
  obtain ⟨o1, k1, rfl, _, _, S1⟩ := SlOf.open h1
  obtain ⟨o2, k2, rfl, _, _, S2⟩ := SlOf.open h2
  have HB0 : Hid (Below w.heap.size w w) := Lib.hid (Below.refl _ _)
  clear h1 h2
  by_cases hl : l.length = m.length
  · have hl' : ((l.length : Int) != (m.length : Int)) = false := by simp [hl]
    have Hl := Lib.hid hl
    clear hl
    go_enter Tryd.func20, Tryd.ntmps20
    go_wp2
    go_loopw [5] (fun i wr => ∃ k : Nat, k ≤ l.length ∧ i = .int .i64 k ∧ (l = m ↔ l.drop k = m.drop k) ∧ Below w.heap.size w wr) (fun i _ => l.length - (intOf i).toNat)
    case atStart => exact ⟨0, Nat.zero_le _, rfl, by simp, HB0.out⟩
    case round =>
      obtain ⟨k, hk, rfl, hr, hB⟩ := hrel
      have Hr := Lib.hid hr
      clear hr
      by_cases hlt : k < l.length
      · have hlt' : (k : Int) < (l.length : Int) := by omega
        have hlm : k < m.length := by have := Hl.out; omega
        have hlm' : (k : Int) < (m.length : Int) := by omega
        obtain ⟨x, hx⟩ : ∃ x, l[k]? = some x := ⟨l[k], List.getElem?_eq_getElem hlt⟩
        obtain ⟨y, hy⟩ : ∃ y, m[k]? = some y := ⟨m[k], List.getElem?_eq_getElem hlm⟩
        obtain ⟨a, rfl, ha, _, c0⟩ := int_at S1 hB hx
        obtain ⟨b, rfl, hb, _, d0⟩ := int_at S2 hB hy
        have Hst : Hid (l.drop k = m.drop k ↔ x = y ∧ l.drop (k + 1) = m.drop (k + 1)) := Lib.hid (by rw [drop_int hx, drop_int hy]; simp)
        clear hx hy
        have g1 : decide (0 ≤ (k : Int)) = true := by simp
        have g2 : decide ((k : Int) < (l.length : Int)) = true := by simpa using hlt
        have g3 : decide ((k : Int) < (m.length : Int)) = true := by simpa using hlm
        cases hxy : (x != y) with
        | true =>
          have Hz : Hid (¬ l = m) := Lib.hid fun e => by
            have := (Hst.out.1 (Hr.out.1 e)).1
            simp [this] at hxy
          go_wp2_with fail
          go_quiet (fail)
          go_wp2
          go_ret
          exact ⟨by rw [decide_eq_false Hz.out]; rfl, below_drewN hB⟩
        | false =>
          have Hz : Hid (l = m ↔ l.drop (k + 1) = m.drop (k + 1)) := Lib.hid (Hr.out.trans (Hst.out.trans ⟨fun h => h.2, fun h => ⟨by simpa using hxy, h⟩⟩))
          go_wp2_with fail
          go_quiet (fail)
          go_wp2
          go_roundw
          case rel => exact ⟨k + 1, by omega, by go_num, Hz.out, below_drewN hB⟩
          case measure => simp [intOf]; omega
      · have hlt' : ¬ (k : Int) < (l.length : Int) := by omega
        have Hz : Hid (l = m) := Lib.hid (Hr.out.2 (by have := Hl.out; rw [List.drop_of_length_le (by omega), List.drop_of_length_le (by omega)]))
        go_wp2
        go_ret
        exact ⟨by rw [decide_eq_true Hz.out]; rfl, hB⟩
  · have hl' : ((l.length : Int) != (m.length : Int)) = true := by simp; omega
    have Hz : Hid (¬ l = m) := Lib.hid fun e => hl (by rw [e])
    clear hl
    go_enter Tryd.func20, Tryd.ntmps20
    go_wp2
    go_ret
    exact ⟨by rw [decide_eq_false Hz.out]; rfl, HB0.out⟩

theorem place_drop (l : List ByteArray) (s : ByteArray) (k : Nat) : (∀ x ∈ l.take k, (x.toList == s.toList) = false) → (∀ x, l[k]? = some x → (x.toList == s.toList) = true → placeV l s = k) := by
  intro h x hx hs
  unfold placeV
  have : l.findIdx? (fun x => x.toList == s.toList) = some k := by
    rw [List.findIdx?_eq_some_iff_getElem]
    obtain ⟨hk, e⟩ := List.getElem?_eq_some_iff.1 hx
    refine ⟨hk, by rw [e]; exact hs, fun j hj => ?_⟩
    have := h l[j] (List.mem_take_iff_getElem.2 ⟨j, by omega, rfl⟩)
    simpa using this
  rw [this]
theorem place_none (l : List ByteArray) (s : ByteArray) (h : ∀ x ∈ l, (x.toList == s.toList) = false) : placeV l s = -1 := by
  unfold placeV
  have : l.findIdx? (fun x => x.toList == s.toList) = none := by
    rw [List.findIdx?_eq_none_iff]
    exact fun x hx => by rw [h x hx]
  rw [this]
theorem place_lo (l : List ByteArray) (s : ByteArray) : -1 ≤ placeV l s ∧ placeV l s < l.length := by
  unfold placeV
  split
  · exact ⟨Int.le_refl _, by omega⟩
  · rename_i i h
    obtain ⟨hk, _⟩ := List.findIdx?_eq_some_iff_getElem.1 h
    exact ⟨by omega, by omega⟩
set_option maxRecDepth 100000 in
set_option maxHeartbeats 4000000 in
theorem place1_c (l : List ByteArray) (v : Value) (s : ByteArray) (w : World) (h1 : SlOf w w.heap.size 1 StrC l v) :
    Calls Tryd.prog 58 #[v, .string s] w fun e w' => e = .returned (.int .i64 (placeV l s)) ∧ Below w.heap.size w w' := by
  obtain ⟨o1, k1, rfl, _, _, S1⟩ := SlOf.open h1
  have HB0 : Hid (Below w.heap.size w w) := Lib.hid (Below.refl _ _)
  clear h1
  go_enter Tryd.func58, Tryd.ntmps58
  go_wp2
  go_loopw [5] (fun i wr => ∃ k : Nat, k ≤ l.length ∧ i = .int .i64 k ∧ (∀ x ∈ l.take k, (x.toList == s.toList) = false) ∧ Below w.heap.size w wr) (fun i _ => l.length - (intOf i).toNat)
  case atStart => exact ⟨0, Nat.zero_le _, rfl, by simp, HB0.out⟩
  case round =>
    obtain ⟨k, hk, rfl, hr, hB⟩ := hrel
    have Hr := Lib.hid hr
    clear hr
    by_cases hlt : k < l.length
    · have hlt' : (k : Int) < (l.length : Int) := by omega
      obtain ⟨x, hx⟩ : ∃ x, l[k]? = some x := ⟨l[k], List.getElem?_eq_getElem hlt⟩
      obtain ⟨a, rfl, ha, _, c0⟩ := str_at S1 hB hx
      cases hxy : (x.toList == s.toList) with
      | true =>
        have Hz : Hid (placeV l s = k) := Lib.hid (place_drop l s k Hr.out x hx hxy)
        clear hx
        go_wp2
        go_ret
        exact ⟨by rw [Hz.out]; rfl, hB⟩
      | false =>
        have Hz : Hid (∀ x ∈ l.take (k + 1), (x.toList == s.toList) = false) := Lib.hid fun y hy => by
          rw [List.take_add_one, hx] at hy
          rcases List.mem_append.1 hy with hy | hy
          · exact Hr.out y hy
          · rw [show y = x by simpa using hy]; exact hxy
        clear hx
        go_wp2
        go_roundw
        case rel => exact ⟨k + 1, by omega, by go_num, Hz.out, hB⟩
        case measure => simp [intOf]; omega
    · have hlt' : ¬ (k : Int) < (l.length : Int) := by omega
      have Hz : Hid (placeV l s = -1) := Lib.hid (place_none l s fun x hx => Hr.out x (by rw [List.take_of_length_le (by omega)]; exact hx))
      go_wp2
      go_ret
      exact ⟨by rw [Hz.out]; rfl, hB⟩
set_option maxRecDepth 100000 in
theorem place_c (l : List ByteArray) (v : Value) (s : ByteArray) (w : World) (h1 : SlOf w w.heap.size 1 StrC l v) :
    Calls Tryd.prog 28 #[v, .string s] w fun e w' => e = .returned (.int .i64 (placeV l s)) ∧ Below w.heap.size w w' := by
  have HH := Lib.hid (place1_c l v s w h1)
  clear h1
  go_enter Tryd.func28, Tryd.ntmps28
  go_wp2_with fail
  refine HH.out.mono ?_
  rintro e w' ⟨rfl, b⟩
  go_wp2
  go_ret
  exact ⟨rfl, b⟩
set_option maxRecDepth 100000 in
set_option maxHeartbeats 4000000 in
theorem typed_c (l : List ByteArray) (m : List Int) (v u : Value) (s : ByteArray) (w : World) (h1 : SlOf w w.heap.size 1 StrC l v) (h2 : SlOf w w.heap.size 1 IntC m u) :
    Calls Tryd.prog 21 #[v, u, .string s] w fun e w' => e = .returned (.int .i64 (typedV l m s)) ∧ Below w.heap.size w w' := by
  have HH := Lib.hid (place_c l v s w h1)
  obtain ⟨o2, k2, rfl, _, _, S2⟩ := SlOf.open h2
  clear h1 h2
  have HB0 : Hid (Below w.heap.size w w) := Lib.hid (Below.refl _ _)
  obtain ⟨p, hp⟩ : ∃ p, placeV l s = p := ⟨_, rfl⟩
  have hlo := place_lo l s
  rw [hp] at HH hlo
  have Hv : Hid (typedV l m s = if p < 0 ∨ (m.length : Int) ≤ p then 0 else m.getD p.toNat 0) := Lib.hid (by unfold typedV; rw [hp])
  clear hp
  go_enter Tryd.func21, Tryd.ntmps21
  go_wp2_with fail
  refine HH.out.mono ?_
  rintro e w' ⟨rfl, b⟩
  by_cases h0 : p < 0
  · have Hz : Hid (typedV l m s = 0) := Lib.hid (by rw [Hv.out, if_pos (.inl h0)])
    go_wp2
    go_ret
    exact ⟨by rw [Hz.out]; rfl, b⟩
  · by_cases h3 : (m.length : Int) ≤ p
    · have Hz : Hid (typedV l m s = 0) := Lib.hid (by rw [Hv.out, if_pos (.inr h3)])
      go_wp2
      go_ret
      exact ⟨by rw [Hz.out]; rfl, b⟩
    · obtain ⟨k, rfl⟩ := Int.eq_ofNat_of_zero_le (show 0 ≤ p by omega)
      obtain ⟨x, hx⟩ : ∃ x, m[k]? = some x := ⟨m[k]'(by omega), List.getElem?_eq_getElem (by omega)⟩
      obtain ⟨a, rfl, ha, _, c0⟩ := int_at S2 b hx
      have Hz : Hid (typedV l m s = x) := Lib.hid (by rw [Hv.out, if_neg (by omega)]; simp [List.getD, hx])
      have hlt' : (k : Int) < (m.length : Int) := by omega
      clear hx
      go_wp2
      go_ret
      exact ⟨by rw [Hz.out]; rfl, b⟩
end Go.Proofs.YtfcfehflocglpaaDoor
namespace Go.Proofs.YtfcfehflocglpaaDoor

/-! ### The names: a list, and names of another that it has not -/
def withV (l : List ByteArray) : List ByteArray → List ByteArray
  | [] => l
  | s :: m => withV (if placeV l s < 0 then l ++ [s] else l) m
theorem place_neg {l : List ByteArray} {s : ByteArray} : placeV l s < 0 ↔ s ∉ l := by
  constructor
  · intro h hm
    obtain ⟨i, h1, _⟩ := place_mem hm
    omega
  · intro h
    unfold placeV
    have : l.findIdx? (fun x => x.toList == s.toList) = none := by
      rw [List.findIdx?_eq_none_iff]
      intro x hx
      by_cases e : x.toList = s.toList
      · rw [ByteArray.toList_eq, ByteArray.toList_eq] at e
        exact absurd (bytes_ext e ▸ hx) h
      · simpa using e
    rw [this]
    decide
theorem withV_snoc (l m : List ByteArray) (s : ByteArray) : withV l (m ++ [s]) = if placeV (withV l m) s < 0 then withV l m ++ [s] else withV l m := by
  induction m generalizing l with
  | nil => rfl
  | cons x m ih => exact ih _
theorem withV_take {l m : List ByteArray} {k : Nat} {s : ByteArray} (h : m[k]? = some s) : withV l (m.take (k + 1)) = if placeV (withV l (m.take k)) s < 0 then withV l (m.take k) ++ [s] else withV l (m.take k) := by
  rw [List.take_succ_eq_append_getElem (List.getElem?_eq_some_iff.1 h).1, (List.getElem?_eq_some_iff.1 h).2, withV_snoc]
theorem withV_mem (l m : List ByteArray) : ∀ s, s ∈ withV l m ↔ s ∈ l ∨ s ∈ m := by
  refine rev_ind (P := fun m => ∀ s, s ∈ withV l m ↔ s ∈ l ∨ s ∈ m) (fun s => by simp [withV]) (fun m x ih s => ?_) m
  rw [withV_snoc]
  split
  · rw [List.mem_append, ih, List.mem_append]
    exact or_assoc
  · rename_i h
    have hx : x ∈ withV l m := Classical.not_not.1 fun hn => h (place_neg.2 hn)
    rw [ih, List.mem_append]
    constructor
    · rintro (h | h)
      · exact .inl h
      · exact .inr (.inl h)
    · rintro (h' | h' | h')
      · exact .inl h'
      · exact .inr h'
      · rw [show s = x by simpa using h']; exact (ih x).1 hx
theorem withV_len (l m : List ByteArray) : (withV l m).length ≤ l.length + m.length := by
  induction m generalizing l with
  | nil => simp [withV]
  | cons s m ih =>
    have := ih (if placeV l s < 0 then l ++ [s] else l)
    show (withV (if placeV l s < 0 then l ++ [s] else l) m).length ≤ _
    split at this
    · rename_i h; rw [if_pos h]; simp at this ⊢; omega
    · rename_i h; rw [if_neg h]; simp at this ⊢; omega
theorem stepV_mem (ts : List Tm) (t : Tm) : stepV ts (varsV ts) t = if t.op = 1 then (if placeV (varsV ts) t.s < 0 then varsV ts ++ [t.s] else varsV ts) else varsV ts := by
  unfold stepV
  by_cases h1 : t.op = 1
  · rw [if_pos h1]
    have hc : cntV ts (nm t) = 0 ↔ t.s ∉ varsV ts := by
      rw [cntV_zero, mem_varsV]
      constructor
      · rintro h ⟨u, h2, h3, h4⟩
        exact h u h2 h3 (by unfold nm; rw [h4])
      · intro h u h2 h3 h4
        exact h ⟨u, h2, h3, bytes_ext h4⟩
    by_cases h2 : placeV (varsV ts) t.s < 0
    · rw [if_pos h2, if_pos ⟨h1, hc.2 (place_neg.1 h2)⟩]
    · rw [if_neg h2, if_neg (fun e => h2 (place_neg.2 (hc.1 e.2)))]
  · rw [if_neg h1, if_neg (fun e => h1 e.1)]
theorem varsV_app (a b : List Tm) : varsV (a ++ b) = withV (varsV a) (varsV b) := by
  refine rev_ind (P := fun b => varsV (a ++ b) = withV (varsV a) (varsV b)) (by rw [List.append_nil]; rfl) (fun b t ih => ?_) b
  rw [← List.append_assoc, varsV_snoc, varsV_snoc, stepV_mem, stepV_mem, ih]
  by_cases h1 : t.op = 1
  · rw [if_pos h1, if_pos h1]
    by_cases h2 : placeV (varsV b) t.s < 0
    · rw [if_pos h2, withV_snoc]
    · have hm : t.s ∈ varsV b := Classical.not_not.1 fun hn => h2 (place_neg.2 hn)
      rw [if_neg h2, if_neg (fun e => place_neg.1 e ((withV_mem _ _ _).2 (.inr hm)))]
  · rw [if_neg h1, if_neg h1]

/-! ### The types that are known -/
def zerosL (ts : List Int) : Nat := ts.countP (· == 0)
def SndT (J : ByteArray → Int → Prop) (vs : List ByteArray) (ts : List Int) : Prop := ∀ (i : Nat) (s : ByteArray) (v : Int), vs[i]? = some s → ts[i]? = some v → v ≠ 0 → J s v
/-- A step in which types are learned: as long, sound, fewer that are not known; or nothing new, and then N. -/
structure Lrn (J : ByteArray → Int → Prop) (vs : List ByteArray) (N : List Int → Prop) (ts ts' : List Int) (more : Bool) : Prop where
  len : ts'.length = ts.length
  snd : SndT J vs ts → SndT J vs ts'
  less : more = true → zerosL ts' < zerosL ts
  still : more = false → ts' = ts ∧ N ts
theorem Lrn.comp {J : ByteArray → Int → Prop} {vs : List ByteArray} {N M : List Int → Prop} {ts a b : List Int} {m m' : Bool} (h : Lrn J vs N ts a m) (k : Lrn J vs M a b m') : Lrn J vs (fun t => N t ∧ M t) ts b (m || m') := by
  refine ⟨k.len.trans h.len, fun s => k.snd (h.snd s), fun e => ?_, fun e => ?_⟩
  · have h1 : zerosL a ≤ zerosL ts := by
      cases m with
      | true => exact Nat.le_of_lt (h.less rfl)
      | false => rw [(h.still rfl).1]; exact Nat.le_refl _
    have h2 : zerosL b ≤ zerosL a := by
      cases m' with
      | true => exact Nat.le_of_lt (k.less rfl)
      | false => rw [(k.still rfl).1]; exact Nat.le_refl _
    cases m with
    | true => have := h.less rfl; omega
    | false =>
      cases m' with
      | true => have := k.less rfl; omega
      | false => cases e
  · simp only [Bool.or_eq_false_iff] at e
    obtain ⟨e1, n1⟩ := h.still e.1
    obtain ⟨e2, n2⟩ := k.still e.2
    subst e1
    subst e2
    exact ⟨rfl, n1, n2⟩
theorem Lrn.mono {J : ByteArray → Int → Prop} {vs : List ByteArray} {N M : List Int → Prop} {ts a : List Int} {m : Bool} (h : Lrn J vs N ts a m) (hN : N ts → M ts) : Lrn J vs M ts a m :=
  ⟨h.len, h.snd, h.less, fun e => ⟨(h.still e).1, hN (h.still e).2⟩⟩
theorem Lrn.none {J : ByteArray → Int → Prop} {vs : List ByteArray} {N : List Int → Prop} {ts : List Int} (h : N ts) : Lrn J vs N ts ts false := ⟨rfl, fun h => h, fun e => (by cases e), fun _ => ⟨rfl, h⟩⟩
theorem zeros_set : ∀ {ts : List Int} {i : Nat} {k : Int}, ts[i]? = some 0 → k ≠ 0 → zerosL (ts.set i k) < zerosL ts
  | [], i, k, h, _ => by simp at h
  | x :: ts, 0, k, h, hk => by
    have hx : x = 0 := by simpa using h
    subst hx
    show (k :: ts).countP (· == 0) < ((0 : Int) :: ts).countP (· == 0)
    rw [List.countP_cons_of_neg (by simpa using hk), List.countP_cons_of_pos (by rfl)]
    exact Nat.lt_succ_self _
  | x :: ts, i + 1, k, h, hk => by
    have := zeros_set (ts := ts) (i := i) (by simpa using h) hk
    unfold zerosL at this
    show (x :: ts.set i k).countP (· == 0) < (x :: ts).countP (· == 0)
    rw [List.countP_cons, List.countP_cons]
    omega
theorem Lrn.set {J : ByteArray → Int → Prop} {vs : List ByteArray} {N : List Int → Prop} {ts : List Int} {i : Nat} {s : ByteArray} {k : Int} (hs : vs[i]? = some s) (h0 : ts[i]? = some 0) (hk : k ≠ 0) (hJ : J s k) : Lrn J vs N ts (ts.set i k) true := by
  refine ⟨List.length_set, fun h j u v h1 h2 h3 => ?_, fun _ => zeros_set h0 hk, fun e => (by cases e)⟩
  rw [List.getElem?_set] at h2
  split at h2
  · rename_i e
    subst e
    split at h2
    · rw [hs] at h1
      cases h1; cases h2; exact hJ
    · cases h2
  · exact h j u v h1 h2 h3

/-! ### What must be known when nothing more is learned -/
/-- What holds of a term and a type, and of its parts and numbers. -/
def Full (P : Tm → Int → Prop) (t : Tm) (k : Int) : Prop := P t k ∧ ∀ u ∈ subTs t.l, P u 1
def knP (vs : List ByteArray) (ts : List Int) (t : Tm) (k : Int) : Prop := t.op = 1 → k = 0 ∨ typedV vs ts t.s ≠ 0
def tyE (vs : List ByteArray) (ts : List Int) (t : Tm) : Int := if t.op = 1 then typedV vs ts t.s else if t.op = 3 then 2 else if t.op = 4 then 0 else 1
def goodP (vs : List ByteArray) (ts : List Int) (t : Tm) (k : Int) : Prop := if t.op = 1 then typedV vs ts t.s = k else tyC t = 0 ∨ tyC t = k
mutual
def fitsR (vs : List ByteArray) (ts : List Int) : Tm → Int → Bool
  | .mk o s _ l, k => if o = 1 then typedV vs ts s == k else if o = 2 then k == 1 else if o = 3 then k == 2 else if o = 4 then true else k == 1 && fitsRs vs ts l
def fitsRs (vs : List ByteArray) (ts : List Int) : List Tm → Bool
  | [] => true
  | t :: l => fitsR vs ts t 1 && fitsRs vs ts l
end

/-! ### Terms and their parts -/
theorem mem_subTs {u : Tm} : ∀ {l : List Tm}, u ∈ subTs l ↔ ∃ t ∈ l, u ∈ subT t
  | [] => by simp [subTs]
  | t :: l => by
    rw [subTs, List.mem_append, mem_subTs (l := l)]
    simp
theorem mem_subT {u t : Tm} : u ∈ subT t ↔ u = t ∨ u ∈ subTs t.l := by rw [subT_eq, List.mem_cons]
theorem mem_self {t : Tm} : t ∈ subT t := mem_subT.2 (.inl rfl)
theorem size_part {t c : Tm} (h : c ∈ t.l) : SizeOf.sizeOf c < SizeOf.sizeOf t := by
  obtain ⟨o, s, n, l⟩ := t
  have h1 : SizeOf.sizeOf c < SizeOf.sizeOf l := List.sizeOf_lt_of_mem h
  simp only [Tm.mk.sizeOf_spec]
  omega
theorem parts_iff (u : Tm) : ∀ (n : Nat) (t : Tm), SizeOf.sizeOf t ≤ n → (u ∈ subTs t.l ↔ ∃ t' ∈ subT t, u ∈ t'.l)
  | 0, t, h => by
    have : 0 < SizeOf.sizeOf t := by obtain ⟨o, s, n, l⟩ := t; simp only [Tm.mk.sizeOf_spec]; omega
    omega
  | n + 1, t, h => by
    constructor
    · intro hu
      obtain ⟨c, hc, hu⟩ := mem_subTs.1 hu
      rcases mem_subT.1 hu with rfl | hu
      · exact ⟨t, mem_self, hc⟩
      · obtain ⟨t', h1, h2⟩ := (parts_iff u n c (by have := size_part hc; omega)).1 hu
        exact ⟨t', mem_subT.2 (.inr (mem_subTs.2 ⟨c, hc, h1⟩)), h2⟩
    · rintro ⟨t', h1, h2⟩
      rcases mem_subT.1 h1 with rfl | h1
      · exact mem_subTs.2 ⟨u, h2, mem_self⟩
      · obtain ⟨c, hc, h1⟩ := mem_subTs.1 h1
        exact mem_subTs.2 ⟨c, hc, mem_subT.2 (.inr ((parts_iff u n c (by have := size_part hc; omega)).2 ⟨t', h1, h2⟩))⟩
theorem mem_parts {u : Tm} {L : List Tm} : u ∈ (subTs L).flatMap (fun t => t.l) ↔ ∃ t ∈ L, u ∈ subTs t.l := by
  rw [List.mem_flatMap]
  constructor
  · rintro ⟨t', h1, h2⟩
    obtain ⟨t, ht, h1⟩ := mem_subTs.1 h1
    exact ⟨t, ht, (parts_iff u _ t (Nat.le_refl _)).2 ⟨t', h1, h2⟩⟩
  · rintro ⟨t, ht, h⟩
    obtain ⟨t', h1, h2⟩ := (parts_iff u _ t (Nat.le_refl _)).1 h
    exact ⟨t', mem_subTs.2 ⟨t, ht, h1⟩, h2⟩

/-! ### What a rule asks, part by part -/
def aggB (l : Lt) : Bool := !(duoB l) && !(l.op == 1) && !(l.op == 2)
structure Asks (P : Tm → Int → Prop) (ds : List De) (r : Ru) : Prop where
  atom : ∀ a ∈ atomsR r, ∀ x ∈ plc ds a, Full P x.1 x.2
  duo : ∀ l ∈ r.body, duoB l = true → (∀ u ∈ subTs l.x.l, P u 1) ∧ (∀ u ∈ subTs l.y.l, P u 1)
  agg : ∀ l ∈ r.body, aggB l = true → Full P l.x 1 ∧ Full P l.y 1
theorem noT_op {t : Tm} (h : noT t = true) : t.op = 0 ∧ t.l = [] := by
  unfold noT at h
  simp only [Bool.and_eq_true, beq_iff_eq, List.isEmpty_iff] at h
  exact ⟨h.1.1.1, h.2⟩
theorem noA_l {a : Am} (h : noA a = true) : a.l = [] := by
  unfold noA at h
  simp only [Bool.and_eq_true, List.isEmpty_iff] at h
  exact h.2
theorem duo_op {l : Lt} (h : duoB l = true) : 3 ≤ l.op ∧ l.op ≤ 6 := by
  unfold duoB at h
  simp only [Bool.or_eq_true, beq_iff_eq] at h
  omega
theorem duo_no {l : Lt} (h : duoB l = false) : ¬ (3 ≤ l.op ∧ l.op ≤ 6) := by
  unfold duoB at h
  simp only [Bool.or_eq_false_iff, beq_eq_false_iff_ne] at h
  omega
theorem right_duo {l : Lt} (h : rightL l = true) (hd : duoB l = true) : noA l.a = true ∧ rightT 20 l.x = true ∧ rightT 20 l.y = true := by
  have := duo_op hd
  unfold rightL at h
  rw [if_neg (by omega), if_pos this] at h
  simp only [Bool.and_eq_true] at h
  exact ⟨h.1.1.1.1, h.1.1.1.2, h.1.1.2⟩
theorem right_plain {l : Lt} (h : rightL l = true) (hd : l.op = 1 ∨ l.op = 2) : rightA l.a = true ∧ noT l.x = true ∧ noT l.y = true := by
  unfold rightL at h
  rw [if_pos hd] at h
  simp only [Bool.and_eq_true] at h
  exact ⟨h.1.1, h.1.2, h.2⟩
theorem right_agg {l : Lt} (h : rightL l = true) (hd : aggB l = true) : rightA l.a = true ∧ rightT 20 l.x = true ∧ ((l.op = 7 ∧ noT l.y = true) ∨ (8 ≤ l.op ∧ l.op ≤ 10 ∧ rightT 20 l.y = true)) := by
  unfold aggB at hd
  simp only [Bool.and_eq_true, Bool.not_eq_true', beq_eq_false_iff_ne] at hd
  have h3 := duo_no hd.1.1
  unfold rightL at h
  rw [if_neg (by omega), if_neg h3] at h
  by_cases h7 : l.op = 7
  · rw [if_pos h7] at h
    simp only [Bool.and_eq_true] at h
    exact ⟨h.1.1.1, h.1.1.2, .inl ⟨h7, h.2⟩⟩
  · rw [if_neg h7] at h
    by_cases h8 : 8 ≤ l.op ∧ l.op ≤ 10
    · rw [if_pos h8] at h
      simp only [Bool.and_eq_true] at h
      exact ⟨h.1.1.1.1, h.1.1.1.2, .inr ⟨h8.1, h8.2, h.1.2⟩⟩
    · rw [if_neg h8] at h; cases h
theorem plc_mem {ds : List De} {a : Am} (hb : badA ds a = 0) : (∀ x ∈ plc ds a, x.1 ∈ a.l) ∧ ∀ t ∈ a.l, ∃ k, (t, k) ∈ plc ds a := by
  unfold badA at hb
  unfold plc
  cases hf : findY a.rel ds with
  | none => rw [hf] at hb; cases hb
  | some i =>
    rw [hf] at hb
    cases hd : ds[i]? with
    | none => simp only [hd] at hb; cases hb
    | some d =>
      simp only [hd] at hb ⊢
      have hl : d.types.length = a.l.length := by
        by_cases e : d.types.length = a.l.length
        · exact e
        · rw [if_neg e] at hb; cases hb
      refine ⟨fun x hx => (List.of_mem_zip hx).1, fun t ht => ?_⟩
      obtain ⟨j, hj⟩ := List.mem_iff_getElem?.1 ht
      have hjl := (List.getElem?_eq_some_iff.1 hj).1
      refine ⟨d.types[j]'(by omega), List.mem_iff_getElem?.2 ⟨j, ?_⟩⟩
      rw [List.getElem?_zip_eq_some]
      exact ⟨hj, List.getElem?_eq_getElem (by omega)⟩
theorem asks_base {P : Tm → Int → Prop} {ds : List De} {r : Ru} (hr : rightR r = true) (hc : chkA ds (atomsR r) = 0) (h0 : ∀ t, t.op = 0 → P t 1) : Asks P ds r ↔ ∀ x ∈ baseL ds r, P x.1 x.2 := by
  have hb := chkA_iff.1 hc
  have hL : ∀ l ∈ r.body, rightL l = true := by
    unfold rightR at hr
    simp only [Bool.and_eq_true, List.all_eq_true] at hr
    exact hr.2
  have split : ∀ l ∈ r.body, duoB l = true ∨ (duoB l = false ∧ (l.op = 1 ∨ l.op = 2)) ∨ (duoB l = false ∧ aggB l = true) := fun l _ => by
    cases hd : duoB l with
    | true => exact .inl rfl
    | false =>
      by_cases h1 : l.op = 1 ∨ l.op = 2
      · exact .inr (.inl ⟨rfl, h1⟩)
      · refine .inr (.inr ⟨rfl, ?_⟩)
        unfold aggB
        rw [hd]
        simp only [Bool.not_false, Bool.true_and, Bool.and_eq_true, Bool.not_eq_true', beq_eq_false_iff_ne]
        omega
  have isAtom : ∀ l ∈ r.body, duoB l = false → l.a ∈ atomsR r := fun l hl hd => List.mem_cons_of_mem _ (mem_atomsL.2 ⟨l, hl, hd, rfl⟩)
  constructor
  · intro h x hx
    unfold baseL at hx
    rcases List.mem_append.1 hx with hx | hx
    · obtain ⟨a, ha, hx⟩ := List.mem_flatMap.1 hx
      exact (h.atom a ha x hx).1
    rcases List.mem_append.1 hx with hx | hx
    · obtain ⟨t, ht, rfl⟩ := List.mem_map.1 hx
      obtain ⟨l, hl, ht⟩ := List.mem_flatMap.1 ht
      rcases split l hl with hd | ⟨hd, h1⟩ | ⟨hd, h1⟩
      · rw [hd] at ht; simp at ht
      · obtain ⟨_, n1, n2⟩ := right_plain (hL l hl) h1
        rw [hd] at ht
        have ht : t = l.x ∨ t = l.y := by simpa using ht
        rcases ht with rfl | rfl
        · exact h0 _ (noT_op n1).1
        · exact h0 _ (noT_op n2).1
      · rw [hd] at ht
        have ht : t = l.x ∨ t = l.y := by simpa using ht
        rcases ht with rfl | rfl
        · exact (h.agg l hl h1).1.1
        · exact (h.agg l hl h1).2.1
    · obtain ⟨u, hu, rfl⟩ := List.mem_map.1 hx
      have ofAtom : ∀ a ∈ atomsR r, ∀ t ∈ a.l, u ∈ subTs t.l → P u 1 := fun a ha t ht hu => by
        obtain ⟨k, hk⟩ := (plc_mem (hb a ha)).2 t ht
        exact (h.atom a ha _ hk).2 u hu
      unfold termsR at hu
      rw [List.flatMap_append, List.mem_append] at hu
      rcases hu with hu | hu
      · obtain ⟨t, ht, hu⟩ := mem_parts.1 hu
        exact ofAtom r.head (List.mem_cons_self ..) t ht hu
      · obtain ⟨t', h1, h2⟩ := List.mem_flatMap.1 hu
        obtain ⟨l, hl, h1⟩ := List.mem_flatMap.1 h1
        have hu : u ∈ (subTs [l.x, l.y] ++ subTs l.a.l).flatMap (fun t => t.l) := List.mem_flatMap.2 ⟨t', h1, h2⟩
        rw [List.flatMap_append, List.mem_append] at hu
        rcases hu with hu | hu
        · obtain ⟨t, ht, hu⟩ := mem_parts.1 hu
          have ht : t = l.x ∨ t = l.y := by simpa using ht
          rcases split l hl with hd | ⟨hd, h1⟩ | ⟨hd, h1⟩
          · rcases ht with rfl | rfl
            · exact (h.duo l hl hd).1 u hu
            · exact (h.duo l hl hd).2 u hu
          · obtain ⟨_, n1, n2⟩ := right_plain (hL l hl) h1
            rcases ht with rfl | rfl
            · rw [(noT_op n1).2] at hu; simp [subTs] at hu
            · rw [(noT_op n2).2] at hu; simp [subTs] at hu
          · rcases ht with rfl | rfl
            · exact (h.agg l hl h1).1.2 u hu
            · exact (h.agg l hl h1).2.2 u hu
        · obtain ⟨t, ht, hu⟩ := mem_parts.1 hu
          rcases split l hl with hd | ⟨hd, h1⟩ | ⟨hd, h1⟩
          · rw [noA_l (right_duo (hL l hl) hd).1] at ht; cases ht
          · exact ofAtom l.a (isAtom l hl hd) t ht hu
          · exact ofAtom l.a (isAtom l hl hd) t ht hu
  · intro h
    have part : ∀ u, u ∈ (termsR r).flatMap (fun t => t.l) → P u 1 := fun u hu => h (u, 1) (by
      unfold baseL
      exact List.mem_append_right _ (List.mem_append_right _ (List.mem_map.2 ⟨u, hu, rfl⟩)))
    have inHead : ∀ u, u ∈ (subTs r.head.l).flatMap (fun t => t.l) → P u 1 := fun u hu => part u (by
      unfold termsR
      rw [List.flatMap_append]
      exact List.mem_append_left _ hu)
    have inLit : ∀ l ∈ r.body, ∀ u, u ∈ (litTs l).flatMap (fun t => t.l) → P u 1 := fun l hl u hu => part u (by
      unfold termsR
      rw [List.flatMap_append]
      refine List.mem_append_right _ ?_
      obtain ⟨t', h1, h2⟩ := List.mem_flatMap.1 hu
      exact List.mem_flatMap.2 ⟨t', List.mem_flatMap.2 ⟨l, hl, h1⟩, h2⟩)
    have inXY : ∀ l ∈ r.body, ∀ t, t = l.x ∨ t = l.y → ∀ u ∈ subTs t.l, P u 1 := fun l hl t ht u hu => inLit l hl u (by
      unfold litTs
      rw [List.flatMap_append]
      exact List.mem_append_left _ (mem_parts.2 ⟨t, by simpa using ht, hu⟩))
    refine ⟨fun a ha x hx => ⟨?_, fun u hu => ?_⟩, fun l hl hd => ⟨inXY l hl _ (.inl rfl), inXY l hl _ (.inr rfl)⟩, fun l hl hg => ?_⟩
    · refine h x ?_
      unfold baseL
      exact List.mem_append_left _ (List.mem_flatMap.2 ⟨a, ha, hx⟩)
    · have hm := (plc_mem (hb a ha)).1 x hx
      rcases List.mem_cons.1 ha with rfl | ha
      · exact inHead u (mem_parts.2 ⟨x.1, hm, hu⟩)
      · obtain ⟨l, hl, _, rfl⟩ := mem_atomsL.1 ha
        exact inLit l hl u (by
          unfold litTs
          rw [List.flatMap_append]
          exact List.mem_append_right _ (mem_parts.2 ⟨x.1, hm, hu⟩))
    · have hd : duoB l = false := by
        unfold aggB at hg
        simp only [Bool.and_eq_true, Bool.not_eq_true'] at hg
        exact hg.1.1
      have inB : ∀ t, t = l.x ∨ t = l.y → P t 1 := fun t ht => h (t, 1) (by
        unfold baseL
        refine List.mem_append_right _ (List.mem_append_left _ (List.mem_map.2 ⟨t, List.mem_flatMap.2 ⟨l, hl, ?_⟩, rfl⟩))
        rw [hd]
        simpa using ht)
      exact ⟨⟨inB _ (.inl rfl), inXY l hl _ (.inl rfl)⟩, ⟨inB _ (.inr rfl), inXY l hl _ (.inr rfl)⟩⟩

/-! ### Which types fit -/
theorem twoB_op {o : Int} (h : twoB o = true) : o = 5 ∨ o = 6 ∨ o = 7 := by
  unfold twoB at h
  simp only [Bool.or_eq_true, beq_iff_eq] at h
  omega
theorem leaf_l {t : Tm} (h : leafB t = true) : t.l = [] ∧ (t.op = 1 ∨ t.op = 2 ∨ t.op = 3 ∨ t.op = 4) := by
  unfold leafB at h
  by_cases h1 : t.op = 1
  · rw [if_pos h1] at h; simp only [Bool.and_eq_true, List.isEmpty_iff] at h; exact ⟨h.2, .inl h1⟩
  rw [if_neg h1] at h
  by_cases h2 : t.op = 2
  · rw [if_pos h2] at h; simp only [Bool.and_eq_true, List.isEmpty_iff] at h; exact ⟨h.2, .inr (.inl h2)⟩
  rw [if_neg h2] at h
  by_cases h3 : t.op = 3
  · rw [if_pos h3] at h; simp only [Bool.and_eq_true, List.isEmpty_iff] at h; exact ⟨h.2, .inr (.inr (.inl h3))⟩
  rw [if_neg h3] at h
  by_cases h4 : t.op = 4
  · rw [if_pos h4] at h; simp only [Bool.and_eq_true, List.isEmpty_iff] at h; exact ⟨h.2, .inr (.inr (.inr h4))⟩
  rw [if_neg h4] at h; cases h
theorem rightT_cases {h : Nat} {t : Tm} (hr : rightT (h + 1) t = true) : (twoB t.op = true ∧ ∃ a b, t.l = [a, b] ∧ rightT h a = true ∧ rightT h b = true) ∨ (twoB t.op = false ∧ t.l = [] ∧ (t.op = 1 ∨ t.op = 2 ∨ t.op = 3 ∨ t.op = 4)) := by
  unfold rightT at hr
  cases ht : twoB t.op with
  | true =>
    rw [ht, if_pos rfl] at hr
    simp only [Bool.and_eq_true] at hr
    refine .inl ⟨rfl, ?_⟩
    obtain ⟨o, s, n, l⟩ := t
    match l, hr with
    | [a, b], hr =>
      have hr : (recB a && rightT h a && (recB b && rightT h b)) = true := hr.2
      simp only [Bool.and_eq_true] at hr
      exact ⟨a, b, rfl, hr.1.2, hr.2.2⟩
    | [], hr => exact absurd hr.2 (by simp)
    | [a], hr => exact absurd hr.2 (by simp)
    | a :: b :: c :: l, hr => exact absurd hr.2 (by simp)
  | false =>
    rw [ht, if_neg (by decide)] at hr
    exact .inr ⟨rfl, leaf_l hr⟩
theorem fits_iff (vs : List ByteArray) (ts : List Int) : ∀ (h : Nat) (t : Tm) (k : Int), rightT h t = true → (fitsR vs ts t k = true ↔ Full (goodP vs ts) t k)
  | 0, t, k, hr => by unfold rightT at hr; cases hr
  | h + 1, t, k, hr => by
    rcases rightT_cases hr with ⟨h2, a, b, hl, ha, hb⟩ | ⟨h2, hl, ho⟩
    · have iha := fits_iff vs ts h a 1 ha
      have ihb := fits_iff vs ts h b 1 hb
      obtain ⟨o, s, n, l⟩ := t
      have hl : l = [a, b] := hl
      subst hl
      have ho : o = 5 ∨ o = 6 ∨ o = 7 := twoB_op h2
      have hty : tyC (.mk o s n [a, b]) = 1 := by
        unfold tyC
        rw [if_pos]
        show o = 2 ∨ o = 5 ∨ o = 6 ∨ o = 7
        omega
      have hg : goodP vs ts (.mk o s n [a, b]) k ↔ k = 1 := by
        unfold goodP
        rw [if_neg (by show ¬ o = 1; omega), hty]
        omega
      unfold fitsR
      rw [if_neg (by omega), if_neg (by omega), if_neg (by omega), if_neg (by omega)]
      unfold Full
      rw [hg]
      show (k == 1 && (fitsR vs ts a 1 && (fitsR vs ts b 1 && true))) = true ↔ _
      rw [Bool.and_eq_true, Bool.and_eq_true, Bool.and_true, beq_iff_eq, iha, ihb]
      refine and_congr_right fun _ => ⟨fun ⟨h1, h2⟩ u hu => ?_, fun hu => ⟨⟨hu a (mem_subTs.2 ⟨a, by simp [Tm.l], mem_self⟩), fun u h => hu u (mem_subTs.2 ⟨a, by simp [Tm.l], mem_subT.2 (.inr h)⟩)⟩, ⟨hu b (mem_subTs.2 ⟨b, by simp [Tm.l], mem_self⟩), fun u h => hu u (mem_subTs.2 ⟨b, by simp [Tm.l], mem_subT.2 (.inr h)⟩)⟩⟩⟩
      obtain ⟨c, hc, huc⟩ := mem_subTs.1 hu
      have hc : c = a ∨ c = b := by simpa [Tm.l] using hc
      rcases hc with e | e
      · rw [e] at huc
        rcases mem_subT.1 huc with e | h
        · rw [e]; exact h1.1
        · exact h1.2 u h
      · rw [e] at huc
        rcases mem_subT.1 huc with e | h
        · rw [e]; exact h2.1
        · exact h2.2 u h
    · have hF : Full (goodP vs ts) t k ↔ goodP vs ts t k := ⟨fun h => h.1, fun h => ⟨h, fun u hu => by rw [hl] at hu; simp [subTs] at hu⟩⟩
      rw [hF]
      obtain ⟨o, s, n, l⟩ := t
      have hl : l = [] := hl
      subst hl
      have ho : o = 1 ∨ o = 2 ∨ o = 3 ∨ o = 4 := ho
      unfold fitsR goodP tyC
      simp only [Tm.op, Tm.s]
      rcases ho with rfl | rfl | rfl | rfl
      · simp
      · simp; omega
      · simp; omega
      · simp
def pairFit (vs : List ByteArray) (ts : List Int) (x y : Tm) : Bool := (fitsR vs ts x 1 && fitsR vs ts y 1) || (fitsR vs ts x 2 && fitsR vs ts y 2)
structure FitsU (ds : List De) (r : Ru) (vs : List ByteArray) (ts : List Int) : Prop where
  atom : ∀ a ∈ atomsR r, ∀ x ∈ plc ds a, fitsR vs ts x.1 x.2 = true
  duo : ∀ l ∈ r.body, duoB l = true → pairFit vs ts l.x l.y = true
  agg : ∀ l ∈ r.body, aggB l = true → fitsR vs ts l.x 1 = true ∧ (l.op = 7 ∨ fitsR vs ts l.y 1 = true)
def pairP (vs : List ByteArray) (ts : List Int) (p : Tm × Tm) : Prop := (goodP vs ts p.1 1 ∧ goodP vs ts p.2 1) ∨ (goodP vs ts p.1 2 ∧ goodP vs ts p.2 2)
theorem right_lits {r : Ru} (hr : rightR r = true) : ∀ l ∈ r.body, rightL l = true := by
  unfold rightR at hr
  simp only [Bool.and_eq_true, List.all_eq_true] at hr
  exact hr.2
theorem agg_or {l : Lt} (hd : duoB l = false) : (l.op = 1 ∨ l.op = 2) ∨ aggB l = true := by
  by_cases h1 : l.op = 1 ∨ l.op = 2
  · exact .inl h1
  · refine .inr ?_
    unfold aggB
    rw [hd]
    simp only [Bool.not_false, Bool.true_and, Bool.and_eq_true, Bool.not_eq_true', beq_eq_false_iff_ne]
    omega
theorem right_atoms {r : Ru} (hr : rightR r = true) : ∀ a ∈ atomsR r, rightA a = true := fun a ha => by
  rcases List.mem_cons.1 ha with rfl | ha
  · unfold rightR at hr
    simp only [Bool.and_eq_true] at hr
    exact hr.1.1.1
  · obtain ⟨l, hl, hd, rfl⟩ := mem_atomsL.1 ha
    rcases agg_or hd with h | h
    · exact (right_plain (right_lits hr l hl) h).1
    · exact (right_agg (right_lits hr l hl) h).1
theorem right_arg {a : Am} (h : rightA a = true) : ∀ t ∈ a.l, rightT 20 t = true := by
  unfold rightA at h
  simp only [Bool.and_eq_true, List.all_eq_true] at h
  exact h.2
theorem fits_base {ds : List De} {r : Ru} (hr : rightR r = true) (hc : chkA ds (atomsR r) = 0) (vs : List ByteArray) (ts : List Int) : FitsU ds r vs ts ↔ (∀ x ∈ baseL ds r, goodP vs ts x.1 x.2) ∧ ∀ p ∈ prsL r.body, pairP vs ts p := by
  have h0 : ∀ t : Tm, t.op = 0 → goodP vs ts t 1 := fun t ht => by
    unfold goodP tyC
    rw [ht]
    simp
  have hb := chkA_iff.1 hc
  rw [← asks_base (P := goodP vs ts) hr hc h0]
  have argT : ∀ a ∈ atomsR r, ∀ x ∈ plc ds a, rightT 20 x.1 = true := fun a ha x hx => right_arg (right_atoms hr a ha) _ ((plc_mem (hb a ha)).1 x hx)
  have pair : ∀ x y : Tm, rightT 20 x = true → rightT 20 y = true → (pairFit vs ts x y = true ↔ (Full (goodP vs ts) x 1 ∧ Full (goodP vs ts) y 1) ∨ (Full (goodP vs ts) x 2 ∧ Full (goodP vs ts) y 2)) := fun x y hx hy => by
    unfold pairFit
    rw [Bool.or_eq_true, Bool.and_eq_true, Bool.and_eq_true, fits_iff vs ts 20 x 1 hx, fits_iff vs ts 20 y 1 hy, fits_iff vs ts 20 x 2 hx, fits_iff vs ts 20 y 2 hy]
  constructor
  · intro h
    refine ⟨⟨fun a ha x hx => (fits_iff vs ts 20 _ _ (argT a ha x hx)).1 (h.atom a ha x hx), fun l hl hd => ?_, fun l hl hg => ?_⟩, fun p hp => ?_⟩
    · obtain ⟨_, hx, hy⟩ := right_duo (right_lits hr l hl) hd
      rcases (pair _ _ hx hy).1 (h.duo l hl hd) with ⟨h1, h2⟩ | ⟨h1, h2⟩
      · exact ⟨h1.2, h2.2⟩
      · exact ⟨h1.2, h2.2⟩
    · obtain ⟨_, hx, hy⟩ := right_agg (right_lits hr l hl) hg
      obtain ⟨f1, f2⟩ := h.agg l hl hg
      refine ⟨(fits_iff vs ts 20 _ _ hx).1 f1, ?_⟩
      rcases hy with ⟨_, hy⟩ | ⟨h8, _, hy⟩
      · obtain ⟨n1, n2⟩ := noT_op hy
        exact ⟨h0 _ n1, fun u hu => by rw [n2] at hu; simp [subTs] at hu⟩
      · exact (fits_iff vs ts 20 _ _ hy).1 (f2.resolve_left (by omega))
    · obtain ⟨l, hl, hd, rfl⟩ := mem_prsL.1 hp
      obtain ⟨_, hx, hy⟩ := right_duo (right_lits hr l hl) hd
      rcases (pair _ _ hx hy).1 (h.duo l hl hd) with ⟨h1, h2⟩ | ⟨h1, h2⟩
      · exact .inl ⟨h1.1, h2.1⟩
      · exact .inr ⟨h1.1, h2.1⟩
  · rintro ⟨h, hp⟩
    refine ⟨fun a ha x hx => (fits_iff vs ts 20 _ _ (argT a ha x hx)).2 (h.atom a ha x hx), fun l hl hd => ?_, fun l hl hg => ?_⟩
    · obtain ⟨_, hx, hy⟩ := right_duo (right_lits hr l hl) hd
      obtain ⟨d1, d2⟩ := h.duo l hl hd
      refine (pair _ _ hx hy).2 ?_
      rcases hp _ (mem_prsL.2 ⟨l, hl, hd, rfl⟩) with ⟨h1, h2⟩ | ⟨h1, h2⟩
      · exact .inl ⟨⟨h1, d1⟩, ⟨h2, d2⟩⟩
      · exact .inr ⟨⟨h1, d1⟩, ⟨h2, d2⟩⟩
    · obtain ⟨_, hx, hy⟩ := right_agg (right_lits hr l hl) hg
      obtain ⟨f1, f2⟩ := h.agg l hl hg
      refine ⟨(fits_iff vs ts 20 _ _ hx).2 f1, ?_⟩
      rcases hy with ⟨h7, _⟩ | ⟨h8, _, hy⟩
      · exact .inl h7
      · exact .inr ((fits_iff vs ts 20 _ _ hy).2 f2)

/-! ### What the search comes to -/
theorem typed_get {vs : List ByteArray} {ts : List Int} (hl : ts.length = vs.length) {s : ByteArray} (hs : s ∈ vs) : ∃ (i : Nat) (v : Int), placeV vs s = i ∧ vs[i]? = some s ∧ ts[i]? = some v ∧ typedV vs ts s = v := by
  obtain ⟨i, h1, h2⟩ := place_mem hs
  have hi := (List.getElem?_eq_some_iff.1 h2).1
  refine ⟨i, ts[i]'(by omega), h1, h2, List.getElem?_eq_getElem (by omega), ?_⟩
  unfold typedV
  rw [h1, if_neg (by omega)]
  simp [List.getD, List.getElem?_eq_getElem (show i < ts.length by omega)]
theorem typed_in {vs : List ByteArray} {ts : List Int} {s : ByteArray} (h : typedV vs ts s ≠ 0) : s ∈ vs := by
  by_cases e : placeV vs s < 0
  · unfold typedV at h
    rw [if_pos (.inl e)] at h
    exact absurd rfl h
  · exact Classical.not_not.1 fun hn => e (place_neg.2 hn)
theorem SndT.typed {J : ByteArray → Int → Prop} {vs : List ByteArray} {ts : List Int} (h : SndT J vs ts) (hl : ts.length = vs.length) {s : ByteArray} (hne : typedV vs ts s ≠ 0) : J s (typedV vs ts s) := by
  obtain ⟨i, v, _, h2, h3, h4⟩ := typed_get hl (typed_in hne)
  rw [h4] at hne ⊢
  exact h i s v h2 h3 hne
def nearP (vs : List ByteArray) (ts : List Int) (p : Tm × Tm) : Prop := (tyE vs ts p.1 ≠ 0 ∨ tyE vs ts p.2 ≠ 0) → (p.1.op = 1 → typedV vs ts p.1.s ≠ 0) ∧ (p.2.op = 1 → typedV vs ts p.2.s ≠ 0)
theorem tyE_var {vs : List ByteArray} {ts : List Int} {t : Tm} (h : t.op = 1) : tyE vs ts t = typedV vs ts t.s := by unfold tyE; rw [if_pos h]
theorem tyE_con {vs : List ByteArray} {ts : List Int} {t : Tm} (h : t.op ≠ 1) (hn : tyC t ≠ 0) : tyE vs ts t ≠ 0 := by
  unfold tyE tyC at *
  rw [if_neg h]
  by_cases h3 : t.op = 3
  · rw [if_pos h3]; decide
  · rw [if_neg h3]
    by_cases h4 : t.op = 4
    · rw [h4] at hn; exact absurd rfl hn
    · rw [if_neg h4]; decide
theorem der_known {ds : List De} {r : Ru} {vs : List ByteArray} {ts : List Int} (h0 : ∀ x ∈ baseL ds r, x.2 ≠ 0) (hN : ∀ x ∈ baseL ds r, knP vs ts x.1 x.2) (hP : ∀ p ∈ prsL r.body, nearP vs ts p) {n : List UInt8} {k : Int} (d : DerR ds r n k) : ∀ b : ByteArray, b.data.toList = n → typedV vs ts b ≠ 0 := by
  induction d with
  | @base t k h1 h2 =>
    intro b hb
    rw [bytes_ext hb]
    exact (hN _ h1 h2).resolve_left (h0 _ h1)
  | @lc x y k h1 h2 h3 h4 h5 =>
    intro b hb
    rw [bytes_ext hb]
    exact (hP _ h1 (.inr (tyE_con h3 (by rw [h4]; exact h5)))).1 h2
  | @lv x y k h1 h2 h3 _ ih =>
    intro b hb
    rw [bytes_ext hb]
    exact (hP _ h1 (.inr (by rw [tyE_var h3]; exact ih _ rfl))).1 h2
  | @rc x y k h1 h2 h3 h4 h5 =>
    intro b hb
    rw [bytes_ext hb]
    exact (hP _ h1 (.inl (tyE_con h3 (by rw [h4]; exact h5)))).2 h2
  | @rv x y k h1 h2 h3 _ ih =>
    intro b hb
    rw [bytes_ext hb]
    exact (hP _ h1 (.inl (by rw [tyE_var h3]; exact ih _ rfl))).2 h2
theorem good_var {vs : List ByteArray} {ts : List Int} {t : Tm} {k : Int} (h : t.op = 1) : goodP vs ts t k ↔ typedV vs ts t.s = k := by unfold goodP; rw [if_pos h]
theorem good_con {vs : List ByteArray} {ts : List Int} {t : Tm} {k : Int} (h : t.op ≠ 1) : goodP vs ts t k ↔ tyC t = 0 ∨ tyC t = k := by unfold goodP; rw [if_neg h]
theorem pair_any {vs : List ByteArray} {ts : List Int} {p : Tm × Tm} : pairP vs ts p → ∃ j, goodP vs ts p.1 j ∧ goodP vs ts p.2 j := fun h => h.elim (fun h => ⟨1, h⟩) (fun h => ⟨2, h⟩)
theorem fits_one {ds : List De} {r : Ru} {vs : List ByteArray} {ts : List Int} (hN : ∀ x ∈ baseL ds r, goodP vs ts x.1 x.2) (hP : ∀ p ∈ prsL r.body, pairP vs ts p) {n : List UInt8} {k : Int} (d : DerR ds r n k) : ∀ b : ByteArray, b.data.toList = n → typedV vs ts b = k := by
  induction d with
  | @base t k h1 h2 =>
    intro b hb
    rw [bytes_ext hb]
    exact (good_var h2).1 (hN _ h1)
  | @lc x y k h1 h2 h3 h4 h5 =>
    intro b hb
    rw [bytes_ext hb]
    obtain ⟨j, g1, g2⟩ := pair_any (hP _ h1)
    rcases (good_con h3).1 g2 with h | h
    · rw [h4] at h; exact absurd h h5
    · exact ((good_var h2).1 g1).trans (h.symm.trans h4)
  | @lv x y k h1 h2 h3 _ ih =>
    intro b hb
    rw [bytes_ext hb]
    obtain ⟨j, g1, g2⟩ := pair_any (hP _ h1)
    exact ((good_var h2).1 g1).trans (((good_var h3).1 g2).symm.trans (ih _ rfl))
  | @rc x y k h1 h2 h3 h4 h5 =>
    intro b hb
    rw [bytes_ext hb]
    obtain ⟨j, g1, g2⟩ := pair_any (hP _ h1)
    rcases (good_con h3).1 g1 with h | h
    · rw [h4] at h; exact absurd h h5
    · exact ((good_var h2).1 g2).trans (h.symm.trans h4)
  | @rv x y k h1 h2 h3 _ ih =>
    intro b hb
    rw [bytes_ext hb]
    obtain ⟨j, g1, g2⟩ := pair_any (hP _ h1)
    exact ((good_var h2).1 g2).trans (((good_var h3).1 g1).symm.trans (ih _ rfl))
theorem fits_noconf {ds : List De} {r : Ru} {vs : List ByteArray} {ts : List Int} (hN : ∀ x ∈ baseL ds r, goodP vs ts x.1 x.2) (hP : ∀ p ∈ prsL r.body, pairP vs ts p) : NoConf (baseL ds r) (prsL r.body) := by
  refine ⟨fun n k k' h1 h2 => ?_, fun t k hm hv => (good_con hv).1 (hN _ hm), fun x y hm hx hy => ?_⟩
  · have hb : (ByteArray.mk n.toArray).data.toList = n := by simp
    exact (fits_one hN hP h1 _ hb).symm.trans (fits_one hN hP h2 _ hb)
  · obtain ⟨j, g1, g2⟩ := pair_any (hP _ hm)
    rcases (good_con hx).1 g1 with h | h
    · exact .inl h
    · rcases (good_con hy).1 g2 with h' | h'
      · exact .inr (.inl h')
      · exact .inr (.inr (h.trans h'.symm))
theorem tyC_or (t : Tm) : tyC t = 0 ∨ tyC t = 1 ∨ tyC t = 2 := by
  unfold tyC
  split
  · exact .inr (.inl rfl)
  · split
    · exact .inr (.inr rfl)
    · exact .inl rfl
theorem der_ty {b : List (Tm × Int)} {p : List (Tm × Tm)} (hb : ∀ x ∈ b, x.2 = 1 ∨ x.2 = 2) {n : List UInt8} {k : Int} (d : Der b p n k) : k = 1 ∨ k = 2 := by
  induction d with
  | base h1 h2 => exact hb _ h1
  | @lc x y k h1 h2 h3 h4 h5 => rcases tyC_or y with h | h | h <;> rw [h4] at h <;> omega
  | lv h1 h2 h3 _ ih => exact ih
  | @rc x y k h1 h2 h3 h4 h5 => rcases tyC_or x with h | h | h <;> rw [h4] at h <;> omega
  | rv h1 h2 h3 _ ih => exact ih
theorem base_ty {ds : List De} {r : Ru} (hty : ∀ e ∈ ds, ∀ k ∈ e.types, k = 1 ∨ k = 2) : ∀ x ∈ baseL ds r, x.2 = 1 ∨ x.2 = 2 := fun x hx => by
  unfold baseL at hx
  rcases List.mem_append.1 hx with hx | hx
  · obtain ⟨a, _, hx⟩ := List.mem_flatMap.1 hx
    unfold plc at hx
    cases hf : findY a.rel ds with
    | none => rw [hf] at hx; cases hx
    | some i =>
      rw [hf] at hx
      cases hd : ds[i]? with
      | none => simp only [hd] at hx; cases hx
      | some d =>
        simp only [hd] at hx
        exact hty d (List.mem_of_getElem? hd) _ (List.of_mem_zip hx).2
  · refine .inl ?_
    rcases List.mem_append.1 hx with hx | hx
    · obtain ⟨t, _, rfl⟩ := List.mem_map.1 hx; rfl
    · obtain ⟨t, _, rfl⟩ := List.mem_map.1 hx; rfl
theorem noconf_fits {ds : List De} {r : Ru} {vs : List ByteArray} {ts : List Int} (hty : ∀ x ∈ baseL ds r, x.2 = 1 ∨ x.2 = 2) (hl : ts.length = vs.length) (hS : SndT (fun s k => DerR ds r s.data.toList k) vs ts) (hN : ∀ x ∈ baseL ds r, knP vs ts x.1 x.2)
    (hall : ∀ p ∈ prsL r.body, (p.1.op = 1 → typedV vs ts p.1.s ≠ 0) ∧ (p.2.op = 1 → typedV vs ts p.2.s ≠ 0)) (hf : NoConf (baseL ds r) (prsL r.body)) : (∀ x ∈ baseL ds r, goodP vs ts x.1 x.2) ∧ ∀ p ∈ prsL r.body, pairP vs ts p := by
  have one : ∀ (t : Tm) (k : Int), typedV vs ts t.s ≠ 0 → DerR ds r (nm t) k → typedV vs ts t.s = k := fun t k hne d => hf.one _ _ _ (hS.typed hl hne) d
  refine ⟨fun x hx => ?_, fun p hp => ?_⟩
  · by_cases hv : x.1.op = 1
    · refine (good_var hv).2 (one _ _ ?_ (.base (t := x.1) (k := x.2) hx hv))
      exact (hN x hx hv).resolve_left (by have := hty x hx; omega)
    · exact (good_con hv).2 (hf.con _ _ hx hv)
  · obtain ⟨a1, a2⟩ := hall p hp
    have fin : ∀ j, j = 1 ∨ j = 2 → goodP vs ts p.1 j → goodP vs ts p.2 j → pairP vs ts p := fun j hj h1 h2 => by
      rcases hj with rfl | rfl
      · exact .inl ⟨h1, h2⟩
      · exact .inr ⟨h1, h2⟩
    by_cases hx : p.1.op = 1
    · have nx := a1 hx
      have dx := hS.typed hl nx
      refine fin _ (der_ty hty dx) ((good_var hx).2 rfl) ?_
      by_cases hy : p.2.op = 1
      · refine (good_var hy).2 ?_
        exact (one _ _ nx (.lv (x := p.1) (y := p.2) hp hx hy (hS.typed hl (a2 hy)))).symm
      · refine (good_con hy).2 ?_
        by_cases h0 : tyC p.2 = 0
        · exact .inl h0
        · exact .inr (one _ _ nx (.lc (x := p.1) (y := p.2) hp hx hy rfl h0)).symm
    · by_cases hy : p.2.op = 1
      · have ny := a2 hy
        have dy := hS.typed hl ny
        refine fin _ (der_ty hty dy) ((good_con hx).2 ?_) ((good_var hy).2 rfl)
        by_cases h0 : tyC p.1 = 0
        · exact .inl h0
        · exact .inr (one _ _ ny (.rc (x := p.1) (y := p.2) hp hy hx rfl h0)).symm
      · have h2 := hf.two _ _ (show (p.1, p.2) ∈ _ from hp) hx hy
        rcases tyC_or p.1 with h | h | h
        · rcases tyC_or p.2 with k | k | k
          · exact fin 1 (.inl rfl) ((good_con hx).2 (.inl h)) ((good_con hy).2 (.inl k))
          · exact fin 1 (.inl rfl) ((good_con hx).2 (.inl h)) ((good_con hy).2 (.inr k))
          · exact fin 2 (.inr rfl) ((good_con hx).2 (.inl h)) ((good_con hy).2 (.inr k))
        · exact fin 1 (.inl rfl) ((good_con hx).2 (.inr h)) ((good_con hy).2 (by omega))
        · exact fin 2 (.inr rfl) ((good_con hx).2 (.inr h)) ((good_con hy).2 (by omega))
/-- What is asked of a state in which nothing more is learned. -/
structure StillR (ds : List De) (r : Ru) (vs : List ByteArray) (ts : List Int) : Prop where
  asks : Asks (knP vs ts) ds r
  near : ∀ l ∈ r.body, duoB l = true → nearP vs ts (l.x, l.y)
/-- What the reference answers. -/
inductive RefT (ds : List De) (r : Ru) : List Int → Int → Prop
  | tree : rightP ⟨ds, [r]⟩ = false → RefT ds r [] 30
  | atom : rightP ⟨ds, [r]⟩ = true → chkA ds (atomsR r) ≠ 0 → RefT ds r [] (atE (chkA ds (atomsR r)))
  | unk {ts : List Int} : rightP ⟨ds, [r]⟩ = true → chkA ds (atomsR r) = 0 → ts.length = (varsV (termsR r)).length → SndT (fun s k => DerR ds r s.data.toList k) (varsV (termsR r)) ts → StillR ds r (varsV (termsR r)) ts → 0 ∈ ts → RefT ds r [] 53
  | bad {ts : List Int} : rightP ⟨ds, [r]⟩ = true → chkA ds (atomsR r) = 0 → ts.length = (varsV (termsR r)).length → SndT (fun s k => DerR ds r s.data.toList k) (varsV (termsR r)) ts → StillR ds r (varsV (termsR r)) ts → 0 ∉ ts → ¬ FitsU ds r (varsV (termsR r)) ts → RefT ds r [] 53
  | good {ts : List Int} : rightP ⟨ds, [r]⟩ = true → chkA ds (atomsR r) = 0 → ts.length = (varsV (termsR r)).length → SndT (fun s k => DerR ds r s.data.toList k) (varsV (termsR r)) ts → StillR ds r (varsV (termsR r)) ts → 0 ∉ ts → FitsU ds r (varsV (termsR r)) ts → RefT ds r ts 0
theorem mem_xy {r : Ru} {l : Lt} (hl : l ∈ r.body) : l.x ∈ termsR r ∧ l.y ∈ termsR r := by
  have : ∀ t, t = l.x ∨ t = l.y → t ∈ termsR r := fun t ht => by
    unfold termsR
    refine List.mem_append_right _ (List.mem_flatMap.2 ⟨l, hl, ?_⟩)
    unfold litTs
    exact List.mem_append_left _ (mem_subTs.2 ⟨t, by simpa using ht, mem_self⟩)
  exact ⟨this _ (.inl rfl), this _ (.inr rfl)⟩
theorem var_typed {r : Ru} {ts : List Int} (hl : ts.length = (varsV (termsR r)).length) (h0 : 0 ∉ ts) {t : Tm} (ht : t ∈ termsR r) (h1 : t.op = 1) : typedV (varsV (termsR r)) ts t.s ≠ 0 := by
  obtain ⟨i, v, _, _, h3, h4⟩ := typed_get hl ((mem_varsV _ t.s).2 ⟨t, ht, h1, rfl⟩)
  rw [h4]
  rintro rfl
  exact h0 (List.mem_of_getElem? h3)
theorem ref_same {ds : List De} {r : Ru} {l l' : List Int} {e e' : Int} (h : TyA ds r l e) (h' : RefT ds r l' e') : l = l' ∧ e = e' := by
  have hR : ∀ {ts : List Int}, rightP ⟨ds, [r]⟩ = true → chkA ds (atomsR r) = 0 → StillR ds r (varsV (termsR r)) ts → (∀ x ∈ baseL ds r, x.2 = 1 ∨ x.2 = 2) ∧ rightR r = true ∧ (∀ x ∈ baseL ds r, knP (varsV (termsR r)) ts x.1 x.2) ∧ ∀ p ∈ prsL r.body, nearP (varsV (termsR r)) ts p := fun {ts} hr hc hs => by
    have hr' : rightR r = true := by
      unfold rightP at hr
      simp only [Bool.and_eq_true, List.all_cons, List.all_nil] at hr
      exact hr.2.1
    refine ⟨base_ty (right_types hr), hr', (asks_base hr' hc fun t h0 h1 => by omega).1 hs.asks, fun p hp => ?_⟩
    obtain ⟨l, hl, hd, rfl⟩ := mem_prsL.1 hp
    exact hs.near l hl hd
  have nofits : ∀ {ts : List Int}, rightP ⟨ds, [r]⟩ = true → chkA ds (atomsR r) = 0 → ts.length = (varsV (termsR r)).length → SndT (fun s k => DerR ds r s.data.toList k) (varsV (termsR r)) ts → StillR ds r (varsV (termsR r)) ts → 0 ∉ ts → (Fits ds r ↔ FitsU ds r (varsV (termsR r)) ts) := fun {ts} hr hc hl hS hs h0 => by
    obtain ⟨ty, hr', hN, hP⟩ := hR hr hc hs
    rw [fits_base hr' hc]
    constructor
    · intro hf
      refine noconf_fits ty hl hS hN (fun p hp => ?_) hf.1
      obtain ⟨l, hl', hd, rfl⟩ := mem_prsL.1 hp
      exact ⟨fun h1 => var_typed hl h0 (mem_xy hl').1 h1, fun h1 => var_typed hl h0 (mem_xy hl').2 h1⟩
    · rintro ⟨g1, g2⟩
      exact ⟨fits_noconf g1 g2, fun t ht h1 => ⟨_, var_typed hl h0 ht h1, hS.typed hl (var_typed hl h0 ht h1)⟩⟩
  cases h with
  | tree h1 =>
    cases h' with
    | tree => exact ⟨rfl, rfl⟩
    | atom g1 => rw [h1] at g1; cases g1
    | unk g1 => rw [h1] at g1; cases g1
    | bad g1 => rw [h1] at g1; cases g1
    | good g1 => rw [h1] at g1; cases g1
  | atom h1 h2 =>
    cases h' with
    | tree g1 => rw [h1] at g1; cases g1
    | atom => exact ⟨rfl, rfl⟩
    | unk _ g2 => exact absurd g2 h2
    | bad _ g2 => exact absurd g2 h2
    | good _ g2 => exact absurd g2 h2
  | none h1 h2 h3 =>
    cases h' with
    | tree g1 => rw [h1] at g1; cases g1
    | atom _ g2 => exact absurd h2 g2
    | unk => exact ⟨rfl, rfl⟩
    | bad => exact ⟨rfl, rfl⟩
    | good g1 g2 g3 g4 g5 g6 g7 => exact absurd ((nofits g1 g2 g3 g4 g5 g6).2 g7) h3
  | some h1 h2 h3 h4 h5 =>
    cases h' with
    | tree g1 => rw [h1] at g1; cases g1
    | atom _ g2 => exact absurd h2 g2
    | unk g1 g2 g3 g4 g5 g6 =>
      exfalso
      rename_i ts
      obtain ⟨ty, hr', hN, hP⟩ := hR g1 g2 g5
      obtain ⟨i, hi⟩ := List.mem_iff_getElem?.1 g6
      have hil := (List.getElem?_eq_some_iff.1 hi).1
      obtain ⟨s, hs⟩ : ∃ s, (varsV (termsR r))[i]? = some s := ⟨_, List.getElem?_eq_getElem (show i < (varsV (termsR r)).length by omega)⟩
      have hm := List.mem_of_getElem? hs
      obtain ⟨t, ht, ho, rfl⟩ := (mem_varsV _ _).1 hm
      obtain ⟨k, hk, d⟩ := h3.2 t ht ho
      have hne := der_known (fun x hx => by have := ty x hx; omega) hN hP d t.s rfl
      obtain ⟨j, v, _, q2, q3, q4⟩ := typed_get g3 hm
      have : i = j := by
        have hj := (List.getElem?_eq_some_iff.1 q2).1
        have n := nodup_varsV (termsR r)
        have e1 := (List.getElem?_eq_some_iff.1 hs).2
        have e2 := (List.getElem?_eq_some_iff.1 q2).2
        exact (List.getElem_inj n).1 (e1.trans e2.symm)
      subst this
      rw [hi] at q3
      cases q3
      exact hne q4
    | bad g1 g2 g3 g4 g5 g6 g7 => exact absurd ((nofits g1 g2 g3 g4 g5 g6).1 h3) g7
    | good g1 g2 g3 g4 g5 g6 g7 =>
      refine ⟨List.ext_getElem? fun i => ?_, rfl⟩
      rw [List.getElem?_map]
      by_cases hi : i < (varsV (termsR r)).length
      · obtain ⟨s, hs⟩ : ∃ s, (varsV (termsR r))[i]? = some s := ⟨_, List.getElem?_eq_getElem hi⟩
        obtain ⟨v, hv⟩ : ∃ v, l'[i]? = some v := ⟨_, List.getElem?_eq_getElem (show i < l'.length by omega)⟩
        rw [hs, hv]
        have hne : v ≠ 0 := by rintro rfl; exact g6 (List.mem_of_getElem? hv)
        show some (look _ s.data.toList) = some v
        rw [(h4 _ _ hne).2 (g4 i s v hs hv hne)]
      · rw [List.getElem?_eq_none (by omega), List.getElem?_eq_none (by omega)]
        rfl
end Go.Proofs.YtfcfehflocglpaaDoor

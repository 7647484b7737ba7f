/- cover.standingIn; two sets held against each other. -/
import Derived.Test.YtiljpacmkmmlcaaCv1
import Derived.Maps.OwnSet
import Derived.Maps.Range
import Derived.Maps.RangeWalk
import Derived.Lib.SlMapEqual
set_option linter.unusedSimpArgs false
set_option linter.unusedVariables false
namespace Go.Proofs.Ytiljpacmkmmlcaa
open Go.RowKit Go.Maps

open Classical in
theorem gsub_len {α : Type} : ∀ {l m : List α}, l.Nodup → (∀ x ∈ l, x ∈ m) → l.length ≤ m.length
  | [], _, _, _ => Nat.zero_le _
  | x :: l, m, hn, hs => by
    have hx := hs x (List.mem_cons_self ..)
    have hn' := List.nodup_cons.1 hn
    have := gsub_len (m := m.erase x) hn'.2 (fun y hy => (List.mem_erase_of_ne (by rintro rfl; exact hn'.1 hy)).2 (hs y (List.mem_cons_of_mem _ hy)))
    rw [List.length_erase_of_mem hx] at this
    have := List.length_pos_of_mem hx
    simp only [List.length_cons]
    omega
def kI (x : Int) : Lit := .int .i64 x
theorem kI_key (l : List Int) : ∀ k ∈ l.map kI, WideAt.IsKeyLit k := fun k hk => by
  obtain ⟨x, _, rfl⟩ := List.mem_map.1 hk
  trivial
def setD (l : List Int) : DataW Unit := setOf (.agg []) (l.map kI)
theorem setD_snoc (l : List Int) (x : Int) : setD (l ++ [x]) = (setD l).put (kI x) (.agg []) := by
  unfold setD
  rw [List.map_append]
  exact setOf_snoc _ _ _
/-- A set of numbers that a call has made. -/
def SetM (w : World) (B n : Nat) (l : List Int) : Prop := w.ownsMap Try.prog 3 (unitElem (H := Unit)) B n (setD l)
theorem law_i : Keyed Try.prog 3 := int_keyed Try.underlying3
theorem zeroS (w : World) : (zeroValue 42).run Try.prog w = .ok (.agg #[]) w := by kernel_rfl
theorem i64_wf {x : Int} (h : I64 x) : (Lit.int .i64 x).wf = true := WalkArith.wf_i64 h
set_option linter.unusedVariables false in
set_option maxRecDepth 100000 in
set_option maxHeartbeats 8000000 in
theorem standingIn_c (l : List Int) (v : Value) (w : World) (hl : l.length ≤ 1000000) (h : SlOf w w.heap.size 1 IntC l v) :
    Calls Try.prog 22 #[v] w fun e w' => (∃ b, e = .returned (.map (some b)) ∧ w.heap.size ≤ b ∧ SetM w' b l.length l) ∧ Below w.heap.size w w' := by
  have hmm := @run_makeMap Try.prog
  obtain ⟨o1, cap1, rfl, hc1, hm1, S1⟩ := SlOf.open h
  have HM0 : Hid (SetM (w.alloc (.map #[] 0)) w.heap.size 0 []) := Lib.hid (World.ownsMap_made w _ _ _)
  have HB0 : Hid (Below w.heap.size w (w.alloc (.map #[] 0))) := Lib.hid ((Below.refl _ w).alloc (Nat.le_refl _) _)
  clear h
  go_enter Try.func22, Try.ntmps22
  go_wp2
  go_loopw [9] (fun iv wr => ∃ k : Nat, k ≤ l.length ∧ iv = .int .i64 (k : Int) ∧ Hid (SetM wr w.heap.size k (l.take k)) ∧ Hid (Below w.heap.size w wr)) (fun iv _ => l.length - (intOf iv).toNat)
  case atStart => exact ⟨0, Nat.zero_le _, rfl, HM0, HB0⟩
  case round =>
    obtain ⟨k, hk, rfl, HM, HB⟩ := hrel
    by_cases hlt : k < l.length
    · have hlt' : (k : Int) < (l.length : Int) := by omega
      obtain ⟨x, hx⟩ : ∃ x, l[k]? = some x := ⟨l[k], List.getElem?_eq_getElem hlt⟩
      obtain ⟨a, rfl, ha, hI, c0⟩ := int_at S1 HB.out hx
      have hal : (a.add k).block < wr.heap.size := by rw [addBlock]; exact Nat.lt_of_lt_of_le ha HB.out.size
      obtain ⟨w2, hr, hm2, hg2⟩ := HM.out.update law_i Try.underlying41 (by unfold maxLen; omega) (keyOf_int_mk Try.underlying3 (i64_wf hI)) (unitElem_mk (H := Unit))
      have HN : Hid (SetM w2 w.heap.size (k + 1) (l.take (k + 1))) := Lib.hid (by
        have e : l.take (k + 1) = l.take k ++ [x] := by rw [List.take_add_one, hx]; rfl
        unfold SetM
        rw [e, setD_snoc]
        exact hm2)
      have HB2 : Hid (Below w.heap.size w w2) := Lib.hid (HB.out.grown hg2 HB.out.size (fun j hj => by have := Option.some.inj hj; omega))
      clear hm2 hg2 hx
      go_wp2
      go_roundw
      case rel => exact ⟨k + 1, hlt, by go_num, HN, HB2⟩
      case measure => simp [intOf]; omega
    · have hlt' : ¬ (k : Int) < (l.length : Int) := by omega
      obtain rfl : k = l.length := by omega
      go_wp2
      go_ret
      exact ⟨⟨_, rfl, Nat.le_refl _, by have := HM.out; rw [List.take_length] at this; exact this⟩, HB.out⟩
/-- Two sets are the same just if each one's numbers are the other one's. -/
theorem sets_eq {a b : List Int} {es1 es2 : List (Lit × DataW Unit)} (e1 : setD a = .map es1) (e2 : setD b = .map es2) (p1 : es1.Pairwise fun p q => p.1 ≠ q.1) (p2 : es2.Pairwise fun p q => p.1 ≠ q.1) (k1 : ∀ p ∈ es1, WideAt.IsKeyLit p.1) (k2 : ∀ p ∈ es2, WideAt.IsKeyLit p.1) :
    Lib.equalFuncD (fun _ _ => true) (setD a) (setD b) = (withinL a b && withinL b a) := by
  have hh : ∀ (l : List Int) (k : Lit), Maps.has (setD l) k = (l.map kI).any fun x => x.sameKey k := fun l k => has_setOf _ k _ (kI_key l)
  have hmem : ∀ {l : List Int} {es : List (Lit × DataW Unit)}, setD l = .map es → (∀ p ∈ es, WideAt.IsKeyLit p.1) → ∀ k : Lit, k ∈ es.map Prod.fst ↔ ∃ x ∈ l, k = kI x := by
    intro l es he hk k
    constructor
    · intro h
      obtain ⟨p, hp, rfl⟩ := List.mem_map.1 h
      have h1 : Maps.has (setD l) p.1 = true := by rw [he]; exact List.any_eq_true.2 ⟨p, hp, WideAt.sameKey_self (hk p hp)⟩
      rw [hh] at h1
      obtain ⟨y, hy, hs⟩ := List.any_eq_true.1 h1
      obtain ⟨x, hx, rfl⟩ := List.mem_map.1 hy
      exact ⟨x, hx, (WideAt.sameKey_eq hs).symm⟩
    · rintro ⟨x, hx, rfl⟩
      have h1 : Maps.has (setD l) (kI x) = true := by
        rw [hh]
        exact List.any_eq_true.2 ⟨kI x, List.mem_map.2 ⟨x, hx, rfl⟩, WideAt.sameKey_self trivial⟩
      rw [he] at h1
      obtain ⟨p, hp, hs⟩ := List.any_eq_true.1 h1
      exact List.mem_map.2 ⟨p, hp, WideAt.sameKey_eq hs⟩
  have n1 : (es1.map Prod.fst).Nodup := by rw [List.nodup_iff_pairwise_ne, List.pairwise_map]; exact p1
  have n2 : (es2.map Prod.fst).Nodup := by rw [List.nodup_iff_pairwise_ne, List.pairwise_map]; exact p2
  have s1 : Maps.size (setD a) = (es1.map Prod.fst).length := by rw [e1, List.length_map]; rfl
  have s2 : Maps.size (setD b) = (es2.map Prod.fst).length := by rw [e2, List.length_map]; rfl
  rw [Bool.eq_iff_iff, Bool.and_eq_true, within_iff, within_iff]
  unfold Lib.equalFuncD
  rw [Bool.and_eq_true, decide_eq_true_eq, s1, s2, List.all_eq_true]
  have hent : Lib.entriesD (setD a) = es1 := by rw [e1]; rfl
  rw [hent]
  have hgood : ∀ p ∈ es1, Lib.goodD (fun _ _ => true) (setD b) p = true ↔ p.1 ∈ es2.map Prod.fst := fun p hp => by
    unfold Lib.goodD
    rw [Bool.and_true]
    rw [e2]
    constructor
    · intro h
      obtain ⟨q, hq, hs⟩ := List.any_eq_true.1 h
      exact List.mem_map.2 ⟨q, hq, WideAt.sameKey_eq hs⟩
    · intro h
      obtain ⟨q, hq, e⟩ := List.mem_map.1 h
      exact List.any_eq_true.2 ⟨q, hq, by rw [e]; exact WideAt.sameKey_self (k1 p hp)⟩
  have kinj : ∀ {x y : Int}, kI x = kI y → x = y := fun h => by unfold kI at h; injection h
  constructor
  · rintro ⟨hlen, hg⟩
    have hsub : ∀ k ∈ es1.map Prod.fst, k ∈ es2.map Prod.fst := fun k hk => by
      obtain ⟨p, hp, rfl⟩ := List.mem_map.1 hk
      exact (hgood p hp).1 (hg p hp)
    refine ⟨fun x hx => ?_, fun x hx => Classical.byContradiction fun hn => ?_⟩
    · obtain ⟨y, hy, e⟩ := (hmem e2 k2 _).1 (hsub _ ((hmem e1 k1 (kI x)).2 ⟨x, hx, rfl⟩))
      rw [kinj e]; exact hy
    · have h3 : kI x ∉ es1.map Prod.fst := fun h => by
        obtain ⟨y, hy, e⟩ := (hmem e1 k1 _).1 h
        rw [kinj e] at hn
        exact hn hy
      have := gsub_len (l := kI x :: es1.map Prod.fst) (m := es2.map Prod.fst) (List.nodup_cons.2 ⟨h3, n1⟩) fun k hk => by
        rcases List.mem_cons.1 hk with rfl | hk
        · exact (hmem e2 k2 _).2 ⟨x, hx, rfl⟩
        · exact hsub k hk
      simp only [List.length_cons] at this
      omega
  · rintro ⟨hab, hba⟩
    have s12 : ∀ k ∈ es1.map Prod.fst, k ∈ es2.map Prod.fst := fun k hk => by
      obtain ⟨x, hx, rfl⟩ := (hmem e1 k1 _).1 hk
      exact (hmem e2 k2 _).2 ⟨x, hab x hx, rfl⟩
    have s21 : ∀ k ∈ es2.map Prod.fst, k ∈ es1.map Prod.fst := fun k hk => by
      obtain ⟨x, hx, rfl⟩ := (hmem e2 k2 _).1 hk
      exact (hmem e1 k1 _).2 ⟨x, hba x hx, rfl⟩
    have h1 := gsub_len n1 s12
    have h2 := gsub_len n2 s21
    exact ⟨by omega, fun p hp => (hgood p hp).2 (s12 _ (List.mem_map.2 ⟨p, hp, rfl⟩))⟩
end Go.Proofs.Ytiljpacmkmmlcaa

/- Where a rule's terms lie: every term that the search for types asks of is among its terms. -/
import Derived.Test.YtbpdfmpfnbdeoaaDoorYtypes
import Derived.Test.YtbpdfmpfnbdeoaaDoorYvars
namespace Go.Proofs.YtbpdfmpfnbdeoaaDoor
open Go.RowKit

theorem sub_mem {u : Tm} : ∀ {l : List Tm}, u ∈ l → u ∈ subTs l
  | t :: l, h => by
    unfold subTs
    rcases List.mem_cons.1 h with rfl | h
    · exact List.mem_append_left _ (by rw [subT_eq]; exact List.mem_cons_self ..)
    · exact List.mem_append_right _ (sub_mem h)
mutual
theorem subT_child (u : Tm) : ∀ (t s : Tm), s ∈ subT t → u ∈ s.l → u ∈ subT t
  | .mk o b n l, s, hs, hu => by
    unfold subT at hs ⊢
    rcases List.mem_cons.1 hs with rfl | hs
    · exact List.mem_cons_of_mem _ (sub_mem hu)
    · exact List.mem_cons_of_mem _ (subTs_child u l s hs hu)
theorem subTs_child (u : Tm) : ∀ (l : List Tm) (s : Tm), s ∈ subTs l → u ∈ s.l → u ∈ subTs l
  | [], s, hs, _ => by unfold subTs at hs; cases hs
  | t :: l, s, hs, hu => by
    unfold subTs at hs ⊢
    rcases List.mem_append.1 hs with hs | hs
    · exact List.mem_append_left _ (subT_child u t s hs hu)
    · exact List.mem_append_right _ (subTs_child u l s hs hu)
end
theorem lit_terms {r : Ru} {l : Lt} (h : l ∈ r.body) {u : Tm} (hu : u ∈ litTs l) : u ∈ termsR r := List.mem_append_right _ (List.mem_flatMap.2 ⟨l, h, hu⟩)
theorem terms_child {r : Ru} {t u : Tm} (ht : t ∈ termsR r) (hu : u ∈ t.l) : u ∈ termsR r := by
  rcases List.mem_append.1 ht with ht | ht
  · exact List.mem_append_left _ (subTs_child u _ t ht hu)
  · obtain ⟨l, hl, ht⟩ := List.mem_flatMap.1 ht
    refine lit_terms hl ?_
    unfold litTs at ht ⊢
    rcases List.mem_append.1 ht with ht | ht
    · exact List.mem_append_left _ (subTs_child u _ t ht hu)
    · exact List.mem_append_right _ (subTs_child u _ t ht hu)
theorem terms_xy {r : Ru} {l : Lt} (h : l ∈ r.body) : l.x ∈ termsR r ∧ l.y ∈ termsR r :=
  ⟨lit_terms h (List.mem_append_left _ (sub_mem (List.mem_cons_self ..))), lit_terms h (List.mem_append_left _ (sub_mem (List.mem_cons_of_mem _ (List.mem_cons_self ..))))⟩
theorem atomsL_mem {t : Am} : ∀ {l : List Lt}, t ∈ atomsL l → ∃ x ∈ l, x.a = t
  | x :: l, h => by
    unfold atomsL at h
    split at h
    · obtain ⟨y, hy, e⟩ := atomsL_mem h
      exact ⟨y, List.mem_cons_of_mem _ hy, e⟩
    · rcases List.mem_cons.1 h with rfl | h
      · exact ⟨x, List.mem_cons_self .., rfl⟩
      · obtain ⟨y, hy, e⟩ := atomsL_mem h
        exact ⟨y, List.mem_cons_of_mem _ hy, e⟩
theorem terms_atom {r : Ru} {t : Am} (ht : t ∈ atomsR r) {u : Tm} (hu : u ∈ t.l) : u ∈ termsR r := by
  rcases List.mem_cons.1 ht with rfl | ht
  · exact List.mem_append_left _ (sub_mem hu)
  · obtain ⟨l, hl, rfl⟩ := atomsL_mem ht
    exact lit_terms hl (List.mem_append_right _ (sub_mem hu))

theorem varsOf_c (r : Ru) (cs : List Value) (w : World) (hc : RuC w w.heap.size r cs) (hsm : ∀ t ∈ termsR r, t.op = 1 → t.s.size ≤ 281474976710656) (hlen : (termsR r).length ≤ 1000000) :
    Calls Tryd.prog 36 #[.agg cs.toArray] w fun e w' => ∃ v, e = .returned v ∧ w'.ownsRow w.heap.size 9 1 v (varsV (termsR r)).length ((varsV (termsR r)).map Value.string) ∧ Below w.heap.size w w' := callsIn_wide.1 (varsOf_in r cs w hc hsm hlen)
/-- The search for types, of a rule whose terms are short and few, against relations with types. -/
theorem typesOf_all (ds : List De) (v : Value) (r : Ru) (cs : List Value) (a b' c d : Addr) (n0 : Nat) (w : World) (hn0 : w.heap.size = n0) (hd : SlOf w n0 6 (DeC w n0) ds v) (hc : RuC w n0 r cs)
    (hlen : (termsR r).length ≤ 1000000) (hS : ∀ t ∈ termsR r, t.s.size ≤ maxLen) (hty : ∀ e ∈ ds, ∀ k ∈ e.types, k = 1 ∨ k = 2) (E : YEnv n0 a b' c d w) :
    Calls Tryd.prog 42 #[v, .agg cs.toArray] w (TypR ((termsR r).map nm) n0 w a c d ds r) :=
  typesOf_c ds v r cs _ (by rw [List.length_map]; exact hlen) a b' c d n0 w hn0 hd hc (fun _ ht _ hu _ => List.mem_map.2 ⟨_, terms_atom ht hu, rfl⟩)
    (fun _ hl => ⟨fun _ => List.mem_map.2 ⟨_, (terms_xy hl).1, rfl⟩, fun _ => List.mem_map.2 ⟨_, (terms_xy hl).2, rfl⟩⟩) (fun _ ht _ hu _ => List.mem_map.2 ⟨_, terms_child ht hu, rfl⟩) hS hty E
end Go.Proofs.YtbpdfmpfnbdeoaaDoor

/- soriteslaw08.RelParts: the walk. -/
import Derived.Test.YtgfhgejgdgfjnaaRlmat
import Derived.Test.YtgfhgejgdgfjnaaFlow
namespace Go.Proofs.Ytgfhgejgdgfjnaa
open Go.RowKit Go.Shelf

attribute [local go_sem] Oper.semAt_some

theorem zip_fits (a b : Int) (v u : Vl) (r : Rw) : fitsM [a, b] [v, u] r = (fitsM [a] [v] r && fitsM [b] [u] r) := by simp [fitsM]
theorem match_two (m : List Rw) (a b : Int) (v u : Vl) : matchL m [a, b] [v, u] = matchL (matchL m [a] [v]) [b] [u] := by
  unfold matchL
  rw [List.filter_filter]
  congr 1
  funext r
  rw [zip_fits, Bool.and_comm]
theorem match_other (m : List Rw) (a b : Int) (v u : Vl) : matchL m [a, b] [v, u] = matchL (matchL m [b] [u]) [a] [v] := by
  unfold matchL
  rw [List.filter_filter]
  congr 1
  funext r
  rw [zip_fits]
theorem match_no (m : List Rw) : matchL m [] [] = m := by unfold matchL fitsM; simp
def FewF (m : List Rw) : Prop := (∀ r ∈ m, FitW r) ∧ m.length ≤ 1000000
theorem FewF.match {m : List Rw} (h : FewF m) (cols : List Int) (vals : List Vl) : FewF (matchL m cols vals) := ⟨fun r hr => h.1 r ((List.mem_filter.1 hr).1), Nat.le_trans (match_le _ _ _) h.2⟩
def vC (x : Vl) : Array Value := #[.bool x.sym, .int .i64 x.n, .string x.s]
theorem one_int (a : Int) (h : I64 a) (w : World) : SlOf (w.alloc (.cells #[.int .i64 a] 3)) (w.alloc (.cells #[.int .i64 a] 3)).heap.size 1 IntC [a] (.slice (some ⟨w.heap.size, 0, none⟩) 1 1) :=
  sl_cells (T := 3) [[.int .i64 a]] (World.alloc_heap_new w _) rfl (by simp) (fun i x cs hx hc => by
    have hi : i < 1 := (List.getElem?_eq_some_iff.1 hx).1
    obtain rfl : i = 0 := by omega
    cases hx; cases hc; exact ⟨rfl, h⟩) (by simp [maxLen])
theorem one_val (x : Vl) (h : I64 x.n ∧ x.s.size ≤ maxLen) (w : World) : SlOf (w.alloc (.cells (vC x) 43)) (w.alloc (.cells (vC x) 43)).heap.size 3 VlC [x] (.slice (some ⟨w.heap.size, 0, none⟩) 1 1) :=
  (made_row [x] rfl (fun y hy => by rw [List.mem_singleton.1 hy]; exact h) (by simp [maxLen])).1
theorem drewB {n : Nat} {w w' : World} (h : Below n w.drew w') : Below n w w' := ⟨h.os, h.tape, h.output, h.size, h.block⟩
theorem two_ints (a b : Int) (ha : I64 a) (hb : I64 b) (w : World) : SlOf (w.alloc (.cells #[.int .i64 a, .int .i64 b] 3)) (w.alloc (.cells #[.int .i64 a, .int .i64 b] 3)).heap.size 1 IntC [a, b] (.slice (some ⟨w.heap.size, 0, none⟩) 2 2) :=
  sl_cells (T := 3) [[.int .i64 a], [.int .i64 b]] (World.alloc_heap_new w _) rfl (by simp) (fun i x cs hx hc => by
    have hi : i < 2 := (List.getElem?_eq_some_iff.1 hx).1
    rcases (by omega : i = 0 ∨ i = 1) with rfl | rfl
    · cases hx; cases hc; exact ⟨rfl, ha⟩
    · cases hx; cases hc; exact ⟨rfl, hb⟩) (by simp [maxLen])
def pFacts (m : List Rw) (a b : Int) (v u : Vl) : List (Value → World → Prop) :=
  [fun x w => RwsS w w.heap.size m x, fun x _ => x = .int .i64 a, fun x w => SlOf w w.heap.size 1 IntC [a] x, fun x _ => x = .agg (vC v), fun x w => SlOf w w.heap.size 3 VlC [v] x,
   fun x w => RwsS w w.heap.size (matchL m [a] [v]) x, fun x _ => x = .int .i64 b, fun x w => SlOf w w.heap.size 1 IntC [b] x, fun x _ => x = .agg (vC u), fun x w => SlOf w w.heap.size 3 VlC [u] x,
   fun x w => RwsS w w.heap.size (matchL (matchL m [a] [v]) [b] [u]) x, fun x w => RwsS w w.heap.size (matchL (matchL m [a] [v]) [b] [u]) x]
theorem pFacts_mono (m : List Rw) (a b : Int) (v u : Vl) : ∀ p ∈ pFacts m a b v u, ∀ x w w', p x w → Below w.heap.size w w' → p x w' := by
  intro p hp x w w' h hb
  unfold pFacts at hp
  simp only [List.mem_cons, List.not_mem_nil, or_false] at hp
  rcases hp with rfl | rfl | rfl | rfl | rfl | rfl | rfl | rfl | rfl | rfl | rfl | rfl
  · exact RwsS.past h hb
  · exact h
  · exact SlOf.int h hb hb.size
  · exact h
  · exact VlS.past h hb
  · exact RwsS.past h hb
  · exact h
  · exact SlOf.int h hb hb.size
  · exact h
  · exact VlS.past h hb
  · exact RwsS.past h hb
  · exact RwsS.past h hb
set_option linter.unusedSimpArgs false in
set_option maxRecDepth 100000 in
set_option maxHeartbeats 16000000 in
theorem relParts_c (l : List Rw) (a b : Int) (v u : Vl) (vl : Value) (w : World) (hl : RwsS w w.heap.size l vl) (ha : I64 a) (hb0 : I64 b) (nv : I64 v.n) (zv : v.s.size ≤ maxLen) (nu : I64 u.n) (zu : u.s.size ≤ maxLen) (hf : ∀ r ∈ l, FitW r) :
    Calls Try.prog 9 #[vl, .int .i64 a, .int .i64 b, .agg #[.bool v.sym, .int .i64 v.n, .string v.s], .agg #[.bool u.sym, .int .i64 u.n, .string u.s]] w fun e w' => e = .returned (.bool true) ∧ Below w.heap.size w w' := by
  obtain ⟨oc, cc, rfl, hcc, hmc, _⟩ := SlOf.open hl
  have HL := Lib.hid hl
  have HF : Hid (FewF (l.take 100)) := Lib.hid (fit_take hf)
  have HA := Lib.hid ha
  have HB := Lib.hid hb0
  have HV := Lib.hid (And.intro nv zv)
  have HU := Lib.hid (And.intro nu zu)
  clear hl hf ha hb0 nv zv nu zu
  go_enter Try.func9, Try.ntmps9
  go_wp2_with fail
  obtain ⟨W1, hW1⟩ : ∃ W1, w.alloc (.cells #[.bool v.sym, .int .i64 v.n, .string v.s] 43) = W1 := ⟨_, rfl⟩
  obtain ⟨W2, hW2⟩ : ∃ W2, W1.alloc (.cells #[.bool u.sym, .int .i64 u.n, .string u.s] 43) = W2 := ⟨_, rfl⟩
  obtain ⟨k8, hk8⟩ : ∃ k, w.heap.size = k := ⟨_, rfl⟩
  have z1 : W1.heap.size = k8 + 1 := by rw [← hW1, ← hk8]; simp
  have r1 : W1.heap[k8]? = some (.cells #[.bool v.sym, .int .i64 v.n, .string v.s] 43 (0, 0)) := by rw [← hW1, ← hk8]; exact World.alloc_heap_new w _
  obtain ⟨k9, hk9⟩ : ∃ k, k8 + 1 = k := ⟨_, rfl⟩
  have r2 : W2.heap[k9]? = some (.cells #[.bool u.sym, .int .i64 u.n, .string u.s] 43 (0, 0)) := by rw [← hW2, ← hk9, ← z1]; exact World.alloc_heap_new W1 _
  have r1' : W2.heap[k8]? = some (.cells #[.bool v.sym, .int .i64 v.n, .string v.s] 43 (0, 0)) := by rw [← hW2]; exact row_more r1 _
  have bb : Below w.heap.size w W2 := by rw [← hW2, ← hW1]; exact ((Below.refl _ _).alloc (Nat.le_refl _) _).alloc (by simp) _
  rw [hW1, hW2, hk8, hk9]
  have R8 := Lib.hid r1'
  have R9 := Lib.hid r2
  have HL := Lib.hid (RwsS.past HL.out bb)
  have B2 := Lib.hid bb
  clear r1 r2 r1' bb z1 hW1 hW2 hk8 hk9
  refine (shown_c W2).mono ?_
  rintro e w3 ⟨rfl, b3⟩
  have HL := Lib.hid (RwsS.past HL.out b3)
  have R8 := Lib.hid ((b3.block _ (heapLt R8.out)).trans R8.out)
  have R9 := Lib.hid ((b3.block _ (heapLt R9.out)).trans R9.out)
  have B3 := Lib.hid (B2.out.trans (b3.mono B2.out.size))
  clear b3
  go_wp2_with fail
  refine (cut_c l _ w3 HL.out).mono ?_
  rintro e w2 ⟨⟨uu, rfl, h2⟩, rfl⟩
  obtain ⟨ou, cu, rfl, hcu, hmu, _⟩ := SlOf.open h2
  generalize l.take 100 = m at h2 HF ⊢
  have HL := Lib.hid h2
  clear h2
  have q0 := row_cell R8.out
  have c80 : w3.cell? ⟨k8, 0, none⟩ = some (.bool v.sym) := (q0 0).1
  have c81 : w3.cell? ⟨k8, 1, none⟩ = some (.int .i64 v.n) := (q0 1).1
  have c82 : w3.cell? ⟨k8, 2, none⟩ = some (.string v.s) := (q0 2).1
  have q1 := row_cell R9.out
  have c90 : w3.cell? ⟨k9, 0, none⟩ = some (.bool u.sym) := (q1 0).1
  have c91 : w3.cell? ⟨k9, 1, none⟩ = some (.int .i64 u.n) := (q1 1).1
  have c92 : w3.cell? ⟨k9, 2, none⟩ = some (.string u.s) := (q1 2).1
  have l8 := heapLt R8.out
  have l9 := heapLt R9.out
  clear q0 q1
  go_wp2_with fail
  obtain ⟨Wa, hWa⟩ : ∃ W, w3.alloc (.cells #[.int .i64 a, .int .i64 b] 3) = W := ⟨_, rfl⟩
  obtain ⟨Wb, hWb⟩ : ∃ W, Wa.alloc (.cells #[.bool v.sym, .int .i64 v.n, .string v.s, .bool u.sym, .int .i64 u.n, .string u.s] 43) = W := ⟨_, rfl⟩
  have ba : Below w3.heap.size w3 Wa := by rw [← hWa]; exact (Below.refl _ _).alloc (Nat.le_refl _) _
  have za : Wa.heap.size = w3.heap.size + 1 := by rw [← hWa]; simp
  have fa : SlOf Wa Wa.heap.size 1 IntC [a, b] (.slice (some ⟨w3.heap.size, 0, none⟩) 2 2) := by rw [← hWa]; exact two_ints a b HA.out HB.out w3
  obtain ⟨fb, bb⟩ := made_row [v, u] hWb (by intro x hx; simp only [List.mem_cons, List.not_mem_nil, or_false] at hx; rcases hx with rfl | rfl; exact HV.out; exact HU.out) (by simp [maxLen])
  rw [hWa, hWb]
  rw [za] at fb
  have FA := Lib.hid (SlOf.int fa bb bb.size)
  have FB := Lib.hid fb
  have bab := ba.trans (bb.mono (by omega))
  have HL := Lib.hid (RwsS.past HL.out bab)
  have R8 := Lib.hid ((bab.block _ (heapLt R8.out)).trans R8.out)
  have R9 := Lib.hid ((bab.block _ (heapLt R9.out)).trans R9.out)
  have B4 := Lib.hid (B3.out.trans (bab.mono B3.out.size))
  clear ba za fa fb bb bab hWa hWb c80 c81 c82 c90 c91 c92 l8 l9
  refine (pmatch_c m _ _ _ _ _ Wb HF.out.2 HL.out FA.out FB.out HF.out.1).mono ?_
  rintro e w4 ⟨⟨r4, rfl, h4⟩, b4⟩
  have HL := Lib.hid (RwsS.past HL.out b4)
  have R8 := Lib.hid ((b4.block _ (heapLt R8.out)).trans R8.out)
  have R9 := Lib.hid ((b4.block _ (heapLt R9.out)).trans R9.out)
  have B5 := Lib.hid (B4.out.trans (b4.mono B4.out.size))
  obtain ⟨o4, c4, rfl, _, _, _⟩ := SlOf.open h4
  generalize hn4 : matchL m [a, b] [v, u] = n4 at h4 ⊢
  have N4 := Lib.hid hn4
  have H4 := Lib.hid h4
  clear h4 b4 hn4 FA FB
  go_wp2_with fail
  refine wp_region_any (by kernel_rfl) ?_
  (try (change wpAny _ _ _ _ _ _ _ (World.drew _)))
  refine wpAny_grow [some 26, some 27, some 28, some 29, some 30, some 31, some 32, some 33, some 34, some 35, some 36, some 13] _ _ (pFacts m a b v u) (by kernel_rfl) (by kernel_rfl) (by kernel_rfl) (by kernel_rfl) (by kernel_rfl) (pFacts_mono m a b v u) ⟨?A0, ?A1, ?A2, ?A3, ?A4, ?A5, ?A6, ?A7, ?A8, ?A9, ?A10, ?A11, trivial⟩ ?Afin
  case A0 =>
    intro A w' K hb hfar hd hK
    have e1 : A.tmps[0]?.getD undef = .slice ou m.length cu := hfar 0 (by decide)
    unfold Oper.wp
    simp [execOp, e1, go_sem, Result.andThen]
    exact hK _ _ (Below.refl _ _) (factG_mk rfl (RwsS.past HL.out (drewB hb)))
  case A1 =>
    intro A w' K hb hfar hd hK
    have e1 : A.tmps[1]?.getD undef = .int .i64 a := hfar 1 (by decide)
    unfold Oper.wp
    simp [execOp, e1, go_sem, Result.andThen]
    exact hK _ _ (Below.refl _ _) (factG_mk rfl rfl)
  case A2 =>
    intro A w' K hb hfar hd hK
    have e1 : A.tmps[27]?.getD undef = .int .i64 a := hd 1 27 rfl (by kernel_rfl) _ rfl
    unfold Oper.wp
    simp [execOp, e1, go_sem, Result.andThen]
    exact hK _ _ ((Below.refl _ _).alloc (Nat.le_refl _) _) (factG_mk rfl (one_int _ HA.out w'))
  case A3 =>
    intro A w' K hb hfar hd hK
    have e1 : A.tmps[8]?.getD undef = .pointer (some ⟨k8, 0, none⟩) := hfar 8 (by decide)
    have q := ((drewB hb).block _ (heapLt R8.out)).trans R8.out
    have c0 : w'.cell? ⟨k8, 0, none⟩ = some (.bool v.sym) := (row_cell q 0).1
    have c1 : w'.cell? ⟨k8, 1, none⟩ = some (.int .i64 v.n) := (row_cell q 1).1
    have c2 : w'.cell? ⟨k8, 2, none⟩ = some (.string v.s) := (row_cell q 2).1
    unfold Oper.wp
    simp [execOp, e1, c0, c1, c2, go_sem, Result.andThen]
    exact hK _ _ (Below.refl _ _) (factG_mk rfl rfl)
  case A4 =>
    intro A w' K hb hfar hd hK
    have e1 : A.tmps[29]?.getD undef = .agg (vC v) := hd 3 29 rfl (by kernel_rfl) _ rfl
    unfold vC at e1
    unfold Oper.wp
    simp [execOp, e1, go_sem, Result.andThen]
    exact hK _ _ ((Below.refl _ _).alloc (Nat.le_refl _) _) (factG_mk rfl (one_val _ HV.out w'))
  case A5 =>
    intro A w' K hb hfar hd hK
    have f1 : RwsS w' w'.heap.size m (A.tmps[26]?.getD undef) := hd 0 26 rfl (by kernel_rfl) _ rfl
    have f2 : SlOf w' w'.heap.size 1 IntC [a] (A.tmps[28]?.getD undef) := hd 2 28 rfl (by kernel_rfl) _ rfl
    have f3 : SlOf w' w'.heap.size 3 VlC [v] (A.tmps[30]?.getD undef) := hd 4 30 rfl (by kernel_rfl) _ rfl
    have HP := pmatch_c _ _ _ _ _ _ w' HF.out.2 f1 f2 f3 HF.out.1
    unfold Oper.wp
    simp [execOp, go_sem, Result.andThen]
    refine HP.mono ?_
    rintro e3 w3 ⟨⟨r, rfl, h3⟩, b3⟩
    exact hK _ _ b3 (factG_mk rfl h3)
  case A6 =>
    intro A w' K hb hfar hd hK
    have e1 : A.tmps[2]?.getD undef = .int .i64 b := hfar 2 (by decide)
    unfold Oper.wp
    simp [execOp, e1, go_sem, Result.andThen]
    exact hK _ _ (Below.refl _ _) (factG_mk rfl rfl)
  case A7 =>
    intro A w' K hb hfar hd hK
    have e1 : A.tmps[32]?.getD undef = .int .i64 b := hd 6 32 rfl (by kernel_rfl) _ rfl
    unfold Oper.wp
    simp [execOp, e1, go_sem, Result.andThen]
    exact hK _ _ ((Below.refl _ _).alloc (Nat.le_refl _) _) (factG_mk rfl (one_int _ HB.out w'))
  case A8 =>
    intro A w' K hb hfar hd hK
    have e1 : A.tmps[9]?.getD undef = .pointer (some ⟨k9, 0, none⟩) := hfar 9 (by decide)
    have q := ((drewB hb).block _ (heapLt R9.out)).trans R9.out
    have c0 : w'.cell? ⟨k9, 0, none⟩ = some (.bool u.sym) := (row_cell q 0).1
    have c1 : w'.cell? ⟨k9, 1, none⟩ = some (.int .i64 u.n) := (row_cell q 1).1
    have c2 : w'.cell? ⟨k9, 2, none⟩ = some (.string u.s) := (row_cell q 2).1
    unfold Oper.wp
    simp [execOp, e1, c0, c1, c2, go_sem, Result.andThen]
    exact hK _ _ (Below.refl _ _) (factG_mk rfl rfl)
  case A9 =>
    intro A w' K hb hfar hd hK
    have e1 : A.tmps[34]?.getD undef = .agg (vC u) := hd 8 34 rfl (by kernel_rfl) _ rfl
    unfold vC at e1
    unfold Oper.wp
    simp [execOp, e1, go_sem, Result.andThen]
    exact hK _ _ ((Below.refl _ _).alloc (Nat.le_refl _) _) (factG_mk rfl (one_val _ HU.out w'))
  case A10 =>
    intro A w' K hb hfar hd hK
    have f1 : RwsS w' w'.heap.size (matchL m [a] [v]) (A.tmps[31]?.getD undef) := hd 5 31 rfl (by kernel_rfl) _ rfl
    have f2 : SlOf w' w'.heap.size 1 IntC [b] (A.tmps[33]?.getD undef) := hd 7 33 rfl (by kernel_rfl) _ rfl
    have f3 : SlOf w' w'.heap.size 3 VlC [u] (A.tmps[35]?.getD undef) := hd 9 35 rfl (by kernel_rfl) _ rfl
    have HP := pmatch_c _ _ _ _ _ _ w' (FewF.match HF.out [a] [v]).2 f1 f2 f3 (FewF.match HF.out [a] [v]).1
    unfold Oper.wp
    simp [execOp, go_sem, Result.andThen]
    refine HP.mono ?_
    rintro e3 w3 ⟨⟨r, rfl, h3⟩, b3⟩
    exact hK _ _ b3 (factG_mk rfl h3)
  case A11 =>
    intro A w' K hb hfar hd hK
    have f1 : RwsS w' w'.heap.size (matchL (matchL m [a] [v]) [b] [u]) (A.tmps[36]?.getD undef) := hd 10 36 rfl (by kernel_rfl) _ rfl
    unfold Oper.wp
    simp [execOp, go_sem, Result.andThen]
    exact hK _ _ (Below.refl _ _) (factG_mk rfl f1)
  case Afin =>
  intro val w5 hF hb
  have f11 : RwsS w5 w5.heap.size (matchL (matchL m [a] [v]) [b] [u]) (val 11) := hF 11 13 rfl _ rfl
  have bb := drewB hb
  simp only [putsA, Nat.zero_add, Nat.reduceAdd]
  obtain ⟨Av0, e0⟩ : ∃ v, val 0 = v := ⟨_, rfl⟩
  obtain ⟨Av1, e1⟩ : ∃ v, val 1 = v := ⟨_, rfl⟩
  obtain ⟨Av2, e2⟩ : ∃ v, val 2 = v := ⟨_, rfl⟩
  obtain ⟨Av3, e3⟩ : ∃ v, val 3 = v := ⟨_, rfl⟩
  obtain ⟨Av4, e4⟩ : ∃ v, val 4 = v := ⟨_, rfl⟩
  obtain ⟨Av5, e5⟩ : ∃ v, val 5 = v := ⟨_, rfl⟩
  obtain ⟨Av6, e6⟩ : ∃ v, val 6 = v := ⟨_, rfl⟩
  obtain ⟨Av7, e7⟩ : ∃ v, val 7 = v := ⟨_, rfl⟩
  obtain ⟨Av8, e8⟩ : ∃ v, val 8 = v := ⟨_, rfl⟩
  obtain ⟨Av9, e9⟩ : ∃ v, val 9 = v := ⟨_, rfl⟩
  obtain ⟨Av10, e10⟩ : ∃ v, val 10 = v := ⟨_, rfl⟩
  obtain ⟨Av11, e11⟩ : ∃ v, val 11 = v := ⟨_, rfl⟩
  rw [e11] at f11
  simp only [e0, e1, e2, e3, e4, e5, e6, e7, e8, e9, e10, e11]
  clear hF hb e0 e1 e2 e3 e4 e5 e6 e7 e8 e9 e10 e11 val
  have HL := Lib.hid (RwsS.past HL.out bb)
  have R8 := Lib.hid ((bb.block _ (heapLt R8.out)).trans R8.out)
  have R9 := Lib.hid ((bb.block _ (heapLt R9.out)).trans R9.out)
  have H4 := Lib.hid (RwsS.past H4.out bb)
  have B6 := Lib.hid (B5.out.trans (bb.mono B5.out.size))
  have B5 := B6
  rw [← match_two, N4.out] at f11
  have H5 := Lib.hid f11
  obtain ⟨oH5, cH5, eH5, _, _, _⟩ := SlOf.open f11
  subst eH5
  clear f11 bb
  go_wp2_with fail
  go_simp
  refine wp_region_any (by kernel_rfl) ?_
  (try (change wpAny _ _ _ _ _ _ _ (World.drew _)))
  refine wpAny_grow [some 37, some 38, some 39, some 40, some 41, some 42, some 43, some 44, some 45, some 46, some 47, some 14] _ _ (pFacts m b a u v) (by kernel_rfl) (by kernel_rfl) (by kernel_rfl) (by kernel_rfl) (by kernel_rfl) (pFacts_mono m b a u v) ⟨?C0, ?C1, ?C2, ?C3, ?C4, ?C5, ?C6, ?C7, ?C8, ?C9, ?C10, ?C11, trivial⟩ ?Cfin
  case C0 =>
    intro A w' K hb hfar hd hK
    have e1 : A.tmps[0]?.getD undef = .slice ou m.length cu := hfar 0 (by decide)
    unfold Oper.wp
    simp [execOp, e1, go_sem, Result.andThen]
    exact hK _ _ (Below.refl _ _) (factG_mk rfl (RwsS.past HL.out (drewB hb)))
  case C1 =>
    intro A w' K hb hfar hd hK
    have e1 : A.tmps[2]?.getD undef = .int .i64 b := hfar 2 (by decide)
    unfold Oper.wp
    simp [execOp, e1, go_sem, Result.andThen]
    exact hK _ _ (Below.refl _ _) (factG_mk rfl rfl)
  case C2 =>
    intro A w' K hb hfar hd hK
    have e1 : A.tmps[38]?.getD undef = .int .i64 b := hd 1 38 rfl (by kernel_rfl) _ rfl
    unfold Oper.wp
    simp [execOp, e1, go_sem, Result.andThen]
    exact hK _ _ ((Below.refl _ _).alloc (Nat.le_refl _) _) (factG_mk rfl (one_int _ HB.out w'))
  case C3 =>
    intro A w' K hb hfar hd hK
    have e1 : A.tmps[9]?.getD undef = .pointer (some ⟨k9, 0, none⟩) := hfar 9 (by decide)
    have q := ((drewB hb).block _ (heapLt R9.out)).trans R9.out
    have c0 : w'.cell? ⟨k9, 0, none⟩ = some (.bool u.sym) := (row_cell q 0).1
    have c1 : w'.cell? ⟨k9, 1, none⟩ = some (.int .i64 u.n) := (row_cell q 1).1
    have c2 : w'.cell? ⟨k9, 2, none⟩ = some (.string u.s) := (row_cell q 2).1
    unfold Oper.wp
    simp [execOp, e1, c0, c1, c2, go_sem, Result.andThen]
    exact hK _ _ (Below.refl _ _) (factG_mk rfl rfl)
  case C4 =>
    intro A w' K hb hfar hd hK
    have e1 : A.tmps[40]?.getD undef = .agg (vC u) := hd 3 40 rfl (by kernel_rfl) _ rfl
    unfold vC at e1
    unfold Oper.wp
    simp [execOp, e1, go_sem, Result.andThen]
    exact hK _ _ ((Below.refl _ _).alloc (Nat.le_refl _) _) (factG_mk rfl (one_val _ HU.out w'))
  case C5 =>
    intro A w' K hb hfar hd hK
    have f1 : RwsS w' w'.heap.size m (A.tmps[37]?.getD undef) := hd 0 37 rfl (by kernel_rfl) _ rfl
    have f2 : SlOf w' w'.heap.size 1 IntC [b] (A.tmps[39]?.getD undef) := hd 2 39 rfl (by kernel_rfl) _ rfl
    have f3 : SlOf w' w'.heap.size 3 VlC [u] (A.tmps[41]?.getD undef) := hd 4 41 rfl (by kernel_rfl) _ rfl
    have HP := pmatch_c _ _ _ _ _ _ w' HF.out.2 f1 f2 f3 HF.out.1
    unfold Oper.wp
    simp [execOp, go_sem, Result.andThen]
    refine HP.mono ?_
    rintro e3 w3 ⟨⟨r, rfl, h3⟩, b3⟩
    exact hK _ _ b3 (factG_mk rfl h3)
  case C6 =>
    intro A w' K hb hfar hd hK
    have e1 : A.tmps[1]?.getD undef = .int .i64 a := hfar 1 (by decide)
    unfold Oper.wp
    simp [execOp, e1, go_sem, Result.andThen]
    exact hK _ _ (Below.refl _ _) (factG_mk rfl rfl)
  case C7 =>
    intro A w' K hb hfar hd hK
    have e1 : A.tmps[43]?.getD undef = .int .i64 a := hd 6 43 rfl (by kernel_rfl) _ rfl
    unfold Oper.wp
    simp [execOp, e1, go_sem, Result.andThen]
    exact hK _ _ ((Below.refl _ _).alloc (Nat.le_refl _) _) (factG_mk rfl (one_int _ HA.out w'))
  case C8 =>
    intro A w' K hb hfar hd hK
    have e1 : A.tmps[8]?.getD undef = .pointer (some ⟨k8, 0, none⟩) := hfar 8 (by decide)
    have q := ((drewB hb).block _ (heapLt R8.out)).trans R8.out
    have c0 : w'.cell? ⟨k8, 0, none⟩ = some (.bool v.sym) := (row_cell q 0).1
    have c1 : w'.cell? ⟨k8, 1, none⟩ = some (.int .i64 v.n) := (row_cell q 1).1
    have c2 : w'.cell? ⟨k8, 2, none⟩ = some (.string v.s) := (row_cell q 2).1
    unfold Oper.wp
    simp [execOp, e1, c0, c1, c2, go_sem, Result.andThen]
    exact hK _ _ (Below.refl _ _) (factG_mk rfl rfl)
  case C9 =>
    intro A w' K hb hfar hd hK
    have e1 : A.tmps[45]?.getD undef = .agg (vC v) := hd 8 45 rfl (by kernel_rfl) _ rfl
    unfold vC at e1
    unfold Oper.wp
    simp [execOp, e1, go_sem, Result.andThen]
    exact hK _ _ ((Below.refl _ _).alloc (Nat.le_refl _) _) (factG_mk rfl (one_val _ HV.out w'))
  case C10 =>
    intro A w' K hb hfar hd hK
    have f1 : RwsS w' w'.heap.size (matchL m [b] [u]) (A.tmps[42]?.getD undef) := hd 5 42 rfl (by kernel_rfl) _ rfl
    have f2 : SlOf w' w'.heap.size 1 IntC [a] (A.tmps[44]?.getD undef) := hd 7 44 rfl (by kernel_rfl) _ rfl
    have f3 : SlOf w' w'.heap.size 3 VlC [v] (A.tmps[46]?.getD undef) := hd 9 46 rfl (by kernel_rfl) _ rfl
    have HP := pmatch_c _ _ _ _ _ _ w' (FewF.match HF.out [b] [u]).2 f1 f2 f3 (FewF.match HF.out [b] [u]).1
    unfold Oper.wp
    simp [execOp, go_sem, Result.andThen]
    refine HP.mono ?_
    rintro e3 w3 ⟨⟨r, rfl, h3⟩, b3⟩
    exact hK _ _ b3 (factG_mk rfl h3)
  case C11 =>
    intro A w' K hb hfar hd hK
    have f1 : RwsS w' w'.heap.size (matchL (matchL m [b] [u]) [a] [v]) (A.tmps[47]?.getD undef) := hd 10 47 rfl (by kernel_rfl) _ rfl
    unfold Oper.wp
    simp [execOp, go_sem, Result.andThen]
    exact hK _ _ (Below.refl _ _) (factG_mk rfl f1)
  case Cfin =>
  intro val w6 hF hb
  have f11 : RwsS w6 w6.heap.size (matchL (matchL m [b] [u]) [a] [v]) (val 11) := hF 11 14 rfl _ rfl
  have bb := drewB hb
  simp only [putsA, Nat.zero_add, Nat.reduceAdd]
  obtain ⟨Cv0, e0⟩ : ∃ v, val 0 = v := ⟨_, rfl⟩
  obtain ⟨Cv1, e1⟩ : ∃ v, val 1 = v := ⟨_, rfl⟩
  obtain ⟨Cv2, e2⟩ : ∃ v, val 2 = v := ⟨_, rfl⟩
  obtain ⟨Cv3, e3⟩ : ∃ v, val 3 = v := ⟨_, rfl⟩
  obtain ⟨Cv4, e4⟩ : ∃ v, val 4 = v := ⟨_, rfl⟩
  obtain ⟨Cv5, e5⟩ : ∃ v, val 5 = v := ⟨_, rfl⟩
  obtain ⟨Cv6, e6⟩ : ∃ v, val 6 = v := ⟨_, rfl⟩
  obtain ⟨Cv7, e7⟩ : ∃ v, val 7 = v := ⟨_, rfl⟩
  obtain ⟨Cv8, e8⟩ : ∃ v, val 8 = v := ⟨_, rfl⟩
  obtain ⟨Cv9, e9⟩ : ∃ v, val 9 = v := ⟨_, rfl⟩
  obtain ⟨Cv10, e10⟩ : ∃ v, val 10 = v := ⟨_, rfl⟩
  obtain ⟨Cv11, e11⟩ : ∃ v, val 11 = v := ⟨_, rfl⟩
  rw [e11] at f11
  simp only [e0, e1, e2, e3, e4, e5, e6, e7, e8, e9, e10, e11]
  clear hF hb e0 e1 e2 e3 e4 e5 e6 e7 e8 e9 e10 e11 val
  have HL := Lib.hid (RwsS.past HL.out bb)
  have R8 := Lib.hid ((bb.block _ (heapLt R8.out)).trans R8.out)
  have R9 := Lib.hid ((bb.block _ (heapLt R9.out)).trans R9.out)
  have H4 := Lib.hid (RwsS.past H4.out bb)
  have H5 := Lib.hid (RwsS.past H5.out bb)
  have B7 := Lib.hid (B5.out.trans (bb.mono B5.out.size))
  have B5 := B7
  rw [← match_other, N4.out] at f11
  have H6 := Lib.hid f11
  obtain ⟨oH6, cH6, eH6, _, _, _⟩ := SlOf.open f11
  subst eH6
  clear f11 bb
  go_wp2_with fail
  refine (rsame_c n4 n4 _ _ w6 H4.out H5.out).mono ?_
  rintro e w7 ⟨rfl, b7⟩
  rw [(sameWs_iff n4 n4).2 rfl]
  have HL := Lib.hid (RwsS.past HL.out b7)
  have H4 := Lib.hid (RwsS.past H4.out b7)
  have H6 := Lib.hid (RwsS.past H6.out b7)
  have B7 := Lib.hid (B5.out.trans (b7.mono B5.out.size))
  clear b7
  go_wp2_with fail
  refine (rsame_c n4 n4 _ _ w7 H4.out H6.out).mono ?_
  rintro e w8 ⟨rfl, b8⟩
  rw [(sameWs_iff n4 n4).2 rfl]
  have HL := Lib.hid (RwsS.past HL.out b8)
  have B8 := Lib.hid (B7.out.trans (b8.mono B7.out.size))
  clear b8
  go_wp2_with fail
  refine (pmatch_c m [] [] _ _ _ w8 HF.out.2 HL.out (.inl ⟨rfl, rfl⟩) (.inl ⟨rfl, rfl⟩) HF.out.1).mono ?_
  rintro e w9 ⟨⟨r9, rfl, h9⟩, b9⟩
  rw [match_no] at h9
  obtain ⟨o9, c9, rfl, _, _, _⟩ := SlOf.open h9
  have H9 := Lib.hid h9
  have HL := Lib.hid (RwsS.past HL.out b9)
  have B9 := Lib.hid (B8.out.trans (b9.mono B8.out.size))
  clear b9 h9
  go_wp2_with fail
  refine (rsame_c m m _ _ w9 H9.out HL.out).mono ?_
  rintro e w10 ⟨rfl, b10⟩
  rw [(sameWs_iff m m).2 rfl]
  have B10 := Lib.hid (B9.out.trans (b10.mono B9.out.size))
  clear b10
  go_wp2
  go_ret
  exact ⟨rfl, B10.out⟩
end Go.Proofs.Ytgfhgejgdgfjnaa

/- soriteslaw08.shown. -/
import Derived.Test.YtphmiifochjemaaPco
import Derived.Test.YtphmiifochjemaaRlaw
namespace Go.Proofs.Ytphmiifochjemaa
open Go.RowKit Go.Shelf

attribute [local go_sem] Oper.semAt_some

theorem flat_at {z : Nat} : ∀ (css : List (List Value)) (i j : Nat) (cs : List Value) (c : Value), (∀ x ∈ css, x.length = z) → css[i]? = some cs → cs[j]? = some c → css.flatten[i * z + j]? = some c
  | [], i, j, cs, c, _, h, _ => by simp at h
  | x :: css, 0, j, cs, c, hz, h, hc => by
    simp only [List.getElem?_cons_zero, Option.some.injEq] at h
    subst h
    rw [List.flatten_cons, Nat.zero_mul, Nat.zero_add, List.getElem?_append_left (List.getElem?_eq_some_iff.1 hc).1]
    exact hc
  | x :: css, i + 1, j, cs, c, hz, h, hc => by
    rw [List.flatten_cons, List.getElem?_append_right (by rw [hz x (List.mem_cons_self ..), Nat.succ_mul]; omega), hz x (List.mem_cons_self ..), show (i + 1) * z + j - z = i * z + j by rw [Nat.succ_mul]; omega]
    exact flat_at css i j cs c (fun y hy => hz y (List.mem_cons_of_mem _ hy)) (by simpa using h) hc
/-- A row that has just been made, as a slice. -/
theorem sl_cells {α : Type} {w : World} {B z : Nat} {T : TypeId} {R : α → List Value → Prop} {l : List α} (css : List (List Value)) (hrow : w.heap[B]? = some (.cells css.flatten.toArray T (0, 0))) (hl : css.length = l.length) (hz : ∀ cs ∈ css, cs.length = z)
    (hR : ∀ (i : Nat) (x : α) (cs : List Value), l[i]? = some x → css[i]? = some cs → R x cs) (hm : l.length ≤ maxLen) : SlOf w w.heap.size z R l (.slice (some ⟨B, 0, none⟩) l.length l.length) := by
  have news := World.news_of_block hrow
  refine .inr ⟨⟨B, 0, none⟩, l.length, rfl, Nat.le_refl _, hm, fun _ => heapLt hrow, fun i x hx => ?_⟩
  have hi : i < css.length := by rw [hl]; exact (List.getElem?_eq_some_iff.1 hx).1
  refine ⟨css[i], hz _ (List.getElem_mem hi), hR i x _ hx (List.getElem?_eq_getElem hi), fun j c hj => ?_⟩
  exact news (i * z + j) c (flat_at css i j css[i] c hz (List.getElem?_eq_getElem hi) hj)
theorem made_row {W W2 : World} {T : TypeId} (r : Rw) (hW : W.alloc (.cells ((r.map fun x => [Value.bool x.sym, Value.int .i64 x.n, Value.string x.s]).flatten.toArray) T) = W2) (hr : ∀ x ∈ r, I64 x.n ∧ x.s.size ≤ maxLen) (hm : r.length ≤ maxLen) :
    SlOf W2 W2.heap.size 3 VlC r (.slice (some ⟨W.heap.size, 0, none⟩) r.length r.length) ∧ Below W.heap.size W W2 := by
  subst hW
  refine ⟨sl_cells (r.map fun x => [.bool x.sym, .int .i64 x.n, .string x.s]) (World.alloc_heap_new W _) (by simp) (by simp) ?_ hm, (Below.refl _ _).alloc (Nat.le_refl _) _⟩
  intro i x cs hx hc
  rw [List.getElem?_map, hx] at hc
  cases hc
  exact ⟨rfl, hr x (List.mem_of_getElem? hx)⟩
theorem made_rows {W W2 : World} {T : TypeId} (l : List Rw) (vs : List Value) (hW : W.alloc (.cells vs.toArray T) = W2) (hl : vs.length = l.length) (hm : l.length ≤ maxLen) (hr : ∀ (i : Nat) (r : Rw) (v : Value), l[i]? = some r → vs[i]? = some v → SlOf W W.heap.size 3 VlC r v) :
    RwsS W2 W2.heap.size l (.slice (some ⟨W.heap.size, 0, none⟩) l.length l.length) ∧ Below W.heap.size W W2 := by
  have hb : Below W.heap.size W W2 := by rw [← hW]; exact (Below.refl _ _).alloc (Nat.le_refl _) _
  refine ⟨?_, hb⟩
  have hf : ∀ vs : List Value, (vs.map fun v => [v]).flatten = vs := fun vs => by
    induction vs with
    | nil => rfl
    | cons x r ih => rw [List.map_cons, List.flatten_cons, ih]; rfl
  refine sl_cells (T := T) (vs.map fun v => [v]) ?_ (by simpa using hl) (by simp) ?_ hm
  · rw [hf, ← hW]; exact World.alloc_heap_new W _
  · intro i r cs hi hc
    rw [List.getElem?_map] at hc
    cases hv : vs[i]? with
    | none => rw [hv] at hc; cases hc
    | some v =>
      rw [hv] at hc
      cases hc
      exact ⟨v, rfl, VlS.past (hr i r v hi hv) hb⟩
def nV (n : Int) : Vl := ⟨false, n, ⟨#[]⟩⟩
def sV (s : ByteArray) : Vl := ⟨true, 0, s⟩

theorem shown_sorted : sortL rwC [[nV 2], [nV 1], [nV 2]] = [[nV 1], [nV 2]] := by rfl
theorem shown_one : rwC [nV 1, sV ⟨#[97]⟩] [nV 1, sV ⟨#[98]⟩] = -1 := by kernel_rfl
theorem shown_two : rwC [nV 2] [sV ⟨#[97]⟩] = -1 := by kernel_rfl
theorem shown_same : sameWs [[nV 1], [nV 2]] [[nV 1], [nV 2]] = true := (sameWs_iff _ _).2 rfl

set_option linter.unusedSimpArgs false in
set_option maxRecDepth 100000 in
set_option maxHeartbeats 8000000 in
theorem shown_c (w : World) : Calls Try.prog 4 #[] w fun e w' => e = .returned (.bool true) ∧ Below w.heap.size w w' := by
  go_enter Try.func4, Try.ntmps4
  go_wp2_with fail
  refine (n_c 2 _).mono ?_
  rintro e1 w1 ⟨rfl, b1⟩
  have B := Lib.hid b1
  clear b1
  go_wp2_with fail
  obtain ⟨W2, hW2⟩ : ∃ W, w1.alloc (.cells #[.bool false, .int .i64 2, .string ⟨#[]⟩] 35) = W := ⟨_, rfl⟩
  obtain ⟨h2, b2⟩ := made_row [nV 2] hW2 (by intro x hx; simp only [List.mem_cons, List.not_mem_nil, or_false] at hx; rcases hx with rfl <;> exact ⟨by unfold I64; simp only [nV, sV]; omega, by decide⟩) (by decide)
  obtain ⟨k2, hk2⟩ : ∃ k, w1.heap.size = k := ⟨_, rfl⟩
  rw [hW2, hk2]
  rw [hk2] at h2
  have B := Lib.hid (B.out.trans (b2.mono B.out.size))
  clear b2
  have F1 := Lib.hid h2
  have z2 : W2.heap.size = k2 + 1 := by rw [← hW2, ← hk2]; simp
  clear h2 hW2 hk2
  refine (n_c 1 _).mono ?_
  rintro e3 w3 ⟨rfl, b3⟩
  have F1 := Lib.hid (VlS.past F1.out b3)
  have B := Lib.hid (B.out.trans (b3.mono B.out.size))
  clear b3
  go_wp2_with fail
  obtain ⟨W4, hW4⟩ : ∃ W, w3.alloc (.cells #[.bool false, .int .i64 1, .string ⟨#[]⟩] 35) = W := ⟨_, rfl⟩
  obtain ⟨h4, b4⟩ := made_row [nV 1] hW4 (by intro x hx; simp only [List.mem_cons, List.not_mem_nil, or_false] at hx; rcases hx with rfl <;> exact ⟨by unfold I64; simp only [nV, sV]; omega, by decide⟩) (by decide)
  obtain ⟨k4, hk4⟩ : ∃ k, w3.heap.size = k := ⟨_, rfl⟩
  rw [hW4, hk4]
  rw [hk4] at h4
  have F1 := Lib.hid (VlS.past F1.out b4)
  have B := Lib.hid (B.out.trans (b4.mono B.out.size))
  clear b4
  have F2 := Lib.hid h4
  have z4 : W4.heap.size = k4 + 1 := by rw [← hW4, ← hk4]; simp
  clear h4 hW4 hk4
  refine (n_c 2 _).mono ?_
  rintro e5 w5 ⟨rfl, b5⟩
  have F1 := Lib.hid (VlS.past F1.out b5)
  have F2 := Lib.hid (VlS.past F2.out b5)
  have B := Lib.hid (B.out.trans (b5.mono B.out.size))
  clear b5
  go_wp2_with fail
  obtain ⟨W6, hW6⟩ : ∃ W, w5.alloc (.cells #[.bool false, .int .i64 2, .string ⟨#[]⟩] 35) = W := ⟨_, rfl⟩
  obtain ⟨h6, b6⟩ := made_row [nV 2] hW6 (by intro x hx; simp only [List.mem_cons, List.not_mem_nil, or_false] at hx; rcases hx with rfl <;> exact ⟨by unfold I64; simp only [nV, sV]; omega, by decide⟩) (by decide)
  obtain ⟨k6, hk6⟩ : ∃ k, w5.heap.size = k := ⟨_, rfl⟩
  rw [hW6, hk6]
  rw [hk6] at h6
  have F1 := Lib.hid (VlS.past F1.out b6)
  have F2 := Lib.hid (VlS.past F2.out b6)
  have B := Lib.hid (B.out.trans (b6.mono B.out.size))
  clear b6
  have F3 := Lib.hid h6
  have z6 : W6.heap.size = k6 + 1 := by rw [← hW6, ← hk6]; simp
  clear h6 hW6 hk6
  obtain ⟨W7, hW7⟩ : ∃ W, W6.alloc (.cells #[.slice (some ⟨k2, 0, none⟩) 1 1, .slice (some ⟨k4, 0, none⟩) 1 1, .slice (some ⟨k6, 0, none⟩) 1 1] 23) = W := ⟨_, rfl⟩
  obtain ⟨h7, b7⟩ := made_rows [[nV 2], [nV 1], [nV 2]] [.slice (some ⟨k2, 0, none⟩) 1 1, .slice (some ⟨k4, 0, none⟩) 1 1, .slice (some ⟨k6, 0, none⟩) 1 1] hW7 rfl (by decide) (by
    intro i r v hr hv
    have hi : i < 3 := (List.getElem?_eq_some_iff.1 hr).1
    rcases (by omega : i = 0 ∨ i = 1 ∨ i = 2) with rfl | rfl | rfl
    · cases hr; cases hv; exact F1.out
    · cases hr; cases hv; exact F2.out
    · cases hr; cases hv; exact F3.out
    )
  rw [hW7]
  rw [z6] at h7
  have F1 := Lib.hid (VlS.past F1.out b7)
  have F2 := Lib.hid (VlS.past F2.out b7)
  have F3 := Lib.hid (VlS.past F3.out b7)
  have B := Lib.hid (B.out.trans (b7.mono B.out.size))
  clear b7
  have G1 := Lib.hid h7
  clear h7 hW7 z6
  clear F1
  clear F2
  clear F3
  have hclean : ∀ r ∈ [[nV 2], [nV 1], [nV 2]], cleanR r = true := by intro r hr; simp only [List.mem_cons, List.not_mem_nil, or_false] at hr; rcases hr with rfl | rfl | rfl <;> simp [cleanR, nV, clean_empty]
  refine (psort_c [[nV 2], [nV 1], [nV 2]] _ W7 G1.out (by decide) (by intro r hr; simp only [List.mem_cons, List.not_mem_nil, or_false] at hr; rcases hr with rfl | rfl | rfl <;> (unfold FitW; decide)) hclean).mono ?_
  rintro e8 w8 ⟨lv, rfl, h8, b8⟩
  rw [shown_sorted] at h8
  clear G1 hclean
  have B := Lib.hid (B.out.trans (b8.mono B.out.size))
  clear b8
  have G2 := Lib.hid h8
  clear h8
  obtain ⟨lo, lcap, rfl, _⟩ := SlOf.uni G2.out
  go_wp2_with fail
  refine (n_c 1 _).mono ?_
  rintro e9 w9 ⟨rfl, b9⟩
  have G2 := Lib.hid (RwsS.past G2.out b9)
  have B := Lib.hid (B.out.trans (b9.mono B.out.size))
  clear b9
  go_wp2_with fail
  refine (s_c _ _).mono ?_
  rintro e10 w10 ⟨rfl, b10⟩
  have G2 := Lib.hid (RwsS.past G2.out b10)
  have B := Lib.hid (B.out.trans (b10.mono B.out.size))
  clear b10
  go_wp2_with fail
  obtain ⟨W11, hW11⟩ : ∃ W, w10.alloc (.cells #[.bool false, .int .i64 1, .string ⟨#[]⟩, .bool true, .int .i64 0, .string ⟨#[97]⟩] 35) = W := ⟨_, rfl⟩
  obtain ⟨h11, b11⟩ := made_row [nV 1, sV ⟨#[97]⟩] hW11 (by intro x hx; simp only [List.mem_cons, List.not_mem_nil, or_false] at hx; rcases hx with rfl | rfl <;> exact ⟨by unfold I64; simp only [nV, sV]; omega, by decide⟩) (by decide)
  obtain ⟨k11, hk11⟩ : ∃ k, w10.heap.size = k := ⟨_, rfl⟩
  rw [hW11, hk11]
  rw [hk11] at h11
  have G2 := Lib.hid (RwsS.past G2.out b11)
  have B := Lib.hid (B.out.trans (b11.mono B.out.size))
  clear b11
  have F1 := Lib.hid h11
  have z11 : W11.heap.size = k11 + 1 := by rw [← hW11, ← hk11]; simp
  clear h11 hW11 hk11
  refine (n_c 1 _).mono ?_
  rintro e12 w12 ⟨rfl, b12⟩
  have G2 := Lib.hid (RwsS.past G2.out b12)
  have F1 := Lib.hid (VlS.past F1.out b12)
  have B := Lib.hid (B.out.trans (b12.mono B.out.size))
  clear b12
  go_wp2_with fail
  refine (s_c _ _).mono ?_
  rintro e13 w13 ⟨rfl, b13⟩
  have G2 := Lib.hid (RwsS.past G2.out b13)
  have F1 := Lib.hid (VlS.past F1.out b13)
  have B := Lib.hid (B.out.trans (b13.mono B.out.size))
  clear b13
  go_wp2_with fail
  obtain ⟨W14, hW14⟩ : ∃ W, w13.alloc (.cells #[.bool false, .int .i64 1, .string ⟨#[]⟩, .bool true, .int .i64 0, .string ⟨#[98]⟩] 35) = W := ⟨_, rfl⟩
  obtain ⟨h14, b14⟩ := made_row [nV 1, sV ⟨#[98]⟩] hW14 (by intro x hx; simp only [List.mem_cons, List.not_mem_nil, or_false] at hx; rcases hx with rfl | rfl <;> exact ⟨by unfold I64; simp only [nV, sV]; omega, by decide⟩) (by decide)
  obtain ⟨k14, hk14⟩ : ∃ k, w13.heap.size = k := ⟨_, rfl⟩
  rw [hW14, hk14]
  rw [hk14] at h14
  have G2 := Lib.hid (RwsS.past G2.out b14)
  have F1 := Lib.hid (VlS.past F1.out b14)
  have B := Lib.hid (B.out.trans (b14.mono B.out.size))
  clear b14
  have F2 := Lib.hid h14
  have z14 : W14.heap.size = k14 + 1 := by rw [← hW14, ← hk14]; simp
  clear h14 hW14 hk14
  refine (pcompare_c [nV 1, sV ⟨#[97]⟩] [nV 1, sV ⟨#[98]⟩] _ _ W14 F1.out F2.out).mono ?_
  rintro e15 w15 ⟨rfl, b15⟩
  rw [shown_one]
  have G2 := Lib.hid (RwsS.past G2.out b15)
  have F1 := Lib.hid (VlS.past F1.out b15)
  have F2 := Lib.hid (VlS.past F2.out b15)
  have B := Lib.hid (B.out.trans (b15.mono B.out.size))
  clear b15
  clear F1
  clear F2
  go_wp2_with fail
  refine (n_c 2 _).mono ?_
  rintro e16 w16 ⟨rfl, b16⟩
  have G2 := Lib.hid (RwsS.past G2.out b16)
  have B := Lib.hid (B.out.trans (b16.mono B.out.size))
  clear b16
  go_wp2_with fail
  obtain ⟨W17, hW17⟩ : ∃ W, w16.alloc (.cells #[.bool false, .int .i64 2, .string ⟨#[]⟩] 35) = W := ⟨_, rfl⟩
  obtain ⟨h17, b17⟩ := made_row [nV 2] hW17 (by intro x hx; simp only [List.mem_cons, List.not_mem_nil, or_false] at hx; rcases hx with rfl <;> exact ⟨by unfold I64; simp only [nV, sV]; omega, by decide⟩) (by decide)
  obtain ⟨k17, hk17⟩ : ∃ k, w16.heap.size = k := ⟨_, rfl⟩
  rw [hW17, hk17]
  rw [hk17] at h17
  have G2 := Lib.hid (RwsS.past G2.out b17)
  have B := Lib.hid (B.out.trans (b17.mono B.out.size))
  clear b17
  have F1 := Lib.hid h17
  have z17 : W17.heap.size = k17 + 1 := by rw [← hW17, ← hk17]; simp
  clear h17 hW17 hk17
  refine (s_c _ _).mono ?_
  rintro e18 w18 ⟨rfl, b18⟩
  have G2 := Lib.hid (RwsS.past G2.out b18)
  have F1 := Lib.hid (VlS.past F1.out b18)
  have B := Lib.hid (B.out.trans (b18.mono B.out.size))
  clear b18
  go_wp2_with fail
  obtain ⟨W19, hW19⟩ : ∃ W, w18.alloc (.cells #[.bool true, .int .i64 0, .string ⟨#[97]⟩] 35) = W := ⟨_, rfl⟩
  obtain ⟨h19, b19⟩ := made_row [sV ⟨#[97]⟩] hW19 (by intro x hx; simp only [List.mem_cons, List.not_mem_nil, or_false] at hx; rcases hx with rfl <;> exact ⟨by unfold I64; simp only [nV, sV]; omega, by decide⟩) (by decide)
  obtain ⟨k19, hk19⟩ : ∃ k, w18.heap.size = k := ⟨_, rfl⟩
  rw [hW19, hk19]
  rw [hk19] at h19
  have G2 := Lib.hid (RwsS.past G2.out b19)
  have F1 := Lib.hid (VlS.past F1.out b19)
  have B := Lib.hid (B.out.trans (b19.mono B.out.size))
  clear b19
  have F2 := Lib.hid h19
  have z19 : W19.heap.size = k19 + 1 := by rw [← hW19, ← hk19]; simp
  clear h19 hW19 hk19
  refine (pcompare_c [nV 2] [sV ⟨#[97]⟩] _ _ W19 F1.out F2.out).mono ?_
  rintro e20 w20 ⟨rfl, b20⟩
  rw [shown_two]
  have G2 := Lib.hid (RwsS.past G2.out b20)
  have F1 := Lib.hid (VlS.past F1.out b20)
  have F2 := Lib.hid (VlS.past F2.out b20)
  have B := Lib.hid (B.out.trans (b20.mono B.out.size))
  clear b20
  clear F1
  clear F2
  go_wp2_with fail
  refine (n_c 1 _).mono ?_
  rintro e21 w21 ⟨rfl, b21⟩
  have G2 := Lib.hid (RwsS.past G2.out b21)
  have B := Lib.hid (B.out.trans (b21.mono B.out.size))
  clear b21
  go_wp2_with fail
  obtain ⟨W22, hW22⟩ : ∃ W, w21.alloc (.cells #[.bool false, .int .i64 1, .string ⟨#[]⟩] 35) = W := ⟨_, rfl⟩
  obtain ⟨h22, b22⟩ := made_row [nV 1] hW22 (by intro x hx; simp only [List.mem_cons, List.not_mem_nil, or_false] at hx; rcases hx with rfl <;> exact ⟨by unfold I64; simp only [nV, sV]; omega, by decide⟩) (by decide)
  obtain ⟨k22, hk22⟩ : ∃ k, w21.heap.size = k := ⟨_, rfl⟩
  rw [hW22, hk22]
  rw [hk22] at h22
  have G2 := Lib.hid (RwsS.past G2.out b22)
  have B := Lib.hid (B.out.trans (b22.mono B.out.size))
  clear b22
  have F1 := Lib.hid h22
  have z22 : W22.heap.size = k22 + 1 := by rw [← hW22, ← hk22]; simp
  clear h22 hW22 hk22
  refine (n_c 2 _).mono ?_
  rintro e23 w23 ⟨rfl, b23⟩
  have G2 := Lib.hid (RwsS.past G2.out b23)
  have F1 := Lib.hid (VlS.past F1.out b23)
  have B := Lib.hid (B.out.trans (b23.mono B.out.size))
  clear b23
  go_wp2_with fail
  obtain ⟨W24, hW24⟩ : ∃ W, w23.alloc (.cells #[.bool false, .int .i64 2, .string ⟨#[]⟩] 35) = W := ⟨_, rfl⟩
  obtain ⟨h24, b24⟩ := made_row [nV 2] hW24 (by intro x hx; simp only [List.mem_cons, List.not_mem_nil, or_false] at hx; rcases hx with rfl <;> exact ⟨by unfold I64; simp only [nV, sV]; omega, by decide⟩) (by decide)
  obtain ⟨k24, hk24⟩ : ∃ k, w23.heap.size = k := ⟨_, rfl⟩
  rw [hW24, hk24]
  rw [hk24] at h24
  have G2 := Lib.hid (RwsS.past G2.out b24)
  have F1 := Lib.hid (VlS.past F1.out b24)
  have B := Lib.hid (B.out.trans (b24.mono B.out.size))
  clear b24
  have F2 := Lib.hid h24
  have z24 : W24.heap.size = k24 + 1 := by rw [← hW24, ← hk24]; simp
  clear h24 hW24 hk24
  obtain ⟨W25, hW25⟩ : ∃ W, W24.alloc (.cells #[.slice (some ⟨k22, 0, none⟩) 1 1, .slice (some ⟨k24, 0, none⟩) 1 1] 23) = W := ⟨_, rfl⟩
  obtain ⟨h25, b25⟩ := made_rows [[nV 1], [nV 2]] [.slice (some ⟨k22, 0, none⟩) 1 1, .slice (some ⟨k24, 0, none⟩) 1 1] hW25 rfl (by decide) (by
    intro i r v hr hv
    have hi : i < 2 := (List.getElem?_eq_some_iff.1 hr).1
    rcases (by omega : i = 0 ∨ i = 1) with rfl | rfl
    · cases hr; cases hv; exact F1.out
    · cases hr; cases hv; exact F2.out
    )
  rw [hW25]
  rw [z24] at h25
  have G2 := Lib.hid (RwsS.past G2.out b25)
  have F1 := Lib.hid (VlS.past F1.out b25)
  have F2 := Lib.hid (VlS.past F2.out b25)
  have B := Lib.hid (B.out.trans (b25.mono B.out.size))
  clear b25
  have G3 := Lib.hid h25
  clear h25 hW25 z24
  refine (rsame_c [[nV 1], [nV 2]] [[nV 1], [nV 2]] _ _ W25 G2.out G3.out).mono ?_
  rintro e26 w26 ⟨rfl, b26⟩
  have B := Lib.hid (B.out.trans (b26.mono B.out.size))
  rw [shown_same]
  go_wp2
  go_ret
  exact ⟨rfl, B.out⟩
end Go.Proofs.Ytphmiifochjemaa

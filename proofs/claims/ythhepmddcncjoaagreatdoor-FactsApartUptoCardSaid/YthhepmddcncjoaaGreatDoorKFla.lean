/- soriteslaw10.FactsApart. -/
import Derived.Test.YthhepmddcncjoaaGreatDoorKFll
import Derived.Test.YthhepmddcncjoaaGreatDoorKTlook
import Derived.Test.YthhepmddcncjoaaGreatDoorKUnquote
import Derived.BigQuiet
set_option linter.unusedSimpArgs false
set_option linter.unusedVariables false
namespace Go.Proofs.YthhepmddcncjoaaGreatDoor
open Go.RowKit

def eqV (x y : Vl) : Bool := (x.sym == y.sym) && (x.n == y.n) && (x.s.toList == y.s.toList)
theorem eqV_iff (x y : Vl) : eqV x y = true ↔ x = y := by
  unfold eqV
  constructor
  · intro h
    simp only [Bool.and_eq_true, beq_iff_eq] at h
    obtain ⟨⟨h1, h2⟩, h3⟩ := h
    rw [Lib.toList_data, Lib.toList_data] at h3
    cases x; cases y
    simp only at h1 h2 h3
    subst h1; subst h2
    rename_i s t
    have : s = t := by
      cases s; cases t
      simp only at h3
      rw [Array.toList_inj.1 h3]
    rw [this]
  · rintro rfl
    simp
/-- Value by value the same, from a place on. -/
def sameFrom (s t : Rw) (k : Nat) : Bool := (List.zipWith eqV (s.drop k) (t.drop k)).all id
def sameRow (s t : Rw) : Bool := decide (s.length = t.length) && sameFrom s t 0
theorem sameFrom_step {s t : Rw} {k : Nat} {x y : Vl} (hx : s[k]? = some x) (hy : t[k]? = some y) : sameFrom s t k = (eqV x y && sameFrom s t (k + 1)) := by
  have h1 := List.getElem?_eq_some_iff.1 hx
  have h2 := List.getElem?_eq_some_iff.1 hy
  unfold sameFrom
  rw [List.drop_eq_getElem_cons h1.1, List.drop_eq_getElem_cons h2.1, h1.2, h2.2]
  rfl
theorem same_all : ∀ (s t : Rw), s.length = t.length → ((List.zipWith eqV s t).all id = true ↔ s = t)
  | [], [], _ => by simp
  | [], _ :: _, h => by simp at h
  | _ :: _, [], h => by simp at h
  | x :: s, y :: t, h => by
    have ih := same_all s t (by simpa using h)
    rw [List.zipWith_cons_cons, List.all_cons, Bool.and_eq_true, ih]
    show eqV x y = true ∧ s = t ↔ _
    rw [eqV_iff]
    simp
theorem sameRow_iff (s t : Rw) : sameRow s t = true ↔ s = t := by
  unfold sameRow
  rw [Bool.and_eq_true, decide_eq_true_eq]
  constructor
  · rintro ⟨h1, h2⟩
    exact (same_all s t h1).1 (by simpa [sameFrom] using h2)
  · rintro rfl
    exact ⟨rfl, by have := (same_all s s rfl).2 rfl; simpa [sameFrom] using this⟩
def bytesV (x : List UInt8) : ByteArray := ⟨x.toArray⟩
theorem bytesV_toList (x : List UInt8) : (bytesV x).toList = x := by rw [Lib.toList_data]; rfl
/-- What the lines say of the rows. -/
theorem apart_rows {d : De} {s t : Rw} (hs : fitR d.types s = true) (ht : fitR d.types t = true) (is : ∀ x ∈ s, I64 x.n) (it : ∀ x ∈ t, I64 x.n) : ((bytesV (lineT d.rel s)).toList == (bytesV (lineT d.rel t)).toList) = sameRow s t := by
  rw [bytesV_toList, bytesV_toList, Bool.eq_iff_iff, beq_iff_eq, sameRow_iff]
  exact ⟨fun h => line_inj hs ht is it h, fun h => by rw [h]⟩
theorem apart_rels (c d : De) (s : Rw) : ((bytesV (lineT c.rel s)).toList == (bytesV (lineT d.rel s)).toList) = (c.rel.toList == d.rel.toList) := by
  rw [bytesV_toList, bytesV_toList, Bool.eq_iff_iff, beq_iff_eq, beq_iff_eq, Lib.toList_data, Lib.toList_data]
  exact ⟨fun h => line_rel h, fun h => by unfold lineT; rw [h]⟩
theorem lineV_cases {b : Bool} {x : List UInt8} {S : ByteArray} {n : Int} (h : lineV (codeL b) x = .tuple #[.string S, .int .i64 n]) : (b = false ∧ n = 90) ∨ (b = true ∧ n = 0 ∧ S = bytesV x) := by
  cases b
  · left
    have h' : Value.tuple #[.string ⟨#[]⟩, .int .i64 90] = .tuple #[.string S, .int .i64 n] := h
    simp at h'
    exact ⟨rfl, h'.2.symm⟩
  · right
    have h' : Value.tuple #[.string ⟨x.toArray⟩, .int .i64 0] = .tuple #[.string S, .int .i64 n] := h
    simp at h'
    exact ⟨rfl, h'.2.symm, h'.1.symm⟩
set_option maxRecDepth 100000 in
set_option maxHeartbeats 16000000 in
theorem factsApart_c (c d : De) (v : Value) (r : Rw) (u : Value) (q : Rw) (a b : Addr) (m : Int) (w : World) (cs0 cs1 : List Value) (hc : DeC w w.heap.size c cs0) (hcn : heldD c ≤ 1048576) (hd : DeC w w.heap.size d cs1) (hdn : heldD d ≤ 1048576) (hv : SlOf w w.heap.size 3 VlC r v) (hn : heldR r ≤ 1048576) (hu : SlOf w w.heap.size 3 VlC q u) (hun : heldR q ≤ 1048576) (E : FEnv a b m w ∧ TabE w) :
    Calls Tryz.prog 9 #[.agg cs0.toArray, .agg cs1.toArray, v, u] w fun e w' => e = .returned (.bool true) ∧ Below w.heap.size w w' := by
  obtain ⟨ov, cv, rfl, hcv, hmv, _⟩ := SlOf.open hv
  obtain ⟨ou, cu, rfl, hcu, hmu, _⟩ := SlOf.open hu
  have hcut := hv.cut (n := 20)
  have hcut2 := hu.cut (n := 20)
  have hheld := heldR_take r 20
  have hheld2 := heldR_take q 20
  have hlen : (r.take 20).length ≤ 20 := by rw [List.length_take]; omega
  have hlen2 : (q.take 20).length ≤ 20 := by rw [List.length_take]; omega
  have hm : (min (r.length : Int) 20).toNat = (r.take 20).length := by rw [List.length_take]; omega
  have hm2 : (min (q.length : Int) 20).toNat = (q.take 20).length := by rw [List.length_take]; omega
  obtain ⟨s, hs⟩ : ∃ t, r.take 20 = t := ⟨_, rfl⟩
  obtain ⟨t, ht⟩ : ∃ t, q.take 20 = t := ⟨_, rfl⟩
  rw [hs] at hcut hheld hlen hm
  rw [ht] at hcut2 hheld2 hlen2 hm2
  have HM := Lib.hid hm
  have HM2 := Lib.hid hm2
  have hrel : d.rel.size ≤ 1048576 := by unfold heldD at hdn; omega
  have hrel2 : c.rel.size ≤ 1048576 := by unfold heldD at hcn; omega
  have HH := Lib.hid (fun (W : World) (hb : Below w.heap.size w W) => shown10_c a b m W (E.1.below hb))
  have HF := Lib.hid (fun (z : Value) (W : World) (hz : SlOf W W.heap.size 1 (RwsC W W.heap.size) [[s], [t]] z) => few_c [[s], [t]] z W hz (by unfold heldA heldW; simp only [List.map_cons, List.map_nil, List.sum_cons, List.sum_nil]; omega))
  have hS5 : fewB [[s], [t]] = true → ∀ x ∈ s, x.s.size ≤ 5000 := fun hf x hx => by
    have := fewB_row hf (rs := [s]) (by simp) (List.mem_singleton.2 rfl) hx
    omega
  have hT5 : fewB [[s], [t]] = true → ∀ x ∈ t, x.s.size ≤ 5000 := fun hf x hx => by
    have := fewB_row hf (rs := [t]) (by simp) (List.mem_singleton.2 rfl) hx
    omega
  have hIs := fun x hx => (vals_of hcut x hx).1
  have hIt := fun x hx => (vals_of hcut2 x hx).1
  have HDS := Lib.hid (fun (hf : fewB [[s], [t]] = true) (W : World) (hb : Below w.heap.size w W) => line_c d s W cs1 (.slice ov s.length cv) ((hd.below hb).more hb.size) (VlS.past hcut hb) (E.2.below hb) (fun _ => line_big hIs (hS5 hf) hlen hrel) (fun x hx => by have := hS5 hf x hx; omega))
  have HDT := Lib.hid (fun (hf : fewB [[s], [t]] = true) (W : World) (hb : Below w.heap.size w W) => line_c d t W cs1 (.slice ou t.length cu) ((hd.below hb).more hb.size) (VlS.past hcut2 hb) (E.2.below hb) (fun _ => line_big hIt (hT5 hf) hlen2 hrel) (fun x hx => by have := hT5 hf x hx; omega))
  have HCS := Lib.hid (fun (hf : fewB [[s], [t]] = true) (W : World) (hb : Below w.heap.size w W) => line_c c s W cs0 (.slice ov s.length cv) ((hc.below hb).more hb.size) (VlS.past hcut hb) (E.2.below hb) (fun _ => line_big hIs (hS5 hf) hlen hrel2) (fun x hx => by have := hS5 hf x hx; omega))
  have HV := Lib.hid (fun (W : World) (hb : Below w.heap.size w W) => And.intro (VlS.past hcut hb) (VlS.past hcut2 hb))
  have HAR := Lib.hid (fun (h1 : fitR d.types s = true) (h2 : fitR d.types t = true) => apart_rows h1 h2 hIs hIt)
  have HIs := Lib.hid hIs
  obtain ⟨o2, k2, o3, k3, rfl, _⟩ := hc.look
  obtain ⟨o0, k0, o1, k1, rfl, _⟩ := hd.look
  have hls : s.length ≤ cv := by have := (SlOf.open hcut); obtain ⟨_, _, e, h, _⟩ := this; cases e; exact h
  have hlt : t.length ≤ cu := by have := (SlOf.open hcut2); obtain ⟨_, _, e, h, _⟩ := this; cases e; exact h
  have HLn := Lib.hid (And.intro hlen hlen2)
  clear hd hc hdn hcn hv hn hu hun E hcut hcut2 hheld hheld2 hlen hlen2 hm hm2 hs ht hrel hrel2 hS5 hT5 hIs hIt
  have HB0 : Hid (∀ (x y : Obj), Below w.heap.size w ((w.alloc x).alloc y)) := Lib.hid fun x y => ((Below.refl _ _).alloc (Nat.le_refl _) _).alloc (by simp) _
  obtain ⟨W0, hW0⟩ : ∃ W0, (w.alloc (.cells #[.string c.rel, .slice o2 c.names.length k2, .slice o3 c.types.length k3, .bool c.inn, .bool c.out, .int .i64 c.line] 38)).alloc (.cells #[.string d.rel, .slice o0 d.names.length k0, .slice o1 d.types.length k1, .bool d.inn, .bool d.out, .int .i64 d.line] 38) = W0 := ⟨_, rfl⟩
  have hb0 : Below w.heap.size w W0 := by rw [← hW0]; exact HB0.out _ _
  have hrc : W0.heap[w.heap.size]? = some (.cells #[.string c.rel, .slice o2 c.names.length k2, .slice o3 c.types.length k3, .bool c.inn, .bool c.out, .int .i64 c.line] 38 (0, 0)) := by rw [← hW0]; exact row_more (newRow rfl) _
  have hrd : W0.heap[w.heap.size + 1]? = some (.cells #[.string d.rel, .slice o0 d.names.length k0, .slice o1 d.types.length k1, .bool d.inn, .bool d.out, .int .i64 d.line] 38 (0, 0)) := by rw [← hW0]; exact newRow (by simp)
  have B0 := Lib.hid hb0
  have RC0 := Lib.hid hrc
  have RD0 := Lib.hid hrd
  clear hb0 hrc hrd
  go_enter Tryz.func9, Tryz.ntmps9
  go_wp2_with fail
  (try rw [hW0])
  refine (HH.out _ B0.out).mono ?_
  rintro e w1 ⟨rfl, b1⟩
  have B1 := Lib.hid (B0.out.trans (b1.mono B0.out.size))
  have RC1 := Lib.hid ((b1.block _ (heap_lt RC0.out)).trans RC0.out)
  have RD1 := Lib.hid ((b1.block _ (heap_lt RD0.out)).trans RD0.out)
  clear b1 hW0
  obtain ⟨W2, hW2⟩ : ∃ W2, ((w1.alloc (.cells #[.slice ov s.length cv] 39)).alloc (.cells #[.slice ou t.length cu] 39)).alloc (.cells #[.slice (some ⟨w1.heap.size, 0, none⟩) 1 1, .slice (some ⟨w1.heap.size + 1, 0, none⟩) 1 1] 41) = W2 := ⟨_, rfl⟩
  have hb2 : Below w1.heap.size w1 W2 := by rw [← hW2]; exact (((Below.refl _ w1).alloc (Nat.le_refl _) _).alloc (by simp) _).alloc (by simp; omega) _
  have hr1 : Row w1.heap.size 39 [.slice ov s.length cv] W2 := by rw [← hW2]; exact row_more (row_more (newRow rfl) _) _
  have hr2 : Row (w1.heap.size + 1) 39 [.slice ou t.length cu] W2 := by rw [← hW2]; exact row_more (newRow (by simp)) _
  have hr3 : W2.heap[w1.heap.size + 1 + 1]? = some (.cells #[.slice (some ⟨w1.heap.size, 0, none⟩) 1 1, .slice (some ⟨w1.heap.size + 1, 0, none⟩) 1 1] 41 (0, 0)) := by rw [← hW2]; exact newRow (by simp)
  have B2 := Lib.hid (B1.out.trans (hb2.mono B1.out.size))
  have hu1 : RwsS W2 W2.heap.size [s] (.slice (some ⟨w1.heap.size, 0, none⟩) 1 1) := sl_one hr1 (heap_lt hr1) rfl ⟨_, rfl, (HV.out W2 B2.out).1⟩
  have hu2 : RwsS W2 W2.heap.size [t] (.slice (some ⟨w1.heap.size + 1, 0, none⟩) 1 1) := sl_one hr2 (heap_lt hr2) rfl ⟨_, rfl, (HV.out W2 B2.out).2⟩
  have hu3 : SlOf W2 W2.heap.size 1 (RwsC W2 W2.heap.size) [[s], [t]] (.slice (some ⟨w1.heap.size + 1 + 1, 0, none⟩) 2 2) := sl_row (l := [[s], [t]]) hr3 (heap_lt hr3) (show 2 ≤ maxLen by decide) (fun i x hx => by
    match i, hx with
    | 0, hx => cases hx; exact ⟨_, rfl, _, rfl, hu1⟩
    | 1, hx => cases hx; exact ⟨_, rfl, _, rfl, hu2⟩
    | i + 2, hx => simp at hx)
  have HFe := Lib.hid (HF.out _ W2 hu3)
  have RC2 := Lib.hid ((hb2.block _ (heap_lt RC1.out)).trans RC1.out)
  have RD2 := Lib.hid ((hb2.block _ (heap_lt RD1.out)).trans RD1.out)
  clear hb2 hr1 hr2 hr3 hu1 hu2 hu3
  go_wp2_with fail
  rw [HM.out, HM2.out]
  (try rw [hW2])
  refine HFe.out.mono ?_
  rintro e w3 ⟨rfl, rfl⟩
  cases hf : fewB [[s], [t]] with
  | false =>
    clear hf
    go_wp2
    go_ret
    exact ⟨rfl, B2.out⟩
  | true =>
    have HDS2 := Lib.hid (HDS.out hf W2 B2.out)
    have HDT2 := Lib.hid (HDT.out hf)
    have HCS2 := Lib.hid (HCS.out hf)
    have x0 := row_cells RD2.out 0
    have x1 := row_cells RD2.out 1
    have x2 := row_cells RD2.out 2
    have x3 := row_cells RD2.out 3
    have x4 := row_cells RD2.out 4
    have x5 := row_cells RD2.out 5
    have hz2 := heap_lt RD2.out
    clear hf hW2
    go_wp2_with fail
    refine HDS2.out.mono ?_
    rintro e w4 ⟨rfl, b4⟩
    have B4 := Lib.hid (B2.out.trans (b4.mono B2.out.size))
    have RC4 := Lib.hid ((b4.block _ (heap_lt RC2.out)).trans RC2.out)
    have RD4 := Lib.hid ((b4.block _ (heap_lt RD2.out)).trans RD2.out)
    have y0 := row_cells RD4.out 0
    have y1 := row_cells RD4.out 1
    have y2 := row_cells RD4.out 2
    have y3 := row_cells RD4.out 3
    have y4 := row_cells RD4.out 4
    have y5 := row_cells RD4.out 5
    have hz4 := heap_lt RD4.out
    obtain ⟨S1, n1, hS1⟩ := lineV_form (fitR d.types s) (lineT d.rel s)
    have HS1 := Lib.hid hS1
    rw [hS1]
    clear b4 x0 x1 x2 x3 x4 x5 hz2 hS1
    go_wp2_with fail
    refine (HDT2.out w4 B4.out).mono ?_
    rintro e w5 ⟨rfl, b5⟩
    have B5 := Lib.hid (B4.out.trans (b5.mono B4.out.size))
    have RC5 := Lib.hid ((b5.block _ (heap_lt RC4.out)).trans RC4.out)
    have RD5 := Lib.hid ((b5.block _ (heap_lt RD4.out)).trans RD4.out)
    have x0 := row_cells RC5.out 0
    have x1 := row_cells RC5.out 1
    have x2 := row_cells RC5.out 2
    have x3 := row_cells RC5.out 3
    have x4 := row_cells RC5.out 4
    have x5 := row_cells RC5.out 5
    have hz5 := heap_lt RC5.out
    obtain ⟨S2, n2, hS2⟩ := lineV_form (fitR d.types t) (lineT d.rel t)
    have HS2 := Lib.hid hS2
    rw [hS2]
    clear b5 y0 y1 y2 y3 y4 y5 hz4 hS2
    go_wp2_with fail
    refine (HCS2.out w5 B5.out).mono ?_
    rintro e w6 ⟨rfl, b6⟩
    have B6 := Lib.hid (B5.out.trans (b6.mono B5.out.size))
    have RC6 := Lib.hid ((b6.block _ (heap_lt RC5.out)).trans RC5.out)
    have RD6 := Lib.hid ((b6.block _ (heap_lt RD5.out)).trans RD5.out)
    obtain ⟨S3, n3, hS3⟩ := lineV_form (fitR c.types s) (lineT c.rel s)
    have HS3 := Lib.hid hS3
    rw [hS3]
    clear b6 x0 x1 x2 x3 x4 x5 hz5 hS3
    rcases lineV_cases HS1.out with ⟨hfs, rfl⟩ | ⟨hfs, rfl, hS1⟩
    · clear hfs
      go_wp2
      go_ret
      exact ⟨rfl, B6.out⟩
    · rcases lineV_cases HS2.out with ⟨hft, rfl⟩ | ⟨hft, rfl, hS2⟩
      · clear hfs hft hS1
        go_wp2
        go_ret
        exact ⟨rfl, B6.out⟩
      · have hrows := HAR.out hfs hft
        rw [← hS1, ← hS2] at hrows
        have HRows := Lib.hid hrows
        have HS1' := Lib.hid hS1
        clear hfs hft hrows hS1 hS2
        obtain ⟨l0, hl0⟩ : ∃ l0, ((s.length : Int) == (t.length : Int)) = l0 := ⟨_, rfl⟩
        have hsame : sameRow s t = (l0 && sameFrom s t 0) := by
          unfold sameRow
          rw [← hl0]
          congr 1
          rw [Bool.eq_iff_iff, decide_eq_true_eq, beq_iff_eq]
          omega
        have hl0' : l0 = true → s.length = t.length := fun h => by
          rw [h, beq_iff_eq] at hl0
          omega
        have HSame := Lib.hid hsame
        have HL0 := Lib.hid hl0'
        have HVs := Lib.hid (HV.out w6 B6.out)
        have HB6 : Hid (Below w6.heap.size w6 w6) := Lib.hid (Below.refl _ _)
        clear hsame hl0'
        go_wp2
        (try rw [hl0])
        clear hl0
        go_loopw [16, 17] (fun z i wr => ∃ (k : Nat) (bb : Bool), k ≤ s.length ∧ i = .int .i64 (k : Int) ∧ z = .bool bb ∧ Hid (sameRow s t = (bb && sameFrom s t k)) ∧ Hid (bb = true → s.length = t.length) ∧ Below w6.heap.size w6 wr) (fun _ i _ => s.length - (intOf i).toNat)
        case atStart => exact ⟨0, l0, Nat.zero_le _, rfl, rfl, HSame, HL0, HB6.out⟩
        case round =>
          obtain ⟨k, bb, hk, rfl, rfl, hsm, hbl, hB⟩ := hrel
          have hBs := hB.size
          by_cases hkl : k < s.length
          · have hkl' : (k : Int) < (s.length : Int) := by omega
            have hk0 : (0 : Int) ≤ (k : Int) := by omega
            cases bb with
            | false =>
              have HFin : Hid (sameRow s t = false) := Lib.hid (by rw [hsm.out]; rfl)
              have hab := HRows.out
              rw [HFin.out] at hab
              have hrc := (hB.block _ (heap_lt RC6.out)).trans RC6.out
              have hrd := (hB.block _ (heap_lt RD6.out)).trans RD6.out
              have cc0 : wr.cell? ⟨w.heap.size, 0, none⟩ = some (.string c.rel) := row_cells hrc 0
              have dd0 : wr.cell? ⟨w.heap.size + 1, 0, none⟩ = some (.string d.rel) := row_cells hrd 0
              have hzc := heap_lt hrc
              have hzd := heap_lt hrd
              have HBf := Lib.hid (B6.out.trans (hB.mono B6.out.size))
              clear hrc hrd hsm hbl hB
              rcases lineV_cases HS3.out with ⟨hfc, rfl⟩ | ⟨hfc, rfl, hS3⟩
              · clear hfc
                all_goals
                  go_wp2
                  go_ret
                  exact ⟨rfl, HBf.out⟩
              · by_cases hsz : c.rel.size = d.rel.size
                · have hsz' : ((c.rel.size : Int) != (d.rel.size : Int)) = false := by simp; omega
                  have hxa := apart_rels c d s
                  rw [← hS3, ← HS1'.out] at hxa
                  obtain ⟨z, hz⟩ : ∃ z, (c.rel.toList == d.rel.toList) = z := ⟨_, rfl⟩
                  rw [hz] at hxa
                  clear hfc hS3 hsz
                  cases z
                  · all_goals
                      go_wp2
                      go_ret
                      exact ⟨rfl, HBf.out⟩
                  · all_goals
                      go_wp2
                      go_ret
                      exact ⟨rfl, HBf.out⟩
                · have hsz' : ((c.rel.size : Int) != (d.rel.size : Int)) = true := by simp; omega
                  clear hfc hS3 hsz
                  all_goals
                    go_wp2
                    go_ret
                    exact ⟨rfl, HBf.out⟩
            | true =>
              have hst := hbl.out rfl
              have hkl2 : (k : Int) < (t.length : Int) := by omega
              obtain ⟨x, hx⟩ : ∃ x, s[k]? = some x := ⟨s[k], List.getElem?_eq_getElem hkl⟩
              obtain ⟨y, hy⟩ : ∃ y, t[k]? = some y := ⟨t[k]'(by omega), List.getElem?_eq_getElem _⟩
              obtain ⟨o4, q4, e4, _, _, SS⟩ := SlOf.open HVs.out.1
              cases e4
              obtain ⟨o5, q5, e5, _, _, ST⟩ := SlOf.open HVs.out.2
              cases e5
              obtain ⟨ax, rfl, hax, _, _, x0, x1, x2⟩ := vl_at SS hB hx
              obtain ⟨ay, rfl, hay, _, _, y0, y1, y2⟩ := vl_at ST hB hy
              have hlx : (ax.add (k * 3)).block < wr.heap.size := by rw [addBlock]; omega
              have hly : (ay.add (k * 3)).block < wr.heap.size := by rw [addBlock]; omega
              have Hsn : Hid (sameRow s t = (((x.sym == y.sym) && (x.n == y.n) && (x.s.toList == y.s.toList)) && sameFrom s t (k + 1))) := Lib.hid (by
                rw [hsm.out, Bool.true_and, sameFrom_step hx hy]; rfl)
              have hev := fun W => eqVal x.sym y.sym x.n y.n x.s y.s W
              have Hst := Lib.hid hst
              have HBk := Lib.hid hB
              clear hx hy hsm hbl hB hst
              go_wp2_with fail
              go_quiet (fail)
              go_wp2
              go_roundw
              case rel => exact ⟨k + 1, ((x.sym == y.sym) && (x.n == y.n) && (x.s.toList == y.s.toList)), by omega, by go_num, rfl, Hsn, Lib.hid (fun _ => Hst.out), below_drewN HBk.out _⟩
              case measure => simp [intOf]; omega
          · have hkl' : ¬ (k : Int) < (s.length : Int) := by omega
            have HFin : Hid (sameRow s t = bb) := Lib.hid (by
              rw [hsm.out]
              unfold sameFrom
              rw [List.drop_of_length_le (l := s) (by omega)]
              simp)
            have hab := HRows.out
            rw [HFin.out] at hab
            have hrc := (hB.block _ (heap_lt RC6.out)).trans RC6.out
            have hrd := (hB.block _ (heap_lt RD6.out)).trans RD6.out
            have cc0 : wr.cell? ⟨w.heap.size, 0, none⟩ = some (.string c.rel) := row_cells hrc 0
            have dd0 : wr.cell? ⟨w.heap.size + 1, 0, none⟩ = some (.string d.rel) := row_cells hrd 0
            have hzc := heap_lt hrc
            have hzd := heap_lt hrd
            have HBf := Lib.hid (B6.out.trans (hB.mono B6.out.size))
            clear hrc hrd hsm hbl hB
            rcases lineV_cases HS3.out with ⟨hfc, rfl⟩ | ⟨hfc, rfl, hS3⟩
            · clear hfc
              cases bb
              all_goals
                go_wp2
                go_ret
                exact ⟨rfl, HBf.out⟩
            · by_cases hsz : c.rel.size = d.rel.size
              · have hsz' : ((c.rel.size : Int) != (d.rel.size : Int)) = false := by simp; omega
                have hxa := apart_rels c d s
                rw [← hS3, ← HS1'.out] at hxa
                obtain ⟨z, hz⟩ : ∃ z, (c.rel.toList == d.rel.toList) = z := ⟨_, rfl⟩
                rw [hz] at hxa
                clear hfc hS3 hsz
                cases z
                · cases bb
                  all_goals
                    go_wp2
                    go_ret
                    exact ⟨rfl, HBf.out⟩
                · cases bb
                  all_goals
                    go_wp2
                    go_ret
                    exact ⟨rfl, HBf.out⟩
              · have hsz' : ((c.rel.size : Int) != (d.rel.size : Int)) = true := by simp; omega
                clear hfc hS3 hsz
                cases bb
                all_goals
                  go_wp2
                  go_ret
                  exact ⟨rfl, HBf.out⟩
end Go.Proofs.YthhepmddcncjoaaGreatDoor

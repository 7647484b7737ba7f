/- facts: values and rows, of their types or not; as texts. The iterator over a stream's lines. facts: a line's parts; a value of a text. errors.As finds facts' error of a line in itself, and none in nil. What a builder's writers keep. -/
import Derived.Test.YthhepmddcncjoaaGreatDoorKUnquote
import Derived.Test.YthhepmddcncjoaaGreatDoorKTlook
import Derived.Test.YthhepmddcncjoaaGreatDoorKSign
import Derived.Test.YthhepmddcncjoaaGreatDoorKRel8e
import Derived.Test.YthhepmddcncjoaaGreatDoorKRef
import Derived.Deep.RegionHeld3
import Derived.Test.YthhepmddcncjoaaGreatDoorKPc
import Derived.Laws.Rows
import Derived.Laws.Tables
set_option linter.unusedSimpArgs false
set_option linter.unusedVariables false
namespace Go.Proofs.YthhepmddcncjoaaGreatDoor
open Go.RowKit

def vlCells (x : Vl) : List Value := [.bool x.sym, .int .i64 x.n, .string x.s]
set_option maxRecDepth 100000 in
theorem fnumber_c (n : Int) (w : World) :
    Calls Tryz.prog 86 #[.int .i64 n] w fun e w' => e = .returned (.agg #[.bool false, .int .i64 n, .string ⟨#[]⟩]) ∧ Below w.heap.size w w' := by
  have hr := rowNew w 51 [.bool false, .int .i64 n, .string ⟨#[]⟩]
  have h0 := row_cells hr 0
  have h1 := row_cells hr 1
  have h2 := row_cells hr 2
  simp at h0 h1 h2
  go_enter Tryz.func86, Tryz.ntmps86
  go_wp2
  refine bodyPost_ret (v := .agg #[.bool false, .int .i64 n, .string ⟨#[]⟩]) (by simp [results, Tryz.results86, go_sem, h0, h1, h2]) rfl ?_
  exact ⟨rfl, (Below.refl _ _).alloc (Nat.le_refl _) _⟩
set_option maxRecDepth 100000 in
theorem fsymbol_c (s : ByteArray) (w : World) :
    Calls Tryz.prog 88 #[.string s] w fun e w' => e = .returned (.agg #[.bool true, .int .i64 0, .string s]) ∧ Below w.heap.size w w' := by
  have hr := rowNew w 51 [.bool true, .int .i64 0, .string s]
  have h0 := row_cells hr 0
  have h1 := row_cells hr 1
  have h2 := row_cells hr 2
  simp at h0 h1 h2
  go_enter Tryz.func88, Tryz.ntmps88
  go_wp2
  refine bodyPost_ret (v := .agg #[.bool true, .int .i64 0, .string s]) (by simp [results, Tryz.results88, go_sem, h0, h1, h2]) rfl ?_
  exact ⟨rfl, (Below.refl _ _).alloc (Nat.le_refl _) _⟩
set_option maxRecDepth 100000 in
set_option maxHeartbeats 4000000 in
theorem isOf_c (x : Vl) (k : Int) (w : World) :
    Calls Tryz.prog 66 #[.agg (vlCells x).toArray, .int .i64 k] w fun e w' => e = .returned (.bool (fitV k x)) ∧ Below w.heap.size w w' := by
  obtain ⟨sy, n, s⟩ := x
  unfold vlCells
  have hr := rowNew w 51 [.bool sy, .int .i64 n, .string s]
  obtain ⟨W, hW⟩ : ∃ W, w.alloc (.cells #[.bool sy, .int .i64 n, .string s] 51) = W := ⟨_, rfl⟩
  have hb : Below w.heap.size w W := by rw [← hW]; exact (Below.refl _ _).alloc (Nat.le_refl _) _
  have hr1 : W.heap[w.heap.size]? = some (.cells #[.bool sy, .int .i64 n, .string s] 51 (0, 0)) := by rw [← hW]; exact hr
  have hz := heap_lt hr1
  have HB := Lib.hid hb
  have hS : ∀ W', Below W.heap.size W.drew W' → W'.cell? ⟨w.heap.size, 0, none⟩ = some (.bool sy) ∧ W'.cell? ⟨w.heap.size, 1, none⟩ = some (.int .i64 n) ∧ W'.cell? ⟨w.heap.size, 2, none⟩ = some (.string s) ∧ Below W.heap.size W.drew W' := fun W' h => by
    have q := (h.block _ hz).trans hr1
    exact ⟨row_cells q 0, row_cells q 1, row_cells q 2, h⟩
  have hS0 := hS W.drew (Below.refl _ _)
  have HS := Lib.hid hS
  have HK : Hid (∀ (w' w'' : World), Below W.heap.size W.drew w' → Below w'.heap.size w' w'' → w''.cell? ⟨w.heap.size, 0, none⟩ = some (.bool sy) ∧ w''.cell? ⟨w.heap.size, 1, none⟩ = some (.int .i64 n) ∧ w''.cell? ⟨w.heap.size, 2, none⟩ = some (.string s) ∧ Below W.heap.size W.drew w'') := Lib.hid fun w' w'' h1 h2 => HS.out _ (h1.trans (h2.mono h1.size))
  obtain ⟨c0, c1, c2⟩ : W.cell? ⟨w.heap.size, 0, none⟩ = some (.bool sy) ∧ W.cell? ⟨w.heap.size, 1, none⟩ = some (.int .i64 n) ∧ W.cell? ⟨w.heap.size, 2, none⟩ = some (.string s) := ⟨row_cells hr1 0, row_cells hr1 1, row_cells hr1 2⟩
  clear hr hb hS hr1
  by_cases hk : k = 1
  · subst hk
    obtain ⟨em, hem⟩ : ∃ em, (s.toList == (⟨#[]⟩ : ByteArray).toList) = em := ⟨_, rfl⟩
    have hF : fitV 1 ⟨sy, n, s⟩ = (!sy && em) := by
      unfold fitV
      rw [if_pos rfl, ← hem, Lib.toList_data, Lib.toList_data]
      cases s.data.toList <;> rfl
    rw [hF]
    have hem2 : (s.toList == ([] : List UInt8)) = em := by rw [← hem, Lib.toList_data (⟨#[]⟩ : ByteArray)]
    have hem3 : s.toList = [] ↔ em = true := by rw [← hem2, beq_iff_eq]
    clear hF
    cases sy with
    | false =>
      cases em
      all_goals
        go_enter Tryz.func66, Tryz.ntmps66
        go_wp2_with fail
        (try rw [hW])
        go_region_held3 (fun w' => w'.cell? ⟨w.heap.size, 0, none⟩ = some (.bool false) ∧ w'.cell? ⟨w.heap.size, 1, none⟩ = some (.int .i64 n) ∧ w'.cell? ⟨w.heap.size, 2, none⟩ = some (.string s) ∧ Below W.heap.size W.drew w') (first | exact hk1 | exact hS0)
          (first | (go_at_call 86; (with_reducible refine (fnumber_c n _).mono ?_); rintro e1 w1 ⟨rfl, b1⟩; have hk1 := HK.out _ _ hS0.2.2.2 b1))
        all_goals
          go_wp2
          go_ret
          exact ⟨rfl, HB.out.trans ((drewB hk1.2.2.2).mono HB.out.size)⟩
    | true =>
      cases em
      all_goals
        go_enter Tryz.func66, Tryz.ntmps66
        go_wp2_with fail
        (try rw [hW])
        go_region_held3 (fun w' => w'.cell? ⟨w.heap.size, 0, none⟩ = some (.bool true) ∧ w'.cell? ⟨w.heap.size, 1, none⟩ = some (.int .i64 n) ∧ w'.cell? ⟨w.heap.size, 2, none⟩ = some (.string s) ∧ Below W.heap.size W.drew w') (first | exact hk1 | exact hS0)
          (first | (go_at_call 86; (with_reducible refine (fnumber_c n _).mono ?_); rintro e1 w1 ⟨rfl, b1⟩; have hk1 := HK.out _ _ hS0.2.2.2 b1))
        all_goals
          go_wp2
          go_ret
          exact ⟨rfl, HB.out.trans ((drewB hk1.2.2.2).mono HB.out.size)⟩
  · obtain ⟨ez, hez⟩ : ∃ ez, (n == 0) = ez := ⟨_, rfl⟩
    have hF : fitV k ⟨sy, n, s⟩ = (sy && ez) := by
      unfold fitV
      rw [if_neg hk, ← hez]
    rw [hF]
    have hk' : (k == 1) = false := by simpa using hk
    clear hF
    cases sy with
    | false =>
      cases ez
      all_goals
        go_enter Tryz.func66, Tryz.ntmps66
        go_wp2_with fail
        (try rw [hW])
        go_region_held3 (fun w' => w'.cell? ⟨w.heap.size, 0, none⟩ = some (.bool false) ∧ w'.cell? ⟨w.heap.size, 1, none⟩ = some (.int .i64 n) ∧ w'.cell? ⟨w.heap.size, 2, none⟩ = some (.string s) ∧ Below W.heap.size W.drew w') (first | exact hk1 | exact hS0)
          (first | (go_at_call 88; (with_reducible refine (fsymbol_c s _).mono ?_); rintro e1 w1 ⟨rfl, b1⟩; have hk1 := HK.out _ _ hS0.2.2.2 b1))
        all_goals
          go_wp2
          go_ret
          exact ⟨rfl, HB.out.trans ((drewB hk1.2.2.2).mono HB.out.size)⟩
    | true =>
      cases ez
      all_goals
        go_enter Tryz.func66, Tryz.ntmps66
        go_wp2_with fail
        (try rw [hW])
        go_region_held3 (fun w' => w'.cell? ⟨w.heap.size, 0, none⟩ = some (.bool true) ∧ w'.cell? ⟨w.heap.size, 1, none⟩ = some (.int .i64 n) ∧ w'.cell? ⟨w.heap.size, 2, none⟩ = some (.string s) ∧ Below W.heap.size W.drew w') (first | exact hk1 | exact hS0)
          (first | (go_at_call 88; (with_reducible refine (fsymbol_c s _).mono ?_); rintro e1 w1 ⟨rfl, b1⟩; have hk1 := HK.out _ _ hS0.2.2.2 b1))
        all_goals
          go_wp2
          go_ret
          exact ⟨rfl, HB.out.trans ((drewB hk1.2.2.2).mono HB.out.size)⟩
theorem isOf_x (x : Vl) (k : Int) (w : World) :
    Calls Tryz.prog 66 #[.agg #[.bool x.sym, .int .i64 x.n, .string x.s], .int .i64 k] w fun e w' => e = .returned (.bool (fitV k x)) ∧ Below w.heap.size w w' := isOf_c x k w
theorem zip_drop {ks : List Int} {r : Rw} {c : Nat} {k : Int} {x : Vl} (hk : ks[c]? = some k) (hx : r[c]? = some x) : ((List.zipWith fitV ks r).drop c).all id = (fitV k x && ((List.zipWith fitV ks r).drop (c + 1)).all id) := by
  have hz : (List.zipWith fitV ks r)[c]? = some (fitV k x) := by rw [List.getElem?_zipWith, hk, hx]
  have h1 := List.getElem?_eq_some_iff.1 hz
  rw [List.drop_eq_getElem_cons h1.1, h1.2]; rfl
set_option maxRecDepth 100000 in
set_option maxHeartbeats 4000000 in
theorem fits_c (r : Rw) (ks : List Int) (v u : Value) (w : World) (hv : SlOf w w.heap.size 3 VlC r v) (hu : SlOf w w.heap.size 1 IntC ks u) :
    Calls Tryz.prog 35 #[v, u] w fun e w' => e = .returned (.bool (fitR ks r)) ∧ Below w.heap.size w w' := by
  obtain ⟨o1, cap1, rfl, hc1, hm1, S1⟩ := SlOf.open hv
  obtain ⟨o2, cap2, rfl, hc2, hm2, S2⟩ := SlOf.open hu
  have HB0 : Hid (Below w.heap.size w w) := Lib.hid (Below.refl _ _)
  clear hv hu
  by_cases hl : r.length = ks.length
  · have hR : fitR ks r = ((List.zipWith fitV ks r).drop 0).all id := by
      unfold fitR
      rw [decide_eq_true hl]; rfl
    have Hl := Lib.hid hl
    have HR := Lib.hid hR
    have hne : ((r.length : Int) != (ks.length : Int)) = false := by simp; omega
    clear hl hR
    go_enter Tryz.func35, Tryz.ntmps35
    go_wp2
    go_loopw [14] (fun i wr => ∃ k : Nat, k ≤ r.length ∧ i = .int .i64 (k : Int) ∧ fitR ks r = ((List.zipWith fitV ks r).drop k).all id ∧ Below w.heap.size w wr) (fun i _ => r.length - (intOf i).toNat)
    case atStart => exact ⟨0, Nat.zero_le _, rfl, HR.out, HB0.out⟩
    case round =>
      obtain ⟨k, hk, rfl, hR2, hB⟩ := hrel
      have hBs := hB.size
      by_cases hlt : k < r.length
      · have hlt' : (k : Int) < (r.length : Int) := by omega
        have hlt2 : (k : Int) < (ks.length : Int) := by have := Hl.out; omega
        have hk0 : (0 : Int) ≤ (k : Int) := by omega
        obtain ⟨x, hx⟩ : ∃ x, r[k]? = some x := ⟨r[k], List.getElem?_eq_getElem hlt⟩
        obtain ⟨z, hz⟩ : ∃ z, ks[k]? = some z := ⟨ks[k]'(by have := Hl.out; omega), List.getElem?_eq_getElem _⟩
        have Hz := Lib.hid (hR2.trans (zip_drop hz hx))
        obtain ⟨a1, rfl, ha1, hI1, hs1, c0, c1, c2⟩ := vl_at S1 hB hx
        obtain ⟨a2, rfl, ha2, hI2, d0⟩ := int_at S2 hB hz
        have hr1 := rowNew wr 51 (vlCells x)
        obtain ⟨W, hW⟩ : ∃ W, wr.alloc (.cells (vlCells x).toArray 51) = W := ⟨_, rfl⟩
        have hbW : Below wr.heap.size wr W := by rw [← hW]; exact alB _ _
        rw [hW] at hr1
        have hzW := heap_lt hr1
        have hS : ∀ W', Below W.heap.size W.drew W' → W'.cell? ⟨wr.heap.size, 0, none⟩ = some (.bool x.sym) ∧ W'.cell? ⟨wr.heap.size, 1, none⟩ = some (.int .i64 x.n) ∧ W'.cell? ⟨wr.heap.size, 2, none⟩ = some (.string x.s) ∧ W'.cell? (a2.add k) = some (.int .i64 z) ∧ Below W.heap.size W.drew W' := fun W' h => by
          have q := (h.block _ hzW).trans hr1
          exact ⟨row_cells q 0, row_cells q 1, row_cells q 2, (h.cell (by rw [addBlock]; have := hbW.size; show a2.block < W.heap.size; omega)).trans ((hbW.cell (by rw [addBlock]; omega)).trans d0), h⟩
        have hS0 := hS W.drew (Below.refl _ _)
        have HK : Hid (∀ (w' w'' : World), Below W.heap.size W.drew w' → Below w'.heap.size w' w'' → w''.cell? ⟨wr.heap.size, 0, none⟩ = some (.bool x.sym) ∧ w''.cell? ⟨wr.heap.size, 1, none⟩ = some (.int .i64 x.n) ∧ w''.cell? ⟨wr.heap.size, 2, none⟩ = some (.string x.s) ∧ w''.cell? (a2.add k) = some (.int .i64 z) ∧ Below W.heap.size W.drew w'') := Lib.hid fun w' w'' h1 h2 => hS _ (h1.trans (h2.mono h1.size))
        have HBW := Lib.hid (hB.trans (hbW.mono hBs))
        unfold vlCells at hW
        clear hx hz hR2 hS hbW hr1
        go_wp2_with fail
        (try rw [hW])
        go_region_held3 (fun w' => w'.cell? ⟨wr.heap.size, 0, none⟩ = some (.bool x.sym) ∧ w'.cell? ⟨wr.heap.size, 1, none⟩ = some (.int .i64 x.n) ∧ w'.cell? ⟨wr.heap.size, 2, none⟩ = some (.string x.s) ∧ w'.cell? (a2.add k) = some (.int .i64 z) ∧ Below W.heap.size W.drew w') (first | exact hk1 | exact hS0)
          (first | (go_at_call 66; (with_reducible refine (isOf_x x z _).mono ?_); rintro e1 w1 ⟨rfl, b1⟩; have hk1 := HK.out _ _ hS0.2.2.2.2 b1))
        all_goals
          have HB1 := Lib.hid (HBW.out.trans ((drewB hk1.2.2.2.2).mono HBW.out.size))
          clear hk1 hS0
          cases hf : fitV z x with
          | false =>
            have Hr : Hid (fitR ks r = false) := Lib.hid (by rw [Hz.out, hf]; rfl)
            clear hf
            go_wp2
            go_ret
            exact ⟨by rw [Hr.out]; rfl, HB1.out⟩
          | true =>
            have Hr : Hid (fitR ks r = ((List.zipWith fitV ks r).drop (k + 1)).all id) := Lib.hid (by rw [Hz.out, hf]; rfl)
            clear hf
            go_wp2
            go_roundw
            case rel => exact ⟨k + 1, by omega, by go_num, Hr.out, HB1.out⟩
            case measure => simp [intOf]; omega
      · have hlt' : ¬ (k : Int) < (r.length : Int) := by omega
        have Hr : Hid (fitR ks r = true) := Lib.hid (by
          rw [hR2, List.drop_of_length_le (by rw [List.length_zipWith]; omega)]; rfl)
        clear hR2
        go_wp2
        go_ret
        exact ⟨by rw [Hr.out]; rfl, hB⟩
  · have hne : ((r.length : Int) != (ks.length : Int)) = true := by simp; omega
    have hR : fitR ks r = false := by unfold fitR; rw [decide_eq_false hl]; rfl
    go_enter Tryz.func35, Tryz.ntmps35
    go_wp2
    go_ret
    exact ⟨by rw [hR]; rfl, HB0.out⟩

/-! ### Texts -/
structure TabE (w : World) : Prop where
  tab : Lib.TabIs Tryz.prog w "internal/strconv.uint64pow10" .u64 Lib.pow10Tab
  size : 9 ≤ w.heap.size
theorem gPow : Tryz.prog.globalNamed "internal/strconv.uint64pow10" = some 4 := by kernel_rfl
theorem TabE.belowB {w w' : World} {B : Nat} (h : TabE w) (hB : 9 ≤ B) (hb : Below B w w') : TabE w' := by
  refine ⟨?_, Nat.le_trans h.size hb.size⟩
  have ht := h.tab
  have he := hb.block 4 (by omega)
  unfold Lib.TabIs World.var? at ht ⊢
  simp only [gPow, Option.bind_some, he] at ht ⊢
  exact ht
theorem TabE.below {w w' : World} (h : TabE w) (hb : Below w.heap.size w w') : TabE w' := h.belowB h.size hb
set_option maxRecDepth 100000 in
set_option maxHeartbeats 4000000 in
theorem textOf_c (x : Vl) (w : World) (hI : I64 x.n) (hs : x.s.size ≤ 1073741824) (E : TabE w) :
    Calls Tryz.prog 68 #[.agg #[.bool x.sym, .int .i64 x.n, .string x.s]] w fun e w' => e = .returned (.string ⟨(textV x).toArray⟩) ∧ Below w.heap.size w w' := by
  obtain ⟨sy, n, s⟩ := x
  have hr := rowNew w 51 [.bool sy, .int .i64 n, .string s]
  have h0 := row_cells hr 0
  have h1 := row_cells hr 1
  have h2 := row_cells hr 2
  simp at h0 h1 h2
  have HB := Lib.hid (alB w (.cells #[.bool sy, .int .i64 n, .string s] 51))
  have HQ := Lib.hid (fun W => quote_c s hs W)
  have HN := Lib.hid (num_c n hI.1 hI.2 _ (E.below HB.out).tab)
  clear hr hs hI E
  cases sy with
  | true =>
    go_enter Tryz.func68, Tryz.ntmps68
    go_wp2_with fail
    refine (HQ.out _).mono ?_
    rintro e w1 ⟨rfl, b1⟩
    go_wp2
    go_ret
    exact ⟨rfl, HB.out.trans (b1.mono HB.out.size)⟩
  | false =>
    go_enter Tryz.func68, Tryz.ntmps68
    go_wp2_with fail
    refine HN.out.mono ?_
    rintro e w1 ⟨rfl, b1⟩
    go_wp2
    go_ret
    exact ⟨rfl, HB.out.trans (b1.mono HB.out.size)⟩
end Go.Proofs.YthhepmddcncjoaaGreatDoor
namespace Go.Proofs.YthhepmddcncjoaaGreatDoor
open Go.RowKit Go.Shelf

attribute [local go_sem] Oper.semAt_some

theorem byte_index (c : UInt8) : ∀ l : List UInt8, Lib.indexByte l c = Lib.index l [c]
  | [] => rfl
  | b :: l => by
    rw [Lib.indexByte, Lib.index, pre_one, byte_index c l]
    have : (b == c) = (c == b) := by rw [Bool.eq_iff_iff, beq_iff_eq, beq_iff_eq]; exact eq_comm
    rw [this]
/-- How long the first line is, with its end. -/
def sizeN (l : List UInt8) : Nat := if 0 ≤ Lib.index l [10] then (Lib.index l [10]).toNat + 1 else l.length
theorem sizeN_first {p : List UInt8} (q : List UInt8) (h : ∀ c ∈ p, c ≠ 10) : sizeN (p ++ 10 :: q) = p.length + 1 := by
  unfold sizeN
  rw [index_first q h, if_pos (by omega)]
  simp
theorem sizeN_none {p : List UInt8} (h : ∀ c ∈ p, c ≠ 10) : sizeN p = p.length := by
  unfold sizeN
  rw [index_none h]; rfl
theorem sizeN_le (l : List UInt8) : sizeN l ≤ l.length := by
  rcases cut_at 10 l with h | ⟨p, q, rfl, h⟩
  · rw [sizeN_none h]; exact Nat.le_refl _
  · rw [sizeN_first q h, List.length_append, List.length_cons]; omega
theorem sizeN_pos {l : List UInt8} (hl : l ≠ []) : 1 ≤ sizeN l := by
  rcases cut_at 10 l with h | ⟨p, q, rfl, h⟩
  · rw [sizeN_none h]; exact List.length_pos_iff.2 hl
  · rw [sizeN_first q h]; omega
set_option maxRecDepth 100000 in
theorem lineSize_c (s : ByteArray) (hs : s.size ≤ 1073741824) (w : World) :
    Calls Tryz.prog 79 #[.string s] w fun e w' => e = .returned (.int .i64 (sizeN s.data.toList : Nat)) ∧ w' = w := by
  have hI := byte_index 10 s.data.toList
  have hlen : s.data.toList.length = s.size := by simp
  by_cases hx : 0 ≤ Lib.index s.data.toList [10]
  · obtain ⟨m, hm⟩ : ∃ m : Nat, Lib.index s.data.toList [10] = (m : Int) := ⟨(Lib.index s.data.toList [10]).toNat, by omega⟩
    have hS : sizeN s.data.toList = m + 1 := by unfold sizeN; rw [if_pos hx, hm]; simp
    have hle := sizeN_le s.data.toList
    rw [hS, hlen] at hle
    have wm : IntKind.i64.wrap ((m : Int) + 1) = (m : Int) + 1 := by rw [IntKind.wrap_i64]; omega
    have HS := Lib.hid hS
    have hi : Lib.indexByte s.data.toList 10 = (m : Int) := hI.trans hm
    have HX := Lib.hid (Tryz.strings_Index_one s 10 w)
    rw [hi] at HX
    clear hx hm hS hle hI hi
    go_enter Tryz.func79, Tryz.ntmps79
    go_wp2_with fail
    refine HX.out.mono ?_
    rintro e w1 ⟨rfl, rfl⟩
    go_wp2
    go_ret
    exact ⟨by rw [HS.out]; rfl, rfl⟩
  · have hm : Lib.index s.data.toList [10] = -1 := by have := Lib.index_ge s.data.toList [10]; omega
    have hS : sizeN s.data.toList = s.size := by unfold sizeN; rw [if_neg hx, hlen]
    have HS := Lib.hid hS
    have HX := Lib.hid (Tryz.strings_Index_one s 10 w)
    rw [hI, hm] at HX
    clear hx hm hS hI
    go_enter Tryz.func79, Tryz.ntmps79
    go_wp2_with fail
    refine HX.out.mono ?_
    rintro e w1 ⟨rfl, rfl⟩
    go_wp2
    go_ret
    exact ⟨by rw [HS.out]; rfl, rfl⟩

/-! ### The iterator -/
abbrev Ln := Nat × ByteArray × ByteArray
def lnE (x : Ln) : Array Value := #[.agg #[.int .i64 (x.1 : Int), .string x.2.1]]
def LnG (B1 : Nat) (s : ByteArray) (_ : Ln) (W : World) : Prop := W.heap[B1]? = some (.cells #[.string s] 9 (0, 0))
def LnT (x : Ln) (W : World) (x' : Ln) (W' : World) : Prop := x'.1 = x.1 + 1 ∧ x.2.2.data.toList ≠ [] ∧ x'.2.1.data.toList = x.2.2.data.toList.take (sizeN x.2.2.data.toList) ∧ x'.2.2.data.toList = x.2.2.data.toList.drop (sizeN x.2.2.data.toList) ∧ Below W.heap.size W W'
def LnZ (x : Ln) (W W' : World) : Prop := x.2.2.data.toList = [] ∧ Below W.heap.size W W'
theorem eachLine_in (n : Nat) (s : ByteArray) (w : World) :
    CallsIn Fence.wide n Tryz.prog 48 #[.string s] w fun e w' => e = .returned (.func (.func 78) #[] #[.pointer (some ⟨w.heap.size, 0, none⟩)]) ∧ w' = w.alloc (.cells #[.string s] 9) := by
  refine callsIn_of_wp Tryz.func48 rfl trivial ?_ rfl
  simp only [Tryz.ntmps48, List.size_toArray, List.length_cons, List.length_nil, Nat.reduceAdd, Nat.reduceSub, Array.replicate_succ, Array.replicate_zero, List.push_toArray, List.append_toArray, List.nil_append, List.cons_append]
  gi_wp2
  go_ret
  exact ⟨rfl, rfl⟩
def strSz : Value → Nat
  | .string b => b.size
  | _ => 0
theorem str_empty {b : ByteArray} (h : b.data.toList = []) : b = ⟨#[]⟩ := by
  obtain ⟨⟨l⟩⟩ := b
  simp only at h
  rw [h]
set_option linter.unusedSimpArgs false in
set_option maxRecDepth 100000 in
set_option maxHeartbeats 4000000 in
theorem eachLine_moves (n : Nat) (hn : 1 ≤ n) (B1 : Nat) (s : ByteArray) (hs : s.size ≤ 1073741824) :
    Moves2 Fence.wide n Tryz.prog 78 (fun l => #[] ++ #[.func (.yield l) #[] #[]] ++ #[.pointer (some ⟨B1, 0, none⟩)]) lnE (LnG B1 s) LnT LnZ (0, ⟨#[]⟩, s) := by
  intro lp A B X Z W hY hB h0
  have HY := Lib.hid hY
  have HB := Lib.hid hB
  have HB0 := Lib.hid h0
  have hr0 := (hB _ W h0).1
  unfold LnG at hr0
  have c1 : W.cell? ⟨B1, 0, none⟩ = some (.string s) := (row_cell hr0 0).1
  clear hY hB hr0 h0
  simp only [List.append_toArray, List.cons_append, List.nil_append, List.append_nil]
  refine callsIn_of_wp Tryz.func78 rfl trivial ?_ rfl
  simp only [Tryz.ntmps78, List.size_toArray, List.length_cons, List.length_nil, Nat.reduceAdd, Nat.reduceSub, Array.replicate_succ, Array.replicate_zero, List.push_toArray, List.append_toArray, List.nil_append, List.cons_append]
  gi_wp2
  gi_loopw [3, 4] (fun r i wr => ∃ (x : Ln), r = .string x.2.2 ∧ i = .int .i64 ((x.1 + 1 : Nat) : Int) ∧ x.1 + x.2.2.size ≤ s.size ∧ B x wr) (fun r _ _ => strSz r)
  case atStart => exact ⟨_, rfl, rfl, by simp, HB0.out⟩
  case round =>
    obtain ⟨x, rfl, rfl, hx1, hBx⟩ := hrel
    obtain ⟨_, hT, hE⟩ := HB.out x wr hBx
    obtain ⟨num, ln, rest⟩ := x
    simp only at hx1
    by_cases hne : rest.data.toList = []
    · have hre := str_empty hne
      have HZ := Lib.hid (hE wr ⟨hne, Below.refl _ _⟩)
      subst hre
      clear hT hE hBx hne
      gi_wp2
      go_end0
      exact ⟨⟨_, rfl⟩, .inr HZ.out⟩
    · have hq1 : (rest.toList == ([] : List UInt8)) = false := by rw [Lib.toList_data]; exact beq_eq_false_iff_ne.2 hne
      have hq2 : (!rest.toList == ([] : List UInt8)) = true := by rw [hq1]; rfl
      have hlen : rest.data.toList.length = rest.size := by simp
      obtain ⟨m, hm⟩ : ∃ m, sizeN rest.data.toList = m := ⟨_, rfl⟩
      have hm1 : m ≤ rest.size := by rw [← hm, ← hlen]; exact sizeN_le _
      have hm0 : 1 ≤ m := by rw [← hm]; exact sizeN_pos hne
      have hm2 : (m : Int) ≤ (rest.size : Int) := by omega
      have hm3 : (0 : Int) ≤ (m : Int) := by omega
      have e1 : (rest.extract 0 m).data.toList = rest.data.toList.take m := by rw [Lib.extract_data]; simp
      have e2 : (rest.extract m rest.size).data.toList = rest.data.toList.drop m := by rw [Lib.extract_data, List.take_of_length_le (by simp)]
      have e3 : (rest.extract m rest.size).size = rest.size - m := by rw [ByteArray.size_extract]; omega
      have hA := hT (num + 1, rest.extract 0 m, rest.extract m rest.size) wr ⟨rfl, hne, by rw [hm]; exact e1, by rw [hm]; exact e2, Below.refl _ _⟩
      obtain ⟨fn, tmps, assign, body, hyl, hR⟩ := HY.out _ _ hA
      simp only [lnE, show ((num + 1 : Nat) : Int) = (num : Int) + 1 by omega] at hyl
      have wk : IntKind.i64.wrap ((num : Int) + 1 + 1) = (num : Int) + 1 + 1 := by rw [IntKind.wrap_i64]; omega
      have HS := Lib.hid (lineSize_c rest (by omega) wr)
      rw [hm] at HS
      have He3 := Lib.hid e3
      clear hT hE hBx hne e1 e2 e3 hA hm hlen
      gi_wp2_with fail
      refine ⟨trivial, (callsIn_wide.2 HS.out).mono ?_⟩
      rintro e w1 ⟨rfl, rfl⟩
      gi_wp2_with fail
      refine hR.mono ?_
      rintro e W1 (⟨rfl, hB1⟩ | ⟨rfl, hX1⟩)
      · have HB1 := Lib.hid hB1
        clear hR hB1 hyl
        gi_wp2
        go_roundw
        case rel => exact ⟨_, rfl, rfl, by show num + 1 + _ ≤ _; rw [He3.out]; omega, HB1.out⟩
        case measure => simp [strSz]; omega
      · have HX := Lib.hid hX1
        clear hR hX1 hyl
        gi_wp2
        refine bodyPost_ret (results_none rfl _ _ _) rfl ?_
        exact ⟨⟨_, rfl⟩, .inl HX.out⟩
end Go.Proofs.YthhepmddcncjoaaGreatDoor
namespace Go.Proofs.YthhepmddcncjoaaGreatDoor
open Go.RowKit

def errL (n e : Int) : Value := .iface 67 (.agg #[.int .i64 n, .int .i64 e])
set_option maxRecDepth 100000 in
theorem fail_c (n e : Int) (s : ByteArray) (w : World) :
    Calls Tryz.prog 51 #[.agg #[.int .i64 n, .string s], .int .i64 e] w fun r w' => r = .returned (errL n e) ∧ Below w.heap.size w w' := by
  have hr := rowNew w 98 [.int .i64 n, .string s]
  have h0 := row_cells hr 0
  have h1 := row_cells hr 1
  simp at h0 h1
  have HB := Lib.hid (alB w (.cells #[.int .i64 n, .string s] 98))
  clear hr
  go_enter Tryz.func51, Tryz.ntmps51
  go_wp2
  go_ret
  exact ⟨rfl, HB.out⟩

/-! ### A value -/
def valV (k : Int) : Option Vl → Value
  | some x => .tuple #[.agg #[.bool x.sym, .int .i64 x.n, .string x.s], .int .i64 0]
  | none => .tuple #[.agg #[.bool false, .int .i64 0, .string ⟨#[]⟩], .int .i64 (badE k)]
set_option maxRecDepth 100000 in
set_option maxHeartbeats 4000000 in
theorem value_c (t : ByteArray) (k : Int) (a : Addr) (w : World) (hs : t.size ≤ 1073741824) (E : Env a w) :
    Calls Tryz.prog 50 #[.string t, .int .i64 k] w fun e w' => e = .returned (valV k (valQ k t.data.toList)) ∧ Below w.heap.size w w' := by
  have hr := rowNew w 51 [.bool false, .int .i64 0, .string ⟨#[]⟩]
  obtain ⟨W, hW⟩ : ∃ W, w.alloc (.cells #[.bool false, .int .i64 0, .string ⟨#[]⟩] 51) = W := ⟨_, rfl⟩
  have hb : Below w.heap.size w W := by rw [← hW]; exact alB _ _
  have hr1 : W.heap[w.heap.size]? = some (.cells #[.bool false, .int .i64 0, .string ⟨#[]⟩] 51 (0, 0)) := by rw [← hW]; exact hr
  have HR := Lib.hid hr1
  have HB := Lib.hid hb
  have hEW := E.below hb
  have HP := Lib.hid (parse_c t a W (by unfold maxLen; omega) hEW)
  have HU := Lib.hid (unquote_c t a W hs hEW)
  clear hr hb E hEW hr1
  have hfix : ∀ (w1 : World), Below W.heap.size W w1 → w1.heap[w.heap.size]? = some (.cells #[.bool false, .int .i64 0, .string ⟨#[]⟩] 51 (0, 0)) := fun w1 b => (b.block _ (heap_lt HR.out)).trans HR.out
  have HF := Lib.hid hfix
  clear hfix
  by_cases hk : k = 1
  · subst hk
    cases hn : numL t.data.toList with
    | none =>
      have Hq : Hid (valQ 1 t.data.toList = none) := Lib.hid (by unfold valQ; rw [if_pos rfl, hn]; rfl)
      rw [hn] at HP
      clear hn
      go_enter Tryz.func50, Tryz.ntmps50
      go_wp2_with fail
      (try rw [hW])
      refine HP.out.mono ?_
      rintro e w1 ⟨rfl, b1⟩
      simp only [parseV]
      have r1 := HF.out w1 b1
      obtain ⟨c0, c1, c2, f0, f1, f2⟩ : w1.cell? ⟨w.heap.size, 0, none⟩ = some (.bool false) ∧ w1.cell? ⟨w.heap.size, 1, none⟩ = some (.int .i64 0) ∧ w1.cell? ⟨w.heap.size, 2, none⟩ = some (.string ⟨#[]⟩) ∧ w1.frozen? ⟨w.heap.size, 0, none⟩ = false ∧ w1.frozen? ⟨w.heap.size, 1, none⟩ = false ∧ w1.frozen? ⟨w.heap.size, 2, none⟩ = false := ⟨row_cells r1 0, row_cells r1 1, row_cells r1 2, frz_row r1 0, frz_row r1 1, frz_row r1 2⟩
      have hz := heap_lt r1
      have HB1 := Lib.hid (HB.out.trans (b1.mono HB.out.size))
      clear b1
      have r3 := set3 r1 (.bool false) (.int .i64 0) (.string ⟨#[]⟩)
      have HB3 := Lib.hid (set3B HB1.out (Nat.le_refl _) (.bool false) (.int .i64 0) (.string ⟨#[]⟩))
      obtain ⟨x0, x1, x2⟩ : (((w1.setCell ⟨w.heap.size, 0, none⟩ (.bool false)).setCell ⟨w.heap.size, 1, none⟩ (.int .i64 0)).setCell ⟨w.heap.size, 2, none⟩ (.string ⟨#[]⟩)).cell? ⟨w.heap.size, 0, none⟩ = some (.bool false) ∧ (((w1.setCell ⟨w.heap.size, 0, none⟩ (.bool false)).setCell ⟨w.heap.size, 1, none⟩ (.int .i64 0)).setCell ⟨w.heap.size, 2, none⟩ (.string ⟨#[]⟩)).cell? ⟨w.heap.size, 1, none⟩ = some (.int .i64 0) ∧ (((w1.setCell ⟨w.heap.size, 0, none⟩ (.bool false)).setCell ⟨w.heap.size, 1, none⟩ (.int .i64 0)).setCell ⟨w.heap.size, 2, none⟩ (.string ⟨#[]⟩)).cell? ⟨w.heap.size, 2, none⟩ = some (.string ⟨#[]⟩) := ⟨row_cells r3 0, row_cells r3 1, row_cells r3 2⟩
      clear r3
      go_wp2
      refine bodyPost_ret (v := .tuple #[.agg #[.bool false, .int .i64 0, .string ⟨#[]⟩], .int .i64 95]) (by simp [results, Tryz.results50, go_sem, x0, x1, x2]) rfl ?_
      exact ⟨by first | (rw [Hq.out]; rfl) | rw [Hq.out], HB3.out⟩
    | some n =>
      have Hq : Hid (valQ 1 t.data.toList = some ⟨false, n, ⟨#[]⟩⟩) := Lib.hid (by unfold valQ; rw [if_pos rfl, hn]; rfl)
      rw [hn] at HP
      clear hn
      go_enter Tryz.func50, Tryz.ntmps50
      go_wp2_with fail
      (try rw [hW])
      refine HP.out.mono ?_
      rintro e w0 ⟨rfl, b0⟩
      simp only [parseV]
      have B0 := Lib.hid b0
      clear b0
      go_wp2_with fail
      refine (fnumber_c n w0).mono ?_
      rintro e w1 ⟨rfl, b1'⟩
      have b1 := B0.out.trans (b1'.mono B0.out.size)
      have r1 := HF.out w1 b1
      obtain ⟨c0, c1, c2, f0, f1, f2⟩ : w1.cell? ⟨w.heap.size, 0, none⟩ = some (.bool false) ∧ w1.cell? ⟨w.heap.size, 1, none⟩ = some (.int .i64 0) ∧ w1.cell? ⟨w.heap.size, 2, none⟩ = some (.string ⟨#[]⟩) ∧ w1.frozen? ⟨w.heap.size, 0, none⟩ = false ∧ w1.frozen? ⟨w.heap.size, 1, none⟩ = false ∧ w1.frozen? ⟨w.heap.size, 2, none⟩ = false := ⟨row_cells r1 0, row_cells r1 1, row_cells r1 2, frz_row r1 0, frz_row r1 1, frz_row r1 2⟩
      have hz := heap_lt r1
      have HB1 := Lib.hid (HB.out.trans (b1.mono HB.out.size))
      clear b1 b1'
      have r3 := set3 r1 (.bool false) (.int .i64 n) (.string ⟨#[]⟩)
      have HB3 := Lib.hid (set3B HB1.out (Nat.le_refl _) (.bool false) (.int .i64 n) (.string ⟨#[]⟩))
      obtain ⟨x0, x1, x2⟩ : (((w1.setCell ⟨w.heap.size, 0, none⟩ (.bool false)).setCell ⟨w.heap.size, 1, none⟩ (.int .i64 n)).setCell ⟨w.heap.size, 2, none⟩ (.string ⟨#[]⟩)).cell? ⟨w.heap.size, 0, none⟩ = some (.bool false) ∧ (((w1.setCell ⟨w.heap.size, 0, none⟩ (.bool false)).setCell ⟨w.heap.size, 1, none⟩ (.int .i64 n)).setCell ⟨w.heap.size, 2, none⟩ (.string ⟨#[]⟩)).cell? ⟨w.heap.size, 1, none⟩ = some (.int .i64 n) ∧ (((w1.setCell ⟨w.heap.size, 0, none⟩ (.bool false)).setCell ⟨w.heap.size, 1, none⟩ (.int .i64 n)).setCell ⟨w.heap.size, 2, none⟩ (.string ⟨#[]⟩)).cell? ⟨w.heap.size, 2, none⟩ = some (.string ⟨#[]⟩) := ⟨row_cells r3 0, row_cells r3 1, row_cells r3 2⟩
      clear r3
      go_wp2
      refine bodyPost_ret (v := .tuple #[.agg #[.bool false, .int .i64 n, .string ⟨#[]⟩], .int .i64 0]) (by simp [results, Tryz.results50, go_sem, x0, x1, x2]) rfl ?_
      exact ⟨by first | (rw [Hq.out]; rfl) | rw [Hq.out], HB3.out⟩
  · have hk' : (k == 1) = false := by simpa using hk
    have Hbe : Hid (badE k = 96) := Lib.hid (by unfold badE; rw [if_neg hk])
    cases hn : unqL t.data.toList with
    | none =>
      have Hq : Hid (valV k (valQ k t.data.toList) = .tuple #[.agg #[.bool false, .int .i64 0, .string ⟨#[]⟩], .int .i64 96]) := Lib.hid (by unfold valQ; rw [if_neg hk, hn]; show Value.tuple #[_, .int .i64 (badE k)] = _; rw [Hbe.out])
      rw [hn] at HU
      clear hn
      go_enter Tryz.func50, Tryz.ntmps50
      go_wp2_with fail
      (try rw [hW])
      refine HU.out.mono ?_
      rintro e w1 ⟨rfl, b1⟩
      simp only [unqV]
      have r1 := HF.out w1 b1
      obtain ⟨c0, c1, c2, f0, f1, f2⟩ : w1.cell? ⟨w.heap.size, 0, none⟩ = some (.bool false) ∧ w1.cell? ⟨w.heap.size, 1, none⟩ = some (.int .i64 0) ∧ w1.cell? ⟨w.heap.size, 2, none⟩ = some (.string ⟨#[]⟩) ∧ w1.frozen? ⟨w.heap.size, 0, none⟩ = false ∧ w1.frozen? ⟨w.heap.size, 1, none⟩ = false ∧ w1.frozen? ⟨w.heap.size, 2, none⟩ = false := ⟨row_cells r1 0, row_cells r1 1, row_cells r1 2, frz_row r1 0, frz_row r1 1, frz_row r1 2⟩
      have hz := heap_lt r1
      have HB1 := Lib.hid (HB.out.trans (b1.mono HB.out.size))
      clear b1
      have r3 := set3 r1 (.bool false) (.int .i64 0) (.string ⟨#[]⟩)
      have HB3 := Lib.hid (set3B HB1.out (Nat.le_refl _) (.bool false) (.int .i64 0) (.string ⟨#[]⟩))
      obtain ⟨x0, x1, x2⟩ : (((w1.setCell ⟨w.heap.size, 0, none⟩ (.bool false)).setCell ⟨w.heap.size, 1, none⟩ (.int .i64 0)).setCell ⟨w.heap.size, 2, none⟩ (.string ⟨#[]⟩)).cell? ⟨w.heap.size, 0, none⟩ = some (.bool false) ∧ (((w1.setCell ⟨w.heap.size, 0, none⟩ (.bool false)).setCell ⟨w.heap.size, 1, none⟩ (.int .i64 0)).setCell ⟨w.heap.size, 2, none⟩ (.string ⟨#[]⟩)).cell? ⟨w.heap.size, 1, none⟩ = some (.int .i64 0) ∧ (((w1.setCell ⟨w.heap.size, 0, none⟩ (.bool false)).setCell ⟨w.heap.size, 1, none⟩ (.int .i64 0)).setCell ⟨w.heap.size, 2, none⟩ (.string ⟨#[]⟩)).cell? ⟨w.heap.size, 2, none⟩ = some (.string ⟨#[]⟩) := ⟨row_cells r3 0, row_cells r3 1, row_cells r3 2⟩
      clear r3
      go_wp2
      refine bodyPost_ret (v := .tuple #[.agg #[.bool false, .int .i64 0, .string ⟨#[]⟩], .int .i64 96]) (by simp [results, Tryz.results50, go_sem, x0, x1, x2]) rfl ?_
      exact ⟨by first | (rw [Hq.out]; rfl) | rw [Hq.out], HB3.out⟩
    | some l =>
      have Hq : Hid (valQ k t.data.toList = some ⟨true, 0, ⟨l.toArray⟩⟩) := Lib.hid (by unfold valQ; rw [if_neg hk, hn]; rfl)
      rw [hn] at HU
      clear hn
      go_enter Tryz.func50, Tryz.ntmps50
      go_wp2_with fail
      (try rw [hW])
      refine HU.out.mono ?_
      rintro e w0 ⟨rfl, b0⟩
      simp only [unqV]
      have B0 := Lib.hid b0
      clear b0
      go_wp2_with fail
      refine (fsymbol_c ⟨l.toArray⟩ w0).mono ?_
      rintro e w1 ⟨rfl, b1'⟩
      have b1 := B0.out.trans (b1'.mono B0.out.size)
      have r1 := HF.out w1 b1
      obtain ⟨c0, c1, c2, f0, f1, f2⟩ : w1.cell? ⟨w.heap.size, 0, none⟩ = some (.bool false) ∧ w1.cell? ⟨w.heap.size, 1, none⟩ = some (.int .i64 0) ∧ w1.cell? ⟨w.heap.size, 2, none⟩ = some (.string ⟨#[]⟩) ∧ w1.frozen? ⟨w.heap.size, 0, none⟩ = false ∧ w1.frozen? ⟨w.heap.size, 1, none⟩ = false ∧ w1.frozen? ⟨w.heap.size, 2, none⟩ = false := ⟨row_cells r1 0, row_cells r1 1, row_cells r1 2, frz_row r1 0, frz_row r1 1, frz_row r1 2⟩
      have hz := heap_lt r1
      have HB1 := Lib.hid (HB.out.trans (b1.mono HB.out.size))
      clear b1 b1'
      have r3 := set3 r1 (.bool true) (.int .i64 0) (.string ⟨l.toArray⟩)
      have HB3 := Lib.hid (set3B HB1.out (Nat.le_refl _) (.bool true) (.int .i64 0) (.string ⟨l.toArray⟩))
      obtain ⟨x0, x1, x2⟩ : (((w1.setCell ⟨w.heap.size, 0, none⟩ (.bool true)).setCell ⟨w.heap.size, 1, none⟩ (.int .i64 0)).setCell ⟨w.heap.size, 2, none⟩ (.string ⟨l.toArray⟩)).cell? ⟨w.heap.size, 0, none⟩ = some (.bool true) ∧ (((w1.setCell ⟨w.heap.size, 0, none⟩ (.bool true)).setCell ⟨w.heap.size, 1, none⟩ (.int .i64 0)).setCell ⟨w.heap.size, 2, none⟩ (.string ⟨l.toArray⟩)).cell? ⟨w.heap.size, 1, none⟩ = some (.int .i64 0) ∧ (((w1.setCell ⟨w.heap.size, 0, none⟩ (.bool true)).setCell ⟨w.heap.size, 1, none⟩ (.int .i64 0)).setCell ⟨w.heap.size, 2, none⟩ (.string ⟨l.toArray⟩)).cell? ⟨w.heap.size, 2, none⟩ = some (.string ⟨l.toArray⟩) := ⟨row_cells r3 0, row_cells r3 1, row_cells r3 2⟩
      clear r3
      go_wp2
      refine bodyPost_ret (v := .tuple #[.agg #[.bool true, .int .i64 0, .string ⟨l.toArray⟩], .int .i64 0]) (by simp [results, Tryz.results50, go_sem, x0, x1, x2]) rfl ?_
      exact ⟨by first | (rw [Hq.out]; rfl) | rw [Hq.out], HB3.out⟩
end Go.Proofs.YthhepmddcncjoaaGreatDoor
namespace Go.Proofs.YthhepmddcncjoaaGreatDoor
open Go.RowKit Go.Extern.Stop Go.Stop Go.Extern

/-- reflectlite's Value of a type at an address, with its flags. -/
abbrev rv (t : Nat) (a : Addr) (fl : Int) : Value := .agg #[.pointer (some ⟨9, t, none⟩), .pointer (some a), .int .u64 fl]
theorem asValueOfP (t : Addr) (w : World) : (ReflectliteValue.unpack (.iface 69 (.pointer (some t)))).run Tryz.prog w = .ok (rv 69 ⟨w.heap.size, 0, none⟩ 150) (w.alloc (.cells #[.pointer (some t)] 69)) := by kernel_rfl
theorem asTypeP (a : Addr) (w : World) : (ReflectliteValue.methodAny (ReflectliteValue.valueError "reflectlite.Value.Type" 0) (fun t _ _ _ => ReflectliteType.toType t) #[rv 69 a 150]).run Tryz.prog w
    = .ok (.iface 153 (.agg #[.pointer (some ⟨9, 69, none⟩)])) w := by kernel_rfl
theorem asMethodKind (h : Value) (w : World) : (Go.method 387 153 (.agg #[h]) "Kind").run Tryz.prog w = .ok (211, h) w := by kernel_rfl
theorem asKindP (w : World) : ((ReflectliteType.abiMethod fun t => Functor.map (fun a : Nat => Value.int IntKind.u8 (a : Int)) (Rtype.kind t)) #[.pointer (some ⟨9, 69, none⟩)]).run Tryz.prog w = .ok (.int .u8 22) w := by kernel_rfl
theorem asKindL (w : World) : ((ReflectliteType.abiMethod fun t => Functor.map (fun a : Nat => Value.int IntKind.u8 (a : Int)) (Rtype.kind t)) #[.pointer (some ⟨9, 67, none⟩)]).run Tryz.prog w = .ok (.int .u8 25) w := by kernel_rfl
theorem asRlm (z : Sem Value) (f : TypeId → Addr → Nat → Nat → Sem Value) (v : Value) :
    ReflectliteValue.method z f #[v] = (do match ← ReflectliteValue.parts v with | none => z | some (t, a, fl) => f t a fl (fl % 32)) := rfl
theorem asPartsP (a : Addr) (w : World) : (ReflectliteValue.parts (rv 69 a 150)).run Tryz.prog w = .ok (some (69, a, 150)) w := by kernel_rfl
theorem asIsNilP (a p : Addr) (W : World) (ha : W.cell? a = some (.pointer (some p))) :
    (ReflectliteValue.method (ReflectliteValue.valueError "reflectlite.Value.IsNil" 0) ReflectliteValue.isNil #[rv 69 a 150]).run Tryz.prog W = .ok (.bool false) W := by
  rw [asRlm]
  simp only [Sem.run_bind, asPartsP, Result.andThen]
  simp [ReflectliteValue.isNil, loadVar, isAgg, underlying, Tryz.underlying69, ha, Result.andThen]
theorem asMethodElem (h : Value) (w : World) : (Go.method 387 153 (.agg #[h]) "Elem").run Tryz.prog w = .ok (222, .agg #[h]) w := by kernel_rfl
theorem asMethodImplements (h : Value) (w : World) : (Go.method 387 153 (.agg #[h]) "Implements").run Tryz.prog w = .ok (223, .agg #[h]) w := by kernel_rfl
theorem asMethodAssignable (h : Value) (w : World) : (Go.method 387 153 (.agg #[h]) "AssignableTo").run Tryz.prog w = .ok (220, .agg #[h]) w := by kernel_rfl
theorem asElemP (w : World) : (ReflectliteType.method ReflectliteType.elem #[.agg #[.pointer (some ⟨9, 69, none⟩)]]).run Tryz.prog w = .ok (.iface 153 (.agg #[.pointer (some ⟨9, 67, none⟩)])) w := by kernel_rfl
theorem asImplements (w : World) : (ReflectliteType.relation "Implements" ReflectliteType.implements_ #[.agg #[.pointer (some ⟨9, 67, none⟩)], .iface 153 (.agg #[.pointer (some ⟨9, 63, none⟩)])]).run Tryz.prog w = .ok (.bool true) w := by kernel_rfl
theorem asTypeOfL (v : Value) (w : World) : (ReflectliteType.typeOf #[.iface 67 v]).run Tryz.prog w = .ok (.iface 153 (.agg #[.pointer (some ⟨9, 67, none⟩)])) w := by kernel_rfl
theorem asAssignable (w : World) : (ReflectliteType.relation "AssignableTo" ReflectliteType.assignableTo #[.agg #[.pointer (some ⟨9, 67, none⟩)], .iface 153 (.agg #[.pointer (some ⟨9, 67, none⟩)])]).run Tryz.prog w = .ok (.bool true) w := by kernel_rfl
theorem asValueOfL (x y : Value) (w : World) : (ReflectliteValue.unpack (.iface 67 (.agg #[x, y]))).run Tryz.prog w
    = .ok (rv 67 ⟨w.heap.size, 0, none⟩ 153) (w.alloc (.cells #[x, y] 67)) := by kernel_rfl
theorem asElemOf (w : World) : (Rtype.elem? 69).run Tryz.prog w = .ok (some 67) w := by kernel_rfl
theorem asMk (p : Addr) (w : World) : (ReflectliteValue.mk 67 p ReflectliteValue.flagAddr).run Tryz.prog w = .ok (rv 67 p 409) w := by kernel_rfl
theorem asElemV (a p : Addr) (W : World) (ha : W.cell? a = some (.pointer (some p))) :
    (ReflectliteValue.method (ReflectliteValue.valueError "reflectlite.Value.Elem" 0) ReflectliteValue.elem #[rv 69 a 150]).run Tryz.prog W = .ok (rv 67 p 409) W := by
  rw [asRlm]
  simp only [Sem.run_bind, asPartsP, Result.andThen]
  simp [ReflectliteValue.elem, loadVar, isAgg, underlying, Tryz.underlying69, ha, Result.andThen, asElemOf, asMk]
theorem asRls (v x : Value) : ReflectliteValue.set #[v, x] = (do
    let (some (dst, a, fl), some (src, b, _)) := (← ReflectliteValue.parts v, ← ReflectliteValue.parts x)
      | unsupported (.noEntry "extern/(internal/reflectlite.Value).Set.zeroValue")
    if fl / ReflectliteValue.flagAddr % 2 == 0 then unsupported (.noEntry "extern/(internal/reflectlite.Value).Set.unaddressable")
    let val ← loadVar src b
    if ← Rtype.directlyAssignable dst src then storeVar dst a val
    else if ← Rtype.implements dst src then
      if (← Rtype.kind src) == 20 then
        match val with
        | .nilIface => unsupported (.noEntry "extern/reflectlite: a nil value of one interface type handed on as a value of another")
        | _ => storeVar dst a val
      else storeVar dst a (.iface src val)
    else panicString ("reflectlite.Set: value of type " ++ (← Rtype.spelt src) ++ " is not assignable to type " ++ (← Rtype.spelt dst))
    pure (.tuple #[])) := rfl
theorem asPartsD (a : Addr) (w : World) : (ReflectliteValue.parts (rv 67 a 409)).run Tryz.prog w = .ok (some (67, a, 409)) w := by kernel_rfl
theorem asPartsS (a : Addr) (w : World) : (ReflectliteValue.parts (rv 67 a 153)).run Tryz.prog w = .ok (some (67, a, 153)) w := by kernel_rfl
theorem asDirect (w : World) : (Rtype.directlyAssignable 67 67).run Tryz.prog w = .ok true w := by kernel_rfl
theorem asSize : (Tryz.prog.info? 67).map (·.size) = some 2 := by kernel_rfl
theorem asLoad (b : Nat) (x y : Value) (W : World) (hb : W.heap[b]? = some (.cells #[x, y] 67 (0, 0))) : (loadVar 67 ⟨b, 0, none⟩).run Tryz.prog W = .ok (.agg #[x, y]) W :=
  run_loadVar_row W b 67 67 #[x, y] (0, 0) _ hb Tryz.underlying67 rfl asSize
theorem asStore (k : Nat) (x y u v : Value) (h1 : (#[x, y] : Array Value).all (·.oneCell') = true) (W : World) (hk : W.heap[k]? = some (.cells #[u, v] 67 (0, 0))) :
    (storeVar 67 ⟨k, 0, none⟩ (.agg #[x, y])).run Tryz.prog W = .ok () (W.setRow k #[x, y]) :=
  run_storeVar_row W k 67 67 #[u, v] #[x, y] hk asSize rfl h1
theorem asSet (k b : Nat) (x y u v : Value) (h1 : (#[x, y] : Array Value).all (·.oneCell') = true) (W : World) (hb : W.heap[b]? = some (.cells #[x, y] 67 (0, 0))) (hk : W.heap[k]? = some (.cells #[u, v] 67 (0, 0))) :
    (ReflectliteValue.set #[rv 67 ⟨k, 0, none⟩ 409, rv 67 ⟨b, 0, none⟩ 153]).run Tryz.prog W = .ok (.tuple #[]) (W.setRow k #[x, y]) := by
  rw [asRls]
  simp only [Sem.run_bind, asPartsD, asPartsS, Result.andThen]
  simp [ReflectliteValue.flagAddr, asLoad b x y W hb, Result.andThen, asDirect, asStore k x y u v h1 W hk]

theorem setRow_below (W : World) (k : Nat) (cs' : Array Value) : Below k W (W.setRow k cs') :=
  ⟨rfl, rfl, rfl, by simp, fun i hi => setRow_other W k i cs' (by omega)⟩

set_option maxRecDepth 100000 in
set_option maxHeartbeats 4000000 in
theorem as_hit (n e0 : Int) (k : Nat) (w : World) (hk : w.heap[k]? = some (.cells #[.int .i64 0, .int .i64 0] 67 (0, 0))) (hgk : 3 ≤ k)
    (hg : w.cell? ⟨1, 0, none⟩ = some (.iface 153 (.agg #[.pointer (some ⟨9, 63, none⟩)]))) :
    Calls Tryz.prog 28 #[errL n e0, .iface 69 (.pointer (some ⟨k, 0, none⟩))] w fun e w' => e = .returned (.bool true) ∧ w'.cell? ⟨k, 0, none⟩ = some (.int .i64 n) ∧ w'.cell? ⟨k, 1, none⟩ = some (.int .i64 e0) ∧ Below k w w' := by
  have h6 := @run_callFunc_extern Tryz.prog 52 _ (fun args => ReflectliteValue.unpack (args.getD 0 (.tuple #[]))) Tryz.func52 (by kernel_rfl) (by kernel_rfl) (by kernel_rfl) (by kernel_rfl)
  have h7 := @run_callFunc_extern Tryz.prog 53 _ (ReflectliteValue.methodAny (ReflectliteValue.valueError "reflectlite.Value.Type" 0) (fun t _ _ _ => ReflectliteType.toType t)) Tryz.func53 (by kernel_rfl) (by kernel_rfl) (by kernel_rfl) (by kernel_rfl)
  have h8 := @run_callFunc_extern Tryz.prog 54 _ (ReflectliteValue.method (ReflectliteValue.valueError "reflectlite.Value.IsNil" 0) ReflectliteValue.isNil) Tryz.func54 (by kernel_rfl) (by kernel_rfl) (by kernel_rfl) (by kernel_rfl)
  have h27 := @run_callFunc_extern Tryz.prog 211 _ (ReflectliteType.abiMethod fun t => do pure (.int .u8 (← Rtype.kind t))) Tryz.func211 (by kernel_rfl) (by kernel_rfl) (by kernel_rfl) (by kernel_rfl)
  have h37 := @run_callFunc_extern Tryz.prog 222 _ (ReflectliteType.method ReflectliteType.elem) Tryz.func222 (by kernel_rfl) (by kernel_rfl) (by kernel_rfl) (by kernel_rfl)
  have h38 := @run_callFunc_extern Tryz.prog 223 _ (ReflectliteType.relation "Implements" ReflectliteType.implements_) Tryz.func223 (by kernel_rfl) (by kernel_rfl) (by kernel_rfl) (by kernel_rfl)
  have h10 := @run_callFunc_extern Tryz.prog 74 _ ReflectliteType.typeOf Tryz.func74 (by kernel_rfl) (by kernel_rfl) (by kernel_rfl) (by kernel_rfl)
  have h35 := @run_callFunc_extern Tryz.prog 220 _ (ReflectliteType.relation "AssignableTo" ReflectliteType.assignableTo) Tryz.func220 (by kernel_rfl) (by kernel_rfl) (by kernel_rfl) (by kernel_rfl)
  have h11 := @run_callFunc_extern Tryz.prog 89 _ (ReflectliteValue.method (ReflectliteValue.valueError "reflectlite.Value.Elem" 0) ReflectliteValue.elem) Tryz.func89 (by kernel_rfl) (by kernel_rfl) (by kernel_rfl) (by kernel_rfl)
  have h12 := @run_callFunc_extern Tryz.prog 90 _ ReflectliteValue.set Tryz.func90 (by kernel_rfl) (by kernel_rfl) (by kernel_rfl) (by kernel_rfl)
  have tO := asTypeOfL
  have mA := asMethodAssignable
  have a25 := asAssignable
  have v25 := asValueOfL
  have f6 := asValueOfP
  have f7 := asTypeP
  have mK := asMethodKind
  have mE := asMethodElem
  have mI := asMethodImplements
  have k27 := asKindP
  have k25 := asKindL
  have e27 := asElemP
  have i25 := asImplements
  obtain ⟨P, hP⟩ : ∃ P : Obj, .cells #[.pointer (some ⟨k, 0, none⟩)] 69 = P := ⟨_, rfl⟩
  have hklt : k < w.heap.size := (Array.getElem?_eq_some_iff.1 hk).1
  let B := fun (z : World) => (.cells #[.pointer (some ⟨9, 69, none⟩), .pointer (some ⟨z.heap.size, 0, none⟩), .int .u64 150] 107 : Obj)
  have n8 := asIsNilP ⟨w.heap.size, 0, none⟩ ⟨k, 0, none⟩ ((w.alloc (.cells #[.pointer (some ⟨k, 0, none⟩)] 69)).alloc (.cells #[.pointer (some ⟨9, 69, none⟩), .pointer (some ⟨w.heap.size, 0, none⟩), .int .u64 150] 107)) (by simp)
  have hg2 : ((w.alloc (.cells #[.pointer (some ⟨k, 0, none⟩)] 69)).alloc (.cells #[.pointer (some ⟨9, 69, none⟩), .pointer (some ⟨w.heap.size, 0, none⟩), .int .u64 150] 107)).cell? ⟨1, 0, none⟩ = some (.iface 153 (.agg #[.pointer (some ⟨9, 63, none⟩)])) := by
    rw [World.cell?_alloc_lt _ _ ⟨1, 0, none⟩ (by simp; omega), World.cell?_alloc_lt _ _ ⟨1, 0, none⟩ (by show 1 < _; omega)]; exact hg
  have el := asElemV ⟨w.heap.size, 0, none⟩ ⟨k, 0, none⟩ (((w.alloc (.cells #[.pointer (some ⟨k, 0, none⟩)] 69)).alloc (.cells #[.pointer (some ⟨9, 69, none⟩), .pointer (some ⟨w.heap.size, 0, none⟩), .int .u64 150] 107)).alloc (.cells #[.pointer (some ⟨9, 69, none⟩), .pointer (some ⟨w.heap.size, 0, none⟩), .int .u64 150] 107)) (by rw [World.cell?_alloc_lt _ _ ⟨w.heap.size, 0, none⟩ (by simp; omega)]; simp)
  have st := asSet k (w.heap.size + 1 + 1 + 1) (.int .i64 n) (.int .i64 e0) (.int .i64 0) (.int .i64 0) (by simp [Value.oneCell']) ((((w.alloc (.cells #[.pointer (some ⟨k, 0, none⟩)] 69)).alloc (.cells #[.pointer (some ⟨9, 69, none⟩), .pointer (some ⟨w.heap.size, 0, none⟩), .int .u64 150] 107)).alloc (.cells #[.pointer (some ⟨9, 69, none⟩), .pointer (some ⟨w.heap.size, 0, none⟩), .int .u64 150] 107)).alloc (.cells #[.int .i64 n, .int .i64 e0] 67))
    (by rw [show w.heap.size + 1 + 1 + 1 = (((w.alloc (.cells #[.pointer (some ⟨k, 0, none⟩)] 69)).alloc (.cells #[.pointer (some ⟨9, 69, none⟩), .pointer (some ⟨w.heap.size, 0, none⟩), .int .u64 150] 107)).alloc (.cells #[.pointer (some ⟨9, 69, none⟩), .pointer (some ⟨w.heap.size, 0, none⟩), .int .u64 150] 107)).heap.size by simp]; exact World.alloc_heap_new _ _)
    ((Below.heap_alloc _ _ _ (by simp; omega)).trans ((Below.heap_alloc _ _ _ (by simp; omega)).trans ((Below.heap_alloc _ _ _ (by simp; omega)).trans ((Below.heap_alloc _ _ _ hklt).trans hk))))
  clear hg
  unfold errL
  have Hk := Lib.hid hk
  have Hl := Lib.hid hklt
  clear hk hklt hP
  go_enter Tryz.func28, Tryz.ntmps28
  go_wp2
  refine wp_loop_rounds 1 ?_
  rw [rounds_succ]
  go_wp2
  go_ret
  have hrow := setRow_heap ((((w.alloc (.cells #[.pointer (some ⟨k, 0, none⟩)] 69)).alloc (.cells #[.pointer (some ⟨9, 69, none⟩), .pointer (some ⟨w.heap.size, 0, none⟩), .int .u64 150] 107)).alloc (.cells #[.pointer (some ⟨9, 69, none⟩), .pointer (some ⟨w.heap.size, 0, none⟩), .int .u64 150] 107)).alloc (.cells #[.int .i64 n, .int .i64 e0] 67)) k #[.int .i64 0, .int .i64 0] #[.int .i64 n, .int .i64 e0] _ _
    ((Below.heap_alloc _ _ _ (by have := Hl.out; simp; omega)).trans ((Below.heap_alloc _ _ _ (by have := Hl.out; simp; omega)).trans ((Below.heap_alloc _ _ _ (by have := Hl.out; simp; omega)).trans ((Below.heap_alloc _ _ _ Hl.out).trans Hk.out))))
  refine ⟨rfl, row_cells hrow 0, row_cells hrow 1, ?_⟩
  have hl := Hl.out
  exact (((((Below.refl _ _).alloc (by omega) _).alloc (by simp; omega) _).alloc (by simp; omega) _).alloc (by simp; omega) _).trans (setRow_below _ _ _)

theorem as_miss (k : Nat) (w : World) :
    Calls Tryz.prog 28 #[.nilIface, .iface 69 (.pointer (some ⟨k, 0, none⟩))] w fun e w' => e = .returned (.bool false) ∧ Below w.heap.size w w' := by
  go_enter Tryz.func28, Tryz.ntmps28
  go_wp2
  go_ret
  exact ⟨rfl, Below.refl _ _⟩
end Go.Proofs.YthhepmddcncjoaaGreatDoor
namespace Go.Proofs.YthhepmddcncjoaaGreatDoor
open Go.RowKit

theorem bdLt {B b : Nat} {l : List UInt8} {W : World} (h : Bd B b l W) : b < W.heap.size := by
  rcases h with ⟨_, v, hb, _⟩ | ⟨_, v, hb, _⟩ <;> exact (Array.getElem?_eq_some_iff.1 hb).1
theorem Kp.alloc {B b : Nat} {w : World} (hB : B ≤ w.heap.size) (o : Obj) : Kp B b w (w.alloc o) :=
  ⟨(Below.refl _ _).alloc hB _, fun k _ hk _ _ => (Below.heap_alloc w o k (Array.getElem?_eq_some_iff.1 hk).1).trans hk⟩
theorem Bd.alloc {B b : Nat} {l : List UInt8} {w : World} (h : Bd B b l w) (o : Obj) : Bd B b l (w.alloc o) := h.kept (World.grownBy_alloc w o none) (fun r e => by cases e)
/-- A row of cells that is no builder's. -/
def Row (n : Nat) (T : TypeId) (cs : List Value) (w : World) : Prop := w.heap[n]? = some (.cells cs.toArray T (0, 0))
theorem Row.new (w : World) (T : TypeId) (cs : List Value) : Row w.heap.size T cs (w.alloc (.cells cs.toArray T)) := World.alloc_heap_new w _
theorem Row.kp {B b n : Nat} {T : TypeId} {cs : List Value} {w w' : World} (h : Row n T cs w) (k : Kp B b w w') (hb : n ≠ b) (hT : T ≠ 5) : Row n T cs w' :=
  k.others n _ h (fun e => hb (Option.some.inj e)) (fun c fz e => by cases e; exact hT rfl)
theorem Row.below {B n : Nat} {T : TypeId} {cs : List Value} {w w' : World} (h : Row n T cs w) (k : Below B w w') (hn : n < B) : Row n T cs w' := (k.block n hn).trans h
theorem Row.cells {n : Nat} {T : TypeId} {cs : List Value} {w : World} (h : Row n T cs w) : CellsAt w ⟨n, 0, none⟩ 0 cs := by
  intro j c hj
  have hadd : (⟨n, 0, none⟩ : Addr).add (0 + j) = ⟨n, j, none⟩ := by unfold Addr.add; split <;> simp_all
  rw [hadd]
  unfold World.cell?
  simp only [show w.heap[n]? = _ from h]
  simpa using hj
theorem Row.at {n : Nat} {T : TypeId} {cs : List Value} {w : World} (h : Row n T cs w) (j : Nat) (c : Value) (hj : cs[j]? = some c) : w.cell? ⟨n, j, none⟩ = some c := by
  have := h.cells j c hj
  have hadd : (⟨n, 0, none⟩ : Addr).add (0 + j) = ⟨n, j, none⟩ := by unfold Addr.add; split <;> simp_all
  rwa [hadd] at this

theorem Bd.past {B b : Nat} {l : List UInt8} {W W' : World} (h : Bd B b l W) (k : Below W.heap.size W W') : Bd B b l W' :=
  h.kept (row := none) ⟨k.os, k.tape, k.output, k.size, fun i hi _ => k.block i hi⟩ (fun r e => by cases e)
theorem Kp.past {B b : Nat} {W W' : World} (hB : B ≤ W.heap.size) (k : Below W.heap.size W W') : Kp B b W W' :=
  ⟨k.mono hB, fun i _ hi _ _ => (k.block i (Array.getElem?_eq_some_iff.1 hi).1).trans hi⟩
theorem bs_size (l : List UInt8) : (⟨l.toArray⟩ : ByteArray).size = l.length := by simp [ByteArray.size]

/-- What a writer does: it appends the bytes x to the builder in block b. -/
def Wrote (B b : Nat) (l x : List UInt8) (w : World) (e : Ending) (w' : World) : Prop := e = .returned (.tuple #[]) ∧ Bd B b (l ++ x) w' ∧ Kp B b w w'
end Go.Proofs.YthhepmddcncjoaaGreatDoor

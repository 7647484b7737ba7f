/- soritesref03.ShowRule, showDecl, Show. soritesref03.Show. -/
import Derived.Test.YthjfkngfgomkbaaGreatDoorTrshow2
import Derived.Test.YthjfkngfgomkbaaGreatDoorTwshow
namespace Go.Proofs.YthjfkngfgomkbaaGreatDoor
open Go.RowKit

theorem shV_t (x : List UInt8) : shV true x = .tuple #[.string ⟨x.toArray⟩, .int .i64 0] := rfl
theorem shV_f (x : List UInt8) : shV false x = .tuple #[.string ⟨#[]⟩, .int .i64 30] := rfl
theorem ap4 (x y z u : List UInt8) : Value.string ((⟨x.toArray⟩ : ByteArray) ++ ⟨y.toArray⟩ ++ ⟨z.toArray⟩ ++ ⟨u.toArray⟩) = .string ⟨(x ++ y ++ z ++ u).toArray⟩ := by
  simp only [ByteArray.mk_append_mk]
theorem ap5 (x y z u v : List UInt8) : Value.string ((⟨x.toArray⟩ : ByteArray) ++ ⟨y.toArray⟩ ++ ⟨z.toArray⟩ ++ ⟨u.toArray⟩ ++ ⟨v.toArray⟩) = .string ⟨(x ++ y ++ z ++ u ++ v).toArray⟩ := by
  simp only [ByteArray.mk_append_mk]
theorem ap8 (x y z u v a b c : List UInt8) : Value.string ((⟨x.toArray⟩ : ByteArray) ++ ⟨y.toArray⟩ ++ ⟨z.toArray⟩ ++ ⟨u.toArray⟩ ++ ⟨v.toArray⟩ ++ ⟨a.toArray⟩ ++ ⟨b.toArray⟩ ++ ⟨c.toArray⟩) = .string ⟨(x ++ y ++ z ++ u ++ v ++ a ++ b ++ c).toArray⟩ := by
  simp only [ByteArray.mk_append_mk]
/-- The text of a rule's first k parts, with what stands ahead of them. -/
def bodyT (l : List Lt) (k : Nat) : List UInt8 := if k = 0 then [] else [32, 58, 45, 32] ++ joinL [44, 32] ((l.take k).map showL)
theorem bodyT_le (l : List Lt) (k : Nat) (hk : k ≤ l.length) : (bodyT l k).length ≤ (bodyT l l.length).length := by
  unfold bodyT
  by_cases h : k = 0
  · simp [h]
  · rw [if_neg h, if_neg (by omega), List.take_length]
    have := joinL_upto (sep := [44, 32]) showL l k
    simp only [List.length_append, List.length_cons, List.length_nil]
    omega
theorem bodyT_step {l : List Lt} {k : Nat} {x : Lt} (h : l[k]? = some x) : bodyT l (k + 1) = (if k = 0 then [32, 58, 45, 32] else bodyT l k ++ [44, 32]) ++ showL x := by
  unfold bodyT
  rw [if_neg (by omega), joinL_take (sep := [44, 32]) showL h]
  by_cases h0 : k = 0
  · simp [h0]
  · simp [h0]
theorem showR_body (r : Ru) : showR r = showA r.head ++ bodyT r.body r.body.length ++ [46] := by
  unfold showR bodyT
  by_cases h : r.body = []
  · simp [h]
  · have : ¬ r.body.length = 0 := by intro e; exact h (List.length_eq_zero_iff.1 e)
    rw [if_neg h, if_neg this, List.take_length]

set_option maxRecDepth 100000 in
set_option maxHeartbeats 4000000 in
theorem rshowRule_c (t : Ru) (w : World) (cs : List Value) (hk : R1k t) (hl : rightR t = true → (showR t).length ≤ 10000000) (hc : RuC w w.heap.size t cs) :
    Calls Tryz.prog 18 #[.agg cs.toArray] w fun e w' => e = .returned (shV (rightR t) (showR t)) ∧ Below w.heap.size w w' := by
  have HC0 := fun (W : World) (hb : Below w.heap.size w W) => rrightRule_c t W cs ((hc.below hb).more hb.size)
  obtain ⟨o0, k0, o1, k1, rfl, _, H1, H2⟩ := hc.look
  have HA := fun (hr : rightR t = true) (W : World) (hb : Below w.heap.size w W) => rshowAtom_c t.head W _ (rightR_parts hr).1 hk.1 (by have := hl hr; rw [showR_body, List.length_append, List.length_append] at this; omega) ((H1.below hb).more hb.size)
  obtain ⟨o2, cap2, e2, hc2, hm2, SL⟩ := SlOf.open H2
  cases e2
  have HC := Lib.hid HC0
  have HA := Lib.hid HA
  have HK := Lib.hid hk.2
  have HL := Lib.hid hl
  clear hc H1 H2 HC0 hk hl
  have HB0 : Hid (∀ (x : Obj), Below w.heap.size w (w.alloc x)) := Lib.hid fun x => (Below.refl _ _).alloc (Nat.le_refl _) _
  go_enter Tryz.func18, Tryz.ntmps18
  go_wp2_with fail
  refine (HC.out _ (HB0.out _)).mono ?_
  rintro e w1 ⟨rfl, b1⟩
  have K1 := Lib.hid (b1.mono (show w.heap.size + 1 ≤ _ by simp))
  have B1 := (HB0.out _).trans (K1.out.mono (by omega))
  obtain ⟨hc1, hf1⟩ := boxq w.heap.size b1 (by simp)
  have hz1 : w.heap.size < w1.heap.size := by have := b1.size; simp at this; omega
  clear b1
  cases hr : rightR t with
  | false =>
    have Hr := Lib.hid hr
    clear hr
    go_wp2
    go_ret2
    exact ⟨by rw [Hr.out]; rfl, B1⟩
  | true =>
  have HR := Lib.hid (rightR_parts hr).2
  have HA2 := Lib.hid (HA.out hr)
  have HL2 := Lib.hid (HL.out hr)
  have Hr := Lib.hid hr
  clear hr
  go_wp2_with fail
  refine (HA2.out _ B1).mono ?_
  rintro e w2 ⟨rfl, b2⟩
  have K2 := Lib.hid (K1.out.trans (b2.mono (by omega)))
  clear hc1 hf1 B1 b2
  have HT : Hid (showR t = showA t.head ++ bodyT t.body t.body.length ++ [46]) := Lib.hid (showR_body t)
  obtain ⟨H, hH⟩ : ∃ H, showA t.head = H := ⟨_, rfl⟩
  rw [hH] at HT ⊢
  clear hH
  go_wp2
  go_loopw [5, 6] (fun tv i wr => ∃ (k : Nat) (acc : List UInt8), k ≤ t.body.length ∧ i = .int .i64 k ∧ tv = .string ⟨acc.toArray⟩ ∧ acc = H ++ bodyT t.body k ∧ Below (w.heap.size + 1) (w.alloc (.cells #[.string t.head.rel, .slice o0 t.head.l.length k0, .slice o1 t.body.length k1, .int .i64 t.line] 45)) wr) (fun _ i _ => t.body.length - (intOf i).toNat)
  case atStart => exact ⟨0, H, Nat.zero_le _, rfl, rfl, by simp [bodyT], K2.out⟩
  case round =>
    obtain ⟨k, acc, hk, rfl, rfl, hacc, hB2⟩ := hrel
    have hB : Below w.heap.size w wr := (HB0.out _).trans (hB2.mono (by omega))
    have Hacc := Lib.hid hacc
    clear hacc
    have hBs := hB2.size
    simp only [World.size_alloc] at hBs
    have hz0 : w.heap.size < wr.heap.size := by omega
    have x0 : wr.cell? ⟨w.heap.size, 2, none⟩ = some (.slice o1 t.body.length k1) := (hB2.cell (p := ⟨w.heap.size, 2, none⟩) (by show w.heap.size < _; omega)).trans (by go_simp)
    have hal1 : acc.length + 1 ≤ 10000000 := by
      have h1 := HL2.out
      have h2 := bodyT_le t.body k hk
      have h3 := congrArg List.length Hacc.out
      rw [HT.out] at h1
      simp only [List.length_append, List.length_cons, List.length_nil] at h1 h3
      omega
    by_cases hlt : k < t.body.length
    · have hlt' : (k : Int) < (t.body.length : Int) := by omega
      obtain ⟨xe, ht⟩ : ∃ xe, t.body[k]? = some xe := ⟨t.body[k], List.getElem?_eq_getElem hlt⟩
      obtain ⟨b, p3, q3, p4, q4, p5, q5, rfl, ha, Hc, c0, c1, c2, c3, c4, c5, c6, c7, c8, c9, c10⟩ := lt_at SL hB ht
      have hal : (b.add (k * 11)).block < wr.heap.size := by rw [addBlock]; omega
      have Hst := Lib.hid (bodyT_step ht)
      have Hm := Lib.hid (List.mem_of_getElem? ht)
      clear ht
      obtain ⟨T, hT⟩ : ∃ T, showL xe = T := ⟨_, rfl⟩
      have hlT : T.length ≤ 10000000 ∧ acc.length + T.length + (if k = 0 then 4 else 2) ≤ 10000000 := by
        have h1 := HL2.out
        have h2 := bodyT_le t.body (k + 1) hlt
        have h3 := congrArg List.length Hacc.out
        rw [HT.out] at h1
        rw [Hst.out, hT] at h2
        by_cases h0 : k = 0
        · subst h0
          simp only [if_true, bodyT, List.length_append, List.length_cons, List.length_nil] at h1 h2 h3 ⊢
          omega
        · simp only [if_neg h0, List.length_append, List.length_cons, List.length_nil] at h1 h2 h3 ⊢
          omega
      have HI := Lib.hid (fun (W : World) (hb : Below wr.heap.size wr W) => rshowLit_c xe W _ (HR.out xe Hm.out) (HK.out xe Hm.out) (by rw [hT]; exact hlT.1) ((Hc.out.below hb).more hb.size))
      rw [hT] at HI
      by_cases h0 : k = 0
      · have hl2 := hlT.2
        rw [if_pos h0] at hl2
        have g1 : ¬ 9223372036854775807 < acc.length + 4 := by omega
        have g2 : ¬ 9223372036854775807 < acc.length + 4 + T.length := by omega
        have Hst2 : Hid (H ++ bodyT t.body (k + 1) = H ++ bodyT t.body k ++ [32, 58, 45, 32] ++ T) := Lib.hid (by rw [Hst.out, if_pos h0, hT, h0]; simp [bodyT])
        have hb0 : ((k : Int) == 0) = true := by simp; omega
        clear hT hlT hl2 Hst h0
        go_wp2_with fail
        refine (HI.out _ (Below.refl _ _)).mono ?_
        rintro e w1 ⟨rfl, b1⟩
        have hB3 := hB2.trans (b1.mono (by omega))
        go_wp2
        go_roundw
        case rel =>
          refine ⟨k + 1, acc ++ [32, 58, 45, 32] ++ T, hlt, by go_num, ?_, ?_, hB3⟩
          · exact ap3 acc [32, 58, 45, 32] T
          · rw [Hst2.out, Hacc.out]
        case measure => simp [intOf]; omega
      · have hl2 := hlT.2
        rw [if_neg h0] at hl2
        have g1 : ¬ 9223372036854775807 < acc.length + 2 := by omega
        have g2 : ¬ 9223372036854775807 < acc.length + 2 + T.length := by omega
        have Hst2 : Hid (H ++ bodyT t.body (k + 1) = H ++ bodyT t.body k ++ [44, 32] ++ T) := Lib.hid (by rw [Hst.out, if_neg h0, hT]; simp only [List.append_assoc])
        have hb0 : ((k : Int) == 0) = false := by simp; omega
        clear hT hlT hl2 Hst h0
        go_wp2_with fail
        refine (HI.out _ (Below.refl _ _)).mono ?_
        rintro e w1 ⟨rfl, b1⟩
        have hB3 := hB2.trans (b1.mono (by omega))
        go_wp2
        go_roundw
        case rel =>
          refine ⟨k + 1, acc ++ [44, 32] ++ T, hlt, by go_num, ?_, ?_, hB3⟩
          · exact ap3 acc [44, 32] T
          · rw [Hst2.out, Hacc.out]
        case measure => simp [intOf]; omega
    · have hlt' : ¬ (k : Int) < (t.body.length : Int) := by omega
      have g3 : ¬ 9223372036854775807 < acc.length + 1 := by omega
      have hke : k = t.body.length := by omega
      have He : Hid (acc ++ [46] = showR t) := Lib.hid (by rw [HT.out, Hacc.out, hke])
      clear hke
      go_wp2
      go_ret2
      refine ⟨?_, hB⟩
      rw [Hr.out, shV_t, ← He.out]
      exact congrArg (fun s => Ending.returned (.tuple #[s, .int .i64 0])) (ap2 acc [46])

set_option maxRecDepth 100000 in
set_option maxHeartbeats 4000000 in
theorem rshowDecl_c (t : De) (w : World) (cs : List Value) (hr : rightD t = true) (hc : DeC w w.heap.size t cs) :
    Calls Tryz.prog 32 #[.agg cs.toArray] w fun e w' => e = .returned (.string ⟨(showD t).toArray⟩) ∧ Below w.heap.size w w' := by
  have HLEN := Lib.hid (decl_len hr)
  obtain ⟨hr1, _, hr3, hr4, hr5, hr6⟩ := rightD_parts hr
  obtain ⟨s, names, types, inn, out, line⟩ := t
  obtain ⟨sl, rfl⟩ : ∃ l : List UInt8, s = ⟨l.toArray⟩ := ⟨s.data.toList, (eta' s).symm⟩
  simp only at hr1 hr3 hr4 hr5 hr6
  have hsl : sl.length ≤ 40 := by have := name_len hr1; simpa using this
  obtain ⟨o0, k0, o1, k1, rfl, hz, _, H1, H2⟩ := hc.look
  simp only at hz H1 H2 ⊢
  obtain ⟨o2, cap2, e2, hc2, hm2, SL⟩ := SlOf.open H1
  cases e2
  obtain ⟨o2, cap2, e2, hc3, hm3, SL2⟩ := SlOf.open H2
  cases e2
  clear hc H1 H2
  have HN5 := Lib.hid hr5
  have HN6 := Lib.hid hr6
  have HD : Hid (showD ⟨⟨sl.toArray⟩, names, types, inn, out, line⟩ = [46, 100, 101, 99, 108, 32] ++ sl ++ [40] ++ joinL [44, 32] ((names.zip types).map colL) ++ [41, 10] ++ (if inn = true then [46, 105, 110, 112, 117, 116, 32] ++ sl ++ [10] else []) ++ (if out = true then [46, 111, 117, 116, 112, 117, 116, 32] ++ sl ++ [10] else [])) := Lib.hid rfl
  have hJ : (joinL [44, 32] ((names.zip types).map colL)).length ≤ 1000 := by
    have := HLEN.out
    rw [HD.out] at this
    simp only [List.length_append, List.length_cons, List.length_nil] at this
    omega
  have HJ := Lib.hid hJ
  have HL2 := Lib.hid hr4
  have HB0 : Hid (∀ (x : Obj), Below w.heap.size w (w.alloc x)) := Lib.hid fun x => (Below.refl _ _).alloc (Nat.le_refl _) _
  clear hr hr1 hr3 hr4 hr5 hr6 hJ
  have g1 : ¬ 9223372036854775807 < 6 + sl.length := by omega
  have g2 : ¬ 9223372036854775807 < 6 + sl.length + 1 := by omega
  go_enter Tryz.func32, Tryz.ntmps32
  go_wp2
  go_loopw [3, 4] (fun tv i wr => ∃ (k : Nat) (acc : List UInt8), k ≤ names.length ∧ i = .int .i64 k ∧ tv = .string ⟨acc.toArray⟩ ∧ acc = [46, 100, 101, 99, 108, 32] ++ sl ++ [40] ++ joinL [44, 32] (((names.zip types).take k).map colL) ∧ Below (w.heap.size + 1) (w.alloc (.cells #[.string ⟨sl.toArray⟩, .slice o0 names.length k0, .slice o1 types.length k1, .bool inn, .bool out, .int .i64 line] 69)) wr) (fun _ i _ => names.length - (intOf i).toNat)
  case atStart => exact ⟨0, [46, 100, 101, 99, 108, 32] ++ sl ++ [40], Nat.zero_le _, rfl, ap3 [46, 100, 101, 99, 108, 32] sl [40], by simp [joinL], Below.refl _ _⟩
  case round =>
    obtain ⟨k, acc, hk, rfl, rfl, hacc, hB2⟩ := hrel
    have hB : Below w.heap.size w wr := (HB0.out _).trans (hB2.mono (by omega))
    have Hacc := Lib.hid hacc
    clear hacc g1 g2
    have hBs := hB2.size
    simp only [World.size_alloc] at hBs
    have hz0 : w.heap.size < wr.heap.size := by omega
    have x0 : wr.cell? ⟨w.heap.size, 0, none⟩ = some (.string ⟨sl.toArray⟩) := (hB2.cell (p := ⟨w.heap.size, 0, none⟩) (by show w.heap.size < _; omega)).trans (by go_simp)
    have x1 : wr.cell? ⟨w.heap.size, 1, none⟩ = some (.slice o0 names.length k0) := (hB2.cell (p := ⟨w.heap.size, 1, none⟩) (by show w.heap.size < _; omega)).trans (by go_simp)
    have x2 : wr.cell? ⟨w.heap.size, 2, none⟩ = some (.slice o1 types.length k1) := (hB2.cell (p := ⟨w.heap.size, 2, none⟩) (by show w.heap.size < _; omega)).trans (by go_simp)
    have x3 : wr.cell? ⟨w.heap.size, 3, none⟩ = some (.bool inn) := (hB2.cell (p := ⟨w.heap.size, 3, none⟩) (by show w.heap.size < _; omega)).trans (by go_simp)
    have x4 : wr.cell? ⟨w.heap.size, 4, none⟩ = some (.bool out) := (hB2.cell (p := ⟨w.heap.size, 4, none⟩) (by show w.heap.size < _; omega)).trans (by go_simp)
    have hal1 : acc.length ≤ 1100 := by
      have h1 := HJ.out
      have h2 := joinL_upto (sep := [44, 32]) colL (names.zip types) k
      have h3 := congrArg List.length Hacc.out
      simp only [List.length_append, List.length_cons, List.length_nil] at h3
      omega
    by_cases hlt : k < names.length
    · have hlt' : (k : Int) < (names.length : Int) := by omega
      have hlt2 : k < types.length := by have := HL2.out; omega
      have hlt3 : (k : Int) < (types.length : Int) := by omega
      obtain ⟨xe, ht⟩ : ∃ xe, names[k]? = some xe := ⟨names[k], List.getElem?_eq_getElem hlt⟩
      obtain ⟨ye, hv⟩ : ∃ ye, types[k]? = some ye := ⟨types[k], List.getElem?_eq_getElem hlt2⟩
      obtain ⟨a, rfl, ha, hza, c0⟩ := str_at SL hB ht
      obtain ⟨b, rfl, hb, _, d0⟩ := int_at SL2 hB hv
      have hal : (a.add k).block < wr.heap.size := by rw [addBlock]; omega
      have hbl : (b.add k).block < wr.heap.size := by rw [addBlock]; omega
      have Hst := Lib.hid (joinL_take (sep := [44, 32]) colL (show (names.zip types)[k]? = some (xe, ye) by simp [List.getElem?_zip_eq_some, ht, hv]))
      have hnl : xe.data.toList.length ≤ 40 := name_len (HN5.out xe (List.mem_of_getElem? ht))
      have hy := HN6.out ye (List.mem_of_getElem? hv)
      clear ht hv
      obtain ⟨xl, rfl⟩ : ∃ l : List UInt8, xe = ⟨l.toArray⟩ := ⟨xe.data.toList, (eta' xe).symm⟩
      have hxl : xl.length ≤ 40 := by simpa using hnl
      clear hnl
      by_cases h0 : (0 : Int) < (k : Int)
      · have hk0 : ¬ k = 0 := by omega
        have g1 : ¬ 9223372036854775807 < acc.length + 2 := by omega
        have g2 : ¬ 9223372036854775807 < acc.length + 2 + xl.length := by omega
        have g3 : ¬ 9223372036854775807 < acc.length + 2 + xl.length + 8 := by omega
        rcases hy with rfl | rfl
        · have Hst2 : Hid (joinL [44, 32] (((names.zip types).take (k + 1)).map colL) = joinL [44, 32] (((names.zip types).take k).map colL) ++ [44, 32] ++ xl ++ [58, 32, 110, 117, 109, 98, 101, 114]) := Lib.hid (by rw [Hst.out, if_neg hk0]; simp [colL, typeL])
          clear hk0 Hst
          go_wp2
          go_roundw
          case rel =>
            refine ⟨k + 1, acc ++ [44, 32] ++ xl ++ [58, 32, 110, 117, 109, 98, 101, 114], hlt, by go_num, ?_, ?_, hB2⟩
            · exact ap4 acc [44, 32] xl [58, 32, 110, 117, 109, 98, 101, 114]
            · rw [Hst2.out, Hacc.out]
              simp only [List.append_assoc]
          case measure => simp [intOf]; omega
        · have Hst2 : Hid (joinL [44, 32] (((names.zip types).take (k + 1)).map colL) = joinL [44, 32] (((names.zip types).take k).map colL) ++ [44, 32] ++ xl ++ [58, 32, 115, 121, 109, 98, 111, 108]) := Lib.hid (by rw [Hst.out, if_neg hk0]; simp [colL, typeL])
          clear hk0 Hst
          go_wp2
          go_roundw
          case rel =>
            refine ⟨k + 1, acc ++ [44, 32] ++ xl ++ [58, 32, 115, 121, 109, 98, 111, 108], hlt, by go_num, ?_, ?_, hB2⟩
            · exact ap4 acc [44, 32] xl [58, 32, 115, 121, 109, 98, 111, 108]
            · rw [Hst2.out, Hacc.out]
              simp only [List.append_assoc]
          case measure => simp [intOf]; omega
      · have hk0 : k = 0 := by omega
        have g2 : ¬ 9223372036854775807 < acc.length + xl.length := by omega
        have g3 : ¬ 9223372036854775807 < acc.length + xl.length + 8 := by omega
        rcases hy with rfl | rfl
        · have Hst2 : Hid (joinL [44, 32] (((names.zip types).take (k + 1)).map colL) = joinL [44, 32] (((names.zip types).take k).map colL) ++ xl ++ [58, 32, 110, 117, 109, 98, 101, 114]) := Lib.hid (by rw [Hst.out, if_pos hk0, hk0]; simp [colL, typeL, joinL])
          clear hk0 Hst
          go_wp2
          go_roundw
          case rel =>
            refine ⟨k + 1, acc ++ xl ++ [58, 32, 110, 117, 109, 98, 101, 114], hlt, by go_num, ?_, ?_, hB2⟩
            · exact ap3 acc xl [58, 32, 110, 117, 109, 98, 101, 114]
            · rw [Hst2.out, Hacc.out]
              simp only [List.append_assoc]
          case measure => simp [intOf]; omega
        · have Hst2 : Hid (joinL [44, 32] (((names.zip types).take (k + 1)).map colL) = joinL [44, 32] (((names.zip types).take k).map colL) ++ xl ++ [58, 32, 115, 121, 109, 98, 111, 108]) := Lib.hid (by rw [Hst.out, if_pos hk0, hk0]; simp [colL, typeL, joinL])
          clear hk0 Hst
          go_wp2
          go_roundw
          case rel =>
            refine ⟨k + 1, acc ++ xl ++ [58, 32, 115, 121, 109, 98, 111, 108], hlt, by go_num, ?_, ?_, hB2⟩
            · exact ap3 acc xl [58, 32, 115, 121, 109, 98, 111, 108]
            · rw [Hst2.out, Hacc.out]
              simp only [List.append_assoc]
          case measure => simp [intOf]; omega
    · have hlt' : ¬ (k : Int) < (names.length : Int) := by omega
      have He : Hid ([46, 100, 101, 99, 108, 32] ++ sl ++ [40] ++ joinL [44, 32] ((names.zip types).map colL) = acc) := Lib.hid (by rw [Hacc.out, List.take_of_length_le (by rw [List.length_zip]; have := HL2.out; omega)])
      rw [He.out] at HD
      clear He Hacc
      have g1 : ¬ 9223372036854775807 < acc.length + 2 := by omega
      cases inn <;> cases out
      · have Hz : Hid (showD ⟨⟨sl.toArray⟩, names, types, false, false, line⟩ = acc ++ [41, 10]) := Lib.hid (by rw [HD.out]; simp)
        go_wp2
        go_ret
        exact ⟨by rw [Hz.out]; exact congrArg Ending.returned (ap2 acc [41, 10]), hB⟩
      · have Hz : Hid (showD ⟨⟨sl.toArray⟩, names, types, false, true, line⟩ = acc ++ [41, 10] ++ [46, 111, 117, 116, 112, 117, 116, 32] ++ sl ++ [10]) := Lib.hid (by rw [HD.out]; simp)
        have g2 : ¬ 9223372036854775807 < acc.length + 2 + 8 := by omega
        have g3 : ¬ 9223372036854775807 < acc.length + 2 + 8 + sl.length := by omega
        have g4 : ¬ 9223372036854775807 < acc.length + 2 + 8 + sl.length + 1 := by omega
        have g5 : ¬ 9223372036854775807 < acc.length + 10 := by omega
        have g6 : ¬ 9223372036854775807 < acc.length + 10 + sl.length := by omega
        have g7 : ¬ 9223372036854775807 < acc.length + 10 + sl.length + 1 := by omega
        go_wp2
        go_ret
        exact ⟨by rw [Hz.out]; exact congrArg Ending.returned (ap5 acc [41, 10] [46, 111, 117, 116, 112, 117, 116, 32] sl [10]), hB⟩
      · have Hz : Hid (showD ⟨⟨sl.toArray⟩, names, types, true, false, line⟩ = acc ++ [41, 10] ++ [46, 105, 110, 112, 117, 116, 32] ++ sl ++ [10]) := Lib.hid (by rw [HD.out]; simp)
        have g2 : ¬ 9223372036854775807 < acc.length + 2 + 7 := by omega
        have g3 : ¬ 9223372036854775807 < acc.length + 2 + 7 + sl.length := by omega
        have g4 : ¬ 9223372036854775807 < acc.length + 2 + 7 + sl.length + 1 := by omega
        have g5 : ¬ 9223372036854775807 < acc.length + 9 := by omega
        have g6 : ¬ 9223372036854775807 < acc.length + 9 + sl.length := by omega
        have g7 : ¬ 9223372036854775807 < acc.length + 9 + sl.length + 1 := by omega
        go_wp2
        go_ret
        exact ⟨by rw [Hz.out]; exact congrArg Ending.returned (ap5 acc [41, 10] [46, 105, 110, 112, 117, 116, 32] sl [10]), hB⟩
      · have Hz : Hid (showD ⟨⟨sl.toArray⟩, names, types, true, true, line⟩ = acc ++ [41, 10] ++ [46, 105, 110, 112, 117, 116, 32] ++ sl ++ [10] ++ [46, 111, 117, 116, 112, 117, 116, 32] ++ sl ++ [10]) := Lib.hid (by rw [HD.out]; simp)
        have g2 : ¬ 9223372036854775807 < acc.length + 2 + 7 := by omega
        have g3 : ¬ 9223372036854775807 < acc.length + 2 + 7 + sl.length := by omega
        have g4 : ¬ 9223372036854775807 < acc.length + 2 + 7 + sl.length + 1 := by omega
        have g5 : ¬ 9223372036854775807 < acc.length + 2 + 7 + sl.length + 1 + 8 := by omega
        have g6 : ¬ 9223372036854775807 < acc.length + 2 + 7 + sl.length + 1 + 8 + sl.length := by omega
        have g7 : ¬ 9223372036854775807 < acc.length + 2 + 7 + sl.length + 1 + 8 + sl.length + 1 := by omega
        go_wp2
        go_ret
        exact ⟨by rw [Hz.out]; exact congrArg Ending.returned (ap8 acc [41, 10] [46, 105, 110, 112, 117, 116, 32] sl [10] [46, 111, 117, 116, 112, 117, 116, 32] sl [10]), hB⟩
end Go.Proofs.YthjfkngfgomkbaaGreatDoor
namespace Go.Proofs.YthjfkngfgomkbaaGreatDoor
open Go.RowKit

theorem flat_takeR {α : Type} {f : α → List UInt8} {l : List α} {k : Nat} {x : α} (h : l[k]? = some x) : (l.take (k + 1)).flatMap f = (l.take k).flatMap f ++ f x := by
  rw [List.take_add_one, h]
  simp
theorem flat_leR {α : Type} (f : α → List UInt8) (l : List α) (k : Nat) : ((l.take k).flatMap f).length ≤ (l.flatMap f).length := by
  have : l.flatMap f = (l.take k).flatMap f ++ (l.drop k).flatMap f := by rw [← List.flatMap_append, List.take_append_drop]
  rw [this, List.length_append]
  omega
def ruleTx (r : Ru) : List UInt8 := showR r ++ [10]
theorem showP_two (p : Pg) : showP p = p.decls.flatMap showD ++ p.rules.flatMap ruleTx := rfl

set_option maxRecDepth 100000 in
set_option maxHeartbeats 4000000 in
theorem rshowP_c (t : Pg) (w : World) (cs : List Value) (hk : ∀ r ∈ t.rules, R1k r) (hl : rightP t = true → (showP t).length ≤ 9000000) (hc : PgC w w.heap.size t cs) :
    Calls Tryz.prog 15 #[.agg cs.toArray] w fun e w' => e = .returned (shV (rightP t) (showP t)) ∧ Below w.heap.size w w' := by
  have HC0 := fun (W : World) (hb : Below w.heap.size w W) => rright_c t W cs ((hc.below hb).more hb.size)
  obtain ⟨o0, k0, o1, k1, rfl, H1, H2⟩ := hc.look
  obtain ⟨o2, cap2, e2, hc2, hm2, SL⟩ := SlOf.open H1
  cases e2
  obtain ⟨o2, cap2, e2, hc3, hm3, SL2⟩ := SlOf.open H2
  cases e2
  have HC := Lib.hid HC0
  have HK := Lib.hid hk
  have HL := Lib.hid hl
  clear hc H1 H2 HC0 hk hl
  have HB0 : Hid (∀ (x : Obj), Below w.heap.size w (w.alloc x)) := Lib.hid fun x => (Below.refl _ _).alloc (Nat.le_refl _) _
  go_enter Tryz.func15, Tryz.ntmps15
  go_wp2_with fail
  refine (HC.out _ (HB0.out _)).mono ?_
  rintro e w1 ⟨rfl, b1⟩
  have K1 := Lib.hid (b1.mono (show w.heap.size + 1 ≤ _ by simp))
  have B1 := (HB0.out _).trans (K1.out.mono (by omega))
  clear b1
  cases hr : rightP t with
  | false =>
    have Hr := Lib.hid hr
    clear hr
    go_wp2
    go_ret2
    exact ⟨by rw [Hr.out]; rfl, B1⟩
  | true =>
  obtain ⟨_, _, hd, hru⟩ := rightP_parts hr
  have HD := Lib.hid hd
  have HR := Lib.hid hru
  have HLEN := Lib.hid (HL.out hr)
  have HT := Lib.hid (showP_two t)
  have Hr := Lib.hid hr
  clear hr B1 hd hru
  go_wp2
  go_loopw [5, 6] (fun tv i wr => ∃ (k : Nat) (acc : List UInt8), k ≤ t.decls.length ∧ i = .int .i64 k ∧ tv = .string ⟨acc.toArray⟩ ∧ acc = (t.decls.take k).flatMap showD ∧ Below (w.heap.size + 1) (w.alloc (.cells #[.slice o0 t.decls.length k0, .slice o1 t.rules.length k1] 35)) wr) (fun _ i _ => t.decls.length - (intOf i).toNat)
  case atStart => exact ⟨0, [], Nat.zero_le _, rfl, rfl, rfl, K1.out⟩
  case round =>
    obtain ⟨k, acc, hk, rfl, rfl, hacc, hB2⟩ := hrel
    have hB : Below w.heap.size w wr := (HB0.out _).trans (hB2.mono (by omega))
    have Hacc := Lib.hid hacc
    clear hacc
    have hBs := hB2.size
    simp only [World.size_alloc] at hBs
    have hz0 : w.heap.size < wr.heap.size := by omega
    have x0 : wr.cell? ⟨w.heap.size, 0, none⟩ = some (.slice o0 t.decls.length k0) := (hB2.cell (p := ⟨w.heap.size, 0, none⟩) (by show w.heap.size < _; omega)).trans (by go_simp)
    have x1 : wr.cell? ⟨w.heap.size, 1, none⟩ = some (.slice o1 t.rules.length k1) := (hB2.cell (p := ⟨w.heap.size, 1, none⟩) (by show w.heap.size < _; omega)).trans (by go_simp)
    by_cases hlt : k < t.decls.length
    · have hlt' : (k : Int) < (t.decls.length : Int) := by omega
      obtain ⟨xe, ht⟩ : ∃ xe, t.decls[k]? = some xe := ⟨t.decls[k], List.getElem?_eq_getElem hlt⟩
      obtain ⟨a, p3, q3, p4, q4, rfl, ha, Hc, c0, c1, c2, c3, c4, c5⟩ := de_at SL hB ht
      have hal : (a.add (k * 6)).block < wr.heap.size := by rw [addBlock]; omega
      have Hst := Lib.hid (flat_takeR (f := showD) ht)
      have Hm := Lib.hid (List.mem_of_getElem? ht)
      clear ht
      have HI := Lib.hid (fun (W : World) (hb : Below wr.heap.size wr W) => rshowDecl_c xe W _ (HD.out xe Hm.out) ((Hc.out.below hb).more hb.size))
      obtain ⟨T, hT⟩ : ∃ T, showD xe = T := ⟨_, rfl⟩
      rw [hT] at HI Hst
      clear hT
      have g1 : ¬ 9223372036854775807 < acc.length + T.length := by
        have h1 := HLEN.out
        have h2 := flat_leR showD t.decls (k + 1)
        rw [HT.out, List.length_append] at h1
        rw [Hst.out, ← Hacc.out, List.length_append] at h2
        omega
      go_wp2_with fail
      refine (HI.out _ (Below.refl _ _)).mono ?_
      rintro e w5 ⟨rfl, b5⟩
      have hB3 := hB2.trans (b5.mono (by omega))
      go_wp2
      go_roundw
      case rel => exact ⟨k + 1, acc ++ T, hlt, by go_num, ap2 acc T, by rw [Hst.out, Hacc.out], hB3⟩
      case measure => simp [intOf]; omega
    · have hlt' : ¬ (k : Int) < (t.decls.length : Int) := by omega
      have Hall : Hid (acc = t.decls.flatMap showD) := Lib.hid (by rw [Hacc.out, List.take_of_length_le (by omega)])
      clear Hacc
      go_wp2
      go_loopw [5, 7] (fun tv i wx => ∃ (k : Nat) (acc' : List UInt8), k ≤ t.rules.length ∧ i = .int .i64 k ∧ tv = .string ⟨acc'.toArray⟩ ∧ acc' = acc ++ (t.rules.take k).flatMap ruleTx ∧ Below (w.heap.size + 1) (w.alloc (.cells #[.slice o0 t.decls.length k0, .slice o1 t.rules.length k1] 35)) wx) (fun _ i _ => t.rules.length - (intOf i).toNat)
      case atStart => exact ⟨0, acc, Nat.zero_le _, rfl, rfl, by simp, hB2⟩
      case round =>
        obtain ⟨k, acc', hk, rfl, rfl, hacc, hB2⟩ := hrel
        have hB : Below w.heap.size w wr := (HB0.out _).trans (hB2.mono (by omega))
        have Hacc := Lib.hid hacc
        clear hacc
        have hBs := hB2.size
        simp only [World.size_alloc] at hBs
        have hz0 : w.heap.size < wr.heap.size := by omega
        have x1 : wr.cell? ⟨w.heap.size, 1, none⟩ = some (.slice o1 t.rules.length k1) := (hB2.cell (p := ⟨w.heap.size, 1, none⟩) (by show w.heap.size < _; omega)).trans (by go_simp)
        by_cases hlt : k < t.rules.length
        · have hlt' : (k : Int) < (t.rules.length : Int) := by omega
          obtain ⟨xe, ht⟩ : ∃ xe, t.rules[k]? = some xe := ⟨t.rules[k], List.getElem?_eq_getElem hlt⟩
          obtain ⟨b, p3, q3, p4, q4, rfl, ha, Hc, c0, c1, c2, c3⟩ := ru_at SL2 hB ht
          have hal : (b.add (k * 4)).block < wr.heap.size := by rw [addBlock]; omega
          have Hst := Lib.hid (flat_takeR (f := ruleTx) ht)
          have Hm := Lib.hid (List.mem_of_getElem? ht)
          clear ht
          have hlen : acc'.length + (showR xe).length + 1 ≤ 9000000 := by
            have h1 := HLEN.out
            have h2 := flat_leR ruleTx t.rules (k + 1)
            have h3 := congrArg List.length Hacc.out
            rw [HT.out, List.length_append, ← Hall.out] at h1
            rw [Hst.out] at h2
            simp only [ruleTx, List.length_append, List.length_cons, List.length_nil] at h1 h2 h3
            omega
          have HI := Lib.hid (fun (W : World) (hb : Below wr.heap.size wr W) => rshowRule_c xe W _ (HK.out xe Hm.out) (fun _ => by omega) ((Hc.out.below hb).more hb.size))
          rw [HR.out xe Hm.out, shV_t] at HI
          have Hst2 : Hid ((t.rules.take (k + 1)).flatMap ruleTx = (t.rules.take k).flatMap ruleTx ++ showR xe ++ [10]) := Lib.hid (by rw [Hst.out]; simp [ruleTx])
          obtain ⟨T, hT⟩ : ∃ T, showR xe = T := ⟨_, rfl⟩
          rw [hT] at HI Hst2 hlen
          clear hT Hst
          have g1 : ¬ 9223372036854775807 < acc'.length + T.length := by omega
          have g2 : ¬ 9223372036854775807 < acc'.length + T.length + 1 := by omega
          clear hlen
          go_wp2_with fail
          refine (HI.out _ (Below.refl _ _)).mono ?_
          rintro e w5 ⟨rfl, b5⟩
          have hB3 := hB2.trans (b5.mono (by omega))
          go_wp2
          go_roundw
          case rel =>
            refine ⟨k + 1, acc' ++ T ++ [10], hlt, by go_num, ap3 acc' T [10], ?_, hB3⟩
            rw [Hst2.out, Hacc.out]
            simp only [List.append_assoc]
          case measure => simp [intOf]; omega
        · have hlt' : ¬ (k : Int) < (t.rules.length : Int) := by omega
          have He : Hid (acc' = showP t) := Lib.hid (by rw [HT.out, Hacc.out, Hall.out, List.take_of_length_le (by omega)])
          go_wp2
          go_ret2
          exact ⟨by rw [Hr.out, ← He.out]; rfl, hB⟩
end Go.Proofs.YthjfkngfgomkbaaGreatDoor

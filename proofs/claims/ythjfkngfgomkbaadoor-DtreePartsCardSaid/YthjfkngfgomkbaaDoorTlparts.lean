/- The law DtreeParts. -/
import Derived.Test.YthjfkngfgomkbaaDoorTlapart
namespace Go.Proofs.YthjfkngfgomkbaaDoor
open Go.RowKit

theorem small_decls {p : Pg} (h : smallP p = true) : smallP ⟨p.decls, []⟩ = true := by
  unfold smallP at h ⊢
  simp only [Bool.and_eq_true, decide_eq_true_eq] at h ⊢
  exact ⟨⟨⟨h.1.1.1, by simp [foldS]⟩, h.1.2⟩, by simp⟩
theorem right_decls {p : Pg} (h : rightP p = true) : rightP ⟨p.decls, []⟩ = true := by
  unfold rightP at h ⊢
  simp only [Bool.and_eq_true, decide_eq_true_eq] at h ⊢
  exact ⟨⟨⟨h.1.1.1, by simp⟩, h.1.2⟩, by simp⟩
theorem show_decls (p : Pg) : showP p = showP ⟨p.decls, []⟩ ++ rulesT p.rules := by
  rw [showP_eq, showP_eq]
  simp [rulesT]
theorem rules_take {l : List Ru} {k : Nat} {r : Ru} (h : l[k]? = some r) : rulesT (l.take (k + 1)) = rulesT (l.take k) ++ showR r ++ [10] := by
  rw [List.take_add_one, h]
  simp [rulesT]
theorem rules_le (l : List Ru) (k : Nat) : (rulesT (l.take k)).length ≤ (rulesT l).length := by
  have : rulesT l = rulesT (l.take k) ++ rulesT (l.drop k) := by rw [rulesT, rulesT, rulesT, ← List.flatMap_append, List.take_append_drop]
  rw [this, List.length_append]
  omega
theorem app3' (x y z : List UInt8) : Value.string ((⟨x.toArray⟩ : ByteArray) ++ ⟨y.toArray⟩ ++ ⟨z.toArray⟩) = .string ⟨(x ++ y ++ z).toArray⟩ := by
  rw [ByteArray.mk_append_mk, ByteArray.mk_append_mk]

set_option maxRecDepth 100000 in
set_option maxHeartbeats 4000000 in
theorem dtreeParts_c (p : Pg) (a : Addr) (w : World) (cs : List Value) (hp : PgC w w.heap.size p cs) (E : TEnv a w) :
    Calls Tryd.prog 6 #[.agg cs.toArray] w fun e w' => e = .returned (.bool true) ∧ Below w.heap.size w w' := by
  have hp64 := hp.p64
  have HP0 := fun (W : World) (hb : Below w.heap.size w W) => small_c p W cs ((hp.below hb).more hb.size)
  have HX0 := fun (hs : smallP p = true) (W : World) (hb : Below w.heap.size w W) => pshow_s p a W cs hs ((hp.below hb).more hb.size) (E.below hb)
  have HC0 := fun (W : World) (hb : Below w.heap.size w W) => right_c p a W cs ((hp.below hb).more hb.size) (E.below hb).err
  have HH := Lib.hid (fun (W : World) (hb : Below w.heap.size w W) => shown_c a W (E.below hb))
  obtain ⟨p1, q1, r1, s1, rfl, H1, H2⟩ := hp.look
  have HY := Lib.hid (fun (hs : smallP p = true) (W : World) (hb : Below w.heap.size w W) => pshow_s ⟨p.decls, []⟩ a W [.slice p1 p.decls.length q1, .slice none 0 0] (small_decls hs) ⟨_, _, rfl, SlOf.decl H1 hb hb.size, SlOf.nil⟩ (E.below hb))
  obtain ⟨o2, cap2, e2, hc2, hm2, SL⟩ := SlOf.open H2
  cases e2
  have HP := Lib.hid HP0
  have HX := Lib.hid HX0
  have HC := Lib.hid HC0
  have HE := Lib.hid E
  have H64 := Lib.hid hp64
  clear HP0 HX0 HC0 hp E hp64 H1 H2
  have HB0 : Hid (∀ (x : Obj), Below w.heap.size w (w.alloc x)) := Lib.hid fun x => (Below.refl _ _).alloc (Nat.le_refl _) _
  have K0 : Hid (Below (w.heap.size + 1) (w.alloc (.cells #[.slice p1 p.decls.length q1, .slice r1 p.rules.length s1] 25)) (w.alloc (.cells #[.slice p1 p.decls.length q1, .slice r1 p.rules.length s1] 25))) := Lib.hid (Below.refl _ _)
  go_enter Tryd.func6, Tryd.ntmps6
  go_wp2_with fail
  refine (HH.out _ (HB0.out _)).mono ?_
  rintro e w1 ⟨rfl, b1⟩
  have K1 := Lib.hid (b1.mono (show w.heap.size + 1 ≤ _ by simp))
  have B1 := (HB0.out _).trans (K1.out.mono (by omega))
  obtain ⟨hc1, hf1⟩ := boxk w.heap.size b1 (by simp)
  have hz1 : w.heap.size < w1.heap.size := by have := b1.size; simp at this; omega
  clear b1
  go_wp2_with fail
  refine (HP.out _ B1).mono ?_
  rintro e w2 ⟨rfl, b2⟩
  have K2 := Lib.hid (K1.out.trans (b2.mono (by omega)))
  have B2 := (HB0.out _).trans (K2.out.mono (by omega))
  have hz2 : w.heap.size < w2.heap.size := by have := b2.size; omega
  clear hc1 hf1 B1 b2
  have x0 : w2.cell? ⟨w.heap.size, 0, none⟩ = some (.slice p1 p.decls.length q1) := (K2.out.cell (p := ⟨w.heap.size, 0, none⟩) (by show w.heap.size < _; omega)).trans (by go_simp)
  have x1 : w2.cell? ⟨w.heap.size, 1, none⟩ = some (.slice r1 p.rules.length s1) := (K2.out.cell (p := ⟨w.heap.size, 1, none⟩) (by show w.heap.size < _; omega)).trans (by go_simp)
  cases hsp : smallP p with
  | false =>
    rw [show smallI p = 0 by unfold smallI; rw [hsp]; rfl]
    clear hsp
    go_wp2
    go_ret
    exact ⟨rfl, B2⟩
  | true =>
    rw [show smallI p = 1 by unfold smallI; rw [hsp]; rfl]
    have HSP := Lib.hid hsp
    clear hsp
    go_wp2_with fail
    refine (HX.out HSP.out _ B2).mono ?_
    rintro e w3 ⟨rfl, b3⟩
    have K3 := Lib.hid (K2.out.trans (b3.mono (by omega)))
    have B3 := (HB0.out _).trans (K3.out.mono (by omega))
    have hz3 : w.heap.size < w3.heap.size := by have := b3.size; omega
    clear x0 x1 B2 b3
    have x0 : w3.cell? ⟨w.heap.size, 0, none⟩ = some (.slice p1 p.decls.length q1) := (K3.out.cell (p := ⟨w.heap.size, 0, none⟩) (by show w.heap.size < _; omega)).trans (by go_simp)
    have x1 : w3.cell? ⟨w.heap.size, 1, none⟩ = some (.slice r1 p.rules.length s1) := (K3.out.cell (p := ⟨w.heap.size, 1, none⟩) (by show w.heap.size < _; omega)).trans (by go_simp)
    cases hr : rightP p with
    | false =>
      rw [hr] at HC
      rw [shV_f]
      clear hr
      go_wp2_with fail
      refine (HC.out _ B3).mono ?_
      rintro e w4 ⟨rfl, b4⟩
      have B4 := B3.trans (b4.mono B3.size)
      go_wp2
      go_ret
      exact ⟨rfl, B4⟩
    | true =>
      rw [shV_t]
      have HRD := Lib.hid (right_decls hr)
      have HRR := Lib.hid (rightP_parts hr).2.2.2
      have HLEN := Lib.hid (prog_len H64.out HSP.out hr)
      have HSD := Lib.hid (show_decls p)
      clear hr
      go_wp2_with fail
      refine (HY.out HSP.out _ B3).mono ?_
      rintro e w4 ⟨rfl, b4⟩
      rw [HRD.out, shV_t]
      have K4 := Lib.hid (K3.out.trans (b4.mono (by omega)))
      clear x0 x1 B3 b4
      go_wp2
      go_loopw [6, 8] (fun tv i wr => ∃ (k : Nat) (acc : List UInt8), k ≤ p.rules.length ∧ i = .int .i64 k ∧ tv = .string ⟨acc.toArray⟩ ∧ acc = showP ⟨p.decls, []⟩ ++ rulesT (p.rules.take k) ∧ Below (w.heap.size + 1) (w.alloc (.cells #[.slice p1 p.decls.length q1, .slice r1 p.rules.length s1] 25)) wr) (fun _ i _ => p.rules.length - (intOf i).toNat)
      case atStart => exact ⟨0, showP ⟨p.decls, []⟩, Nat.zero_le _, rfl, rfl, by simp [rulesT], K4.out⟩
      case round =>
        obtain ⟨k, acc, hk, rfl, rfl, hacc, hB2⟩ := hrel
        have hB : Below w.heap.size w wr := (HB0.out _).trans (hB2.mono (by omega))
        have Hacc := Lib.hid hacc
        clear hacc
        have hBs := hB2.size
        simp only [World.size_alloc] at hBs
        have hz0 : w.heap.size < wr.heap.size := by omega
        have x1 : wr.cell? ⟨w.heap.size, 1, none⟩ = some (.slice r1 p.rules.length s1) := (hB2.cell (p := ⟨w.heap.size, 1, none⟩) (by show w.heap.size < _; omega)).trans (by go_simp)
        by_cases hlt : k < p.rules.length
        · have hlt' : (k : Int) < (p.rules.length : Int) := by omega
          obtain ⟨xe, ht⟩ : ∃ xe, p.rules[k]? = some xe := ⟨p.rules[k], List.getElem?_eq_getElem hlt⟩
          obtain ⟨b, p3, q3, p4, q4, rfl, ha, Hc, c0, c1, c2, c3⟩ := ru_at SL hB ht
          have hal : (b.add (k * 4)).block < wr.heap.size := by rw [addBlock]; omega
          have Hrx := Lib.hid (HRR.out xe (List.mem_of_getElem? ht))
          have Hst := Lib.hid (rules_take ht)
          clear ht
          have hlen : acc.length + (showR xe).length + 1 ≤ 8300000 := by
            have h1 := HLEN.out
            have h2 := rules_le p.rules (k + 1)
            rw [HSD.out, List.length_append] at h1
            rw [Hst.out] at h2
            have h3 := congrArg List.length Hacc.out
            simp only [List.length_append, List.length_cons, List.length_nil] at h2 h3
            omega
          have HI := Lib.hid (fun (W : World) (hb : Below wr.heap.size wr W) => rshow_c xe a W _ ((Hc.out.below hb).more hb.size) ((HE.out.below hB).below hb) (fun _ => by omega))
          have HJ := Lib.hid (fun (W : World) (hb : Below wr.heap.size wr W) => rightRule_c xe a W _ ((Hc.out.below hb).more hb.size) ((HE.out.below hB).below hb).err)
          go_wp2_with fail
          refine (HI.out _ (Below.refl _ _)).mono ?_
          rintro e w5 ⟨rfl, b5⟩
          rw [Hrx.out, shV_t]
          have hB3 := hB2.trans (b5.mono (by omega))
          have hz5 := b5.size
          have y1 : w5.cell? ⟨w.heap.size, 1, none⟩ = some (.slice (some b) p.rules.length s1) := (b5.cell (p := ⟨w.heap.size, 1, none⟩) hz0).trans x1
          have d0 := (b5.cell hal).trans c0
          have d1 := (b5.cell (p := ⟨(b.add (k * 4)).block, (b.add (k * 4)).off + 1, none⟩) hal).trans c1
          have d2 := (b5.cell (p := ⟨(b.add (k * 4)).block, (b.add (k * 4)).off + 2, none⟩) hal).trans c2
          have d3 := (b5.cell (p := ⟨(b.add (k * 4)).block, (b.add (k * 4)).off + 3, none⟩) hal).trans c3
          have hz5' : w.heap.size < w5.heap.size := by omega
          have hal5 : (b.add (k * 4)).block < w5.heap.size := by omega
          clear x1 c0 c1 c2 c3
          have e1 : ¬ 9223372036854775807 < acc.length + (showR xe).length := by omega
          have e2 : ¬ 9223372036854775807 < acc.length + (showR xe).length + 1 := by omega
          go_wp2_with fail
          refine (HJ.out _ b5).mono ?_
          rintro e w6 ⟨rfl, b6⟩
          rw [Hrx.out]
          have hB4 := hB3.trans (b6.mono (by omega))
          go_wp2
          go_roundw
          case rel =>
            refine ⟨k + 1, acc ++ showR xe ++ [10], hlt, by go_num, ?_, ?_, hB4⟩
            · exact app3' acc (showR xe) [10]
            · rw [Hst.out, Hacc.out]
              simp only [List.append_assoc]
          case measure => simp [intOf]; omega
        · have hlt' : ¬ (k : Int) < (p.rules.length : Int) := by omega
          have he : acc = showP p := by rw [Hacc.out, HSD.out, List.take_of_length_le (by omega)]
          subst he
          go_wp2
          go_ret
          exact ⟨by simp, hB⟩
end Go.Proofs.YthjfkngfgomkbaaDoor

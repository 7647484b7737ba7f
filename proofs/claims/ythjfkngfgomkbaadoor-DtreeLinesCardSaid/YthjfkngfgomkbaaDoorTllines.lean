/- The law DtreeLines. -/
import Derived.Test.YthjfkngfgomkbaaDoorTlapart
import Derived.Test.YthjfkngfgomkbaaDoorOwn
import Derived.OwnWalk
import Derived.WalkSpells
namespace Go.Proofs.YthjfkngfgomkbaaDoor
open Go.RowKit

/-! ### Lines make no difference -/
def lineD (n : Int) (d : De) : De := { d with line := n }
def lineR (n : Int) (r : Ru) : Ru := { r with line := n }
def lineP (n : Int) (p : Pg) : Pg := ⟨p.decls.map (lineD n), p.rules.map (lineR n)⟩
theorem allS_line {α : Type} {e : α → α → Bool} {f : α → α} (h : ∀ x, e x (f x) = true) : ∀ l : List α, allS e l (l.map f) = true
  | [] => rfl
  | x :: l => by
    rw [List.map_cons]
    unfold allS
    rw [h x, allS_line h l]; rfl
theorem sameP_line (n : Int) (p : Pg) : sameP p (lineP n p) = true := by
  unfold sameP lineP
  rw [allS_line (fun d => show sameD d (lineD n d) = true from sameD_refl d), allS_line (fun r => show sameR r (lineR n r) = true from sameR_refl r)]
  rfl
theorem rightP_line (n : Int) (p : Pg) : rightP (lineP n p) = rightP p := by
  unfold rightP lineP
  rw [List.length_map, List.length_map, List.all_map, List.all_map]
  rfl
theorem showP_line (n : Int) (p : Pg) : showP (lineP n p) = showP p := (sameP_text (sameP_line n p)).symm
theorem foldS_line (n : Int) : ∀ (l : List Ru) (left : Int), foldS sizeR (l.map (lineR n)) left = foldS sizeR l left
  | [], _ => rfl
  | r :: l, left => by
    rw [List.map_cons]
    unfold foldS
    rw [foldS_line n l]
    rfl
theorem smallP_line (n : Int) (p : Pg) : smallP (lineP n p) = smallP p := by
  unfold smallP lineP
  rw [List.length_map, List.length_map, List.any_map, foldS_line]
  rfl
theorem DeC.lined {w : World} {B : Nat} {d : De} {n : Int} {c0 c1 c2 c3 c4 c5 : Value} (h : DeC w B d [c0, c1, c2, c3, c4, c5]) (hn : I64 n) : DeC w B (lineD n d) [c0, c1, c2, c3, c4, .int .i64 n] := by
  obtain ⟨v, u, e, h1, _, h3, h4⟩ := h
  simp only [List.cons.injEq, and_true] at e
  obtain ⟨rfl, rfl, rfl, rfl, rfl, _⟩ := e
  exact ⟨_, _, rfl, h1, hn, h3, h4⟩
theorem RuC.lined {w : World} {B : Nat} {r : Ru} {n : Int} {c0 c1 c2 c3 : Value} (h : RuC w B r [c0, c1, c2, c3]) (hn : I64 n) : RuC w B (lineR n r) [c0, c1, c2, .int .i64 n] := by
  obtain ⟨ca, v, e, _, h2, h3⟩ := h
  obtain ⟨u, rfl, h4, h5⟩ := h2
  simp only [List.cons_append, List.nil_append, List.cons.injEq, and_true] at e
  obtain ⟨rfl, rfl, rfl, _⟩ := e
  exact ⟨[_, _], _, rfl, hn, ⟨_, rfl, h4, h5⟩, h3⟩
theorem take_map {α β : Type} {f : α → β} {l : List α} {k : Nat} {x : α} (h : l[k]? = some x) : (l.take (k + 1)).map f = (l.take k).map f ++ [f x] := by
  rw [List.take_add_one, h]
  simp
/-- Two programs in boxes, and what has been made stays. -/
def Four (wr : World) (P Q : Nat) (v0 v1 u0 u1 : Value) (W : World) : Prop :=
  W.cell? ⟨P, 0, none⟩ = some v0 ∧ W.cell? ⟨P, 1, none⟩ = some v1 ∧ W.cell? ⟨Q, 0, none⟩ = some u0 ∧ W.cell? ⟨Q, 1, none⟩ = some u1 ∧ Below wr.heap.size wr W
theorem Four.kept {wr W w1 : World} {P Q : Nat} {v0 v1 u0 u1 : Value} (h : Four wr P Q v0 v1 u0 u1 W) (hP : P < wr.heap.size) (hQ : Q < wr.heap.size) (b : Below W.heap.size W w1) : Four wr P Q v0 v1 u0 u1 w1 := by
  obtain ⟨h0, h1, h2, h3, h4⟩ := h
  have hs := h4.size
  exact ⟨(b.cell (p := ⟨P, 0, none⟩) (by show P < _; omega)).trans h0, (b.cell (p := ⟨P, 1, none⟩) (by show P < _; omega)).trans h1, (b.cell (p := ⟨Q, 0, none⟩) (by show Q < _; omega)).trans h2, (b.cell (p := ⟨Q, 1, none⟩) (by show Q < _; omega)).trans h3, h4.trans (b.mono hs)⟩
theorem infoDecl : (Tryd.prog.info? 44).map (fun i => (i.zero, i.size, i.bytes)) = some (some (.agg #[.string ⟨#[]⟩, .slice none 0 0, .slice none 0 0, .bool false, .bool false, .int .i64 0]), 6, 80) := by kernel_rfl
theorem infoRule : (Tryd.prog.info? 39).map (fun i => (i.zero, i.size, i.bytes)) = some (some (.agg #[.string ⟨#[]⟩, .slice none 0 0, .slice none 0 0, .int .i64 0]), 4, 72) := by kernel_rfl
theorem one_cells6 (c0 c1 c2 c3 c4 c5 : Value) (h : (c0.oneCell' && c1.oneCell' && c2.oneCell' && c3.oneCell' && c4.oneCell' && c5.oneCell') = true) : ∀ u ∈ [c0, c1, c2, c3, c4, c5], u.oneCell' = true := by
  simp only [Bool.and_eq_true] at h
  intro u hu
  simp only [List.mem_cons, List.not_mem_nil, or_false] at hu
  rcases hu with rfl | rfl | rfl | rfl | rfl | rfl
  · exact h.1.1.1.1.1
  · exact h.1.1.1.1.2
  · exact h.1.1.1.2
  · exact h.1.1.2
  · exact h.1.2
  · exact h.2
theorem one_cells4 (c0 c1 c2 c3 : Value) (h : (c0.oneCell' && c1.oneCell' && c2.oneCell' && c3.oneCell') = true) : ∀ u ∈ [c0, c1, c2, c3], u.oneCell' = true := by
  simp only [Bool.and_eq_true] at h
  intro u hu
  simp only [List.mem_cons, List.not_mem_nil, or_false] at hu
  rcases hu with rfl | rfl | rfl | rfl
  · exact h.1.1.1
  · exact h.1.1.2
  · exact h.1.2
  · exact h.2
theorem grown_via {a b c : World} {row : Option Nat} (h : Below a.heap.size a b) (k : b.grownBy c row) : a.grownBy c row :=
  ⟨k.os.trans h.os, k.tape.trans h.tape, k.output.trans h.output, Nat.le_trans h.size k.size, fun i hi hne => (k.block i (Nat.lt_of_lt_of_le hi h.size) hne).trans (h.block i hi)⟩

set_option maxRecDepth 100000 in
set_option maxHeartbeats 8000000 in
theorem dtreeLines_c (p : Pg) (ln : Int) (a : Addr) (w : World) (cs : List Value) (hp : PgC w w.heap.size p cs) (n0 : -9223372036854775808 ≤ ln) (n1 : ln ≤ 9223372036854775807) (E : TEnv a w) :
    Calls Tryd.prog 7 #[.agg cs.toArray, .int .i64 ln] w fun e w' => e = .returned (.bool true) ∧ Below w.heap.size w w' := by
  have hln : I64 ln := ⟨n0, n1⟩
  have HP0 := fun (W : World) (hb : Below w.heap.size w W) => small_c p W cs ((hp.below hb).more hb.size)
  have HX0 := fun (hs : smallP p = true) (W : World) (hb : Below w.heap.size w W) => pshow_s p a W cs hs ((hp.below hb).more hb.size) (E.below hb)
  have HC0 := fun (W : World) (hb : Below w.heap.size w W) => right_c p a W cs ((hp.below hb).more hb.size) (E.below hb).err
  have HS0 := fun (W : World) (hb : Below w.heap.size w W) (ds : List Value) (hq : PgC W W.heap.size (lineP ln p) ds) => same_c p (lineP ln p) W cs ds ((hp.below hb).more hb.size) hq
  have HY := Lib.hid (fun (hs : smallP p = true) (W : World) (hb : Below w.heap.size w W) (ds : List Value) (hq : PgC W W.heap.size (lineP ln p) ds) => pshow_s (lineP ln p) a W ds ((smallP_line ln p).trans hs) hq (E.below hb))
  have HD := Lib.hid (fun (W : World) (hb : Below w.heap.size w W) (ds : List Value) (hq : PgC W W.heap.size (lineP ln p) ds) => right_c (lineP ln p) a W ds hq (E.below hb).err)
  have HH := Lib.hid (fun (W : World) (hb : Below w.heap.size w W) => shown_c a W (E.below hb))
  rw [rightP_line, showP_line] at HY
  rw [rightP_line] at HD
  rw [sameP_line] at HS0
  obtain ⟨p1, q1, r1, s1, rfl, H1, H2⟩ := hp.look
  obtain ⟨o2, cap2, e2, hc2, hm2, SL⟩ := SlOf.open H1
  cases e2
  obtain ⟨o2, cap2, e2, hc3, hm3, SR⟩ := SlOf.open H2
  cases e2
  have HP := Lib.hid HP0
  have HX := Lib.hid HX0
  have HC := Lib.hid HC0
  have HS := Lib.hid HS0
  have HLN := Lib.hid hln
  clear HP0 HX0 HC0 HS0 hp E H1 H2 n0 n1 hln
  have HB0 : Hid (∀ (x : Obj), Below w.heap.size w (w.alloc x)) := Lib.hid fun x => (Below.refl _ _).alloc (Nat.le_refl _) _
  go_enter Tryd.func7, Tryd.ntmps7
  go_wp2_with fail
  refine (HH.out _ (HB0.out _)).mono ?_
  rintro e w1 ⟨rfl, b1⟩
  have K1 := Lib.hid (b1.mono (show w.heap.size + 1 ≤ _ by simp))
  have B1 := (HB0.out _).trans (K1.out.mono (by omega))
  obtain ⟨hc1, hf1⟩ := boxk w.heap.size b1 (by simp)
  have hz1 : w.heap.size < w1.heap.size := by have := b1.size; simp at this; omega
  clear b1
  go_wp2_with fail
  refine (HP.out _ B1).mono ?_
  rintro e w2 ⟨rfl, b2⟩
  have K2 := Lib.hid (K1.out.trans (b2.mono (by omega)))
  have B2 := (HB0.out _).trans (K2.out.mono (by omega))
  have hz2 : w.heap.size < w2.heap.size := by have := b2.size; omega
  clear hc1 hf1 B1 b2
  have x0 : w2.cell? ⟨w.heap.size, 0, none⟩ = some (.slice p1 p.decls.length q1) := (K2.out.cell (p := ⟨w.heap.size, 0, none⟩) (by show w.heap.size < _; omega)).trans (by go_simp)
  have x1 : w2.cell? ⟨w.heap.size, 1, none⟩ = some (.slice r1 p.rules.length s1) := (K2.out.cell (p := ⟨w.heap.size, 1, none⟩) (by show w.heap.size < _; omega)).trans (by go_simp)
  cases hsp : smallP p with
  | false =>
    rw [show smallI p = 0 by unfold smallI; rw [hsp]; rfl]
    clear hsp
    go_wp2
    go_ret
    exact ⟨rfl, B2⟩
  | true =>
    rw [show smallI p = 1 by unfold smallI; rw [hsp]; rfl]
    have HSP := Lib.hid hsp
    have hdl : p.decls.length ≤ 100 ∧ p.rules.length ≤ 300 := by
      unfold smallP at hsp
      simp only [Bool.and_eq_true, decide_eq_true_eq] at hsp
      exact ⟨hsp.1.2, hsp.2⟩
    obtain ⟨hdl1, hdl2⟩ := hdl
    clear hsp
    obtain ⟨Q, hQ⟩ : ∃ Q, w2.heap.size = Q := ⟨_, rfl⟩
    obtain ⟨W0, hW0⟩ : ∃ W0, w2.alloc (.cells #[.slice none 0 0, .slice none 0 0] 25) = W0 := ⟨_, rfl⟩
    have hzQ : w.heap.size < Q := by omega
    have B3 := Lib.hid (show Below w.heap.size w W0 by rw [← hW0]; exact B2.alloc (by omega) _)
    have hs0 : W0.heap.size = Q + 1 := by rw [← hW0]; simp; omega
    have y0 : W0.heap[Q]? = some (.cells #[.slice none 0 0, .slice none 0 0] 25 (0, 0)) := by rw [← hW0, ← hQ]; exact World.alloc_heap_new _ _
    have z0 : W0.cell? ⟨w.heap.size, 0, none⟩ = some (.slice p1 p.decls.length q1) := by rw [← hW0]; exact (World.cell?_of_block (Below.heap_alloc _ _ _ (by show w.heap.size < _; omega))).trans x0
    have z1 : W0.cell? ⟨w.heap.size, 1, none⟩ = some (.slice r1 p.rules.length s1) := by rw [← hW0]; exact (World.cell?_of_block (Below.heap_alloc _ _ _ (by show w.heap.size < _; omega))).trans x1
    have Y0 := Lib.hid y0
    have Z0 := Lib.hid (And.intro z0 z1)
    clear x0 x1 B2 y0 z0 z1
    go_wp2
    clear hW0 hQ
    go_loopw [7] (fun i wx => ∃ (k : Nat) (v : Value), k ≤ p.decls.length ∧ i = .int .i64 k ∧ Owned wx (Q + 1) 44 6 (DeC w w.heap.size) v ((p.decls.take k).map (lineD ln)) ∧ W0.grownBy wx (some Q) ∧ wx.heap[Q]? = some (.cells #[v, .slice none 0 0] 25 (0, 0))) (fun i _ => p.decls.length - (intOf i).toNat)
    case atStart => exact ⟨0, .slice none 0 0, Nat.zero_le _, rfl, Owned.nil _ _ _ _ _, grown_refl _ _, Y0.out⟩
    case round =>
      obtain ⟨k, v, hk, rfl, ho, hg, hq⟩ := hrel
      have hB : Below w.heap.size w wr := B3.out.grown hg (by omega) (fun j e => by cases e; omega)
      have hsz := hg.size
      have hzq : Q < wr.heap.size := by omega
      have hz0 : w.heap.size < wr.heap.size := by omega
      have x0 : wr.cell? ⟨w.heap.size, 0, none⟩ = some (.slice p1 p.decls.length q1) := hg.cell Z0.out.1 (by show some w.heap.size ≠ some Q; intro e; have := Option.some.inj e; omega)
      have x1 : wr.cell? ⟨w.heap.size, 1, none⟩ = some (.slice r1 p.rules.length s1) := hg.cell Z0.out.2 (by show some w.heap.size ≠ some Q; intro e; have := Option.some.inj e; omega)
      have y0 : wr.cell? ⟨Q, 0, none⟩ = some v := (row_cell hq 0).1
      have yf : wr.frozen? ⟨Q, 0, none⟩ = false := (row_cell hq 0).2
      by_cases hlt : k < p.decls.length
      · have hlt' : (k : Int) < (p.decls.length : Int) := by omega
        obtain ⟨xe, ht⟩ : ∃ xe, p.decls[k]? = some xe := ⟨p.decls[k], List.getElem?_eq_getElem hlt⟩
        obtain ⟨b, cs, rfl, ha, _, h1, h2⟩ := SL.out k xe ht
        obtain ⟨o0, k0, o1, k1, rfl, _⟩ := h1.look
        obtain ⟨c0, c1, c2, c3, c4, c5⟩ := (h2.below ha hB).n6
        have HR := Lib.hid (h1.lined HLN.out)
        have hal : (b.add (k * 6)).block < wr.heap.size := by rw [addBlock]; omega
        obtain ⟨css, hcl, hce, hown⟩ := ho
        have hlen : ((p.decls.take k).map (lineD ln)).length = k := by rw [List.length_map, List.length_take]; omega
        have HLEN := Lib.hid hlen
        rw [hlen] at hown
        have HCE := Lib.hid (And.intro hcl hce)
        have HVL := Lib.hid hown.lt
        have HT := Lib.hid (take_map (f := lineD ln) ht)
        have HG := Lib.hid hg
        have HQ := Lib.hid hq
        have HOWN := Lib.hid hown
        have HSM : Hid (k + 1 ≤ maxLen) := Lib.hid (by unfold maxLen; omega)
        have HSB : Hid ((k + 1) * 80 ≤ 140737488355328) := Lib.hid (by omega)
        clear hcl hce hlen ht hg hq hown h1 h2
        have HBW : Hid (∀ (Z o : Obj), Below wr.heap.size wr ((wr.alloc Z).alloc o)) := Lib.hid (fun Z o => ((Below.refl wr.heap.size wr).alloc (Nat.le_refl _) Z).alloc (by simp) o)
        obtain ⟨i0, hi, hz0', hz1', hz2'⟩ := info_parts infoDecl
        go_wp2_with (at_builtin; refine wpList_append_own _ rfl (.tmp 35) (.tmp 37) 22 rfl (Q + 1) 44 i0 _ 6 80 Tryd.underlying22 hi hz0' hz1' hz2' rfl (by decide) v k _ rfl (own_past HOWN.out (HBW.out _ _)) _ 1 1 [.string xe.rel, .slice o0 xe.names.length k0, .slice o1 xe.types.length k1, .bool xe.inn, .bool xe.out, .int .i64 ln] rfl rfl (news_new _ _ _ _ (by simp)) (one_cells6 _ _ _ _ _ _ rfl) HSM.out HSB.out (by simp; omega) ?_; intro v' w3 hown' hgrow _; obtain ⟨g', cap', rfl, hgb⟩ := own_form hown' (Nat.succ_pos k); have HG3 := Lib.hid (grown_via (HBW.out _ _) hgrow); have hq3 : w3.heap[Q]? = some (.cells #[v, .slice none 0 0] 25 (0, 0)) := (HG3.out.block Q hzq (fun e => by have := (HVL.out Q e.symm).1; omega)).trans HQ.out; have HQ3 := Lib.hid hq3; have HOWN3 := Lib.hid hown'; have y3 := (row_cell hq3 0).1; have yf3 := (row_cell hq3 0).2; have hz3 : Q < w3.heap.size := Nat.lt_of_lt_of_le hzq HG3.out.size; clear hgrow hown' hq3)
        go_roundw
        case rel =>
          refine ⟨k + 1, .slice (some ⟨g', 0, none⟩) (k + 1) cap', hlt, by go_num, ?_, ?_, ?_⟩
          · rw [HT.out]
            refine (Owned.snoc HCE.out.1 HCE.out.2 rfl HR.out (by rw [HLEN.out]; exact HOWN3.out)).kept (grown_set w3 Q 0 _) (fun j e h => ?_)
            cases e
            have h2 : g' = Q := Option.some.inj h
            omega
          · exact grown_then (grown_then HG.out HG3.out (fun j e => .inl (by have := (HVL.out j e).1; omega))) (grown_set w3 Q 0 _) (fun j e => .inr e)
          · exact set_heap HQ3.out _
        case measure => simp [intOf]; omega
      · have hlt' : ¬ (k : Int) < (p.decls.length : Int) := by omega
        have OD := Lib.hid (show Owned wr (Q + 1) 44 6 (DeC w w.heap.size) v (p.decls.map (lineD ln)) by rw [List.take_of_length_le (by omega)] at ho; exact ho)
        obtain ⟨W1, rfl⟩ : ∃ W1, W1 = wr := ⟨_, rfl⟩
        obtain ⟨vD, rfl⟩ : ∃ vD, vD = v := ⟨_, rfl⟩
        obtain ⟨N1, hN1⟩ : ∃ N1, W1.heap.size = N1 := ⟨_, rfl⟩
        have B4 := Lib.hid hB
        have Y1 := Lib.hid hq
        have Z1 := Lib.hid (And.intro x0 x1)
        have hzq1 : Q < N1 := by omega
        clear hB hq ho hg y0 yf
        go_wp2
        clear x0 x1 hzq hz0 hsz
        go_loopw [9] (fun i wx => ∃ (k : Nat) (v : Value), k ≤ p.rules.length ∧ i = .int .i64 k ∧ Owned wx N1 39 4 (RuC w w.heap.size) v ((p.rules.take k).map (lineR ln)) ∧ W1.grownBy wx (some Q) ∧ wx.heap[Q]? = some (.cells #[vD, v] 25 (0, 0))) (fun i _ => p.rules.length - (intOf i).toNat)
        case atStart => exact ⟨0, .slice none 0 0, Nat.zero_le _, rfl, Owned.nil _ _ _ _ _, grown_refl _ _, Y1.out⟩
        case round =>
          obtain ⟨k, v, hk, rfl, ho, hg, hq⟩ := hrel
          have hB : Below w.heap.size w wr := B4.out.grown hg (by omega) (fun j e => by cases e; omega)
          have hsz := hg.size
          have hzq : Q < wr.heap.size := by omega
          have hz0 : w.heap.size < wr.heap.size := by omega
          have x0 : wr.cell? ⟨w.heap.size, 0, none⟩ = some (.slice p1 p.decls.length q1) := hg.cell Z1.out.1 (by show some w.heap.size ≠ some Q; intro e; have := Option.some.inj e; omega)
          have x1 : wr.cell? ⟨w.heap.size, 1, none⟩ = some (.slice r1 p.rules.length s1) := hg.cell Z1.out.2 (by show some w.heap.size ≠ some Q; intro e; have := Option.some.inj e; omega)
          have y0 : wr.cell? ⟨Q, 1, none⟩ = some v := (row_cell hq 1).1
          have yf : wr.frozen? ⟨Q, 1, none⟩ = false := (row_cell hq 1).2
          by_cases hlt : k < p.rules.length
          · have hlt' : (k : Int) < (p.rules.length : Int) := by omega
            obtain ⟨xe, ht⟩ : ∃ xe, p.rules[k]? = some xe := ⟨p.rules[k], List.getElem?_eq_getElem hlt⟩
            obtain ⟨b, cs, rfl, ha, _, h1, h2⟩ := SR.out k xe ht
            obtain ⟨o0, k0, o1, k1, rfl, _⟩ := h1.look
            obtain ⟨c0, c1, c2, c3⟩ := (h2.below ha hB).four
            have HR := Lib.hid (h1.lined HLN.out)
            have hal : (b.add (k * 4)).block < wr.heap.size := by rw [addBlock]; omega
            obtain ⟨css, hcl, hce, hown⟩ := ho
            have hlen : ((p.rules.take k).map (lineR ln)).length = k := by rw [List.length_map, List.length_take]; omega
            have HLEN := Lib.hid hlen
            rw [hlen] at hown
            have HCE := Lib.hid (And.intro hcl hce)
            have HVL := Lib.hid hown.lt
            have HT := Lib.hid (take_map (f := lineR ln) ht)
            have HG := Lib.hid hg
            have HQ := Lib.hid hq
            have HOWN := Lib.hid hown
            have HSM : Hid (k + 1 ≤ maxLen) := Lib.hid (by unfold maxLen; omega)
            have HSB : Hid ((k + 1) * 72 ≤ 140737488355328) := Lib.hid (by omega)
            clear hcl hce hlen ht hg hq hown h1 h2
            have HBW : Hid (∀ (Z o : Obj), Below wr.heap.size wr ((wr.alloc Z).alloc o)) := Lib.hid (fun Z o => ((Below.refl wr.heap.size wr).alloc (Nat.le_refl _) Z).alloc (by simp) o)
            obtain ⟨i0, hi, hz0', hz1', hz2'⟩ := info_parts infoRule
            go_wp2_with (at_builtin; refine wpList_append_own _ rfl (.tmp 55) (.tmp 57) 23 rfl N1 39 i0 _ 4 72 Tryd.underlying23 hi hz0' hz1' hz2' rfl (by decide) v k _ rfl (own_past HOWN.out (HBW.out _ _)) _ 1 1 [.string xe.head.rel, .slice o0 xe.head.l.length k0, .slice o1 xe.body.length k1, .int .i64 ln] rfl rfl (news_new _ _ _ _ (by simp)) (one_cells4 _ _ _ _ rfl) HSM.out HSB.out (by simp; omega) ?_; intro v' w3 hown' hgrow _; obtain ⟨g', cap', rfl, hgb⟩ := own_form hown' (Nat.succ_pos k); have HG3 := Lib.hid (grown_via (HBW.out _ _) hgrow); have hq3 : w3.heap[Q]? = some (.cells #[vD, v] 25 (0, 0)) := (HG3.out.block Q hzq (fun e => by have := (HVL.out Q e.symm).1; omega)).trans HQ.out; have HQ3 := Lib.hid hq3; have HOWN3 := Lib.hid hown'; have y3 := (row_cell hq3 1).1; have yf3 := (row_cell hq3 1).2; have hz3 : Q < w3.heap.size := Nat.lt_of_lt_of_le hzq HG3.out.size; clear hgrow hown' hq3)
            go_roundw
            case rel =>
              refine ⟨k + 1, .slice (some ⟨g', 0, none⟩) (k + 1) cap', hlt, by go_num, ?_, ?_, ?_⟩
              · rw [HT.out]
                refine (Owned.snoc HCE.out.1 HCE.out.2 rfl HR.out (by rw [HLEN.out]; exact HOWN3.out)).kept (grown_set w3 Q 1 _) (fun j e h => ?_)
                cases e
                have h2 : g' = Q := Option.some.inj h
                omega
              · exact grown_then (grown_then HG.out HG3.out (fun j e => .inl (by have := (HVL.out j e).1; omega))) (grown_set w3 Q 1 _) (fun j e => .inr e)
              · exact set_heap HQ3.out _
            case measure => simp [intOf]; omega
          · have hlt' : ¬ (k : Int) < (p.rules.length : Int) := by omega
            have OR : Owned wr N1 39 4 (RuC w w.heap.size) v (p.rules.map (lineR ln)) := by rw [List.take_of_length_le (by omega)] at ho; exact ho
            have OD2 : Owned wr (Q + 1) 44 6 (DeC w w.heap.size) vD (p.decls.map (lineD ln)) := OD.out.kept hg (fun j e h => by cases e; have := (OD.out.lt Q h).1; omega)
            have PG : PgC wr wr.heap.size (lineP ln p) [vD, v] := ⟨vD, v, rfl, OD2.slOf (fun x cs h => (h.below hB).more hB.size), OR.slOf (fun x cs h => (h.below hB).more hB.size)⟩
            have y00 := (row_cell hq 0).1
            have y01 := (row_cell hq 1).1
            simp only [List.getElem?_toArray, List.getElem?_cons_zero, List.getElem?_cons_succ] at y00 y01
            have F0 : Hid (Four wr w.heap.size Q (.slice p1 p.decls.length q1) (.slice r1 p.rules.length s1) vD v wr) := Lib.hid ⟨x0, x1, y00, y01, Below.refl _ _⟩
            obtain ⟨sv, se, hsv⟩ : ∃ (x : ByteArray) (n : Int), shV (rightP p) (showP p) = .tuple #[.string x, .int .i64 n] := by cases rightP p; exact ⟨_, _, rfl⟩; exact ⟨_, _, rfl⟩
            obtain ⟨br, hbr⟩ : ∃ b, rightP p = b := ⟨_, rfl⟩
            rw [hsv] at HX HY
            rw [hbr] at HC HD
            have HB2 : ∀ W, Below wr.heap.size wr W → Below w.heap.size w W := fun W h => hB.trans (h.mono (by omega))
            have HX2 : Hid (∀ W, Four wr w.heap.size Q (.slice p1 p.decls.length q1) (.slice r1 p.rules.length s1) vD v W → Calls Tryd.prog 14 #[.agg #[.slice p1 p.decls.length q1, .slice r1 p.rules.length s1]] W fun e w' => e = .returned (.tuple #[.string sv, .int .i64 se]) ∧ Four wr w.heap.size Q (.slice p1 p.decls.length q1) (.slice r1 p.rules.length s1) vD v w') := Lib.hid fun W h => (HX.out HSP.out W (HB2 W h.2.2.2.2)).mono (by rintro e w1 ⟨rfl, b1⟩; exact ⟨rfl, h.kept hz0 hzq b1⟩)
            have HY2 : Hid (∀ W, Four wr w.heap.size Q (.slice p1 p.decls.length q1) (.slice r1 p.rules.length s1) vD v W → Calls Tryd.prog 14 #[.agg #[vD, v]] W fun e w' => e = .returned (.tuple #[.string sv, .int .i64 se]) ∧ Four wr w.heap.size Q (.slice p1 p.decls.length q1) (.slice r1 p.rules.length s1) vD v w') := Lib.hid fun W h => (HY.out HSP.out W (HB2 W h.2.2.2.2) [vD, v] ((PG.below h.2.2.2.2).more h.2.2.2.2.size)).mono (by rintro e w1 ⟨rfl, b1⟩; exact ⟨rfl, h.kept hz0 hzq b1⟩)
            have HC2 : Hid (∀ W, Four wr w.heap.size Q (.slice p1 p.decls.length q1) (.slice r1 p.rules.length s1) vD v W → Calls Tryd.prog 10 #[.agg #[.slice p1 p.decls.length q1, .slice r1 p.rules.length s1]] W fun e w' => e = .returned (.bool br) ∧ Four wr w.heap.size Q (.slice p1 p.decls.length q1) (.slice r1 p.rules.length s1) vD v w') := Lib.hid fun W h => (HC.out W (HB2 W h.2.2.2.2)).mono (by rintro e w1 ⟨rfl, b1⟩; exact ⟨rfl, h.kept hz0 hzq b1⟩)
            have HD2 : Hid (∀ W, Four wr w.heap.size Q (.slice p1 p.decls.length q1) (.slice r1 p.rules.length s1) vD v W → Calls Tryd.prog 10 #[.agg #[vD, v]] W fun e w' => e = .returned (.bool br) ∧ Four wr w.heap.size Q (.slice p1 p.decls.length q1) (.slice r1 p.rules.length s1) vD v w') := Lib.hid fun W h => (HD.out W (HB2 W h.2.2.2.2) [vD, v] ((PG.below h.2.2.2.2).more h.2.2.2.2.size)).mono (by rintro e w1 ⟨rfl, b1⟩; exact ⟨rfl, h.kept hz0 hzq b1⟩)
            have HS2 : Hid (∀ W, Four wr w.heap.size Q (.slice p1 p.decls.length q1) (.slice r1 p.rules.length s1) vD v W → Calls Tryd.prog 12 #[.agg #[.slice p1 p.decls.length q1, .slice r1 p.rules.length s1], .agg #[vD, v]] W fun e w' => e = .returned (.bool true) ∧ Four wr w.heap.size Q (.slice p1 p.decls.length q1) (.slice r1 p.rules.length s1) vD v w') := Lib.hid fun W h => (HS.out W (HB2 W h.2.2.2.2) [vD, v] ((PG.below h.2.2.2.2).more h.2.2.2.2.size)).mono (by rintro e w1 ⟨rfl, b1⟩; exact ⟨rfl, h.kept hz0 hzq b1⟩)
            have HEND : Hid (∀ W, Four wr w.heap.size Q (.slice p1 p.decls.length q1) (.slice r1 p.rules.length s1) vD v W → Below w.heap.size w W) := Lib.hid fun W h => HB2 W h.2.2.2.2
            have HDR : Hid (∀ W, Four wr w.heap.size Q (.slice p1 p.decls.length q1) (.slice r1 p.rules.length s1) vD v W → Four wr w.heap.size Q (.slice p1 p.decls.length q1) (.slice r1 p.rules.length s1) vD v W.drew) := Lib.hid fun W h => h.kept hz0 hzq ((Below.refl _ _).drew)
            clear HX HY HC HD HS HB2 hsv hbr PG OD2 OR OD ho hg hq hB B3 B4 Y0 Y1 Z0 Z1 SL SR HP HH K1 K2 HB0 HLN HSP y0 yf
            go_wp2_with fail
            refine (HX2.out _ F0.out).mono ?_
            rintro e w3 ⟨rfl, F3⟩
            have H3 := Lib.hid F3
            clear x0 x1 y00 y01
            obtain ⟨x0, x1, y00, y01, b3⟩ := F3
            have hz0 : w.heap.size < w3.heap.size := Nat.lt_of_lt_of_le hz0 b3.size
            have hzq : Q < w3.heap.size := Nat.lt_of_lt_of_le hzq b3.size
            clear b3
            go_wp2_with fail
            refine (HY2.out _ H3.out).mono ?_
            rintro e w5 ⟨rfl, F5⟩
            have hS := HDR.out _ F5
            clear x0 x1 y00 y01
            obtain ⟨x0, x1, y00, y01, b5⟩ := F5
            clear b5
            go_wp2
            go_region_held3 (fun w' => w'.cell? ⟨w.heap.size, 0, none⟩ = some (.slice p1 p.decls.length q1) ∧ w'.cell? ⟨w.heap.size, 1, none⟩ = some (.slice r1 p.rules.length s1) ∧ w'.cell? ⟨Q, 0, none⟩ = some vD ∧ w'.cell? ⟨Q, 1, none⟩ = some v ∧ Below wr.heap.size wr w') (first | exact hk | exact hS) (first | (go_at_call 12; refine (HS2.out _ (by first | exact hk | exact hS)).mono ?_; rintro e w4 ⟨rfl, hk⟩; have hk2 := hk; obtain ⟨x0, x1, y00, y01, _⟩ := hk2) | (go_at_call 10; refine (HC2.out _ (by first | exact hk | exact hS)).mono ?_; rintro e w4 ⟨rfl, hk⟩; have hk2 := hk; obtain ⟨x0, x1, y00, y01, _⟩ := hk2) | (go_at_call 10; refine (HD2.out _ (by first | exact hk | exact hS)).mono ?_; rintro e w4 ⟨rfl, hk⟩; have hk2 := hk; obtain ⟨x0, x1, y00, y01, _⟩ := hk2))
            all_goals
              go_wp2
              go_ret
              exact ⟨by simp, HEND.out _ hk⟩
end Go.Proofs.YthjfkngfgomkbaaDoor

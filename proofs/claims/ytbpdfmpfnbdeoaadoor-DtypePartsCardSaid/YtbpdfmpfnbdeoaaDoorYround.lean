/- learnFromEachOther: rounds, till nothing more is learned. -/
import Derived.Test.YtbpdfmpfnbdeoaaDoorYlearn2
import Derived.Test.YtbpdfmpfnbdeoaaDoorTlook
import Derived.WalkMore
import Derived.Deep.LoopGhost
namespace Go.Proofs.YtbpdfmpfnbdeoaaDoor
open Go.RowKit

theorem lt_in {n₀ : Nat} {w wr : World} {l : List Lt} {o : Option Addr} {k : Nat} {t : Lt} (S : Hid (SlIn w n₀ 11 (LtC w n₀) l o)) (hB : Below n₀ w wr) (ht : l[k]? = some t) :
    ∃ a o0 k0 o1 k1 o2 k2, o = some a ∧ a.block < n₀ ∧ Hid (LtC wr n₀ t [.int .i64 t.op, .string t.a.rel, .slice o0 t.a.l.length k0, .int .i64 t.x.op, .string t.x.s, .int .i64 t.x.n, .slice o1 t.x.l.length k1, .int .i64 t.y.op, .string t.y.s, .int .i64 t.y.n, .slice o2 t.y.l.length k2]) ∧
      wr.cell? (a.add (k * 11)) = some (.int .i64 t.op) ∧ wr.cell? ⟨(a.add (k * 11)).block, (a.add (k * 11)).off + 1, none⟩ = some (.string t.a.rel) ∧ wr.cell? ⟨(a.add (k * 11)).block, (a.add (k * 11)).off + 2, none⟩ = some (.slice o0 t.a.l.length k0) ∧ wr.cell? ⟨(a.add (k * 11)).block, (a.add (k * 11)).off + 3, none⟩ = some (.int .i64 t.x.op) ∧ wr.cell? ⟨(a.add (k * 11)).block, (a.add (k * 11)).off + 4, none⟩ = some (.string t.x.s) ∧ wr.cell? ⟨(a.add (k * 11)).block, (a.add (k * 11)).off + 5, none⟩ = some (.int .i64 t.x.n) ∧ wr.cell? ⟨(a.add (k * 11)).block, (a.add (k * 11)).off + 6, none⟩ = some (.slice o1 t.x.l.length k1) ∧ wr.cell? ⟨(a.add (k * 11)).block, (a.add (k * 11)).off + 7, none⟩ = some (.int .i64 t.y.op) ∧ wr.cell? ⟨(a.add (k * 11)).block, (a.add (k * 11)).off + 8, none⟩ = some (.string t.y.s) ∧ wr.cell? ⟨(a.add (k * 11)).block, (a.add (k * 11)).off + 9, none⟩ = some (.int .i64 t.y.n) ∧ wr.cell? ⟨(a.add (k * 11)).block, (a.add (k * 11)).off + 10, none⟩ = some (.slice o2 t.y.l.length k2) := by
  obtain ⟨a, cs, rfl, ha, _, h1, h2⟩ := S.out k t ht
  obtain ⟨o0, k0, o1, k1, o2, k2, rfl, _⟩ := h1.look
  exact ⟨a, o0, k0, o1, k1, o2, k2, rfl, ha, Lib.hid (h1.below hB), (h2.below ha hB).n11⟩

theorem LtC.look2 {w : World} {B : Nat} {t : Lt} {v0 v1 v2 v3 v4 v5 v6 v7 v8 v9 v10 : Value} (h : LtC w B t [v0, v1, v2, v3, v4, v5, v6, v7, v8, v9, v10]) : TmC w B t.x [v3, v4, v5, v6] ∧ TmC w B t.y [v7, v8, v9, v10] := by
  obtain ⟨o0, k0, o1, k1, o2, k2, e, _, h1, h2, h3⟩ := h.look
  simp only [List.cons.injEq] at e
  obtain ⟨rfl, rfl, rfl, rfl, rfl, rfl, rfl, rfl, rfl, rfl, rfl, _⟩ := e
  exact ⟨h2, h3⟩
/-- The pairs that a body holds against each other. -/
def prsL : List Lt → List (Tm × Tm)
  | [] => []
  | t :: l => if duoB t then (t.x, t.y) :: prsL l else prsL l
theorem prsL_drop {l : List Lt} {k : Nat} {t : Lt} (h : l[k]? = some t) : prsL (l.drop k) = if duoB t then (t.x, t.y) :: prsL (l.drop (k + 1)) else prsL (l.drop (k + 1)) := by
  have h1 : l.drop k = t :: l.drop (k + 1) := by rw [List.drop_eq_getElem_cons (List.getElem?_eq_some_iff.1 h).1, (List.getElem?_eq_some_iff.1 h).2]
  rw [h1]; rfl
theorem alikeL_cons (K : Kn) (x y : Tm) (l : List (Tm × Tm)) : alikeL K ((x, y) :: l) = (match alike1 K x y with | none => none | some K' => alikeL K' l) := by
  rw [alikeL]; rfl

theorem learn_len {K K' : Kn} {t : Tm} {k : Int} (h : learn1 K t k = some K') : K.length ≤ K'.length := by
  rcases learn_cases h with ⟨_, rfl⟩ | ⟨_, _, rfl⟩ | ⟨_, _, _, rfl⟩ <;> simp
theorem alike_len {K K' : Kn} {x y : Tm} (h : alike1 K x y = some K') : K.length ≤ K'.length := by
  unfold alike1 at h
  split at h
  · split at h
    · exact learn_len h
    · cases h; exact Nat.le_refl _
  · exact learn_len h
theorem alikeL_len : ∀ {l : List (Tm × Tm)} {K K' : Kn}, alikeL K l = some K' → K.length ≤ K'.length
  | [], _, _, h => by cases h; exact Nat.le_refl _
  | (x, y) :: l, K, K', h => by
    rw [alikeL_cons] at h
    cases h1 : alike1 K x y with
    | none => rw [h1] at h; cases h
    | some K1 => rw [h1] at h; exact Nat.le_trans (alike_len h1) (alikeL_len h)

set_option maxRecDepth 100000 in
set_option maxHeartbeats 4000000 in
theorem eachOther_c (r : Ru) (cs : List Value) (B n₀ : Nat) (V : List (List UInt8)) (hV : V.length ≤ 1000000) (K : Kn) (a b' c d : Addr) (w : World) (hc : RuC w n₀ r cs) (hB : n₀ ≤ B) (hM : KnM V w B K) (hv : ∀ l ∈ r.body, (l.x.op = 1 → nm l.x ∈ V) ∧ (l.y.op = 1 → nm l.y ∈ V)) (E : YEnv n₀ a b' c d w) :
    Calls Tryd.prog 70 #[.map (some B), .agg cs.toArray] w fun e w' => ∃ rr, Rounds (prsL r.body) K rr ∧ LearnR V w B a rr e w' := by
  obtain ⟨o0, k0, o1, k1, rfl, _, _, hL⟩ := hc.look
  obtain ⟨_, _, e2, hcap, hmax, SL⟩ := hL.open
  cases e2
  have HE := Lib.hid E
  have HM := Lib.hid hM
  have hB1 := hM.lt
  have G0 : ∀ x : Obj, Hid (w.grownBy (w.alloc x) (some B)) := fun x => Lib.hid (World.grownBy_alloc w x _)
  clear hM E hc hL
  go_enter Tryd.func70, Tryd.ntmps70
  go_wp2
  go_step3
  go_wp2
  go_step3
  go_wp2
  go_loopw [5, 6] (fun wv bv wr => ∃ (bf : Int) (Ki : Kn), wv = .nilIface ∧ bv = .int .i64 bf ∧ KnM V wr B Ki ∧ (w.alloc (.cells #[.string r.head.rel, .slice o0 r.head.l.length k0, .slice o1 r.body.length k1, .int .i64 r.line] 27)).grownBy wr (some B) ∧
    -1 ≤ bf ∧ bf ≤ Ki.length ∧ ((bf = -1 ∧ Ki = K) ∨ ∃ Kp : Kn, bf = Kp.length ∧ alikeL Kp (prsL r.body) = some Ki ∧ ∀ rr, Rounds (prsL r.body) Kp rr → Rounds (prsL r.body) K rr)) (fun _ bv _ => V.length + 1 - (intOf bv + 1).toNat)
  case atStart => exact ⟨-1, K, rfl, rfl, HM.out.same ((Below.heap_alloc _ _ _ hB1)), World.grownBy.refl _ _, by omega, by omega, .inl ⟨rfl, rfl⟩⟩
  case round =>
    obtain ⟨bf, Ki, rfl, rfl, hM2, hg2, hb1, hb2, hst⟩ := hrel
    have Hst := Lib.hid hst
    have Hb1 := Lib.hid hb1
    have Hmore : Hid (bf < Ki.length → ∀ rr, Rounds (prsL r.body) Ki rr → Rounds (prsL r.body) K rr) := Lib.hid fun hlt => by
      rcases hst with ⟨_, h2⟩ | ⟨Kp, h1, h2, h3⟩
      · subst h2; exact fun _ h => h
      · exact fun rr h => h3 rr (.more h2 (by omega) h)
    have HM2 := Lib.hid hM2
    have Hg2 := Lib.hid hg2
    have hBs := hg2.size
    simp only [World.size_alloc] at hBs
    clear hM2 hg2 hst
    by_cases hlt : bf < Ki.length
    · have Hlt := Lib.hid hlt
      have hcr : wr.cell? ⟨w.heap.size, 2, none⟩ = some (.slice o1 r.body.length k1) := by
        have h := Hg2.out.block w.heap.size (by simp) (fun e => by have := Option.some.inj e; omega)
        unfold World.cell?
        simp only []
        rw [h, World.alloc_heap_new]
        rfl
      go_wp2_with (at_len; refine wpList_mapI_len _ rfl _ 78 rfl 9 3 Tryd.underlying78 B _ (look Ki) _ rfl HM2.out.map ?_)
      go_loopw [5, 18] (fun wv i wx => ∃ (k : Nat) (Kj : Kn), wv = .nilIface ∧ k ≤ r.body.length ∧ i = .int .i64 k ∧ alikeL Ki (prsL r.body) = alikeL Kj (prsL (r.body.drop k)) ∧ KnM V wx B Kj ∧ (w.alloc (.cells #[.string r.head.rel, .slice o0 r.head.l.length k0, .slice o1 r.body.length k1, .int .i64 r.line] 27)).grownBy wx (some B)) (fun _ i _ => r.body.length - (intOf i).toNat)
      case atStart => exact ⟨0, Ki, rfl, Nat.zero_le _, rfl, rfl, HM2.out, Hg2.out⟩
      case round =>
        obtain ⟨k, Kj, rfl, hk, rfl, hr, hM3, hg3⟩ := hrel
        have Hr := Lib.hid hr
        have HM3 := Lib.hid hM3
        have Hg3 := Lib.hid hg3
        have hBx := hg3.size
        simp only [World.size_alloc] at hBx
        have hB' : Below n₀ w wr := gBelow ((G0 _).out.trans Hg3.out) hB (by omega)
        clear hr hM3 hg3
        by_cases hlt2 : k < r.body.length
        · have hlt' : (k : Int) < (r.body.length : Int) := by omega
          obtain ⟨t, ht⟩ : ∃ t, r.body[k]? = some t := ⟨r.body[k], List.getElem?_eq_getElem hlt2⟩
          obtain ⟨b, p3, q3, p4, q4, p5, q5, rfl, ha, Hc, c0, c1, c2, c3, c4, c5, c6, c7, c8, c9, c10⟩ := lt_in SL hB' ht
          have hal : (b.add (k * 11)).block < wr.heap.size := by rw [addBlock]; omega
          have Hdr := Lib.hid (prsL_drop ht)
          have Hvb := Lib.hid (hv t (List.mem_of_getElem? ht))
          clear ht
          go_wp2_with fail
          have hb0 : Below wr.heap.size wr (wr.alloc (.cells #[.int .i64 t.op, .string t.a.rel, .slice p3 t.a.l.length q3, .int .i64 t.x.op, .string t.x.s, .int .i64 t.x.n, .slice p4 t.x.l.length q4, .int .i64 t.y.op, .string t.y.s, .int .i64 t.y.n, .slice p5 t.y.l.length q5] 45)) := (Below.refl _ _).alloc (Nat.le_refl _) _
          have Hb0 := Lib.hid hb0
          refine (holdsTwo_c t _ n₀ _ (Hc.out.below (hb0.mono (by omega)))).mono ?_
          rintro e w1 ⟨rfl, b1⟩
          have b2 : Below wr.heap.size wr w1 := hb0.trans (b1.mono (by simp))
          have Hb2 := Lib.hid b2
          obtain ⟨hc1, hf1⟩ := boxY wr.heap.size b1 (by simp)
          have hBw : B < wr.heap.size := by omega
          have hs1 := b1.size
          simp only [World.size_alloc] at hs1
          clear hb0 b1 b2
          cases hd : duoB t with
          | false =>
            have Hz : Hid (alikeL Ki (prsL r.body) = alikeL Kj (prsL (r.body.drop (k + 1)))) := Lib.hid (by rw [Hr.out, Hdr.out, hd]; rfl)
            clear hd
            go_wp2
            go_roundw
            case rel => exact ⟨k + 1, Kj, rfl, hlt2, by go_num, Hz.out, HM3.out.below Hb2.out hBw, Hg3.out.trans (gB Hb2.out _)⟩
            case measure => simp [intOf]; omega
          | true =>
            have Hz : Hid (alikeL Ki (prsL r.body) = alikeL Kj ((t.x, t.y) :: prsL (r.body.drop (k + 1)))) := Lib.hid (by rw [Hr.out, Hdr.out, hd]; rfl)
            clear hd
            go_wp2_with fail
            refine (learnAlike_c t.x t.y [.int .i64 t.x.op, .string t.x.s, .int .i64 t.x.n, .slice p4 t.x.l.length q4] [.int .i64 t.y.op, .string t.y.s, .int .i64 t.y.n, .slice p5 t.y.l.length q5] B n₀ V hV Kj a b' c d w1 (TmC.under Hc.out.look2.1 (Hb2.out.mono (by omega))) (TmC.under Hc.out.look2.2 (Hb2.out.mono (by omega))) hB (HM3.out.below Hb2.out hBw) Hvb.out.1 Hvb.out.2 (HE.out.below (hB'.trans (Hb2.out.mono (by omega))))).mono ?_
            rintro e w2 hR
            cases hl : alike1 Kj t.x t.y with
            | none =>
              rw [hl] at hR
              cases hR with
              | bad hg4 =>
              have Hq : Hid (Rounds (prsL r.body) K none) := Lib.hid (Hmore.out Hlt.out _ (.bad (by rw [Hz.out, alikeL_cons, hl])))
              have Hg4 := Lib.hid (((G0 _).out.trans Hg3.out).trans ((gB Hb2.out _).trans hg4))
              clear hl hg4
              unfold errV
              go_wp2
              rw [Exit.noGoto_ret]
              go_ret
              exact ⟨_, Hq.out, .bad Hg4.out⟩
            | some K' =>
              rw [hl] at hR
              cases hR with
              | good hm4 hg4 =>
              have Hz2 : Hid (alikeL Ki (prsL r.body) = alikeL K' (prsL (r.body.drop (k + 1)))) := Lib.hid (by rw [Hz.out, alikeL_cons, hl])
              have Hg4 := Lib.hid (Hg3.out.trans ((gB Hb2.out _).trans hg4))
              have Hm4 := Lib.hid hm4
              clear hl hg4 hm4
              go_wp2
              go_roundw
              case rel => exact ⟨k + 1, K', rfl, hlt2, by go_num, Hz2.out, Hm4.out, Hg4.out⟩
              case measure => simp [intOf]; omega
        · have hlt' : ¬ (k : Int) < (r.body.length : Int) := by omega
          have Hq : Hid (alikeL Ki (prsL r.body) = some Kj) := Lib.hid (by rw [Hr.out, List.drop_of_length_le (by omega)]; rfl)
          go_wp2
          go_roundw
          case rel => exact ⟨Ki.length, Kj, rfl, rfl, HM3.out, Hg3.out, by omega, by have := alikeL_len Hq.out; omega, .inr ⟨Ki, rfl, Hq.out, Hmore.out Hlt.out⟩⟩
          case measure => have := HM2.out.len; have := Hlt.out; have := Hb1.out; simp [intOf]; omega
    · have Hq : Hid (Rounds (prsL r.body) K (some Ki)) := Lib.hid (by
        rcases Hst.out with ⟨h1, _⟩ | ⟨Kp, h1, h2, h3⟩
        · omega
        · exact h3 _ (.still h2 (by omega)))
      go_wp2_with (at_len; refine wpList_mapI_len _ rfl _ 78 rfl 9 3 Tryd.underlying78 B _ (look Ki) _ rfl HM2.out.map ?_)
      go_ret
      exact ⟨_, Hq.out, .good HM2.out ((G0 _).out.trans Hg2.out)⟩
end Go.Proofs.YtbpdfmpfnbdeoaaDoor

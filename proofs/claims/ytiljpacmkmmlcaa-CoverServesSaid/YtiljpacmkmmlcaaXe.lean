/- soriteslaw12.CoverServes. -/
import Derived.Test.YtiljpacmkmmlcaaWv
import Derived.Test.YtiljpacmkmmlcaaCvb
import Derived.Test.YtiljpacmkmmlcaaCvc
import Derived.Test.YtiljpacmkmmlcaaFlowG
set_option linter.unusedSimpArgs false
set_option linter.unusedVariables false
namespace Go.Proofs.Ytiljpacmkmmlcaa
open Go.RowKit

def slotsSv : List (Option Tmp) := [some 35, some 36, some 37, some 38, some 39, some 40, some 41, some 42, some 43, some 44, some 45, some 46, some 47, some 48, some 49, some 50, some 51, some 52, some 53, some 54, some 55, some 56]
def plainSv (ov sv : Value) (n k : Nat) (p : Addr) (xv : Value) (b1 b2 on sr : Bool) : List (Value → Prop) :=
  [fun v => v = sv, fun v => v = .int .i64 (n : Int), fun v => v = .bool b1, fun v => v = .bool b1, fun v => b1 = true → v = sv, fun v => b1 = true → v = .bool on, fun v => v = .bool b2, fun v => v = .bool b2,
   fun v => b2 = true → v = ov, fun v => b2 = true → v = .int .i64 (k : Int), fun v => b2 = true → v = .pointer (some p), fun v => b2 = true → v = xv, fun v => b2 = true → v = sv, fun v => b2 = true → v = .bool sr,
   fun v => b2 = true → v = ov, fun v => b2 = true → v = .int .i64 (k : Int), fun v => b2 = true → v = .pointer (some p), fun v => b2 = true → v = xv, fun v => b2 = true → v = sv, fun v => b2 = true → v = .bool sr,
   fun v => b2 = true → v = .bool false, fun v => v = .bool false]
def factsSv (ov sv : Value) (n k : Nat) (p : Addr) (xv : Value) (b1 b2 on sr : Bool) : List (Value → World → Prop) := (plainSv ov sv n k p xv b1 b2 on sr).map fun q v _ => q v
theorem factsSv_mono (ov sv : Value) (n k : Nat) (p : Addr) (xv : Value) (b1 b2 on sr : Bool) : ∀ q ∈ factsSv ov sv n k p xv b1 b2 on sr, ∀ v w w', q v w → Below w.heap.size w w' → q v w' := by
  intro q hq v w w' h _
  obtain ⟨r, _, rfl⟩ := List.mem_map.1 hq
  exact h
theorem drewB {w w' : World} (h : Below w.drew.heap.size w.drew w') : Below w.heap.size w w' := ⟨h.os, h.tape, h.output, h.size, h.block⟩
set_option linter.unusedVariables false in
set_option linter.unusedSimpArgs false in
set_option maxRecDepth 100000 in
set_option maxHeartbeats 16000000 in
theorem coverServes_c (l : List (List Int)) (s : List Int) (v u : Value) (w : World) (h : SetsS w w.heap.size l v) (hs : SlOf w w.heap.size 1 IntC s u) :
    Calls Try.prog 3 #[v, u] w fun e w' => e = .returned (.bool true) ∧ Below w.heap.size w w' := by
  have HSh := Lib.hid (shown12_c w)
  obtain ⟨o1, cap1, rfl, hc1, hm1, _⟩ := SlOf.open h
  have HSet := Lib.hid h
  have hM1 : SetsS w w.heap.size (l.take 70) (.slice o1 (l.take 70).length cap1) := h.cutR
  obtain ⟨M, hM⟩ : ∃ M, l.take 70 = M := ⟨_, rfl⟩
  obtain ⟨n, hn⟩ : ∃ n, M.length = n := ⟨_, rfl⟩
  have hn70 : n ≤ 70 := by rw [← hn, ← hM, List.length_take]; omega
  have HN : Hid ((l.take 70).length = n) := Lib.hid (by rw [hM]; exact hn)
  rw [hM] at hM1
  obtain ⟨o2, cap2, e2, hc2, hm2, SM⟩ := SlOf.open hM1
  rw [hn] at hM1 e2 hc2
  injection e2 with e3 _ e4
  subst e3; subst e4
  have HM := Lib.hid hM1
  have HNM := Lib.hid hn
  have HS := Lib.hid hs
  obtain ⟨o5, cap5, rfl, hc5, hm5, _⟩ := SlOf.open hs
  clear h hs hM1 hM hn
  go_enter Try.func3, Try.ntmps3
  go_wp2_with fail
  refine HSh.out.mono ?_
  rintro e w1 ⟨rfl, hb⟩
  have HB1 := Lib.hid hb
  clear hb HSh
  go_wp2_with fail
  refine (cut12_c l o1 cap1 w1 (SetsS.past HSet.out HB1.out)).mono ?_
  rintro e w2 ⟨⟨rfl, _⟩, rfl⟩
  rw [HN.out]
  go_wp2_with fail
  go_loopw [6] (fun iv wr => ∃ k : Nat, k ≤ n ∧ iv = .int .i64 (k : Int) ∧ Hid (Below w.heap.size w wr)) (fun iv _ => n - (intOf iv).toNat)
  case atStart => exact ⟨0, Nat.zero_le _, rfl, HB1⟩
  case round =>
    obtain ⟨k, hk, rfl, HB⟩ := hrel
    by_cases hlt : k < n
    · have hlt' : (k : Int) < (n : Int) := by omega
      have hk0 : (0 : Int) ≤ (k : Int) := by omega
      obtain ⟨o, ho⟩ : ∃ o, M[k]? = some o := ⟨M[k]'(by rw [HNM.out]; exact hlt), List.getElem?_eq_getElem _⟩
      obtain ⟨a, oo, oc, rfl, ha, hX, c0⟩ := set_at SM HB.out ho
      have hbl : a.block < wr.heap.size := Nat.lt_of_lt_of_le ha HB.out.size
      have Hho := Lib.hid ho
      have HX := Lib.hid hX
      have HC := Lib.hid (once12_c o (.slice oo o.length oc) wr hX)
      have Hc0 := Lib.hid c0
      clear ho hX
      by_cases h20 : (o.length : Int) > 20
      · go_wp2
        go_ret
        exact ⟨rfl, HB.out⟩
      · go_wp2_with fail
        refine HC.out.mono ?_
        rintro e w3 ⟨rfl, hq⟩
        have HB3 := Lib.hid (HB.out.trans (hq.below.mono HB.out.size))
        have c3 : w3.cell? (a.add k) = some (.slice oo o.length oc) := (hq.below.cell (by rw [addBlock]; exact hbl)).trans Hc0.out
        have HX3 : Hid (SlOf w3 w3.heap.size 1 IntC o (.slice oo o.length oc)) := Lib.hid (SlOf.int HX.out hq.below hq.below.size)
        have hbl3 : a.block < w3.heap.size := Nat.lt_of_lt_of_le hbl hq.below.size
        clear hq HC c0
        cases hon : onceL o with
        | false =>
          clear hon
          go_wp2
          go_ret
          exact ⟨rfl, HB3.out⟩
        | true =>
          clear hon
          have HS3 : Hid (SlOf w3 w3.heap.size 1 IntC s (.slice o5 s.length cap5)) := Lib.hid (SlOf.int HS.out HB3.out HB3.out.size)
          obtain ⟨b1, hb1⟩ : ∃ b, decide ((s.length : Int) ≤ 20) = b := ⟨_, rfl⟩
          obtain ⟨on, hon⟩ : ∃ b, onceL s = b := ⟨_, rfl⟩
          obtain ⟨b2, hb2⟩ : ∃ b, (b1 && on) = b := ⟨_, rfl⟩
          have Hb1 := Lib.hid hb1
          have Hon := Lib.hid hon
          have Hb2 := Lib.hid hb2
          have C3 := Lib.hid c3
          clear hb1 hon hb2 c3
          go_wp2_with fail
          refine wp_region_any (by kernel_rfl) ?_
          (try (change wpAny _ _ _ _ _ _ _ (World.drew _)))
          refine wpAny_growG slotsSv _ _ (factsSv (.slice (some a) n cap1) (.slice o5 s.length cap5) s.length k (a.add k) (.slice oo o.length oc) b1 b2 on (servesL o s)) (by kernel_rfl) (by kernel_rfl) (by kernel_rfl) (by kernel_rfl) (factsSv_mono _ _ _ _ _ _ _ _ _ _)
            ⟨gs_plain rfl ?s0,
             gs_plain rfl ?s1,
             gs_plain rfl ?s2,
             gs_plain rfl ?s3,
             gs_guard 3 38 true b1 rfl rfl rfl (by kernel_rfl) (fun v w h => h _ rfl) (fun hg => ?s4) (fun h v w => factG_mk rfl fun e => absurd e h),
             gs_guard 3 38 true b1 rfl rfl rfl (by kernel_rfl) (fun v w h => h _ rfl) (fun hg => ?s5) (fun h v w => factG_mk rfl fun e => absurd e h),
             gs_plain rfl ?s6,
             gs_plain rfl ?s7,
             gs_guard 7 42 true b2 rfl rfl rfl (by kernel_rfl) (fun v w h => h _ rfl) (fun hg => ?s8) (fun h v w => factG_mk rfl fun e => absurd e h),
             gs_guard 7 42 true b2 rfl rfl rfl (by kernel_rfl) (fun v w h => h _ rfl) (fun hg => ?s9) (fun h v w => factG_mk rfl fun e => absurd e h),
             gs_guard 7 42 true b2 rfl rfl rfl (by kernel_rfl) (fun v w h => h _ rfl) (fun hg => ?s10) (fun h v w => factG_mk rfl fun e => absurd e h),
             gs_guard 7 42 true b2 rfl rfl rfl (by kernel_rfl) (fun v w h => h _ rfl) (fun hg => ?s11) (fun h v w => factG_mk rfl fun e => absurd e h),
             gs_guard 7 42 true b2 rfl rfl rfl (by kernel_rfl) (fun v w h => h _ rfl) (fun hg => ?s12) (fun h v w => factG_mk rfl fun e => absurd e h),
             gs_guard 7 42 true b2 rfl rfl rfl (by kernel_rfl) (fun v w h => h _ rfl) (fun hg => ?s13) (fun h v w => factG_mk rfl fun e => absurd e h),
             gs_guard 7 42 true b2 rfl rfl rfl (by kernel_rfl) (fun v w h => h _ rfl) (fun hg => ?s14) (fun h v w => factG_mk rfl fun e => absurd e h),
             gs_guard 7 42 true b2 rfl rfl rfl (by kernel_rfl) (fun v w h => h _ rfl) (fun hg => ?s15) (fun h v w => factG_mk rfl fun e => absurd e h),
             gs_guard 7 42 true b2 rfl rfl rfl (by kernel_rfl) (fun v w h => h _ rfl) (fun hg => ?s16) (fun h v w => factG_mk rfl fun e => absurd e h),
             gs_guard 7 42 true b2 rfl rfl rfl (by kernel_rfl) (fun v w h => h _ rfl) (fun hg => ?s17) (fun h v w => factG_mk rfl fun e => absurd e h),
             gs_guard 7 42 true b2 rfl rfl rfl (by kernel_rfl) (fun v w h => h _ rfl) (fun hg => ?s18) (fun h v w => factG_mk rfl fun e => absurd e h),
             gs_guard 7 42 true b2 rfl rfl rfl (by kernel_rfl) (fun v w h => h _ rfl) (fun hg => ?s19) (fun h v w => factG_mk rfl fun e => absurd e h),
             gs_guard 7 42 true b2 rfl rfl rfl (by kernel_rfl) (fun v w h => h _ rfl) (fun hg => ?s20) (fun h v w => factG_mk rfl fun e => absurd e h),
             gs_plain rfl ?s21, trivial⟩ ?fin
          case s0 =>
            intro A w' K hb hfar hd hK
            have e1 : A.tmps[1]?.getD undef = .slice o5 s.length cap5 := hfar 1 (by decide)
            unfold Oper.wp
            simp [execOp, e1, go_sem, Result.andThen]
            exact hK _ _ (Below.refl _ _) (factG_mk rfl rfl)
          case s1 =>
            intro A w' K hb hfar hd hK
            have e1 : A.tmps[35]?.getD undef = .slice o5 s.length cap5 := hd 0 35 rfl (by kernel_rfl) _ rfl
            unfold Oper.wp
            simp [execOp, e1, go_sem, Result.andThen]
            exact hK _ _ (Below.refl _ _) (factG_mk rfl rfl)
          case s2 =>
            intro A w' K hb hfar hd hK
            have e1 : A.tmps[36]?.getD undef = .int .i64 (s.length : Int) := hd 1 36 rfl (by kernel_rfl) _ rfl
            have e2 := Hb1.out
            unfold Oper.wp
            simp [execOp, e1, go_sem, Result.andThen]
            exact hK _ _ (Below.refl _ _) (factG_mk rfl (congrArg Value.bool e2))
          case s3 =>
            intro A w' K hb hfar hd hK
            have e1 : A.tmps[37]?.getD undef = .bool b1 := hd 2 37 rfl (by kernel_rfl) _ rfl
            unfold Oper.wp
            simp [execOp, e1, go_sem, Result.andThen]
            exact hK _ _ (Below.refl _ _) (factG_mk rfl rfl)
          case s4 =>
            intro A w' K hb hfar hd hK
            have e1 : A.tmps[1]?.getD undef = .slice o5 s.length cap5 := hfar 1 (by decide)
            unfold Oper.wp
            simp [execOp, e1, go_sem, Result.andThen]
            exact hK _ _ (Below.refl _ _) (factG_mk rfl fun _ => rfl)
          case s5 =>
            intro A w' K hb hfar hd hK
            have e1 : A.tmps[39]?.getD undef = .slice o5 s.length cap5 := hd 4 39 rfl (by kernel_rfl) _ rfl hg
            unfold Oper.wp
            simp [execOp, e1, go_sem, Result.andThen]
            refine (once12_c s _ w' (SlOf.int HS3.out (drewB hb) (drewB hb).size)).mono ?_
            rintro e3 w4 ⟨rfl, hq⟩
            exact hK _ _ hq.below (factG_mk rfl fun _ => congrArg Value.bool Hon.out)
          case s6 =>
            intro A w' K hb hfar hd hK
            have e1 : A.tmps[38]?.getD undef = .bool b1 := hd 3 38 rfl (by kernel_rfl) _ rfl
            have e2 : b1 = true → A.tmps[40]?.getD undef = .bool on := hd 5 40 rfl (by kernel_rfl) _ rfl
            have e3 := Hb2.out
            cases b1 with
            | true =>
              have e2 := e2 rfl
              unfold Oper.wp
              simp [execOp, e1, e2, go_sem, Result.andThen]
              exact hK _ _ (Below.refl _ _) (factG_mk rfl (congrArg Value.bool ((Bool.true_and on).symm.trans e3)))
            | false =>
              unfold Oper.wp
              simp [execOp, e1, go_sem, Result.andThen]
              exact hK _ _ (Below.refl _ _) (factG_mk rfl (congrArg Value.bool e3))
          case s7 =>
            intro A w' K hb hfar hd hK
            have e1 : A.tmps[41]?.getD undef = .bool b2 := hd 6 41 rfl (by kernel_rfl) _ rfl
            unfold Oper.wp
            simp [execOp, e1, go_sem, Result.andThen]
            exact hK _ _ (Below.refl _ _) (factG_mk rfl rfl)
          case s8 =>
            intro A w' K hb hfar hd hK
            have e1 : A.tmps[0]?.getD undef = .slice (some a) n cap1 := hfar 0 (by decide)
            unfold Oper.wp
            simp [execOp, e1, go_sem, Result.andThen]
            exact hK _ _ (Below.refl _ _) (factG_mk rfl fun _ => rfl)
          case s9 =>
            intro A w' K hb hfar hd hK
            have e1 : A.tmps[6]?.getD undef = .int .i64 (k : Int) := hfar 6 (by decide)
            unfold Oper.wp
            simp [execOp, e1, go_sem, Result.andThen]
            exact hK _ _ (Below.refl _ _) (factG_mk rfl fun _ => rfl)
          case s10 =>
            intro A w' K hb hfar hd hK
            have e1 : A.tmps[43]?.getD undef = .slice (some a) n cap1 := hd 8 43 rfl (by kernel_rfl) _ rfl hg
            have e2 : A.tmps[44]?.getD undef = .int .i64 (k : Int) := hd 9 44 rfl (by kernel_rfl) _ rfl hg
            unfold Oper.wp
            simp [execOp, e1, e2, hk0, hlt', go_sem, Result.andThen]
            exact hK _ _ (Below.refl _ _) (factG_mk rfl fun _ => rfl)
          case s11 =>
            intro A w' K hb hfar hd hK
            have e1 : A.tmps[45]?.getD undef = .pointer (some (a.add k)) := hd 10 45 rfl (by kernel_rfl) _ rfl hg
            have c0 : w'.cell? (a.add k) = some (.slice oo o.length oc) := ((drewB hb).cell (by rw [addBlock]; exact hbl3)).trans C3.out
            unfold Oper.wp
            simp [execOp, e1, c0, go_sem, Result.andThen]
            exact hK _ _ (Below.refl _ _) (factG_mk rfl fun _ => rfl)
          case s12 =>
            intro A w' K hb hfar hd hK
            have e1 : A.tmps[1]?.getD undef = .slice o5 s.length cap5 := hfar 1 (by decide)
            unfold Oper.wp
            simp [execOp, e1, go_sem, Result.andThen]
            exact hK _ _ (Below.refl _ _) (factG_mk rfl fun _ => rfl)
          case s13 =>
            intro A w' K hb hfar hd hK
            have e1 : A.tmps[46]?.getD undef = .slice oo o.length oc := hd 11 46 rfl (by kernel_rfl) _ rfl hg
            have e2 : A.tmps[47]?.getD undef = .slice o5 s.length cap5 := hd 12 47 rfl (by kernel_rfl) _ rfl hg
            have h20 : s.length ≤ 1000000 := by
              have x1 := Hb2.out
              rw [hg] at x1
              have x2 := (Bool.and_eq_true _ _ ▸ x1).1
              have x3 := Hb1.out
              rw [x2, decide_eq_true_eq] at x3
              omega
            unfold Oper.wp
            simp [execOp, e1, e2, go_sem, Result.andThen]
            refine (serves_c o s _ _ w' h20 (SlOf.int HX3.out (drewB hb) (drewB hb).size) (SlOf.int HS3.out (drewB hb) (drewB hb).size)).mono ?_
            rintro e3 w4 ⟨rfl, hq⟩
            exact hK _ _ hq (factG_mk rfl fun _ => rfl)
          case s14 =>
            intro A w' K hb hfar hd hK
            have e1 : A.tmps[0]?.getD undef = .slice (some a) n cap1 := hfar 0 (by decide)
            unfold Oper.wp
            simp [execOp, e1, go_sem, Result.andThen]
            exact hK _ _ (Below.refl _ _) (factG_mk rfl fun _ => rfl)
          case s15 =>
            intro A w' K hb hfar hd hK
            have e1 : A.tmps[6]?.getD undef = .int .i64 (k : Int) := hfar 6 (by decide)
            unfold Oper.wp
            simp [execOp, e1, go_sem, Result.andThen]
            exact hK _ _ (Below.refl _ _) (factG_mk rfl fun _ => rfl)
          case s16 =>
            intro A w' K hb hfar hd hK
            have e1 : A.tmps[49]?.getD undef = .slice (some a) n cap1 := hd 14 49 rfl (by kernel_rfl) _ rfl hg
            have e2 : A.tmps[50]?.getD undef = .int .i64 (k : Int) := hd 15 50 rfl (by kernel_rfl) _ rfl hg
            unfold Oper.wp
            simp [execOp, e1, e2, hk0, hlt', go_sem, Result.andThen]
            exact hK _ _ (Below.refl _ _) (factG_mk rfl fun _ => rfl)
          case s17 =>
            intro A w' K hb hfar hd hK
            have e1 : A.tmps[51]?.getD undef = .pointer (some (a.add k)) := hd 16 51 rfl (by kernel_rfl) _ rfl hg
            have c0 : w'.cell? (a.add k) = some (.slice oo o.length oc) := ((drewB hb).cell (by rw [addBlock]; exact hbl3)).trans C3.out
            unfold Oper.wp
            simp [execOp, e1, c0, go_sem, Result.andThen]
            exact hK _ _ (Below.refl _ _) (factG_mk rfl fun _ => rfl)
          case s18 =>
            intro A w' K hb hfar hd hK
            have e1 : A.tmps[1]?.getD undef = .slice o5 s.length cap5 := hfar 1 (by decide)
            unfold Oper.wp
            simp [execOp, e1, go_sem, Result.andThen]
            exact hK _ _ (Below.refl _ _) (factG_mk rfl fun _ => rfl)
          case s19 =>
            intro A w' K hb hfar hd hK
            have e1 : A.tmps[52]?.getD undef = .slice oo o.length oc := hd 17 52 rfl (by kernel_rfl) _ rfl hg
            have e2 : A.tmps[53]?.getD undef = .slice o5 s.length cap5 := hd 18 53 rfl (by kernel_rfl) _ rfl hg
            unfold Oper.wp
            simp [execOp, e1, e2, go_sem, Result.andThen]
            refine (serves12_c o s _ _ w' (SlOf.int HX3.out (drewB hb) (drewB hb).size) (SlOf.int HS3.out (drewB hb) (drewB hb).size)).mono ?_
            rintro e3 w4 ⟨rfl, rfl⟩
            exact hK _ _ (Below.refl _ _) (factG_mk rfl fun _ => rfl)
          case s20 =>
            intro A w' K hb hfar hd hK
            have e1 : A.tmps[48]?.getD undef = .bool (servesL o s) := hd 13 48 rfl (by kernel_rfl) _ rfl hg
            have e2 : A.tmps[54]?.getD undef = .bool (servesL o s) := hd 19 54 rfl (by kernel_rfl) _ rfl hg
            unfold Oper.wp
            simp [execOp, e1, e2, go_sem, Result.andThen]
            exact hK _ _ (Below.refl _ _) (factG_mk rfl fun _ => by simp)
          case s21 =>
            intro A w' K hb hfar hd hK
            have e1 : A.tmps[42]?.getD undef = .bool b2 := hd 7 42 rfl (by kernel_rfl) _ rfl
            have e2 : b2 = true → A.tmps[55]?.getD undef = .bool false := hd 20 55 rfl (by kernel_rfl) _ rfl
            cases b2 with
            | true =>
              have e2 := e2 rfl
              unfold Oper.wp
              simp [execOp, e1, e2, go_sem, Result.andThen]
              exact hK _ _ (Below.refl _ _) (factG_mk rfl rfl)
            | false =>
              unfold Oper.wp
              simp [execOp, e1, go_sem, Result.andThen]
              exact hK _ _ (Below.refl _ _) (factG_mk rfl rfl)
          case fin =>
            intro val w4 hF hb
            have HB4 := Lib.hid (HB3.out.trans ((drewB hb).mono HB3.out.size))
            have v21 := hF 21 56 rfl _ rfl
            simp only [slotsSv, putsA, Nat.zero_add, Nat.reduceAdd]
            rw [show val 21 = .bool false from v21]
            clear hF hb v21
            go_simp
            go_wp2
            go_roundw
            case rel => exact ⟨k + 1, hlt, by go_num, HB4⟩
            case measure => simp [intOf]; omega
    · have hlt' : ¬ (k : Int) < (n : Int) := by omega
      obtain rfl : k = n := by omega
      have HC := Lib.hid (once12_c s (.slice o5 s.length cap5) wr (SlOf.int HS.out HB.out HB.out.size))
      by_cases h20 : (s.length : Int) > 20
      · go_wp2
        go_ret
        exact ⟨rfl, HB.out⟩
      · go_wp2_with fail
        refine HC.out.mono ?_
        rintro e w3 ⟨rfl, hq⟩
        have HB3 := Lib.hid (HB.out.trans (hq.below.mono HB.out.size))
        clear hq HC
        cases hon : onceL s with
        | false =>
          clear hon
          go_wp2
          go_ret
          exact ⟨rfl, HB3.out⟩
        | true =>
          clear hon
          have HW := Lib.hid (which_c M s (.slice o1 k cap1) (.slice o5 s.length cap5) w3 (by omega) (SetsS.past HM.out HB3.out) (SlOf.int HS.out HB3.out HB3.out.size))
          go_wp2_with fail
          refine HW.out.mono ?_
          rintro e w4 ⟨rfl, hb4⟩
          have HB4 := Lib.hid (HB3.out.trans (hb4.mono HB3.out.size))
          have HW2 := Lib.hid (which12_c M s (.slice o1 k cap1) (.slice o5 s.length cap5) w4 (SetsS.past HM.out HB4.out) (SlOf.int HS.out HB4.out HB4.out.size))
          clear hb4 HW
          cases hw : whichL M s with
          | none =>
            rw [hw] at HW2
            clear hw
            unfold whichV
            go_wp2_with fail
            refine HW2.out.mono ?_
            rintro e w5 ⟨rfl, rfl⟩
            unfold whichV
            clear HW2
            go_wp2
            go_ret
            exact ⟨rfl, HB4.out⟩
          | some q =>
            rw [hw] at HW2
            clear hw
            unfold whichV
            go_wp2_with fail
            refine HW2.out.mono ?_
            rintro e w5 ⟨rfl, rfl⟩
            unfold whichV
            clear HW2
            go_wp2
            go_ret
            exact ⟨rfl, HB4.out⟩
end Go.Proofs.Ytiljpacmkmmlcaa

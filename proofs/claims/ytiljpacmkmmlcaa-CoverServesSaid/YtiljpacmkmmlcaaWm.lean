/- cover.chainsOf: the walk. -/
import Derived.Test.YtiljpacmkmmlcaaWl
set_option linter.unusedSimpArgs false
set_option linter.unusedVariables false
namespace Go.Proofs.Ytiljpacmkmmlcaa
open Go.RowKit Go.Shelf

attribute [local go_sem] Oper.semAt_some

def ChainsR (ms : List Nat) (w : World) (e : Ending) (w' : World) : Prop :=
  ∃ (cv : Value) (vs : List Value) (cs : List (List Nat)), e = .returned cv ∧ ChS w.heap.size w' cv vs cs ∧ Chains ms cs
theorem chains_nil : Chains [] [[]] := ⟨.inl ⟨rfl, rfl⟩, fun c hc => by have : c = [] := by simpa using hc
                                                                        subst this; exact List.Pairwise.nil, fun c hc m hm => by have : c = [] := by simpa using hc
                                                                                                                                 subst this; simp at hm, fun m hm => by simp at hm⟩
/-- A chain that is being laid: what it holds, who is next. -/
def LayI (ms : List Nat) (B : Bh) (r : Nat) (W0 : World) (v nv bv : Value) (W : World) : Prop :=
  ∃ l : List Nat, l[0]? = some r ∧ (∀ (i x y : Nat), l[i]? = some x → l[i + 1]? = some y → B x = some y) ∧ (∃ x, l[l.length - 1]? = some x ∧ nv = .int .u64 (((B x).map (VL ms)).getD 0 : Nat) ∧ bv = .bool ((B x).map (VL ms)).isSome) ∧ (∀ x ∈ l, x < ms.length) ∧ (∀ (i x : Nat), l[i]? = some x → i ≤ VL ms x) ∧
    W.ownsRow W0.heap.size 54 1 v l.length (mvL (l.map (VL ms))) ∧ Below W0.heap.size W0 W
theorem own_inj {i g o n cap : Nat} (h : some i = Value.ownBlock (.slice (some ⟨g, o, none⟩) n cap)) : i = g := Option.some.inj h
theorem own_inj' {i g o n cap : Nat} (h : Value.ownBlock (.slice (some ⟨g, o, none⟩) n cap) = some i) : g = i := Option.some.inj h
def layM (nv : Value) : Value → Nat
  | .bool true => 257 - (intOf nv).toNat
  | _ => 0
theorem lay_next {ms : List Nat} {B : Bh} {r x y : Nat} {l : List Nat} {W0 W' : World} {v' : Value} {n b : Value} {K : Nat → Prop} {U : List Nat} (hK : KuS ms.length (RM ms) B K U ms.length) (h0 : l[0]? = some r) (hs : ∀ (i x y : Nat), l[i]? = some x → l[i + 1]? = some y → B x = some y) (hx : l[l.length - 1]? = some x) (hxy : B x = some y) (hl : ∀ x ∈ l, x < ms.length) (hr : ∀ (i x : Nat), l[i]? = some x → i ≤ VL ms x)
    (hn : n = .int .u64 (((B y).map (VL ms)).getD 0 : Nat)) (hb : b = .bool ((B y).map (VL ms)).isSome) (ho : W'.ownsRow W0.heap.size 54 1 v' (l.length + 1) (mvL (l.map (VL ms)) ++ [.int .u64 (VL ms y : Int)])) (hbl : Below W0.heap.size W0 W') : LayI ms B r W0 v' n b W' := by
  have hy := (hK.m.ok x y (fun h => h) hxy)
  have hpos : 0 < l.length := by have := (List.getElem?_eq_some_iff.1 hx).1; omega
  refine ⟨l ++ [y], by rw [List.getElem?_append_left hpos]; exact h0, fun i p q hp hq => ?_, ⟨y, by rw [List.length_append, List.length_singleton, Nat.add_sub_cancel, List.getElem?_append_right (Nat.le_refl _), Nat.sub_self]; rfl, hn, hb⟩, fun p hp => ?_, fun i p hp => ?_, ?_, hbl⟩
  · have hq1 := (List.getElem?_eq_some_iff.1 hq).1
    rw [List.length_append, List.length_singleton] at hq1
    rw [List.getElem?_append_left (by omega)] at hp
    by_cases e : i + 1 = l.length
    · rw [List.getElem?_append_right (by omega), e, Nat.sub_self] at hq
      have e2 : y = q := by simpa using hq
      subst e2
      rw [show i = l.length - 1 by omega, hx] at hp
      cases hp
      exact hxy
    · rw [List.getElem?_append_left (by omega)] at hq
      exact hs i p q hp hq
  · rcases List.mem_append.1 hp with hp | hp
    · exact hl p hp
    · rw [List.mem_singleton.1 hp]; exact hy.1
  · by_cases e : i < l.length
    · rw [List.getElem?_append_left e] at hp
      exact hr i p hp
    · have h1 := (List.getElem?_eq_some_iff.1 hp).1
      rw [List.length_append, List.length_singleton] at h1
      rw [List.getElem?_append_right (by omega), show i - l.length = 0 by omega] at hp
      have e2 : y = p := by simpa using hp
      subst e2
      have h2 := hr _ x hx
      have h3 : VL ms x < VL ms y := below_lt hy.2.2
      omega
  · rw [List.length_append, List.map_append, List.map_singleton, mvL_snoc]
    exact ho
set_option linter.unusedSimpArgs false in
set_option maxRecDepth 100000 in
set_option maxHeartbeats 16000000 in
theorem chainsOf_c (ms : List Nat) (sv : Value) (w : World) (h60 : ms.length ≤ 60) (hnd : ms.Nodup) (h256 : ∀ m ∈ ms, m < 256) (hs : MsS w w.heap.size ms sv) :
    Calls Try.prog 25 #[sv] w fun e w' => ChainsR ms w e w' ∧ Below w.heap.size w w' := by
  refine callsIn_wide (n := 8).1 ?_
  obtain ⟨i0, hi, hz0, hz1, hz2⟩ := info_parts infoU
  obtain ⟨i1, hi1, hy0, hy1, hy2⟩ := info_parts infoM
  have HS := Lib.hid hs
  have HND := Lib.hid hnd
  have H256 : Hid (∀ i, i < ms.length → VL ms i < 256) := Lib.hid (fun i hi => h256 _ (List.mem_of_getElem? (VL_at hi)))
  have H256' := Lib.hid h256
  have HP := Lib.hid (pileUp_c ms sv w h60 hnd h256 hs)
  obtain ⟨o1, cap1, rfl, hc1, hm1, S1⟩ := SlOf.open hs
  by_cases h0 : ms.length = 0
  · have h0' : (ms.length : Int) = 0 := by omega
    have hms : ms = [] := List.length_eq_zero_iff.1 h0
    have Hms := Lib.hid hms
    clear hs hnd h256 hms h0
    refine callsIn_of_wp_marks Try.func25 rfl trivial ?_ rfl
    simp only [Try.ntmps25, List.size_toArray, List.length_cons, List.length_nil, Nat.reduceAdd, Nat.reduceSub, Array.replicate_succ, Array.replicate_zero, List.push_toArray, List.append_toArray, List.nil_append, List.cons_append]
    gi_wp2
    refine ⟨_, results_tmp rfl _ _ _, ⟨.slice (some ⟨w.heap.size, 0, none⟩) 1 1, [.slice none 0 0], [[]], rfl, ⟨World.ownsRow_lit w #[.slice none 0 0] 1 (Nat.le_refl _) (by decide) rfl, fun i v c hv hc => ?_, fun i j v u hij hv hu => ?_⟩, by rw [Hms.out]; exact chains_nil⟩, (Below.refl _ w).alloc (Nat.le_refl _) _⟩
    · have h1 : i = 0 := by have := (List.getElem?_eq_some_iff.1 hv).1; simp at this; omega
      subst h1
      have e1 : Value.slice none 0 0 = v := by simpa using hv
      have e2 : ([] : List Nat) = c := by simpa using hc
      subst e1; subst e2
      exact World.ownsRow_nil _ _ _ _
    · have h1 := (List.getElem?_eq_some_iff.1 hv).1
      have h2 := (List.getElem?_eq_some_iff.1 hu).1
      simp at h1 h2
      omega
  · have h0' : ¬ (ms.length : Int) = 0 := by omega
    have H0 : Hid (ms ≠ []) := Lib.hid (fun e => h0 (by rw [e]; rfl))
    obtain ⟨sv, hsv⟩ : ∃ sv, Value.slice o1 ms.length cap1 = sv := ⟨_, rfl⟩
    rw [hsv] at HS HP
    have Hsv := Lib.hid hsv
    have HPs : Hid (Calls Try.prog 33 #[.slice o1 ms.length cap1] w fun e w' => (∃ Ma Mb, e = .returned (.agg #[.map (some Ma), .map (some Mb)]) ∧ w.heap.size ≤ Ma ∧ w.heap.size ≤ Mb ∧ PuS ms Ma Mb ms.length w') ∧ Below w.heap.size w w') := Lib.hid (by rw [hsv]; exact HP.out)
    clear hs hnd h256 hsv h0 HP
    refine callsIn_of_wp_marks Try.func25 rfl trivial ?_ rfl
    simp only [Try.ntmps25, List.size_toArray, List.length_cons, List.length_nil, Nat.reduceAdd, Nat.reduceSub, Array.replicate_succ, Array.replicate_zero, List.push_toArray, List.append_toArray, List.nil_append, List.cons_append]
    gi_wp2_with fail
    refine ⟨trivial, (callsIn_wide.2 HPs.out).mono ?_⟩
    rintro e w1 ⟨⟨Ma, Mb, rfl, hMa, hMb, B, bel, K, U, f, g, ca, cb, hKu, hInv, hAf, hAg, hma, hmb, _, _⟩, hb1⟩
    obtain ⟨n1, hn1⟩ : ∃ n1, w1.heap.size = n1 := ⟨_, rfl⟩
    have Hn1 := Lib.hid hn1
    have HKu := Lib.hid hKu
    have HInv := Lib.hid hInv
    have HAf := Lib.hid hAf
    have HAg := Lib.hid hAg
    have Hma := Lib.hid hma
    have Hmb := Lib.hid hmb
    have HB1 := Lib.hid hb1
    have hMa1 : Ma < n1 := by rw [← hn1]; exact hma.lt
    have hMb1 : Mb < n1 := by rw [← hn1]; exact hmb.lt
    have hwn : w.heap.size ≤ n1 := by rw [← hn1]; exact hb1.size
    clear hKu hInv hAf hAg hma hmb hb1 hn1
    gi_wp2_with fail
    refine ⟨trivial, (values_in 7 _ _ _ _).mono ?_⟩
    rintro e WL ⟨rfl, hWL⟩
    have HI0 : Hid (CoI w sv ms B bel Ma Mb ca cb f g n1 0 WL) := Lib.hid (by
      rw [Hsv.out] at hWL
      have q1 := Hn1.out
      have hbl : Below w1.heap.size w1 WL := by
        rw [hWL]
        exact (((Below.refl _ w1).alloc (Nat.le_refl _) _).alloc (by simp) _).alloc (by simp <;> omega) _
      refine ⟨⟨HB1.out.trans (hbl.mono HB1.out.size), ?_⟩, ?_, ⟨.slice none 0 0, [], [], ?_, ChS.nil _ _, CsOk.zero _ _⟩, mu_below Hma.out hbl, mu_below Hmb.out hbl, Nat.zero_le _⟩
      · rw [hWL]; exact newRow (by simp; omega)
      · rw [hWL]; exact row_more (row_more (newRow q1) _) _
      · rw [hWL]; exact row_more (newRow (by simp; omega)) _)
    have HZL : Hid (WL.heap.size = n1 + 3) := Lib.hid (by rw [hWL]; simp; have := Hn1.out; omega)
    clear hWL
    have q1 := Hn1.out
    rw [q1]
    have e3 : ((w1.alloc (.cells #[.map (some Ma), .map (some Mb)] 60)).alloc (.cells #[.slice none 0 0] 47)).heap.size = n1 + 2 := by simp; omega
    rw [e3]
    clear e3
    gi_wp2_with fail
    refine range_moves2 rfl (by omega) (gf := 41) (bd := #[]) (lb := #[.pointer (some ⟨n1 + 2, 0, none⟩)]) rfl trivial (enters_of Try.func41 (by kernel_rfl) rfl)
      (values_moves 7 (by omega) ms sv w (n1 + 2) HS.out) (fun _ => rfl)
      (fun x W => ∃ j, x.1 = j + 1 ∧ CoI w sv ms B bel Ma Mb ca cb f g n1 j W ∧ ms[j]? = some x.2)
      (fun x W => CoI w sv ms B bel Ma Mb ca cb f g n1 x.1 W)
      (fun _ _ => False)
      (fun W => CoI w sv ms B bel Ma Mb ca cb f g n1 ms.length W)
      (fun x a' W => ∃ (j : Nat) (t0 t1 t2 t6 t7 t8 t9 t10 t11 t12 t13 t14 t15 t16 t17 t18 t19 t20 t21 t22 t23 t24 t25 t26 t27 t28 t29 t30 t31 t32 t33 t34 t35 t36 t37 t38 t39 t40 t41 t42 t43 t44 t45 t46 t47 t48 t49 t50 t51 t52 t53 : Value), x.1 = j + 1 ∧ CoI w sv ms B bel Ma Mb ca cb f g n1 j W ∧ ms[j]? = some x.2 ∧ a' = { tmps := #[t0, t1, t2, .pointer (some ⟨n1, 0, none⟩), .pointer (some ⟨n1 + 1, 0, none⟩), .int .u64 (x.2 : Int), t6, t7, t8, t9, t10, t11, t12, t13, t14, t15, t16, t17, t18, t19, t20, t21, t22, t23, t24, t25, t26, t27, t28, t29, t30, t31, t32, t33, t34, t35, t36, t37, t38, t39, t40, t41, t42, t43, t44, t45, t46, t47, t48, t49, t50, t51, t52, t53], defers := [] })
      ?fB ?fX ?fZ ?fM ?h0 ?hB ?assign ?body ?done ?stop
    case fB =>
      rintro x W W' hp hI
      exact hI.put hp (by rw [HZL.out]; omega) hwn hMa1 hMb1
    case fX => exact fun _ _ _ _ h => h.elim
    case fZ =>
      rintro W W' hp hI
      exact hI.put hp (by rw [HZL.out]; omega) hwn hMa1 hMb1
    case fM =>
      rintro x a' W W' hp ⟨j, t0, t1, t2, t6, t7, t8, t9, t10, t11, t12, t13, t14, t15, t16, t17, t18, t19, t20, t21, t22, t23, t24, t25, t26, t27, t28, t29, t30, t31, t32, t33, t34, t35, t36, t37, t38, t39, t40, t41, t42, t43, t44, t45, t46, t47, t48, t49, t50, t51, t52, t53, h1, h2, h3, h4⟩
      exact ⟨j, t0, t1, t2, t6, t7, t8, t9, t10, t11, t12, t13, t14, t15, t16, t17, t18, t19, t20, t21, t22, t23, t24, t25, t26, t27, t28, t29, t30, t31, t32, t33, t34, t35, t36, t37, t38, t39, t40, t41, t42, t43, t44, t45, t46, t47, t48, t49, t50, t51, t52, t53, h1, h2.put hp (by rw [HZL.out]; omega) hwn hMa1 hMb1, h3, h4⟩
    case h0 =>
      intro o o'
      exact HI0.out.below (((Below.refl _ _).alloc (Nat.le_refl _) _).alloc (by simp) _)
    case hB =>
      rintro x W1 hI
      refine ⟨⟨hI.og, hI.le⟩, ?_, ?_⟩
      · rintro x' W2 ⟨t1, t2, t3⟩
        exact ⟨keepsB t3 _, x.1, t1, hI.below t3, t2⟩
      · rintro W2 ⟨t1, t2⟩
        have h3 := hI.below t2
        rw [t1] at h3
        exact ⟨keepsB t2 _, h3⟩
    case assign =>
      rintro lp x W ⟨j, h1, h2, h3⟩
      have H2 := Lib.hid h2
      clear h2
      gi_wp2
      exact ⟨KeepsFrom.refl _ _, j, _, _, _, _, _, _, _, _, _, _, _, _, _, _, _, _, _, _, _, _, _, _, _, _, _, _, _, _, _, _, _, _, _, _, _, _, _, _, _, _, _, _, _, _, _, _, _, _, _, _, _, h1, H2.out, h3, by trivial⟩
    case body =>
      rintro lp x a' W ⟨j, t0, t1, t2, t6, t7, t8, t9, t10, t11, t12, t13, t14, t15, t16, t17, t18, t19, t20, t21, t22, t23, t24, t25, t26, t27, t28, t29, t30, t31, t32, t33, t34, t35, t36, t37, t38, t39, t40, t41, t42, t43, t44, t45, t46, t47, t48, t49, t50, t51, t52, t53, h1, h2, h3, rfl⟩
      obtain ⟨xk, y⟩ := x
      simp only at h1 h3
      subst h1
      have hjl : j < ms.length := (List.getElem?_eq_some_iff.1 h3).1
      have ey : y = VL ms j := by
        have := VL_at hjl
        rw [h3] at this
        exact Option.some.inj this
      subst ey
      have H2 := Lib.hid h2
      have hy256 := H256.out j hjl
      have c0 : W.cell? ⟨n1, 0, none⟩ = some (.map (some Ma)) := (row_cell h2.b3 0).1
      have c1 : W.cell? ⟨n1, 1, none⟩ = some (.map (some Mb)) := (row_cell h2.b3 1).1
      have l1 := heapLt h2.b3
      have hlb := (mapU_look W 58 54 54 Try.underlying58 Try.underlying54 Try.underlying54 (zeroU _) Mb cb _ h2.mb (VL ms j) hy256).1
      rw [HAg.out j hjl] at hlb
      clear h2 h3
      cases hbj : bel j with
      | some z =>
        rw [hbj] at hlb
        have e1 : ((some z : Option Nat).map (VL ms)).getD 0 = VL ms z := rfl
        have e2 : ((some z : Option Nat).map (VL ms)).isSome = true := rfl
        rw [e1, e2] at hlb
        have HE : Hid (CoI w sv ms B bel Ma Mb ca cb f g n1 (j + 1) W) := Lib.hid (H2.out.skip hjl hbj)
        clear hbj e1 e2
        gi_wp2
        exact ⟨KeepsFrom.refl _ _, HE.out⟩
      | none =>
        rw [hbj] at hlb
        have e1 : ((none : Option Nat).map (VL ms)).getD 0 = 0 := rfl
        have e2 : ((none : Option Nat).map (VL ms)).isSome = false := rfl
        rw [e1, e2] at hlb
        have Hbj := Lib.hid hbj
        obtain ⟨W2, hW2⟩ : ∃ W2, W.alloc (.cells #[.int .u64 (VL ms j : Int)] 54) = W2 := ⟨_, rfl⟩
        have hb2 : Below W.heap.size W W2 := by rw [← hW2]; exact (Below.refl _ _).alloc (Nat.le_refl _) _
        have d0 : W2.cell? ⟨n1, 0, none⟩ = some (.map (some Ma)) := (row_cell ((hb2.block _ (heapLt H2.out.b3)).trans H2.out.b3) 0).1
        have dl : n1 < W2.heap.size := by have := hb2.size; omega
        have hla := (mapU_look W2 58 54 54 Try.underlying58 Try.underlying54 Try.underlying54 (zeroU _) Ma ca _ (mu_below H2.out.ma hb2) (VL ms j) hy256).1
        rw [HAf.out j hjl] at hla
        have HL0 : Hid (LayI ms B j W (.slice (some ⟨W.heap.size, 0, none⟩) 1 1) (.int .u64 (((B j).map (VL ms)).getD 0 : Nat)) (.bool ((B j).map (VL ms)).isSome) W2) := Lib.hid (by
          refine ⟨[j], rfl, fun i x y _ h => by simp at h, ⟨j, rfl, rfl, rfl⟩, fun x hx => by rw [List.mem_singleton.1 hx]; exact hjl, fun i x hx => ?_, ?_, hb2⟩
          · have := (List.getElem?_eq_some_iff.1 hx).1
            simp at this
            omega
          · rw [← hW2]
            exact World.ownsRow_lit W #[.int .u64 (VL ms j : Int)] 1 (Nat.le_refl _) (by decide) rfl)
        have HW2 := Lib.hid hW2
        obtain ⟨nv0, hnv0⟩ : ∃ nv0, ((B j).map (VL ms)).getD 0 = nv0 := ⟨_, rfl⟩
        obtain ⟨bv0, hbv0⟩ : ∃ bv0, ((B j).map (VL ms)).isSome = bv0 := ⟨_, rfl⟩
        rw [hnv0, hbv0] at hla HL0
        clear hbj e1 e2 hW2 hb2 hnv0 hbv0
        gi_wp2_with (rw [HW2.out])
        gi_loopw [8, 9, 10] (fun vv nv bv wr => ∃ v n b, v = vv ∧ n = nv ∧ b = bv ∧ Hid (LayI ms B j W v n b wr)) (fun _ nv bv _ => layM nv bv)
        case atStart => exact ⟨_, _, _, rfl, rfl, rfl, HL0⟩
        case round =>
          obtain ⟨v, n, b, rfl, rfl, rfl, hr⟩ := hrel
          obtain ⟨l, hl0, hls, ⟨x, hlx, hn, hb⟩, hlm, hlr, hlo, hlb2⟩ := hr.out
          have Hl0 := Lib.hid hl0
          have Hls := Lib.hid hls
          have Hlx := Lib.hid hlx
          have Hlm := Lib.hid hlm
          have Hlr := Lib.hid hlr
          have Hlo := Lib.hid hlo
          have Hlb := Lib.hid hlb2
          have hxn := hlm x (List.mem_of_getElem? hlx)
          have hll : l.length ≤ 256 := by
            have h1 := hlr _ x hlx
            have h2 := H256.out x hxn
            omega
          have hpos : 0 < l.length := by have := (List.getElem?_eq_some_iff.1 hlx).1; omega
          obtain ⟨gb, cap, hv, hgb⟩ := own_form hlo hpos
          subst hv
          clear hl0 hls hlx hlm hlr hlo hlb2 hr
          cases hBx : B x with
          | none =>
            rw [hBx] at hn hb
            have hb' : b = .bool false := hb
            subst hb'
            obtain ⟨nn, hnn⟩ : ∃ nn : Nat, n = .int .u64 (nn : Int) := ⟨_, hn⟩
            subst hnn
            have HCh : Hid (ChainB B j l) := Lib.hid ⟨Hl0.out, Hls.out, fun z hz => by rw [Hlx.out] at hz; cases hz; exact hBx⟩
            obtain ⟨cv, vs, cs, hrow, hch, hcs⟩ := H2.out.st
            have hrow1 := (Hlb.out.block _ (heapLt hrow)).trans hrow
            have r0 : wr.cell? ⟨n1 + 1, 0, none⟩ = some cv := (row_cell hrow1 0).1
            have rl := heapLt hrow1
            have HCH := Lib.hid hch
            have HCS := Lib.hid hcs
            have hcl : cs.length ≤ 60 := by
              rw [hcs.len]
              exact Nat.le_trans (List.length_filter_le ..) (by rw [List.length_range]; omega)
            have HOW : Hid (wr.ownsRow (n1 + 3) 44 1 cv cs.length vs) := Lib.hid (by
              have := (hch.below Hlb.out).own
              rwa [List.length_map] at this)
            have HRow1 := Lib.hid hrow1
            have HWL3 : Hid (n1 + 3 ≤ W.heap.size) := Lib.hid (by have := heapLt H2.out.og.one; omega)
            have HS1 : Hid (cs.length + 1 ≤ maxLen) := Lib.hid (by unfold maxLen; omega)
            have HS2 : Hid ((cs.length + 1) * 24 ≤ 140737488355328) := Lib.hid (by omega)
            have HS3 : Hid (n1 + 3 ≤ wr.heap.size) := Lib.hid (Nat.le_trans HWL3.out Hlb.out.size)
            have HLL : Hid (l.length = (l.map (VL ms)).length) := Lib.hid (List.length_map ..).symm
            clear hn hb hBx hrow hrow1 hch hcs
            gi_wp2_with (gi_at_builtin; refine wpListIn_append_own _ rfl (.tmp 49) (.tmp 51) 47 rfl (n1 + 3) 44 i1 _ 1 24 Try.underlying47 hi1 hy0 hy1 hy2 rfl (by decide) cv cs.length _ rfl (HOW.out.alloc _) _ 1 1 [.slice (some ⟨gb, 0, none⟩) l.length cap] rfl rfl (news_new _ _ _ _ rfl) (fun u hu => by simp at hu; subst hu; rfl) HS1.out HS2.out (by have := HS3.out; simp; omega) ?_; intro v' w3 hown' hgrow _; obtain ⟨g', cap', rfl, hgb'⟩ := own_form hown' (Nat.succ_pos _); have HG3 := Lib.hid hgrow; have HO3 := Lib.hid hown'; have hrow3 := ((grown_viaC HG3.out).block _ (heapLt HRow1.out) (fun e => by have := (HOW.out.lt _ e.symm).1; omega)).trans HRow1.out; have z1 := (row_cell hrow3 0).1; have z2 := (row_cell hrow3 0).2; have z3 := heapLt hrow3; have Hrow3 := Lib.hid hrow3; clear hgrow hown' hrow3)
            have HE : Hid (KeepsFrom WL.heap.size W (w3.setCell ⟨n1 + 1, 0, none⟩ (.slice (some ⟨g', 0, none⟩) (cs.length + 1) cap')) ∧ CoI w sv ms B bel Ma Mb ca cb f g n1 (j + 1) (w3.setCell ⟨n1 + 1, 0, none⟩ (.slice (some ⟨g', 0, none⟩) (cs.length + 1) cap'))) := Lib.hid (by
              obtain ⟨wa, hwa⟩ : ∃ wa, wr.alloc (.cells #[.slice (some ⟨gb, 0, none⟩) l.length cap] 44) = wa := ⟨_, rfl⟩
              have hba : Below wr.heap.size wr wa := by rw [← hwa]; exact (Below.refl _ _).alloc (Nat.le_refl _) _
              have hg3 := HG3.out
              rw [hwa] at hg3
              have hbW : Below W.heap.size W wa := Hlb.out.trans (hba.mono Hlb.out.size)
              have hsn := HCH.out.snoc (v := .slice (some ⟨gb, 0, none⟩) l.length cap) (cv' := .slice (some ⟨g', 0, none⟩) (cs.length + 1) cap') (c := l.map (VL ms)) (w1 := wa) (w3 := w3) hbW (by rw [List.length_map]; exact own_past Hlo.out hba) HWL3.out hg3 (by rw [List.length_map]; exact HO3.out)
              have hcv : ∀ q, cv.ownBlock = some q → n1 + 3 ≤ q := fun q hq => (HOW.out.lt q hq).1
              have hgs := grown_set w3 (n1 + 1) 0 (.slice (some ⟨g', 0, none⟩) (cs.length + 1) cap')
              have ha := H2.out.below hbW
              have ko : ∀ i o, wa.heap[i]? = some o → i < n1 + 3 → i ≠ n1 + 1 → (w3.setCell ⟨n1 + 1, 0, none⟩ (.slice (some ⟨g', 0, none⟩) (cs.length + 1) cap')).heap[i]? = some o := fun i o hi hlt hne => (setOther hne).trans ((hg3.block i (heapLt hi) (fun e => by have := hcv i e.symm; omega)).trans hi)
              have kb : ∀ i, i < n1 + 1 → (w3.setCell ⟨n1 + 1, 0, none⟩ (.slice (some ⟨g', 0, none⟩) (cs.length + 1) cap')).heap[i]? = wa.heap[i]? := fun i hi => (setOther (by omega)).trans (hg3.block i (by have := hba.size; omega) (fun e => by have := hcv i e.symm; omega))
              refine ⟨((keepsB hbW _).trans (keepsC hg3 (own_cellsB (own_past HOW.out hba)))).trans (KeepsFrom.of_grownBy hgs (fun q e => by have := Option.some.inj e; have := HZL.out; omega)), ⟨⟨?_, ko _ _ ha.og.one (by omega) (by omega)⟩, ko _ _ ha.b3 (by omega) (by omega), ⟨_, vs ++ [.slice (some ⟨gb, 0, none⟩) l.length cap], cs ++ [l], setRow Hrow3.out, ?_, HCS.out.snoc Hbj.out HCh.out⟩, ha.ma.same (kb _ (by omega)), ha.mb.same (kb _ (by omega)), hjl⟩⟩
              · exact (ha.og.b.grown hg3 ha.og.b.size (fun q hq => by have := hcv q hq; omega)).setCell (p := ⟨n1 + 1, 0, none⟩) (by show w.heap.size ≤ n1 + 1; omega) _
              · rw [List.map_append, List.map_singleton]
                exact hsn.kept hgs (fun q e => .inl (by have := Option.some.inj e; omega)))
            exact HE.out
          | some y =>
            rw [hBx] at hn hb
            have hb' : b = .bool true := hb
            have hn' : n = .int .u64 (VL ms y : Int) := hn
            subst hb'; subst hn'
            have hyn : y < ms.length := (HKu.out.m.ok x y (fun h => h) hBx).1
            have hy256' := H256.out y hyn
            have HBx := Lib.hid hBx
            have HS1 : Hid (l.length + 1 ≤ maxLen) := Lib.hid (by unfold maxLen; omega)
            have HS2 : Hid ((l.length + 1) * 8 ≤ 140737488355328) := Lib.hid (by omega)
            have HS3 := Lib.hid Hlb.out.size
            have hb3r := (Hlb.out.block _ (heapLt H2.out.b3)).trans H2.out.b3
            have HB3r := Lib.hid hb3r
            have Hmar := Lib.hid (mu_below H2.out.ma Hlb.out)
            have HaG : Hid (Ma < W.heap.size) := Lib.hid (by omega)
            have Hn1W : Hid (n1 < W.heap.size) := Lib.hid (heapLt H2.out.b3)
            obtain ⟨n2, hn2⟩ : ∃ n2, ((B y).map (VL ms)).getD 0 = n2 := ⟨_, rfl⟩
            obtain ⟨b2, hb2⟩ : ∃ b2, ((B y).map (VL ms)).isSome = b2 := ⟨_, rfl⟩
            have HN2 := Lib.hid hn2
            have HB2 := Lib.hid hb2
            clear hn hb hBx hb3r hn2 hb2
            gi_wp2_with (gi_at_builtin; refine wpListIn_append_own _ rfl (.tmp 45) (.tmp 47) 44 rfl W.heap.size 54 i0 _ 1 8 Try.underlying44 hi hz0 hz1 hz2 rfl (by decide) (.slice (some ⟨gb, 0, none⟩) l.length cap) l.length _ rfl (Hlo.out.alloc _) _ 1 1 [.int .u64 (VL ms y : Int)] rfl rfl (news_new _ _ _ _ rfl) (one_u64 _) HS1.out HS2.out (by have := HS3.out; simp; omega) ?_; intro v' w3 hown' hgrow _; obtain ⟨g', cap', rfl, hgb'⟩ := own_form hown' (Nat.succ_pos _); have HG3 := Lib.hid (grown_viaC hgrow); have HO3 := Lib.hid hown'; have hb33 := (HG3.out.block _ (heapLt HB3r.out) (fun e => by have := own_inj e; have := Hn1W.out; omega)).trans HB3r.out; have f0 := (row_cell hb33 0).1; have fl := heapLt hb33; have Hma3 := Lib.hid (Hmar.out.kept HG3.out (fun e => by have := own_inj e; have := HaG.out; omega)); have hlk3 := (mapU_look w3 58 54 54 Try.underlying58 Try.underlying54 Try.underlying54 (zeroU _) Ma ca _ Hma3.out (VL ms y) hy256').1; rw [HAf.out y hyn, HN2.out, HB2.out] at hlk3; clear hgrow hown' hb33)
            have HN := Lib.hid (lay_next (W' := w3) (v' := .slice (some ⟨g', 0, none⟩) (l.length + 1) cap') HKu.out Hl0.out Hls.out Hlx.out HBx.out Hlm.out Hlr.out rfl rfl HO3.out (Hlb.out.grown HG3.out HS3.out (fun q e => by have := own_inj' e; omega)))
            have Hlt : Hid (∀ z, B y = some z → VL ms y < VL ms z ∧ VL ms z < 256) := Lib.hid (fun z hz => ⟨below_lt (HKu.out.m.ok y z (fun h => h) hz).2.2, H256.out z (HKu.out.m.ok y z (fun h => h) hz).1⟩)
            have HM : Hid (layM (.int .u64 (((B y).map (VL ms)).getD 0 : Nat)) (.bool ((B y).map (VL ms)).isSome) < layM (.int .u64 (VL ms y : Int)) (.bool true)) := Lib.hid (by
              cases hby : B y with
              | none => show 0 < 257 - (VL ms y : Int).toNat; omega
              | some z => have := Hlt.out z hby; show 257 - ((VL ms z : Nat) : Int).toNat < 257 - (VL ms y : Int).toNat; omega)
            rw [HN2.out, HB2.out] at HN HM
            go_roundw
            case rel => exact ⟨_, _, _, rfl, rfl, rfl, HN⟩
            case measure => exact HM.out
    case done =>
      rintro D W hD hI hd
      obtain ⟨cv, vs, cs, hrow, hch, hcs⟩ := hI.st
      have r0 : W.cell? ⟨n1 + 1, 0, none⟩ = some cv := (row_cell hrow 0).1
      have rl := heapLt hrow
      have Hd := Lib.hid hd
      have HD := Lib.hid hD
      have HCH := Lib.hid hch
      have HCS := Lib.hid hcs
      have HBW := Lib.hid hI.og.b
      clear hI hd hrow hch hcs hD
      gi_wp2
      refine ⟨by simp, .inl ⟨_, _, rfl, run_takeDeferred Hd.out, ?_⟩⟩
      have hp : Put D W (W.putObj D (.deferred none)) := ⟨D, _, _, Nat.le_refl _, Hd.out, rfl, rfl, rfl⟩
      have hc := HCH.out.put hp
      refine ⟨_, results_tmp rfl _ _ _, ⟨cv, vs, _, rfl, ⟨⟨hc.own.1, hc.own.2.imp id fun ⟨g, cap, cur, a1, a2, a3⟩ => ⟨g, cap, cur, a1, by omega, a3⟩⟩, fun i v c h1 h2 => ?_, hc.sep⟩, chains_of H256'.out HKu.out HInv.out H0.out HCS.out⟩, put_gone HBW.out (by have := HD.out; have := HZL.out; omega)⟩
      have := hc.row i v c h1 h2
      exact ⟨this.1, this.2.imp id fun ⟨g, cap, cur, a1, a2, a3⟩ => ⟨g, cap, cur, a1, by omega, a3⟩⟩
    case stop => exact fun _ _ _ _ h => h.elim
end Go.Proofs.Ytiljpacmkmmlcaa

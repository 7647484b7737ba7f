/- dsafe: what is bound: has, hasAll, lacks, add; isAggregate, isReckoned. dsafe: how a part lies; isReady, invents. slices.Grow of names. slices.Concat of names; dsafe.part.binds. dsafe.part.isReady. dsafe.part.binds. -/
import Derived.Test.YtfcfehflocglpaaDoorKZn
import Derived.Test.YtfcfehflocglpaaDoorKYvis
import Derived.Test.YtfcfehflocglpaaDoorKYtp
import Derived.Test.YtfcfehflocglpaaDoorKSpr
import Derived.Lib.AppendZeros
import Derived.Test.YtfcfehflocglpaaDoorKYsh
namespace Go.Proofs.YtfcfehflocglpaaDoor
open Go.RowKit

set_option maxRecDepth 100000 in
set_option maxHeartbeats 4000000 in
theorem has_c (s : ByteArray) (hs : s.size ≤ maxLen) (M n c : Nat) (B : Bd) (w : World) (hM : MapI Tryd.prog w 9 3 M n B c) :
    Calls Tryd.prog 57 #[.map (some M), .string s] w fun e w' => e = .returned (.bool (hasZ B s)) ∧ w' = w := by
  have zE : ∀ w : World, (zeroValue 3).run Tryd.prog w = .ok (.int .i64 0) w := fun w => by kernel_rfl
  have HM := Lib.hid hM
  clear hM
  go_enter Tryd.func57, Tryd.ntmps57
  go_wp2_with (at_lookup; refine wpList_mapI_get _ rfl _ _ 93 rfl 9 3 Tryd.underlying93 Tryd.underlying9 Tryd.underlying3 (zE _) M n B c rfl HM.out s rfl hs ?_; intro _)
  go_ret
  exact ⟨rfl, rfl⟩
set_option maxRecDepth 100000 in
set_option maxHeartbeats 4000000 in
theorem hasAll_c (l : List ByteArray) (v : Value) (M n c : Nat) (B : Bd) (w : World) (hv : SlOf w w.heap.size 1 StrC l v) (hM : MapI Tryd.prog w 9 3 M n B c) :
    Calls Tryd.prog 128 #[.map (some M), v] w fun e w' => e = .returned (.bool (allZ B l)) ∧ w' = w := by
  have HM := Lib.hid hM
  obtain ⟨o1, k1, rfl, _, _, S1⟩ := SlOf.open hv
  clear hM hv
  have hB0 : Below w.heap.size w w := Below.refl _ _
  go_enter Tryd.func128, Tryd.ntmps128
  go_wp2
  go_loopw [9] (fun i wr => ∃ k : Nat, k ≤ l.length ∧ i = .int .i64 k ∧ allZ B (l.take k) = true ∧ wr = w) (fun i _ => l.length - (intOf i).toNat)
  case atStart => exact ⟨0, Nat.zero_le _, rfl, rfl, rfl⟩
  case round =>
    obtain ⟨k, hk, rfl, ha, rfl⟩ := hrel
    have Ha := Lib.hid ha
    clear ha
    by_cases hlt : k < l.length
    · have hlt' : (k : Int) < (l.length : Int) := by omega
      obtain ⟨x, hx⟩ : ∃ x, l[k]? = some x := ⟨l[k], List.getElem?_eq_getElem hlt⟩
      obtain ⟨p, rfl, hp, hsz, c0⟩ := str_at S1 hB0 hx
      have HX := Lib.hid (has_c x hsz M n c B wr HM.out)
      have Hst : Hid (allZ B (l.take (k + 1)) = hasZ B x) := Lib.hid (by
        have h := Ha.out
        unfold allZ at h ⊢
        rw [List.take_add_one, hx, List.all_append, h]
        simp)
      have Hx := Lib.hid (List.mem_of_getElem? hx)
      clear hx
      go_wp2_with fail
      refine HX.out.mono ?_
      rintro e w1 ⟨rfl, rfl⟩
      cases hb : hasZ B x with
      | true =>
        have Hst2 : Hid (allZ B (l.take (k + 1)) = true) := Lib.hid (by rw [Hst.out, hb])
        clear hb
        go_wp2
        go_roundw
        case rel => exact ⟨k + 1, hlt, by go_num, Hst2.out, by trivial⟩
        case measure => simp [intOf]; omega
      | false =>
        have Hq : Hid (allZ B l = false) := Lib.hid (by
          unfold allZ
          rw [List.all_eq_false]
          exact ⟨x, Hx.out, by rw [hb]; decide⟩)
        clear hb
        go_wp2
        go_ret
        exact ⟨by rw [Hq.out]; rfl, rfl⟩
    · have hlt' : ¬ (k : Int) < (l.length : Int) := by omega
      have Hq : Hid (allZ B l = true) := Lib.hid (by have h := Ha.out; rwa [List.take_of_length_le (by omega)] at h)
      go_wp2
      go_ret
      exact ⟨by rw [Hq.out]; rfl, rfl⟩
set_option maxRecDepth 100000 in
set_option maxHeartbeats 4000000 in
theorem lacks_c (t : Tm) (cs : List Value) (n₀ : Nat) (M n c : Nat) (B : Bd) (w : World) (hc : TmC w n₀ t cs) (hM : MapI Tryd.prog w 9 3 M n B c) :
    Calls Tryd.prog 112 #[.map (some M), .agg cs.toArray] w fun e w' => e = .returned (.bool (lacksZ B t)) ∧ Below w.heap.size w w' := by
  obtain ⟨v, rfl, _, hsz, _⟩ := hc.parts
  have hB0 : ∀ x : Obj, Hid (Below w.heap.size w (w.alloc x)) := fun x => Lib.hid ((Below.refl _ _).alloc (Nat.le_refl _) _)
  have HM := Lib.hid (fun x : Obj => has_c t.s hsz M n c B (w.alloc x) (hM.alloc x))
  clear hM hc
  unfold lacksZ
  by_cases h1 : t.op = 1
  · have hq : (t.op == 1) = true := by simp [h1]
    go_enter Tryd.func112, Tryd.ntmps112
    go_wp2_with fail
    refine (HM.out _).mono ?_
    rintro e w1 ⟨rfl, rfl⟩
    go_wp2
    go_ret
    exact ⟨by rw [hq]; simp, (hB0 _).out⟩
  · have hq : (t.op == 1) = false := by simp [h1]
    go_enter Tryd.func112, Tryd.ntmps112
    go_wp2
    go_ret
    exact ⟨by rw [hq]; simp, (hB0 _).out⟩
set_option maxRecDepth 100000 in
set_option maxHeartbeats 4000000 in
theorem isAgg_v (t : Lt) (v1 v2 v3 v4 v5 v6 v7 v8 v9 v10 : Value) (w : World) :
    Calls Tryd.prog 110 #[.agg #[.int .i64 t.op, v1, v2, v3, v4, v5, v6, v7, v8, v9, v10]] w fun e w' => e = .returned (.bool (aggO t.op)) ∧ Below w.heap.size w w' := by
  have hB0 : ∀ x : Obj, Hid (Below w.heap.size w (w.alloc x)) := fun x => Lib.hid ((Below.refl _ _).alloc (Nat.le_refl _) _)
  by_cases h3 : t.op = 7 ∨ t.op = 8 ∨ t.op = 9 ∨ t.op = 10
  · have Hq : Hid (aggO t.op = true) := Lib.hid (by unfold aggO; rcases h3 with h | h | h | h <;> rw [h] <;> rfl)
    rcases h3 with h3 | h3 | h3 | h3
    all_goals
      go_enter Tryd.func110, Tryd.ntmps110
      go_wp2
      go_ret
      exact ⟨by rw [Hq.out]; rfl, (hB0 _).out⟩
  · have g3 : t.op ≠ 7 := fun h => h3 (.inl h)
    have g4 : t.op ≠ 8 := fun h => h3 (.inr (.inl h))
    have g5 : t.op ≠ 9 := fun h => h3 (.inr (.inr (.inl h)))
    have g6 : t.op ≠ 10 := fun h => h3 (.inr (.inr (.inr h)))
    have Hq : Hid (aggO t.op = false) := Lib.hid (by unfold aggO; simp [g3, g4, g5, g6])
    clear h3
    go_enter Tryd.func110, Tryd.ntmps110
    go_wp2
    go_ret
    exact ⟨by rw [Hq.out]; rfl, (hB0 _).out⟩
theorem isAgg_c (t : Lt) (cs : List Value) (n₀ : Nat) (w : World) (hc : LtC w n₀ t cs) :
    Calls Tryd.prog 110 #[.agg cs.toArray] w fun e w' => e = .returned (.bool (aggO t.op)) ∧ Below w.heap.size w w' := by
  obtain ⟨o0, k0, o1, k1, o2, k2, rfl, _⟩ := hc.look
  exact isAgg_v t _ _ _ _ _ _ _ _ _ _ w
set_option maxRecDepth 100000 in
set_option maxHeartbeats 4000000 in
theorem isRck_c (t : Tm) (cs : List Value) (n₀ : Nat) (w : World) (hc : TmC w n₀ t cs) :
    Calls Tryd.prog 113 #[.agg cs.toArray] w fun e w' => e = .returned (.bool (rckT t)) ∧ Below w.heap.size w w' := by
  obtain ⟨v, rfl, _, hsz, _⟩ := hc.parts
  have hB0 : ∀ x : Obj, Hid (Below w.heap.size w (w.alloc x)) := fun x => Lib.hid ((Below.refl _ _).alloc (Nat.le_refl _) _)
  clear hc
  by_cases h3 : t.op = 5 ∨ t.op = 6 ∨ t.op = 7
  · have Hq : Hid (rckT t = true) := Lib.hid (by unfold rckT; rcases h3 with h | h | h <;> rw [h] <;> rfl)
    rcases h3 with h3 | h3 | h3
    all_goals
      go_enter Tryd.func113, Tryd.ntmps113
      go_wp2
      go_ret
      exact ⟨by rw [Hq.out]; rfl, (hB0 _).out⟩
  · have g3 : t.op ≠ 5 := fun h => h3 (.inl h)
    have g4 : t.op ≠ 6 := fun h => h3 (.inr (.inl h))
    have g5 : t.op ≠ 7 := fun h => h3 (.inr (.inr h))
    have Hq : Hid (rckT t = false) := Lib.hid (by unfold rckT; simp [g3, g4, g5])
    clear h3
    go_enter Tryd.func113, Tryd.ntmps113
    go_wp2
    go_ret
    exact ⟨by rw [Hq.out]; rfl, (hB0 _).out⟩
/-- A map's turns leave all cells. -/
theorem mapI_cells {P : Program} {w w' : World} {kT eT : TypeId} {B n : Nat} {f : List UInt8 → Int} {c : Nat} (h : MapI P w kT eT B n f c) (hg : w.grownBy w' (some B)) {p : Addr} {v : Value} (hp : w.cell? p = some v) : w'.cell? p = some v := by
  obtain ⟨o, ho, hoc⟩ := cells_of_cell hp
  have hne : p.block ≠ B := fun e => by
    obtain ⟨D, ⟨es, clock, h1, _⟩, _⟩ := h
    rw [e, h1] at ho
    cases ho
    cases hoc
  exact (World.cell?_of_block (hg.block _ (World.block_lt_of_cell? _ _ hp) (fun e => hne (Option.some.inj e)))).trans hp
theorem mapI_rows {P : Program} {w w' : World} {kT eT : TypeId} {B n : Nat} {f : List UInt8 → Int} {c : Nat} (h : MapI P w kT eT B n f c) (hg : w.grownBy w' (some B)) {i : Nat} {cs : Array Value} {T : TypeId} (hp : w.heap[i]? = some (.cells cs T (0, 0))) : w'.heap[i]? = some (.cells cs T (0, 0)) := by
  refine (hg.block i (heap_lt hp) (fun e => ?_)).trans hp
  obtain ⟨D, ⟨es, clock, h1, _⟩, _⟩ := h
  rw [Option.some.inj e, h1] at hp
  cases hp
set_option maxRecDepth 100000 in
set_option maxHeartbeats 4000000 in
/-- The map takes names in: its block is all that turns. -/
theorem add_c (l : List ByteArray) (v : Value) (d : Nat) (hd : 0 < d) (hd2 : d ≤ 1000000) (M n c : Nat) (B : Bd) (w : World) (hn : n + l.length ≤ 4000000) (hv : SlOf w w.heap.size 1 StrC l v) (hM : MapI Tryd.prog w 9 3 M n B c) :
    Calls Tryd.prog 104 #[.map (some M), v, .int .i64 d] w fun e w' => e = .returned (.tuple #[]) ∧ (∃ c', MapI Tryd.prog w' 9 3 M (n + l.length) (addZ d B l) c') ∧ w.grownBy w' (some M) := by
  have HM := Lib.hid hM
  have hMl := hM.lt
  obtain ⟨o1, k1, rfl, _, _, S1⟩ := SlOf.open hv
  have Hd : Hid ((Lit.int .i64 d).wf = true) := Lib.hid (WalkArith.wf_i64 (by omega))
  clear hM hv
  go_enter Tryd.func104, Tryd.ntmps104
  go_wp2
  go_loopw [10] (fun i wr => ∃ (k : Nat) (ck : Nat), k ≤ l.length ∧ i = .int .i64 k ∧ MapI Tryd.prog wr 9 3 M (n + k) (addZ d B (l.take k)) ck ∧ w.grownBy wr (some M)) (fun i _ => l.length - (intOf i).toNat)
  case atStart => exact ⟨0, c, Nat.zero_le _, rfl, HM.out, World.grownBy.refl _ _⟩
  case round =>
    obtain ⟨k, ck, hk, rfl, hM2, hg⟩ := hrel
    have HM2 := Lib.hid hM2
    have HG := Lib.hid hg
    clear hM2
    by_cases hlt : k < l.length
    · have hlt' : (k : Int) < (l.length : Int) := by omega
      obtain ⟨x, hx⟩ : ∃ x, l[k]? = some x := ⟨l[k], List.getElem?_eq_getElem hlt⟩
      obtain ⟨p, cs, rfl, hp, _, ⟨rfl, hsz⟩, h2⟩ := S1.out k x hx
      have c0' := h2.n1
      rw [Nat.mul_one] at c0'
      have c0 := mapI_cells HM.out hg c0'
      clear c0'
      have hpl : (p.add k).block < wr.heap.size := by rw [addBlock]; have := hg.size; omega
      have HX := Lib.hid (has_c x hsz M (n + k) ck (addZ d B (l.take k)) wr HM2.out)
      have Hst := Lib.hid (addZ_take (d := d) (B := B) hx)
      clear hx h2 hg
      go_wp2_with fail
      refine HX.out.mono ?_
      rintro e w1 ⟨rfl, rfl⟩
      cases hb : hasZ (addZ d B (l.take k)) x with
      | true =>
        have Hst2 : Hid (addZ d B (l.take (k + 1)) = addZ d B (l.take k)) := Lib.hid (by rw [Hst.out, hb]; rfl)
        clear hb
        go_wp2
        go_roundw
        case rel => exact ⟨k + 1, ck, hlt, by go_num, by rw [Hst2.out]; exact HM2.out.mono (by omega), HG.out⟩
        case measure => simp [intOf]; omega
      | false =>
        have Hst2 : Hid (addZ d B (l.take (k + 1)) = updF (addZ d B (l.take k)) x.data.toList d) := Lib.hid (by rw [Hst.out, hb]; rfl)
        have Hle : Hid (n + k < maxLen) := Lib.hid (by unfold maxLen; omega)
        have Hd0 : Hid ((d : Int) ≠ 0) := Lib.hid (by omega)
        clear hb
        go_wp2_with (at_mapUpdate; refine wpList_mapI_put _ rfl _ _ _ 93 rfl 9 3 Tryd.underlying93 Tryd.underlying9 Tryd.underlying3 M (n + k) (addZ d B (l.take k)) ck rfl HM2.out Hle.out x d rfl rfl hsz Hd0.out Hd.out ?_; intro w2 hm2 hg2; have HM3 := Lib.hid hm2; have HG3 := Lib.hid hg2; clear hm2 hg2)
        go_roundw
        case rel => exact ⟨k + 1, _, hlt, by go_num, by rw [Hst2.out]; exact HM3.out, HG.out.trans HG3.out⟩
        case measure => simp [intOf]; omega
    · have hlt' : ¬ (k : Int) < (l.length : Int) := by omega
      obtain rfl : k = l.length := by omega
      have h := HM2.out
      rw [List.take_of_length_le (Nat.le_refl _)] at h
      have HM3 := Lib.hid h
      clear h
      go_wp2
      go_end0
      exact ⟨rfl, ⟨_, HM3.out⟩, HG.out⟩
end Go.Proofs.YtfcfehflocglpaaDoor
namespace Go.Proofs.YtfcfehflocglpaaDoor
open Go.RowKit

/-- A part's seventeen cells. -/
def PtC (w : World) (B : Nat) (p : Pt) (cs : List Value) : Prop := ∃ cl vx vy va vr vo, cs = .int .i64 (p.place : Int) :: (cl ++ [vx, vy, va, vr, vo]) ∧ LtC w B p.lit cl ∧ SlOf w B 1 StrC p.x vx ∧ SlOf w B 1 StrC p.y vy ∧ SlOf w B 1 StrC p.a va ∧ SlOf w B 1 StrC p.rk vr ∧ SlOf w B 1 StrC p.ou vo
theorem PtC.to {w w' : World} {B B' : Nat} {p : Pt} {cs : List Value} (h : PtC w B p cs) (hb : Below B w w') (hB : B ≤ B') : PtC w' B' p cs := by
  obtain ⟨cl, vx, vy, va, vr, vo, h0, h1, h2, h3, h4, h5, h6⟩ := h
  exact ⟨cl, vx, vy, va, vr, vo, h0, (h1.below hb).more hB, h2.str hb hB, h3.str hb hB, h4.str hb hB, h5.str hb hB, h6.str hb hB⟩
theorem PtC.len {w : World} {B : Nat} {p : Pt} {cs : List Value} (h : PtC w B p cs) : cs.length = 17 := by
  obtain ⟨cl, vx, vy, va, vr, vo, rfl, h1, _⟩ := h
  simp [h1.len]
theorem PtC.look {w : World} {B : Nat} {p : Pt} {cs : List Value} (h : PtC w B p cs) : ∃ o0 k0 o1 k1 o2 k2 o3 k3 o4 k4 o5 k5 o6 k6 o7 k7,
    cs = [.int .i64 (p.place : Int), .int .i64 p.lit.op, .string p.lit.a.rel, .slice o0 p.lit.a.l.length k0, .int .i64 p.lit.x.op, .string p.lit.x.s, .int .i64 p.lit.x.n, .slice o1 p.lit.x.l.length k1, .int .i64 p.lit.y.op, .string p.lit.y.s, .int .i64 p.lit.y.n, .slice o2 p.lit.y.l.length k2,
      .slice o3 p.x.length k3, .slice o4 p.y.length k4, .slice o5 p.a.length k5, .slice o6 p.rk.length k6, .slice o7 p.ou.length k7] ∧
    LtC w B p.lit [.int .i64 p.lit.op, .string p.lit.a.rel, .slice o0 p.lit.a.l.length k0, .int .i64 p.lit.x.op, .string p.lit.x.s, .int .i64 p.lit.x.n, .slice o1 p.lit.x.l.length k1, .int .i64 p.lit.y.op, .string p.lit.y.s, .int .i64 p.lit.y.n, .slice o2 p.lit.y.l.length k2] ∧
    SlOf w B 1 StrC p.x (.slice o3 p.x.length k3) ∧ SlOf w B 1 StrC p.y (.slice o4 p.y.length k4) ∧ SlOf w B 1 StrC p.a (.slice o5 p.a.length k5) ∧ SlOf w B 1 StrC p.rk (.slice o6 p.rk.length k6) ∧ SlOf w B 1 StrC p.ou (.slice o7 p.ou.length k7) := by
  obtain ⟨cl, vx, vy, va, vr, vo, rfl, h1, h2, h3, h4, h5, h6⟩ := h
  obtain ⟨o0, k0, o1, k1, o2, k2, rfl, _⟩ := h1.look
  obtain ⟨o3, k3, rfl, _⟩ := SlOf.uni h2
  obtain ⟨o4, k4, rfl, _⟩ := SlOf.uni h3
  obtain ⟨o5, k5, rfl, _⟩ := SlOf.uni h4
  obtain ⟨o6, k6, rfl, _⟩ := SlOf.uni h5
  obtain ⟨o7, k7, rfl, _⟩ := SlOf.uni h6
  exact ⟨o0, k0, o1, k1, o2, k2, o3, k3, o4, k4, o5, k5, o6, k6, o7, k7, rfl, h1, h2, h3, h4, h5, h6⟩
end Go.Proofs.YtfcfehflocglpaaDoor
namespace Go.Proofs.YtfcfehflocglpaaDoor
open Go.RowKit

set_option maxRecDepth 100000 in
set_option maxHeartbeats 4000000 in
theorem grow_c (n : Nat) (hn : n ≤ 1000000) (w : World) :
    Calls Tryd.prog 138 #[.slice none 0 0, .int .i64 n] w fun e w' => ∃ v, e = .returned v ∧ w'.ownsRow w.heap.size 9 1 v 0 [] ∧ Below w.heap.size w w' := by
  obtain ⟨i0, hi, hz0, hz1, hz2⟩ := info_parts info_str
  have h1 : ¬ ((n : Int) < 0) := by omega
  have h2 : wrap64 ((0 : Int) - (0 : Int)) = 0 := by unfold wrap64; rfl
  have h3 : wrap64 ((n : Int) - 0) = (n : Int) := by unfold wrap64; omega
  by_cases h0 : n = 0
  · subst h0
    go_enter Tryd.func138, Tryd.ntmps138
    go_wp2
    go_ret
    exact ⟨_, rfl, World.ownsRow_nil _ _ _ _, Below.refl _ _⟩
  · have h4 : (n : Int) > 0 := by omega
    have hcap : grownCap w n 0 9 ≤ maxLen := grownCap_le_maxLen w n 0 9 (by unfold maxLen; omega)
    have hge : n ≤ grownCap w n 0 9 := grownCap_ge w _ _ _
    have hrz : ∀ ty, (Builtin.append_ #[34, 3] ty #[.slice none 0 0, .int .i64 n]).run Tryd.prog w = .ok (.slice (some ⟨w.heap.size, 0, none⟩) n (grownCap w n 0 9)) (w.drew.alloc (.cells (Builtin.zeroCells (Value.string ⟨#[]⟩).cells n ++ Builtin.zeroCells (Value.string ⟨#[]⟩).cells (grownCap w n 0 9 - n)) 9)) := fun ty =>
      Lib.run_append_nil_zeros w 34 3 ty 9 i0 (.string ⟨#[]⟩) .i64 .i64 Tryd.underlying34 Tryd.underlying3 hi hz0 n (by omega) (by rw [hz1]; decide) (by omega) (by rw [hz2]; omega)
    obtain ⟨G, hG⟩ : ∃ G, G = grownCap w n 0 9 := ⟨_, rfl⟩
    rw [← hG] at hrz hge hcap
    obtain ⟨cur, hcur⟩ : ∃ cur, cur = Builtin.zeroCells (Value.string ⟨#[]⟩).cells n ++ Builtin.zeroCells (Value.string ⟨#[]⟩).cells (G - n) := ⟨_, rfl⟩
    have hsz : cur.size = G := by
      rw [hcur]
      simp [size_zeroCells, Value.cells]
      omega
    rw [← hcur] at hrz
    have Own : Hid ((w.drew.alloc (.cells cur 9)).ownsRow w.heap.size 9 1 (.slice (some ⟨w.heap.size, 0, none⟩) 0 G) 0 []) := Lib.hid ⟨by simp, .inr ⟨w.heap.size, G, cur, rfl, Nat.le_refl _, World.alloc_heap_new w.drew _, Nat.zero_le _, hcap, by rw [hsz]; omega, by simp⟩⟩
    have HB : Hid (Below w.heap.size w (w.drew.alloc (.cells cur 9))) := Lib.hid ((Below.refl _ _).drew.alloc (Nat.le_refl _) _)
    have hG63 : G ≤ 9223372036854775807 := by unfold maxLen at hcap; omega
    clear hG hcur hcap hsz
    go_enter Tryd.func138, Tryd.ntmps138
    go_wp2_with (at_builtin; refine Lib.wpList_append_run _ rfl _ _ _ _ rfl _ _ rfl rfl _ _ (hrz _) ?_)
    go_ret
    exact ⟨_, rfl, Own.out, HB.out⟩
end Go.Proofs.YtfcfehflocglpaaDoor
namespace Go.Proofs.YtfcfehflocglpaaDoor
open Go.RowKit

/-- A list of names, as an element. -/
def LlC (w : World) (B : Nat) (l : List ByteArray) (cs : List Value) : Prop := ∃ v, cs = [v] ∧ SlOf w B 1 StrC l v
/-- Lists behind each other. -/
def catL (ls : List (List ByteArray)) : List ByteArray := ls.flatten
theorem flat_take {ls : List (List ByteArray)} {k : Nat} {l : List ByteArray} (h : ls[k]? = some l) : catL (ls.take (k + 1)) = catL (ls.take k) ++ l := by
  unfold catL
  rw [List.take_add_one, h]; simp
theorem flat_len (ls : List (List ByteArray)) (k : Nat) : (catL (ls.take k)).length ≤ (catL ls).length := by
  unfold catL
  have : ls.flatten = (ls.take k).flatten ++ (ls.drop k).flatten := by rw [← List.flatten_append, List.take_append_drop]
  rw [this, List.length_append]; omega
set_option maxRecDepth 100000 in
set_option maxHeartbeats 8000000 in
theorem concat_c (ls : List (List ByteArray)) (v : Value) (w : World) (h : SlOf w w.heap.size 1 (LlC w w.heap.size) ls v) (hn : (catL ls).length ≤ 1000000) :
    Calls Tryd.prog 130 #[v] w fun e w' => ∃ u, e = .returned u ∧ w'.ownsRow w.heap.size 9 1 u (catL ls).length ((catL ls).map Value.string) ∧ Below w.heap.size w w' := by
  obtain ⟨o1, k1, rfl, _, _, S1⟩ := SlOf.open h
  have HN := Lib.hid hn
  obtain ⟨i0, hi, hz0, hz1, hz2⟩ := info_parts info_str
  clear h hn
  go_enter Tryd.func130, Tryd.ntmps130
  go_wp2
  go_loopw [3, 11] (fun sz i wr => ∃ (k m : Nat), k ≤ ls.length ∧ i = .int .i64 k ∧ sz = .int .i64 m ∧ (catL (ls.take k)).length = m ∧ w = wr) (fun _ i _ => ls.length - (intOf i).toNat)
  case atStart => exact ⟨0, 0, Nat.zero_le _, rfl, rfl, rfl, rfl⟩
  case round =>
    obtain ⟨k, m, hk, rfl, rfl, hm, rfl⟩ := hrel
    by_cases hlt : k < ls.length
    · have hlt' : (k : Int) < (ls.length : Int) := by omega
      obtain ⟨x, hx⟩ : ∃ x, ls[k]? = some x := ⟨ls[k], List.getElem?_eq_getElem hlt⟩
      obtain ⟨p, cs, rfl, hp, _, ⟨u, rfl, hu⟩, h2⟩ := S1.out k x hx
      obtain ⟨o2, k2, rfl, _⟩ := SlOf.uni hu
      have c0 := h2.n1
      rw [Nat.mul_one] at c0
      have hpl : (p.add k).block < w.heap.size := by rw [addBlock]; exact hp
      have Hst : Hid ((catL (ls.take (k + 1))).length = m + x.length) := Lib.hid (by rw [flat_take hx, List.length_append, hm])
      have hle := flat_len ls (k + 1)
      rw [Hst.out] at hle
      have hle2 : m + x.length ≤ 1000000 := Nat.le_trans hle HN.out
      have hw : IntKind.i64.wrap ((m : Int) + (x.length : Int)) = (m : Int) + (x.length : Int) := IntWalk.i64_in _ (by omega)
      have hneg : ¬ ((m : Int) + (x.length : Int) < 0) := by omega
      clear hle h2 hu hx hm
      go_wp2
      go_roundw
      case rel => exact ⟨k + 1, m + x.length, hlt, by go_num, by go_num, Hst.out, by trivial⟩
      case measure => simp [intOf]; omega
    · have hlt' : ¬ (k : Int) < (ls.length : Int) := by omega
      obtain rfl : (catL ls).length = m := by rw [← hm, List.take_of_length_le (by omega)]
      have HG := Lib.hid (grow_c (catL ls).length HN.out w)
      clear hlt hm
      go_wp2_with fail
      refine HG.out.mono ?_
      rintro e1 w1 ⟨v1, rfl, hO, b1⟩
      have HO := Lib.hid hO
      have B1 := Lib.hid b1
      clear HG hO b1
      go_wp2_with fail
      go_loopw [6, 27] (fun lv i wq => ∃ (k : Nat) (M : List ByteArray), k ≤ ls.length ∧ i = .int .i64 k ∧ catL (ls.take k) = M ∧ wq.ownsRow w.heap.size 9 1 lv M.length (M.map Value.string) ∧ Below w.heap.size w wq) (fun _ i _ => ls.length - (intOf i).toNat)
      case atStart => exact ⟨0, [], Nat.zero_le _, rfl, rfl, HO.out, B1.out⟩
      case round =>
        obtain ⟨k, Mk, hk, rfl, hMk, hO, hB⟩ := hrel
        have HMk := Lib.hid hMk
        have HO2 := Lib.hid hO
        have HB := Lib.hid hB
        have hsz := hB.size
        clear hMk hO hB
        by_cases hlt : k < ls.length
        · have hlt2 : (k : Int) < (ls.length : Int) := by omega
          obtain ⟨x, hx⟩ : ∃ x, ls[k]? = some x := ⟨ls[k], List.getElem?_eq_getElem hlt⟩
          obtain ⟨p, cs, rfl, hp, _, ⟨u, rfl, hu⟩, h2⟩ := S1.out k x hx
          have hu2 := hu.str HB.out hsz
          obtain ⟨xs, hlaid, hsp⟩ := sl_laid hu2 str_one
          have hxs := laid_str hlaid
          subst hxs
          have HSp := Lib.hid hsp
          have c0 := (h2.below hp HB.out).n1
          rw [Nat.mul_one] at c0
          have hpl : (p.add k).block < wr.heap.size := by rw [addBlock]; omega
          have Hst : Hid (catL (ls.take (k + 1)) = Mk ++ x) := Lib.hid (by rw [flat_take hx, HMk.out])
          have hle := flat_len ls (k + 1)
          rw [Hst.out, List.length_append] at hle
          have HS1 : Hid (Mk.length + x.length ≤ maxLen) := Lib.hid (by have := HN.out; unfold maxLen; omega)
          have HS2 : Hid ((Mk.length + x.length) * 16 ≤ 140737488355328) := Lib.hid (by have := HN.out; omega)
          clear hle h2 hu hu2 hx hlaid hsp
          go_wp2_with (at_builtin; refine wpList_append_any _ rfl (.tmp 31) (.tmp 32) 34 rfl w.heap.size 9 i0 _ 1 16 Tryd.underlying34 hi hz0 hz1 hz2 rfl (by decide) _ Mk.length _ rfl HO2.out _ x.length _ rfl HSp.out HS1.out HS2.out hsz ?_; intro v2 w2 hown2 hg2 _; have O2 := Lib.hid hown2; have G2 := Lib.hid hg2; clear hown2 hg2)
          go_roundw
          case rel =>
            refine ⟨k + 1, Mk ++ x, hlt, by go_num, Hst.out, ?_, ?_⟩
            · rw [List.length_append, List.map_append]; exact O2.out
            · exact HB.out.grown G2.out hsz (fun q hq => (HO2.out.lt q hq).1)
          case measure => simp [intOf]; omega
        · have hlt2 : ¬ (k : Int) < (ls.length : Int) := by omega
          obtain rfl : Mk = catL ls := by rw [← HMk.out, List.take_of_length_le (by omega)]
          obtain ⟨oq, kq, rfl⟩ := own_shape HO2.out
          go_wp2
          go_ret
          exact ⟨_, rfl, HO2.out, HB.out⟩
end Go.Proofs.YtfcfehflocglpaaDoor
namespace Go.Proofs.YtfcfehflocglpaaDoor
open Go.RowKit

theorem row17 {W : World} {b : Nat} {T : TypeId} {c0 c1 c2 c3 c4 c5 c6 c7 c8 c9 c10 c11 c12 c13 c14 c15 c16 : Value} (h : W.heap[b]? = some (.cells #[c0, c1, c2, c3, c4, c5, c6, c7, c8, c9, c10, c11, c12, c13, c14, c15, c16] T (0, 0))) :
    W.cell? ⟨b, 0, none⟩ = some c0 ∧ W.cell? ⟨b, 1, none⟩ = some c1 ∧ W.cell? ⟨b, 2, none⟩ = some c2 ∧ W.cell? ⟨b, 3, none⟩ = some c3 ∧ W.cell? ⟨b, 4, none⟩ = some c4 ∧ W.cell? ⟨b, 5, none⟩ = some c5 ∧ W.cell? ⟨b, 6, none⟩ = some c6 ∧ W.cell? ⟨b, 7, none⟩ = some c7 ∧ W.cell? ⟨b, 8, none⟩ = some c8 ∧ W.cell? ⟨b, 9, none⟩ = some c9 ∧ W.cell? ⟨b, 10, none⟩ = some c10 ∧ W.cell? ⟨b, 11, none⟩ = some c11 ∧ W.cell? ⟨b, 12, none⟩ = some c12 ∧ W.cell? ⟨b, 13, none⟩ = some c13 ∧ W.cell? ⟨b, 14, none⟩ = some c14 ∧ W.cell? ⟨b, 15, none⟩ = some c15 ∧ W.cell? ⟨b, 16, none⟩ = some c16 :=
  ⟨row_cells h 0, row_cells h 1, row_cells h 2, row_cells h 3, row_cells h 4, row_cells h 5, row_cells h 6, row_cells h 7, row_cells h 8, row_cells h 9, row_cells h 10, row_cells h 11, row_cells h 12, row_cells h 13, row_cells h 14, row_cells h 15, row_cells h 16⟩
/-- What a part asks of what is bound. -/
structure Asked (B : Bd) (p : Pt) (blx bly bax bay baa bou brk bin : Bool) : Prop where
  lx : lacksZ B p.lit.x = blx
  ly : lacksZ B p.lit.y = bly
  ax : allZ B p.x = bax
  ay : allZ B p.y = bay
  aa : allZ B p.a = baa
  ou : allZ B p.ou = bou
  rk : allZ B p.rk = brk
  inn : inZ p = bin
theorem asked (B : Bd) (p : Pt) : ∃ a b c d e f g h, Asked B p a b c d e f g h := ⟨_, _, _, _, _, _, _, _, rfl, rfl, rfl, rfl, rfl, rfl, rfl, rfl⟩
set_option maxRecDepth 100000 in
set_option maxHeartbeats 16000000 in
theorem ready3_c (p : Pt) (cs : List Value) (M n c : Nat) (B : Bd) (w : World) (hp : PtC w w.heap.size p cs) (hM : MapI Tryd.prog w 9 3 M n B c) (ho : p.lit.op = 3) :
    Calls Tryd.prog 103 #[.agg cs.toArray, .map (some M)] w fun e w' => e = .returned (.bool (readyZ B p)) ∧ Below w.heap.size w w' := by
  have hMl := hM.lt
  obtain ⟨blx, bly, bax, bay, baa, bou, brk, bin, Q⟩ := asked B p
  obtain ⟨o0, k0, o1, k1, o2, k2, o3, k3, o4, k4, o5, k5, o6, k6, o7, k7, rfl, hl, h1, h2, h3, h4, h5⟩ := hp.look
  obtain ⟨q0, q1, q2, q3, q4, q5, qe, _, _, hx, hy⟩ := hl.look
  cases qe
  have HLX := Lib.hid (fun (W : World) (hb : Below w.heap.size w W) => lacks_c p.lit.x _ W.heap.size M n c B W ((hx.under hb).more hb.size) (hM.below hb hMl))
  rw [Q.lx] at HLX
  have HLY := Lib.hid (fun (W : World) (hb : Below w.heap.size w W) => lacks_c p.lit.y _ W.heap.size M n c B W ((hy.under hb).more hb.size) (hM.below hb hMl))
  rw [Q.ly] at HLY
  have HAX := Lib.hid (fun (W : World) (hb : Below w.heap.size w W) => hasAll_c p.x _ M n c B W (h1.str hb hb.size) (hM.below hb hMl))
  rw [Q.ax] at HAX
  have HAY := Lib.hid (fun (W : World) (hb : Below w.heap.size w W) => hasAll_c p.y _ M n c B W (h2.str hb hb.size) (hM.below hb hMl))
  rw [Q.ay] at HAY
  have HAA := Lib.hid (fun (W : World) (hb : Below w.heap.size w W) => hasAll_c p.a _ M n c B W (h3.str hb hb.size) (hM.below hb hMl))
  rw [Q.aa] at HAA
  have Hq : Hid (readyZ B p = ((blx && bay || bly && bax) || (bax && bay && baa))) := Lib.hid (by unfold readyZ eqZ plainZ; rw [if_pos ho, Q.lx, Q.ly, Q.ax, Q.ay, Q.aa])
  have B0 : Hid (Below w.heap.size w (w.alloc (.cells #[.int .i64 (p.place : Int), .int .i64 p.lit.op, .string p.lit.a.rel, .slice o0 p.lit.a.l.length k0, .int .i64 p.lit.x.op, .string p.lit.x.s, .int .i64 p.lit.x.n, .slice o1 p.lit.x.l.length k1, .int .i64 p.lit.y.op, .string p.lit.y.s, .int .i64 p.lit.y.n, .slice o2 p.lit.y.l.length k2, .slice o3 p.x.length k3, .slice o4 p.y.length k4, .slice o5 p.a.length k5, .slice o6 p.rk.length k6, .slice o7 p.ou.length k7] 122))) := Lib.hid ((Below.refl _ _).alloc (Nat.le_refl _) _)
  have R0 := Lib.hid (World.alloc_heap_new w (.cells #[.int .i64 (p.place : Int), .int .i64 p.lit.op, .string p.lit.a.rel, .slice o0 p.lit.a.l.length k0, .int .i64 p.lit.x.op, .string p.lit.x.s, .int .i64 p.lit.x.n, .slice o1 p.lit.x.l.length k1, .int .i64 p.lit.y.op, .string p.lit.y.s, .int .i64 p.lit.y.n, .slice o2 p.lit.y.l.length k2, .slice o3 p.x.length k3, .slice o4 p.y.length k4, .slice o5 p.a.length k5, .slice o6 p.rk.length k6, .slice o7 p.ou.length k7] 122))
  clear hp hM hl hx hy h1 h2 h3 h4 h5 Q
  have t3 := congrArg (fun o : Int => o == 3) ho
  have t2 := congrArg (fun o : Int => o == 2) ho
  have t4 := congrArg (fun o : Int => o == 4) ho
  have t5 := congrArg (fun o : Int => o == 5) ho
  have t6 := congrArg (fun o : Int => o == 6) ho
  have t8 := congrArg (fun o : Int => o == 8) ho
  have t9 := congrArg (fun o : Int => o == 9) ho
  have t10 := congrArg (fun o : Int => o == 10) ho
  have t7 := congrArg (fun o : Int => o == 7) ho
  have t1 := congrArg (fun o : Int => o == 1) ho
  simp only [Int.reduceBEq] at t3 t2 t4 t5 t6 t8 t9 t10 t7 t1
  clear ho
  go_enter Tryd.func103, Tryd.ntmps103
  go_wp2_with fail
  refine (HLX.out _ B0.out).mono ?_
  rintro e1 w1 ⟨rfl, b1⟩
  have R1 := Lib.hid ((b1.block w.heap.size (heap_lt R0.out)).trans R0.out)
  have B1 := Lib.hid (B0.out.trans (b1.mono B0.out.size))
  have hz1 : w.heap.size < w1.heap.size := heap_lt R1.out
  obtain ⟨x0, x1, x2, x3, x4, x5, x6, x7, x8, x9, x10, x11, x12, x13, x14, x15, x16⟩ := row17 R1.out
  clear b1
  cases blx with
  | true =>
    go_wp2_with fail
    refine (HAY.out _ B1.out).mono ?_
    rintro e2 w2 ⟨rfl, rfl⟩
    cases bay with
    | true =>
      go_wp2
      go_ret
      exact ⟨by rw [Hq.out]; rfl, B1.out⟩
    | false =>
      go_wp2_with fail
      refine (HLY.out _ B1.out).mono ?_
      rintro e3 w3 ⟨rfl, b3⟩
      have R3 := Lib.hid ((b3.block w.heap.size (heap_lt R1.out)).trans R1.out)
      have B3 := Lib.hid (B1.out.trans (b3.mono B1.out.size))
      have hz3 : w.heap.size < w3.heap.size := heap_lt R3.out
      obtain ⟨x0, x1, x2, x3, x4, x5, x6, x7, x8, x9, x10, x11, x12, x13, x14, x15, x16⟩ := row17 R3.out
      clear b3
      cases bly with
      | true =>
        go_wp2_with fail
        refine (HAX.out _ B3.out).mono ?_
        rintro e4 w4 ⟨rfl, rfl⟩
        cases bax with
        | true =>
          go_wp2
          go_ret
          exact ⟨by rw [Hq.out]; rfl, B3.out⟩
        | false =>
          go_wp2_with fail
          refine (HAX.out _ B3.out).mono ?_
          rintro e5 w5 ⟨rfl, rfl⟩
          go_wp2
          go_ret
          exact ⟨by rw [Hq.out]; rfl, B3.out⟩
      | false =>
        go_wp2_with fail
        refine (HAX.out _ B3.out).mono ?_
        rintro e4 w4 ⟨rfl, rfl⟩
        cases bax with
        | true =>
          go_wp2_with fail
          refine (HAY.out _ B3.out).mono ?_
          rintro e5 w5 ⟨rfl, rfl⟩
          go_wp2
          go_ret
          exact ⟨by rw [Hq.out]; rfl, B3.out⟩
        | false =>
          go_wp2
          go_ret
          exact ⟨by rw [Hq.out]; rfl, B3.out⟩
  | false =>
    go_wp2_with fail
    refine (HLY.out _ B1.out).mono ?_
    rintro e2 w2 ⟨rfl, b2⟩
    have R2 := Lib.hid ((b2.block w.heap.size (heap_lt R1.out)).trans R1.out)
    have B2 := Lib.hid (B1.out.trans (b2.mono B1.out.size))
    have hz2 : w.heap.size < w2.heap.size := heap_lt R2.out
    obtain ⟨x0, x1, x2, x3, x4, x5, x6, x7, x8, x9, x10, x11, x12, x13, x14, x15, x16⟩ := row17 R2.out
    clear b2
    cases bly with
    | true =>
      go_wp2_with fail
      refine (HAX.out _ B2.out).mono ?_
      rintro e3 w3 ⟨rfl, rfl⟩
      cases bax with
      | true =>
        go_wp2
        go_ret
        exact ⟨by rw [Hq.out]; rfl, B2.out⟩
      | false =>
        go_wp2_with fail
        refine (HAX.out _ B2.out).mono ?_
        rintro e4 w4 ⟨rfl, rfl⟩
        go_wp2
        go_ret
        exact ⟨by rw [Hq.out]; rfl, B2.out⟩
    | false =>
      go_wp2_with fail
      refine (HAX.out _ B2.out).mono ?_
      rintro e3 w3 ⟨rfl, rfl⟩
      cases bax with
      | true =>
        go_wp2_with fail
        refine (HAY.out _ B2.out).mono ?_
        rintro e4 w4 ⟨rfl, rfl⟩
        cases bay with
        | true =>
          go_wp2_with fail
          refine (HAA.out _ B2.out).mono ?_
          rintro e5 w5 ⟨rfl, rfl⟩
          cases baa with
          | true =>
            go_wp2
            go_ret
            exact ⟨by rw [Hq.out]; rfl, B2.out⟩
          | false =>
            go_wp2
            go_ret
            exact ⟨by rw [Hq.out]; rfl, B2.out⟩
        | false =>
          go_wp2
          go_ret
          exact ⟨by rw [Hq.out]; rfl, B2.out⟩
      | false =>
        go_wp2
        go_ret
        exact ⟨by rw [Hq.out]; rfl, B2.out⟩
set_option maxRecDepth 100000 in
set_option maxHeartbeats 16000000 in
theorem ready2_c (p : Pt) (cs : List Value) (M n c : Nat) (B : Bd) (w : World) (hp : PtC w w.heap.size p cs) (hM : MapI Tryd.prog w 9 3 M n B c) (ho : p.lit.op = 2 ∨ p.lit.op = 4 ∨ p.lit.op = 5 ∨ p.lit.op = 6) :
    Calls Tryd.prog 103 #[.agg cs.toArray, .map (some M)] w fun e w' => e = .returned (.bool (readyZ B p)) ∧ Below w.heap.size w w' := by
  have hMl := hM.lt
  obtain ⟨blx, bly, bax, bay, baa, bou, brk, bin, Q⟩ := asked B p
  obtain ⟨o0, k0, o1, k1, o2, k2, o3, k3, o4, k4, o5, k5, o6, k6, o7, k7, rfl, hl, h1, h2, h3, h4, h5⟩ := hp.look
  obtain ⟨q0, q1, q2, q3, q4, q5, qe, _, _, hx, hy⟩ := hl.look
  cases qe
  have HAX := Lib.hid (fun (W : World) (hb : Below w.heap.size w W) => hasAll_c p.x _ M n c B W (h1.str hb hb.size) (hM.below hb hMl))
  rw [Q.ax] at HAX
  have HAY := Lib.hid (fun (W : World) (hb : Below w.heap.size w W) => hasAll_c p.y _ M n c B W (h2.str hb hb.size) (hM.below hb hMl))
  rw [Q.ay] at HAY
  have HAA := Lib.hid (fun (W : World) (hb : Below w.heap.size w W) => hasAll_c p.a _ M n c B W (h3.str hb hb.size) (hM.below hb hMl))
  rw [Q.aa] at HAA
  have Hq : Hid (readyZ B p = (bax && bay && baa)) := Lib.hid (by unfold readyZ plainZ; rw [if_neg (by omega), if_pos ho, Q.ax, Q.ay, Q.aa])
  have B0 : Hid (Below w.heap.size w (w.alloc (.cells #[.int .i64 (p.place : Int), .int .i64 p.lit.op, .string p.lit.a.rel, .slice o0 p.lit.a.l.length k0, .int .i64 p.lit.x.op, .string p.lit.x.s, .int .i64 p.lit.x.n, .slice o1 p.lit.x.l.length k1, .int .i64 p.lit.y.op, .string p.lit.y.s, .int .i64 p.lit.y.n, .slice o2 p.lit.y.l.length k2, .slice o3 p.x.length k3, .slice o4 p.y.length k4, .slice o5 p.a.length k5, .slice o6 p.rk.length k6, .slice o7 p.ou.length k7] 122))) := Lib.hid ((Below.refl _ _).alloc (Nat.le_refl _) _)
  have R0 := Lib.hid (World.alloc_heap_new w (.cells #[.int .i64 (p.place : Int), .int .i64 p.lit.op, .string p.lit.a.rel, .slice o0 p.lit.a.l.length k0, .int .i64 p.lit.x.op, .string p.lit.x.s, .int .i64 p.lit.x.n, .slice o1 p.lit.x.l.length k1, .int .i64 p.lit.y.op, .string p.lit.y.s, .int .i64 p.lit.y.n, .slice o2 p.lit.y.l.length k2, .slice o3 p.x.length k3, .slice o4 p.y.length k4, .slice o5 p.a.length k5, .slice o6 p.rk.length k6, .slice o7 p.ou.length k7] 122))
  clear hp hM hl hx hy h1 h2 h3 h4 h5 Q
  rcases ho with ho | ho | ho | ho
  all_goals
    have t3 := congrArg (fun o : Int => o == 3) ho
    have t2 := congrArg (fun o : Int => o == 2) ho
    have t4 := congrArg (fun o : Int => o == 4) ho
    have t5 := congrArg (fun o : Int => o == 5) ho
    have t6 := congrArg (fun o : Int => o == 6) ho
    have t8 := congrArg (fun o : Int => o == 8) ho
    have t9 := congrArg (fun o : Int => o == 9) ho
    have t10 := congrArg (fun o : Int => o == 10) ho
    have t7 := congrArg (fun o : Int => o == 7) ho
    have t1 := congrArg (fun o : Int => o == 1) ho
    simp only [Int.reduceBEq] at t3 t2 t4 t5 t6 t8 t9 t10 t7 t1
    clear ho
    go_enter Tryd.func103, Tryd.ntmps103
    go_wp2_with fail
    refine (HAX.out _ B0.out).mono ?_
    rintro e1 w1 ⟨rfl, rfl⟩
    cases bax with
    | true =>
      go_wp2_with fail
      refine (HAY.out _ B0.out).mono ?_
      rintro e2 w2 ⟨rfl, rfl⟩
      cases bay with
      | true =>
        go_wp2_with fail
        refine (HAA.out _ B0.out).mono ?_
        rintro e3 w3 ⟨rfl, rfl⟩
        cases baa with
        | true =>
          go_wp2
          go_ret
          exact ⟨by rw [Hq.out]; rfl, B0.out⟩
        | false =>
          go_wp2
          go_ret
          exact ⟨by rw [Hq.out]; rfl, B0.out⟩
      | false =>
        go_wp2
        go_ret
        exact ⟨by rw [Hq.out]; rfl, B0.out⟩
    | false =>
      go_wp2
      go_ret
      exact ⟨by rw [Hq.out]; rfl, B0.out⟩
set_option maxRecDepth 100000 in
set_option maxHeartbeats 16000000 in
theorem ready8_c (p : Pt) (cs : List Value) (M n c : Nat) (B : Bd) (w : World) (hp : PtC w w.heap.size p cs) (hM : MapI Tryd.prog w 9 3 M n B c) (ho : p.lit.op = 8 ∨ p.lit.op = 9 ∨ p.lit.op = 10) :
    Calls Tryd.prog 103 #[.agg cs.toArray, .map (some M)] w fun e w' => e = .returned (.bool (readyZ B p)) ∧ Below w.heap.size w w' := by
  have hMl := hM.lt
  obtain ⟨blx, bly, bax, bay, baa, bou, brk, bin, Q⟩ := asked B p
  obtain ⟨o0, k0, o1, k1, o2, k2, o3, k3, o4, k4, o5, k5, o6, k6, o7, k7, rfl, hl, h1, h2, h3, h4, h5⟩ := hp.look
  obtain ⟨q0, q1, q2, q3, q4, q5, qe, _, _, hx, hy⟩ := hl.look
  cases qe
  have HIN := Lib.hid (fun (W : World) (hb : Below w.heap.size w W) => contains_c p.a p.lit.y.s _ W (h3.str hb hb.size))
  rw [show memB p.a p.lit.y.s = bin from Q.inn] at HIN
  have HAO := Lib.hid (fun (W : World) (hb : Below w.heap.size w W) => hasAll_c p.ou _ M n c B W (h5.str hb hb.size) (hM.below hb hMl))
  rw [Q.ou] at HAO
  have HAR := Lib.hid (fun (W : World) (hb : Below w.heap.size w W) => hasAll_c p.rk _ M n c B W (h4.str hb hb.size) (hM.below hb hMl))
  rw [Q.rk] at HAR
  have Hq : Hid (readyZ B p = (bin && (bou && brk))) := Lib.hid (by unfold readyZ; rw [if_neg (by omega), if_neg (by omega), if_pos ho, Q.inn, Q.ou, Q.rk])
  have B0 : Hid (Below w.heap.size w (w.alloc (.cells #[.int .i64 (p.place : Int), .int .i64 p.lit.op, .string p.lit.a.rel, .slice o0 p.lit.a.l.length k0, .int .i64 p.lit.x.op, .string p.lit.x.s, .int .i64 p.lit.x.n, .slice o1 p.lit.x.l.length k1, .int .i64 p.lit.y.op, .string p.lit.y.s, .int .i64 p.lit.y.n, .slice o2 p.lit.y.l.length k2, .slice o3 p.x.length k3, .slice o4 p.y.length k4, .slice o5 p.a.length k5, .slice o6 p.rk.length k6, .slice o7 p.ou.length k7] 122))) := Lib.hid ((Below.refl _ _).alloc (Nat.le_refl _) _)
  have R0 := Lib.hid (World.alloc_heap_new w (.cells #[.int .i64 (p.place : Int), .int .i64 p.lit.op, .string p.lit.a.rel, .slice o0 p.lit.a.l.length k0, .int .i64 p.lit.x.op, .string p.lit.x.s, .int .i64 p.lit.x.n, .slice o1 p.lit.x.l.length k1, .int .i64 p.lit.y.op, .string p.lit.y.s, .int .i64 p.lit.y.n, .slice o2 p.lit.y.l.length k2, .slice o3 p.x.length k3, .slice o4 p.y.length k4, .slice o5 p.a.length k5, .slice o6 p.rk.length k6, .slice o7 p.ou.length k7] 122))
  clear hp hM hl hx hy h1 h2 h3 h4 h5 Q
  rcases ho with ho | ho | ho
  all_goals
    have t3 := congrArg (fun o : Int => o == 3) ho
    have t2 := congrArg (fun o : Int => o == 2) ho
    have t4 := congrArg (fun o : Int => o == 4) ho
    have t5 := congrArg (fun o : Int => o == 5) ho
    have t6 := congrArg (fun o : Int => o == 6) ho
    have t8 := congrArg (fun o : Int => o == 8) ho
    have t9 := congrArg (fun o : Int => o == 9) ho
    have t10 := congrArg (fun o : Int => o == 10) ho
    have t7 := congrArg (fun o : Int => o == 7) ho
    have t1 := congrArg (fun o : Int => o == 1) ho
    simp only [Int.reduceBEq] at t3 t2 t4 t5 t6 t8 t9 t10 t7 t1
    clear ho
    go_enter Tryd.func103, Tryd.ntmps103
    go_wp2_with fail
    refine (HIN.out _ B0.out).mono ?_
    rintro e1 w1 ⟨rfl, rfl⟩
    cases bin with
    | true =>
      go_wp2_with fail
      refine (HAO.out _ B0.out).mono ?_
      rintro e2 w2 ⟨rfl, rfl⟩
      cases bou with
      | true =>
        go_wp2_with fail
        refine (HAR.out _ B0.out).mono ?_
        rintro e3 w3 ⟨rfl, rfl⟩
        cases brk with
        | true =>
          go_wp2
          go_ret
          exact ⟨by rw [Hq.out]; rfl, B0.out⟩
        | false =>
          go_wp2
          go_ret
          exact ⟨by rw [Hq.out]; rfl, B0.out⟩
      | false =>
        go_wp2
        go_ret
        exact ⟨by rw [Hq.out]; rfl, B0.out⟩
    | false =>
      go_wp2
      go_ret
      exact ⟨by rw [Hq.out]; rfl, B0.out⟩
set_option maxRecDepth 100000 in
set_option maxHeartbeats 16000000 in
theorem ready7_c (p : Pt) (cs : List Value) (M n c : Nat) (B : Bd) (w : World) (hp : PtC w w.heap.size p cs) (hM : MapI Tryd.prog w 9 3 M n B c) (ho : p.lit.op = 7) :
    Calls Tryd.prog 103 #[.agg cs.toArray, .map (some M)] w fun e w' => e = .returned (.bool (readyZ B p)) ∧ Below w.heap.size w w' := by
  have hMl := hM.lt
  obtain ⟨blx, bly, bax, bay, baa, bou, brk, bin, Q⟩ := asked B p
  obtain ⟨o0, k0, o1, k1, o2, k2, o3, k3, o4, k4, o5, k5, o6, k6, o7, k7, rfl, hl, h1, h2, h3, h4, h5⟩ := hp.look
  obtain ⟨q0, q1, q2, q3, q4, q5, qe, _, _, hx, hy⟩ := hl.look
  cases qe
  have HAO := Lib.hid (fun (W : World) (hb : Below w.heap.size w W) => hasAll_c p.ou _ M n c B W (h5.str hb hb.size) (hM.below hb hMl))
  rw [Q.ou] at HAO
  have HAR := Lib.hid (fun (W : World) (hb : Below w.heap.size w W) => hasAll_c p.rk _ M n c B W (h4.str hb hb.size) (hM.below hb hMl))
  rw [Q.rk] at HAR
  have Hq : Hid (readyZ B p = (bou && brk)) := Lib.hid (by unfold readyZ; rw [if_neg (by omega), if_neg (by omega), if_neg (by omega), if_pos ho, Q.ou, Q.rk])
  have B0 : Hid (Below w.heap.size w (w.alloc (.cells #[.int .i64 (p.place : Int), .int .i64 p.lit.op, .string p.lit.a.rel, .slice o0 p.lit.a.l.length k0, .int .i64 p.lit.x.op, .string p.lit.x.s, .int .i64 p.lit.x.n, .slice o1 p.lit.x.l.length k1, .int .i64 p.lit.y.op, .string p.lit.y.s, .int .i64 p.lit.y.n, .slice o2 p.lit.y.l.length k2, .slice o3 p.x.length k3, .slice o4 p.y.length k4, .slice o5 p.a.length k5, .slice o6 p.rk.length k6, .slice o7 p.ou.length k7] 122))) := Lib.hid ((Below.refl _ _).alloc (Nat.le_refl _) _)
  have R0 := Lib.hid (World.alloc_heap_new w (.cells #[.int .i64 (p.place : Int), .int .i64 p.lit.op, .string p.lit.a.rel, .slice o0 p.lit.a.l.length k0, .int .i64 p.lit.x.op, .string p.lit.x.s, .int .i64 p.lit.x.n, .slice o1 p.lit.x.l.length k1, .int .i64 p.lit.y.op, .string p.lit.y.s, .int .i64 p.lit.y.n, .slice o2 p.lit.y.l.length k2, .slice o3 p.x.length k3, .slice o4 p.y.length k4, .slice o5 p.a.length k5, .slice o6 p.rk.length k6, .slice o7 p.ou.length k7] 122))
  clear hp hM hl hx hy h1 h2 h3 h4 h5 Q
  have t3 := congrArg (fun o : Int => o == 3) ho
  have t2 := congrArg (fun o : Int => o == 2) ho
  have t4 := congrArg (fun o : Int => o == 4) ho
  have t5 := congrArg (fun o : Int => o == 5) ho
  have t6 := congrArg (fun o : Int => o == 6) ho
  have t8 := congrArg (fun o : Int => o == 8) ho
  have t9 := congrArg (fun o : Int => o == 9) ho
  have t10 := congrArg (fun o : Int => o == 10) ho
  have t7 := congrArg (fun o : Int => o == 7) ho
  have t1 := congrArg (fun o : Int => o == 1) ho
  simp only [Int.reduceBEq] at t3 t2 t4 t5 t6 t8 t9 t10 t7 t1
  clear ho
  go_enter Tryd.func103, Tryd.ntmps103
  go_wp2_with fail
  refine (HAO.out _ B0.out).mono ?_
  rintro e1 w1 ⟨rfl, rfl⟩
  cases bou with
  | true =>
    go_wp2_with fail
    refine (HAR.out _ B0.out).mono ?_
    rintro e2 w2 ⟨rfl, rfl⟩
    cases brk with
    | true =>
      go_wp2
      go_ret
      exact ⟨by rw [Hq.out]; rfl, B0.out⟩
    | false =>
      go_wp2
      go_ret
      exact ⟨by rw [Hq.out]; rfl, B0.out⟩
  | false =>
    go_wp2
    go_ret
    exact ⟨by rw [Hq.out]; rfl, B0.out⟩
set_option maxRecDepth 100000 in
set_option maxHeartbeats 16000000 in
theorem ready1_c (p : Pt) (cs : List Value) (M n c : Nat) (B : Bd) (w : World) (hp : PtC w w.heap.size p cs) (hM : MapI Tryd.prog w 9 3 M n B c) (ho : p.lit.op = 1) :
    Calls Tryd.prog 103 #[.agg cs.toArray, .map (some M)] w fun e w' => e = .returned (.bool (readyZ B p)) ∧ Below w.heap.size w w' := by
  have hMl := hM.lt
  obtain ⟨blx, bly, bax, bay, baa, bou, brk, bin, Q⟩ := asked B p
  obtain ⟨o0, k0, o1, k1, o2, k2, o3, k3, o4, k4, o5, k5, o6, k6, o7, k7, rfl, hl, h1, h2, h3, h4, h5⟩ := hp.look
  obtain ⟨q0, q1, q2, q3, q4, q5, qe, _, _, hx, hy⟩ := hl.look
  cases qe
  have HAR := Lib.hid (fun (W : World) (hb : Below w.heap.size w W) => hasAll_c p.rk _ M n c B W (h4.str hb hb.size) (hM.below hb hMl))
  rw [Q.rk] at HAR
  have Hq : Hid (readyZ B p = brk) := Lib.hid (by unfold readyZ; rw [if_neg (by omega), if_neg (by omega), if_neg (by omega), if_neg (by omega), if_pos ho, Q.rk])
  have B0 : Hid (Below w.heap.size w (w.alloc (.cells #[.int .i64 (p.place : Int), .int .i64 p.lit.op, .string p.lit.a.rel, .slice o0 p.lit.a.l.length k0, .int .i64 p.lit.x.op, .string p.lit.x.s, .int .i64 p.lit.x.n, .slice o1 p.lit.x.l.length k1, .int .i64 p.lit.y.op, .string p.lit.y.s, .int .i64 p.lit.y.n, .slice o2 p.lit.y.l.length k2, .slice o3 p.x.length k3, .slice o4 p.y.length k4, .slice o5 p.a.length k5, .slice o6 p.rk.length k6, .slice o7 p.ou.length k7] 122))) := Lib.hid ((Below.refl _ _).alloc (Nat.le_refl _) _)
  have R0 := Lib.hid (World.alloc_heap_new w (.cells #[.int .i64 (p.place : Int), .int .i64 p.lit.op, .string p.lit.a.rel, .slice o0 p.lit.a.l.length k0, .int .i64 p.lit.x.op, .string p.lit.x.s, .int .i64 p.lit.x.n, .slice o1 p.lit.x.l.length k1, .int .i64 p.lit.y.op, .string p.lit.y.s, .int .i64 p.lit.y.n, .slice o2 p.lit.y.l.length k2, .slice o3 p.x.length k3, .slice o4 p.y.length k4, .slice o5 p.a.length k5, .slice o6 p.rk.length k6, .slice o7 p.ou.length k7] 122))
  clear hp hM hl hx hy h1 h2 h3 h4 h5 Q
  have t3 := congrArg (fun o : Int => o == 3) ho
  have t2 := congrArg (fun o : Int => o == 2) ho
  have t4 := congrArg (fun o : Int => o == 4) ho
  have t5 := congrArg (fun o : Int => o == 5) ho
  have t6 := congrArg (fun o : Int => o == 6) ho
  have t8 := congrArg (fun o : Int => o == 8) ho
  have t9 := congrArg (fun o : Int => o == 9) ho
  have t10 := congrArg (fun o : Int => o == 10) ho
  have t7 := congrArg (fun o : Int => o == 7) ho
  have t1 := congrArg (fun o : Int => o == 1) ho
  simp only [Int.reduceBEq] at t3 t2 t4 t5 t6 t8 t9 t10 t7 t1
  clear ho
  go_enter Tryd.func103, Tryd.ntmps103
  go_wp2_with fail
  refine (HAR.out _ B0.out).mono ?_
  rintro e1 w1 ⟨rfl, rfl⟩
  cases brk with
  | true =>
    go_wp2
    go_ret
    exact ⟨by rw [Hq.out]; rfl, B0.out⟩
  | false =>
    go_wp2
    go_ret
    exact ⟨by rw [Hq.out]; rfl, B0.out⟩
set_option maxRecDepth 100000 in
set_option maxHeartbeats 16000000 in
theorem ready0_c (p : Pt) (cs : List Value) (M n c : Nat) (B : Bd) (w : World) (hp : PtC w w.heap.size p cs) (hM : MapI Tryd.prog w 9 3 M n B c) (n1 : p.lit.op ≠ 1) (n2 : p.lit.op ≠ 2) (n3 : p.lit.op ≠ 3) (n4 : p.lit.op ≠ 4) (n5 : p.lit.op ≠ 5) (n6 : p.lit.op ≠ 6) (n7 : p.lit.op ≠ 7) (n8 : p.lit.op ≠ 8) (n9 : p.lit.op ≠ 9) (n10 : p.lit.op ≠ 10) :
    Calls Tryd.prog 103 #[.agg cs.toArray, .map (some M)] w fun e w' => e = .returned (.bool (readyZ B p)) ∧ Below w.heap.size w w' := by
  have hMl := hM.lt
  obtain ⟨blx, bly, bax, bay, baa, bou, brk, bin, Q⟩ := asked B p
  obtain ⟨o0, k0, o1, k1, o2, k2, o3, k3, o4, k4, o5, k5, o6, k6, o7, k7, rfl, hl, h1, h2, h3, h4, h5⟩ := hp.look
  obtain ⟨q0, q1, q2, q3, q4, q5, qe, _, _, hx, hy⟩ := hl.look
  cases qe
  have Hq : Hid (readyZ B p = false) := Lib.hid (by unfold readyZ; rw [if_neg (by omega), if_neg (by omega), if_neg (by omega), if_neg (by omega), if_neg (by omega)])
  have B0 : Hid (Below w.heap.size w (w.alloc (.cells #[.int .i64 (p.place : Int), .int .i64 p.lit.op, .string p.lit.a.rel, .slice o0 p.lit.a.l.length k0, .int .i64 p.lit.x.op, .string p.lit.x.s, .int .i64 p.lit.x.n, .slice o1 p.lit.x.l.length k1, .int .i64 p.lit.y.op, .string p.lit.y.s, .int .i64 p.lit.y.n, .slice o2 p.lit.y.l.length k2, .slice o3 p.x.length k3, .slice o4 p.y.length k4, .slice o5 p.a.length k5, .slice o6 p.rk.length k6, .slice o7 p.ou.length k7] 122))) := Lib.hid ((Below.refl _ _).alloc (Nat.le_refl _) _)
  have R0 := Lib.hid (World.alloc_heap_new w (.cells #[.int .i64 (p.place : Int), .int .i64 p.lit.op, .string p.lit.a.rel, .slice o0 p.lit.a.l.length k0, .int .i64 p.lit.x.op, .string p.lit.x.s, .int .i64 p.lit.x.n, .slice o1 p.lit.x.l.length k1, .int .i64 p.lit.y.op, .string p.lit.y.s, .int .i64 p.lit.y.n, .slice o2 p.lit.y.l.length k2, .slice o3 p.x.length k3, .slice o4 p.y.length k4, .slice o5 p.a.length k5, .slice o6 p.rk.length k6, .slice o7 p.ou.length k7] 122))
  clear hp hM hl hx hy h1 h2 h3 h4 h5 Q
  have t3 : (p.lit.op == 3) = false := by simpa using n3
  have t2 : (p.lit.op == 2) = false := by simpa using n2
  have t4 : (p.lit.op == 4) = false := by simpa using n4
  have t5 : (p.lit.op == 5) = false := by simpa using n5
  have t6 : (p.lit.op == 6) = false := by simpa using n6
  have t8 : (p.lit.op == 8) = false := by simpa using n8
  have t9 : (p.lit.op == 9) = false := by simpa using n9
  have t10 : (p.lit.op == 10) = false := by simpa using n10
  have t7 : (p.lit.op == 7) = false := by simpa using n7
  have t1 : (p.lit.op == 1) = false := by simpa using n1
  clear n1 n2 n3 n4 n5 n6 n7 n8 n9 n10
  go_enter Tryd.func103, Tryd.ntmps103
  go_wp2
  go_ret
  exact ⟨by rw [Hq.out]; rfl, B0.out⟩
theorem isReady_c (p : Pt) (cs : List Value) (M n c : Nat) (B : Bd) (w : World) (hp : PtC w w.heap.size p cs) (hM : MapI Tryd.prog w 9 3 M n B c) :
    Calls Tryd.prog 103 #[.agg cs.toArray, .map (some M)] w fun e w' => e = .returned (.bool (readyZ B p)) ∧ Below w.heap.size w w' := by
  by_cases h3 : p.lit.op = 3
  · exact ready3_c p cs M n c B w hp hM h3
  by_cases h2 : p.lit.op = 2 ∨ p.lit.op = 4 ∨ p.lit.op = 5 ∨ p.lit.op = 6
  · exact ready2_c p cs M n c B w hp hM h2
  by_cases h8 : p.lit.op = 8 ∨ p.lit.op = 9 ∨ p.lit.op = 10
  · exact ready8_c p cs M n c B w hp hM h8
  by_cases h7 : p.lit.op = 7
  · exact ready7_c p cs M n c B w hp hM h7
  by_cases h1 : p.lit.op = 1
  · exact ready1_c p cs M n c B w hp hM h1
  exact ready0_c p cs M n c B w hp hM h1 (fun h => h2 (.inl h)) h3 (fun h => h2 (.inr (.inl h))) (fun h => h2 (.inr (.inr (.inl h)))) (fun h => h2 (.inr (.inr (.inr h)))) h7 (fun h => h8 (.inl h)) (fun h => h8 (.inr (.inl h))) (fun h => h8 (.inr (.inr h)))
end Go.Proofs.YtfcfehflocglpaaDoor
namespace Go.Proofs.YtfcfehflocglpaaDoor
open Go.RowKit

theorem ll_row {W : World} {B : Nat} {T : TypeId} {a b c : Value} {x y z : List ByteArray} (h : W.heap[B]? = some (.cells #[a, b, c] T (0, 0))) (h1 : SlOf W W.heap.size 1 StrC x a) (h2 : SlOf W W.heap.size 1 StrC y b) (h3 : SlOf W W.heap.size 1 StrC z c) :
    SlOf W W.heap.size 1 (LlC W W.heap.size) [x, y, z] (.slice (some ⟨B, 0, none⟩) 3 3) :=
  sl_cells (l := [x, y, z]) (R := LlC W W.heap.size) [[a], [b], [c]] h rfl (fun cs h => by simp at h; rcases h with rfl | rfl | rfl <;> rfl) (fun i l cs hl hc => by
    match i, hl, hc with
    | 0, hl, hc => cases hl; cases hc; exact ⟨_, rfl, h1⟩
    | 1, hl, hc => cases hl; cases hc; exact ⟨_, rfl, h2⟩
    | 2, hl, hc => cases hl; cases hc; exact ⟨_, rfl, h3⟩) (by show 3 ≤ maxLen; decide)
set_option maxRecDepth 100000 in
set_option maxHeartbeats 16000000 in
theorem binds_c (p : Pt) (cs : List Value) (w : World) (hp : PtC w w.heap.size p cs) (hn : p.x.length + p.y.length + p.a.length ≤ 1000000) :
    Calls Tryd.prog 105 #[.agg cs.toArray] w (VarsR (bindsZ p) w.heap.size w) := by
  have HP := Lib.hid hp
  obtain ⟨o0, k0, o1, k1, o2, k2, o3, k3, o4, k4, o5, k5, o6, k6, o7, k7, rfl, hl, h1, h2, h3, h4, h5⟩ := hp.look
  have HLT := Lib.hid (fun (W : World) (hb : Below w.heap.size w W) => isAgg_c p.lit _ W.heap.size W ((hl.below hb).more hb.size))
  have H1 := Lib.hid h1
  have H2 := Lib.hid h2
  have H3 := Lib.hid h3
  have HNs := Lib.hid hn
  have hsz : Hid (∀ s ∈ p.x ++ (p.y ++ p.a), s.size ≤ maxLen) := Lib.hid fun s hs => by
    rcases List.mem_append.1 hs with hs | hs
    · exact str_sizes h1 s hs
    · rcases List.mem_append.1 hs with hs | hs
      · exact str_sizes h2 s hs
      · exact str_sizes h3 s hs
  clear hp HP hl h1 h2 h3 h4 h5 hn
  have B0 : Hid (Below w.heap.size w (w.alloc (.cells #[.int .i64 (p.place : Int), .int .i64 p.lit.op, .string p.lit.a.rel, .slice o0 p.lit.a.l.length k0, .int .i64 p.lit.x.op, .string p.lit.x.s, .int .i64 p.lit.x.n, .slice o1 p.lit.x.l.length k1, .int .i64 p.lit.y.op, .string p.lit.y.s, .int .i64 p.lit.y.n, .slice o2 p.lit.y.l.length k2, .slice o3 p.x.length k3, .slice o4 p.y.length k4, .slice o5 p.a.length k5, .slice o6 p.rk.length k6, .slice o7 p.ou.length k7] 122))) := Lib.hid ((Below.refl _ _).alloc (Nat.le_refl _) _)
  have R0 := Lib.hid (World.alloc_heap_new w (.cells #[.int .i64 (p.place : Int), .int .i64 p.lit.op, .string p.lit.a.rel, .slice o0 p.lit.a.l.length k0, .int .i64 p.lit.x.op, .string p.lit.x.s, .int .i64 p.lit.x.n, .slice o1 p.lit.x.l.length k1, .int .i64 p.lit.y.op, .string p.lit.y.s, .int .i64 p.lit.y.n, .slice o2 p.lit.y.l.length k2, .slice o3 p.x.length k3, .slice o4 p.y.length k4, .slice o5 p.a.length k5, .slice o6 p.rk.length k6, .slice o7 p.ou.length k7] 122))
  go_enter Tryd.func105, Tryd.ntmps105
  go_wp2_with fail
  refine (HLT.out _ B0.out).mono ?_
  rintro e1 w1 ⟨rfl, b1⟩
  have R1 := Lib.hid ((b1.block w.heap.size (heap_lt R0.out)).trans R0.out)
  have B1 := Lib.hid (B0.out.trans (b1.mono B0.out.size))
  have hz1 : w.heap.size < w1.heap.size := heap_lt R1.out
  obtain ⟨x0, x1, x2, x3, x4, x5, x6, x7, x8, x9, x10, x11, x12, x13, x14, x15, x16⟩ := row17 R1.out
  clear b1
  cases ha : aggO p.lit.op with
  | true =>
    have Hq : Hid (bindsZ p = p.x) := Lib.hid (by unfold bindsZ; rw [if_pos ha])
    clear ha
    go_wp2
    go_ret
    exact ⟨_, rfl, by rw [Hq.out]; exact H1.out.str B1.out B1.out.size, B1.out⟩
  | false =>
    have Hq : Hid (bindsZ p = p.x ++ (p.y ++ p.a)) := Lib.hid (by unfold bindsZ; rw [if_neg (by rw [ha]; decide)])
    clear ha
    have HC := Lib.hid (fun (W : World) (hb : Below w.heap.size w W) (Bk : Nat) (T : TypeId) (h : W.heap[Bk]? = some (.cells #[.slice o3 p.x.length k3, .slice o4 p.y.length k4, .slice o5 p.a.length k5] T (0, 0))) => concat_c [p.x, p.y, p.a] _ W (ll_row h (H1.out.str hb hb.size) (H2.out.str hb hb.size) (H3.out.str hb hb.size)) (by have := HNs.out; simp [catL]; omega))
    go_wp2_with fail
    refine (HC.out _ (B1.out.alloc B1.out.size _) _ _ (World.alloc_heap_new w1 _)).mono ?_
    rintro e2 w2 ⟨u, rfl, hO, b2⟩
    have hS : SlOf w2 w2.heap.size 1 StrC (p.x ++ (p.y ++ p.a)) u := by
      have := sl_row (R := StrC) hO (fun s hs => ⟨rfl, hsz.out s (by simpa [catL] using hs)⟩)
      simpa [catL] using this
    have HS := Lib.hid hS
    have B2 := Lib.hid ((B1.out.alloc B1.out.size _).trans (b2.mono (B1.out.alloc B1.out.size _).size))
    obtain ⟨oq, kq, rfl⟩ := own_shape hO
    clear hO hS b2
    go_wp2
    go_ret
    exact ⟨_, rfl, by rw [Hq.out]; exact HS.out, B2.out⟩
end Go.Proofs.YtfcfehflocglpaaDoor

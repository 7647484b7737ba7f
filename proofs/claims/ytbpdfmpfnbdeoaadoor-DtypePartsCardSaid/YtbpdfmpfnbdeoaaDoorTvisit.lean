/- dtree.visit: every term within a term, each with its level, ahead of its parts; until the round says 'no more'. -/
import Derived.Test.YtbpdfmpfnbdeoaaDoorTshape2
import Derived.RangeFuncKeeps
import Derived.RangeFuncBound
import Derived.RangeFuncLeaves
import Derived.Shelf.Abstract
import Derived.OwnWalkIn
import Derived.TacticsInMore
import Derived.LoopIn
namespace Go.Proofs.YtbpdfmpfnbdeoaaDoor
open Go.RowKit Go.Shelf

attribute [local go_sem] Oper.semAt_some

/-- Every block of cells stays as it is. -/
structure KC (W W' : World) : Prop where
  size : W.heap.size ≤ W'.heap.size
  same : ∀ (i : Nat) (o : Obj), W.heap[i]? = some o → o.isCells = true → W'.heap[i]? = some o
theorem KC.refl (W : World) : KC W W := ⟨Nat.le_refl _, fun _ _ h _ => h⟩
theorem KC.trans {A B C : World} (h : KC A B) (k : KC B C) : KC A C := ⟨Nat.le_trans h.size k.size, fun i o hi ho => k.same i o (h.same i o hi ho) ho⟩
theorem KC.of_below {W W' : World} (h : Below W.heap.size W W') : KC W W' :=
  ⟨h.size, fun i _ hi _ => (h.block i (Array.getElem?_eq_some_iff.1 hi).1).trans hi⟩
theorem KC.cell {W W' : World} (k : KC W W') {p : Addr} {v : Value} (h : W.cell? p = some v) : W'.cell? p = some v := by
  unfold World.cell? at h ⊢
  cases ho : W.heap[p.block]? with
  | none => rw [ho] at h; simp at h
  | some o =>
    rw [ho] at h
    cases hc : o.isCells with
    | true => rw [k.same _ _ ho hc]; exact h
    | false => cases o <;> simp_all [Obj.isCells]
theorem KC.put (W : World) (l : Nat) (o o' : Obj) (ho : W.heap[l]? = some o) (hc : o.isCells = false) : KC W (W.putObj l o') := by
  refine ⟨by simp [World.putObj], fun i x hi hx => ?_⟩
  have hne : i ≠ l := by rintro rfl; rw [ho] at hi; cases hi; rw [hc] at hx; cases hx
  simpa [World.putObj, hne.symm] using hi
theorem CellsAt.kc {w w' : World} {a : Addr} {o : Nat} {cs : List Value} (h : CellsAt w a o cs) (k : KC w w') : CellsAt w' a o cs := fun j c hc => k.cell (h j c hc)
theorem TmC.kc {w w' : World} {B : Nat} {t : Tm} {cs : List Value} (h : TmC w B t cs) (k : KC w w') : TmC w' B t cs := by
  induction h with
  | nil op s n h1 h2 h3 => exact .nil op s n h1 h2 h3
  | row op s n l a cap cs h1 h2 h3 h4 h5 h6 _ h8 ih => exact .row op s n l a cap cs h1 h2 h3 h4 h5 h6 ih fun i x hx => ⟨(h8 i x hx).1, (h8 i x hx).2.kc k⟩

def nextLv (lv : Int) : Int := IntKind.i64.wrap (lv + 1)
mutual
def nodesT : Int → Tm → List (Int × Tm)
  | lv, .mk o s n l => (lv, .mk o s n l) :: nodesTs (nextLv lv) l
def nodesTs : Int → List Tm → List (Int × Tm)
  | _, [] => []
  | lv, t :: ts => nodesT lv t ++ nodesTs lv ts
end
theorem nodesT_eq (lv : Int) (t : Tm) : nodesT lv t = (lv, t) :: nodesTs (nextLv lv) t.l := by cases t; unfold nodesT; rfl
def goodN (x : Int × Tm) : Bool := decide (x.1 ≤ 20) && shapeB x.2
theorem nodes_ok : ∀ t : Tm, ∀ lv : Nat, (nodesT (lv : Int) t).all goodN = okT lv t := by
  intro t
  induction t using Tm.rec (motive_2 := fun l => ∀ lv : Nat, (nodesTs (lv : Int) l).all goodN = okTs lv l) with
  | nil lv => simp [nodesTs, okTs]
  | cons t ts ih ihs lv => unfold nodesTs okTs; rw [List.all_append, ih, ihs]
  | mk op s n l ih =>
    intro lv
    rw [nodesT_eq, okT_eq, List.all_cons]
    by_cases h : lv ≤ 20
    · have e : nextLv (lv : Int) = ((lv + 1 : Nat) : Int) := by
        unfold nextLv
        rw [IntWalk.i64_in _ (by omega)]
        omega
      rw [e, Tm.l_mk, ih]
      unfold goodN
      rw [show decide ((lv : Int) ≤ 20) = decide (lv ≤ 20) from decide_eq_decide.2 (by omega)]
    · unfold goodN
      rw [show decide ((lv : Int) ≤ 20) = false by simpa using by omega, show decide (lv ≤ 20) = false by simpa using by omega]
      rfl

/-- A term that has come, with its level, and how it lies in memory. -/
structure Nd (w : World) (B : Nat) where
  lv : Int
  t : Tm
  cs : List Value
  ok : TmC w B t cs
def Nd.pair {w : World} {B : Nat} (x : Nd w B) : Int × Tm := (x.lv, x.t)
def Nd.enc {w : World} {B : Nat} (x : Nd w B) : Array Value := #[.int .i64 x.lv, .agg x.cs.toArray]

section
variable {w0 : World} {n₀ : Nat}
def VPost (J Jx : List (Nd w0 n₀) → World → Prop) (lv : Int) (t : Tm) (pre : List (Nd w0 n₀)) (W : World) (e : Ending) (W' : World) : Prop :=
  (e = .returned (.bool true) ∧ (∃ ys, ys.map Nd.pair = nodesT lv t ∧ J (pre ++ ys) W') ∧ KC W W') ∨ (e = .returned (.bool false) ∧ ∃ ys, ys.map Nd.pair <+: nodesT lv t ∧ Jx (pre ++ ys) W')
def VisitAt (l N : Nat) (J Jx : List (Nd w0 n₀) → World → Prop) (t : Tm) : Prop :=
  ∀ (n : Nat) (lv : Int) (W : World) (cs : List Value) (pre : List (Nd w0 n₀)), KC w0 W → TmC w0 n₀ t cs → J pre W → pre.length + (nodesT lv t).length ≤ N →
    CallsIn Fence.wide n Tryd.prog 141 #[.agg cs.toArray, .int .i64 lv, .func (.yield l) #[] #[]] W (VPost J Jx lv t pre W)

theorem nodesTs_take {lv : Int} {l : List Tm} {k : Nat} {t : Tm} (h : l[k]? = some t) : nodesTs lv (l.take (k + 1)) = nodesTs lv (l.take k) ++ nodesT lv t := by
  have app : ∀ a b : List Tm, nodesTs lv (a ++ b) = nodesTs lv a ++ nodesTs lv b := by
    intro a b
    induction a with
    | nil => simp [nodesTs]
    | cons x a ih => simp [nodesTs, ih]
  rw [List.take_succ_eq_append_getElem (List.getElem?_eq_some_iff.1 h).1, app, (List.getElem?_eq_some_iff.1 h).2]
  simp [nodesTs]
theorem nodesTs_pre {lv : Int} {l : List Tm} (k : Nat) : nodesTs lv (l.take k) <+: nodesTs lv l := by
  have app : ∀ a b : List Tm, nodesTs lv (a ++ b) = nodesTs lv a ++ nodesTs lv b := by
    intro a b
    induction a with
    | nil => simp [nodesTs]
    | cons x a ih => simp [nodesTs, ih]
  exact ⟨nodesTs lv (l.drop k), by rw [← app, List.take_append_drop]⟩

/-- A term in a slice, as it lay when the walk began. -/
theorem nd_at {w wr : World} {B : Nat} {l : List Tm} {o : Option Addr} {k : Nat} {t : Tm} (S : Hid (SlIn w B 4 (TmC w B) l o)) (hk : KC w wr) (ht : l[k]? = some t) :
    ∃ a o' cap', o = some a ∧ a.block < B ∧ Hid (TmC w B t [.int .i64 t.op, .string t.s, .int .i64 t.n, .slice o' t.l.length cap']) ∧
      wr.cell? (a.add (k * 4)) = some (.int .i64 t.op) ∧ wr.cell? ⟨(a.add (k * 4)).block, (a.add (k * 4)).off + 1, none⟩ = some (.string t.s) ∧ wr.cell? ⟨(a.add (k * 4)).block, (a.add (k * 4)).off + 2, none⟩ = some (.int .i64 t.n) ∧ wr.cell? ⟨(a.add (k * 4)).block, (a.add (k * 4)).off + 3, none⟩ = some (.slice o' t.l.length cap') := by
  obtain ⟨a, cs, rfl, ha, _, h1, h2⟩ := S.out k t ht
  obtain ⟨o', cap', rfl, _⟩ := h1.look
  exact ⟨a, o', cap', rfl, ha, Lib.hid h1, (h2.kc hk).four⟩

set_option maxRecDepth 100000 in
set_option maxHeartbeats 8000000 in
theorem visit_in (l N : Nat) (J Jx : List (Nd w0 n₀) → World → Prop)
    (hJg : ∀ pre W W', J pre W → Below W.heap.size W W' → J pre W')
    (hY : ∀ m pre (x : Nd w0 n₀) W, J pre W → pre.length < N → YieldAt Fence.wide m Tryd.prog l x.enc W fun e W' => (e = .returned (.bool true) ∧ J (pre ++ [x]) W' ∧ KC W W') ∨ (e = .returned (.bool false) ∧ Jx (pre ++ [x]) W'))
    (t : Tm) : VisitAt l N J Jx t := by
  induction t using Tm.rec (motive_2 := fun ts => ∀ t ∈ ts, VisitAt l N J Jx t) with
  | nil x hx => simp at hx
  | cons t ts ih ihs x hx =>
    rcases List.mem_cons.1 hx with rfl | hx
    · exact ih
    · exact ihs x hx
  | mk op s m ts ih =>
    intro n lv W cs pre hK hc hJ hN
    obtain ⟨p1, q1, rfl, _, _, _, t1⟩ := hc.look
    obtain ⟨o1, cap1, e1, hc1, hm1, S1⟩ := SlOf.open t1
    cases e1
    have hnodes := nodesT_eq lv (.mk op s m ts)
    simp only [Tm.op_mk, Tm.s_mk, Tm.n_mk, Tm.l_mk] at hc hnodes hc1 S1 ⊢
    obtain ⟨x, hx⟩ : ∃ x : Nd w0 n₀, x = ⟨lv, .mk op s m ts, [.int .i64 op, .string s, .int .i64 m, .slice p1 ts.length q1], hc⟩ := ⟨_, rfl⟩
    have hxe : x.enc = #[.int .i64 lv, .agg #[.int .i64 op, .string s, .int .i64 m, .slice p1 ts.length q1]] := by rw [hx]; rfl
    have hxp : x.pair = (lv, .mk op s m ts) := by rw [hx]; rfl
    have hJ1 := hJg pre W (W.alloc (.cells #[.int .i64 op, .string s, .int .i64 m, .slice p1 ts.length q1] 43)) hJ ((Below.refl _ _).alloc (Nat.le_refl _) _)
    rw [hnodes, List.length_cons] at hN
    obtain ⟨fn, tmps, assign, body, hy, hR⟩ := hY (n - 1) pre x _ hJ1 (by omega)
    rw [hxe] at hy
    have IH := Lib.hid ih
    have Hn := Lib.hid hnodes
    have Hxp := Lib.hid hxp
    clear hx hxe hxp ih hnodes hJ1 t1 hc
    refine callsIn_of_wp Tryd.func141 rfl trivial ?_ rfl
    simp only [Tryd.ntmps141, List.size_toArray, List.length_cons, List.length_nil, Nat.reduceAdd, Nat.reduceSub, Array.replicate_succ, Array.replicate_zero, List.push_toArray, List.append_toArray, List.nil_append, List.cons_append]
    gi_wp2
    refine ⟨fun h => (by cases h), hR.mono ?_⟩
    rintro e W1 (⟨rfl, hJ2, hk2⟩ | ⟨rfl, hx2⟩)
    · have hk1 : KC W W1 := (KC.of_below ((Below.refl _ _).alloc (Nat.le_refl _) (.cells #[.int .i64 op, .string s, .int .i64 m, .slice p1 ts.length q1] 43))).trans hk2
      have x0 : W1.cell? ⟨W.heap.size, 3, none⟩ = some (.slice p1 ts.length q1) := hk2.cell (by go_simp)
      gi_wp2
      gi_loopw [17] (fun i wr => ∃ (k : Nat) (ys : List (Nd w0 n₀)), k ≤ ts.length ∧ i = .int .i64 k ∧ ys.map Nd.pair = (lv, .mk op s m ts) :: nodesTs (nextLv lv) (ts.take k) ∧ J (pre ++ ys) wr ∧ KC W wr) (fun i _ => ts.length - (intOf i).toNat)
      case atStart => exact ⟨0, [x], Nat.zero_le _, rfl, by simp [Hxp.out, nodesTs], hJ2, hk1⟩
      case round =>
        obtain ⟨k, ys, hk, rfl, hys, hJk, hkk⟩ := hrel
        have Hys := Lib.hid hys
        clear hys
        by_cases hlt : k < ts.length
        · have hlt' : (k : Int) < (ts.length : Int) := by omega
          obtain ⟨u, hu⟩ : ∃ u, ts[k]? = some u := ⟨ts[k], List.getElem?_eq_getElem hlt⟩
          obtain ⟨a, p2, q2, rfl, ha, Hc, c0, c1, c2, c3⟩ := nd_at S1 (hK.trans hkk) hu
          have Htk := Lib.hid (nodesTs_take (lv := nextLv lv) hu)
          have Hm := Lib.hid (List.mem_of_getElem? hu)
          have gw : IntKind.i64.wrap (lv + 1) = nextLv lv := rfl
          have hlen : (pre ++ ys).length + (nodesT (nextLv lv) u).length ≤ N := by
            have h1 := congrArg List.length Hys.out
            have h2 := (nodesTs_pre (lv := nextLv lv) (l := ts) (k + 1)).length_le
            rw [Htk.out] at h2
            simp only [List.length_map, List.length_cons, List.length_append] at h1 h2 ⊢
            omega
          clear hu
          have HI := Lib.hid (fun (V : World) (hv : Below wr.heap.size wr V) => IH.out u Hm.out (n - 1) (nextLv lv) V [_, _, _, _] (pre ++ ys) ((hK.trans hkk).trans (KC.of_below hv)) Hc.out (hJg _ _ _ hJk hv) hlen)
          gi_wp2_with fail
          refine ⟨trivial, fun h => (by cases h), (HI.out _ ((Below.refl _ _).alloc (Nat.le_refl _) _)).mono ?_⟩
          rintro e W2 (⟨rfl, ⟨zs, hz, hJ3⟩, hk3⟩ | ⟨rfl, zs, hz, hx3⟩)
          · have Hz := Lib.hid hz
            clear hz
            gi_wp2
            go_roundw
            case rel =>
              exact ⟨k + 1, ys ++ zs, hlt, by go_num, by rw [List.map_append, Hys.out, Hz.out, Htk.out]; rfl, by rw [← List.append_assoc]; exact hJ3, (hkk.trans (KC.of_below ((Below.refl _ _).alloc (Nat.le_refl _) _))).trans hk3⟩
            case measure => simp [intOf]; omega
          · have Hz := Lib.hid hz
            clear hz
            gi_wp2
            go_ret
            refine .inr ⟨rfl, ys ++ zs, ?_, by rw [← List.append_assoc]; exact hx3⟩
            rw [Hn.out, List.map_append, Hys.out, List.cons_append]
            obtain ⟨r, hr⟩ := Hz.out
            obtain ⟨r2, hr2⟩ := nodesTs_pre (lv := nextLv lv) (l := ts) (k + 1)
            rw [Htk.out, ← hr] at hr2
            exact ⟨r ++ r2, by rw [← hr2]; simp⟩
        · have hlt' : ¬ (k : Int) < (ts.length : Int) := by omega
          gi_wp2
          go_ret
          refine .inl ⟨rfl, ⟨ys, ?_, hJk⟩, hkk⟩
          rw [Hys.out, Hn.out, List.take_of_length_le (by omega)]
    · gi_wp2
      go_ret
      exact .inr ⟨rfl, [x], by rw [Hn.out]; simp [Hxp.out], hx2⟩
end
end Go.Proofs.YtbpdfmpfnbdeoaaDoor

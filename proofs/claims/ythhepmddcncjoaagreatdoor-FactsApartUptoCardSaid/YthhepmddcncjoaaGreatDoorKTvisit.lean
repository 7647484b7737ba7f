/- dtree.visit: every term within a term, each with its level, ahead of its parts; until the round says 'no more'. dtree.eachTerm: a function over which a range goes through every term within a term. dtree.checkTerms: nil, if all terms are right; else the listed error. dtree.checkAtom, checkHead. -/
import Derived.Test.YthhepmddcncjoaaGreatDoorKTsmall
import Derived.RangeFuncKeeps
import Derived.RangeFuncBound
import Derived.RangeFuncLeaves
import Derived.Shelf.Abstract
import Derived.OwnWalkIn
import Derived.TacticsInMore
import Derived.LoopIn
import Derived.Test.YthhepmddcncjoaaGreatDoorKConv
import Derived.RangeFuncFrom
import Derived.RangeFuncBox
import Derived.RangeFuncNested
set_option linter.unusedSimpArgs false
set_option linter.unusedVariables false
namespace Go.Proofs.YthhepmddcncjoaaGreatDoor
open Go.RowKit Go.Shelf

attribute [local go_sem] Oper.semAt_some

/-- Every block of cells stays as it is. -/
structure KC (W W' : World) : Prop where
  size : W.heap.size ≤ W'.heap.size
  same : ∀ (i : Nat) (o : Obj), W.heap[i]? = some o → o.isCells = true → W'.heap[i]? = some o
theorem KC.refl (W : World) : KC W W := ⟨Nat.le_refl _, fun _ _ h _ => h⟩
theorem KC.trans {A B C : World} (h : KC A B) (k : KC B C) : KC A C := ⟨Nat.le_trans h.size k.size, fun i o hi ho => k.same i o (h.same i o hi ho) ho⟩
theorem KC.of_below {W W' : World} (h : Below W.heap.size W W') : KC W W' :=
  ⟨h.size, fun i _ hi _ => (h.block i (Array.getElem?_eq_some_iff.1 hi).1).trans hi⟩
theorem KC.cell {W W' : World} (k : KC W W') {p : Addr} {v : Value} (h : W.cell? p = some v) : W'.cell? p = some v := by
  unfold World.cell? at h ⊢
  cases ho : W.heap[p.block]? with
  | none => rw [ho] at h; simp at h
  | some o =>
    rw [ho] at h
    cases hc : o.isCells with
    | true => rw [k.same _ _ ho hc]; exact h
    | false => cases o <;> simp_all [Obj.isCells]
theorem KC.put (W : World) (l : Nat) (o o' : Obj) (ho : W.heap[l]? = some o) (hc : o.isCells = false) : KC W (W.putObj l o') := by
  refine ⟨by simp [World.putObj], fun i x hi hx => ?_⟩
  have hne : i ≠ l := by rintro rfl; rw [ho] at hi; cases hi; rw [hc] at hx; cases hx
  simpa [World.putObj, hne.symm] using hi
theorem CellsAt.kc {w w' : World} {a : Addr} {o : Nat} {cs : List Value} (h : CellsAt w a o cs) (k : KC w w') : CellsAt w' a o cs := fun j c hc => k.cell (h j c hc)
theorem TmC.kc {w w' : World} {B : Nat} {t : Tm} {cs : List Value} (h : TmC w B t cs) (k : KC w w') : TmC w' B t cs := by
  induction h with
  | nil op s n h1 h2 h3 => exact .nil op s n h1 h2 h3
  | row op s n l a cap cs h1 h2 h3 h4 h5 h6 _ h8 ih => exact .row op s n l a cap cs h1 h2 h3 h4 h5 h6 ih fun i x hx => ⟨(h8 i x hx).1, (h8 i x hx).2.kc k⟩

def nextLv (lv : Int) : Int := IntKind.i64.wrap (lv + 1)
mutual
def nodesT : Int → Tm → List (Int × Tm)
  | lv, .mk o s n l => (lv, .mk o s n l) :: nodesTs (nextLv lv) l
def nodesTs : Int → List Tm → List (Int × Tm)
  | _, [] => []
  | lv, t :: ts => nodesT lv t ++ nodesTs lv ts
end
theorem nodesT_eq (lv : Int) (t : Tm) : nodesT lv t = (lv, t) :: nodesTs (nextLv lv) t.l := by cases t; unfold nodesT; rfl
def goodN (x : Int × Tm) : Bool := decide (x.1 ≤ 20) && shapeB x.2
theorem nodes_ok : ∀ t : Tm, ∀ lv : Nat, (nodesT (lv : Int) t).all goodN = okT lv t := by
  intro t
  induction t using Tm.rec (motive_2 := fun l => ∀ lv : Nat, (nodesTs (lv : Int) l).all goodN = okTs lv l) with
  | nil lv => simp [nodesTs, okTs]
  | cons t ts ih ihs lv => unfold nodesTs okTs; rw [List.all_append, ih, ihs]
  | mk op s n l ih =>
    intro lv
    rw [nodesT_eq, okT_eq, List.all_cons]
    by_cases h : lv ≤ 20
    · have e : nextLv (lv : Int) = ((lv + 1 : Nat) : Int) := by
        unfold nextLv
        rw [IntWalk.i64_in _ (by omega)]
        omega
      rw [e, Tm.l_mk, ih]
      unfold goodN
      rw [show decide ((lv : Int) ≤ 20) = decide (lv ≤ 20) from decide_eq_decide.2 (by omega)]
    · unfold goodN
      rw [show decide ((lv : Int) ≤ 20) = false by simpa using by omega, show decide (lv ≤ 20) = false by simpa using by omega]
      rfl

/-- A term that has come, with its level, and how it lies in memory. -/
structure Nd (w : World) (B : Nat) where
  lv : Int
  t : Tm
  cs : List Value
  ok : TmC w B t cs
def Nd.pair {w : World} {B : Nat} (x : Nd w B) : Int × Tm := (x.lv, x.t)
def Nd.enc {w : World} {B : Nat} (x : Nd w B) : Array Value := #[.int .i64 x.lv, .agg x.cs.toArray]

section
variable {w0 : World} {n₀ : Nat}
def VPost (J Jx : List (Nd w0 n₀) → World → Prop) (lv : Int) (t : Tm) (pre : List (Nd w0 n₀)) (W : World) (e : Ending) (W' : World) : Prop :=
  (e = .returned (.bool true) ∧ (∃ ys, ys.map Nd.pair = nodesT lv t ∧ J (pre ++ ys) W') ∧ KC W W') ∨ (e = .returned (.bool false) ∧ ∃ ys, ys.map Nd.pair <+: nodesT lv t ∧ Jx (pre ++ ys) W')
def VisitAt (l N : Nat) (J Jx : List (Nd w0 n₀) → World → Prop) (t : Tm) : Prop :=
  ∀ (n : Nat) (lv : Int) (W : World) (cs : List Value) (pre : List (Nd w0 n₀)), KC w0 W → TmC w0 n₀ t cs → J pre W → pre.length + (nodesT lv t).length ≤ N →
    CallsIn Fence.wide n Tryz.prog 182 #[.agg cs.toArray, .int .i64 lv, .func (.yield l) #[] #[]] W (VPost J Jx lv t pre W)

theorem nodesTs_take {lv : Int} {l : List Tm} {k : Nat} {t : Tm} (h : l[k]? = some t) : nodesTs lv (l.take (k + 1)) = nodesTs lv (l.take k) ++ nodesT lv t := by
  have app : ∀ a b : List Tm, nodesTs lv (a ++ b) = nodesTs lv a ++ nodesTs lv b := by
    intro a b
    induction a with
    | nil => simp [nodesTs]
    | cons x a ih => simp [nodesTs, ih]
  rw [List.take_succ_eq_append_getElem (List.getElem?_eq_some_iff.1 h).1, app, (List.getElem?_eq_some_iff.1 h).2]
  simp [nodesTs]
theorem nodesTs_pre {lv : Int} {l : List Tm} (k : Nat) : nodesTs lv (l.take k) <+: nodesTs lv l := by
  have app : ∀ a b : List Tm, nodesTs lv (a ++ b) = nodesTs lv a ++ nodesTs lv b := by
    intro a b
    induction a with
    | nil => simp [nodesTs]
    | cons x a ih => simp [nodesTs, ih]
  exact ⟨nodesTs lv (l.drop k), by rw [← app, List.take_append_drop]⟩

/-- A term in a slice, as it lay when the walk began. -/
theorem nd_at {w wr : World} {B : Nat} {l : List Tm} {o : Option Addr} {k : Nat} {t : Tm} (S : Hid (SlIn w B 4 (TmC w B) l o)) (hk : KC w wr) (ht : l[k]? = some t) :
    ∃ a o' cap', o = some a ∧ a.block < B ∧ Hid (TmC w B t [.int .i64 t.op, .string t.s, .int .i64 t.n, .slice o' t.l.length cap']) ∧
      wr.cell? (a.add (k * 4)) = some (.int .i64 t.op) ∧ wr.cell? ⟨(a.add (k * 4)).block, (a.add (k * 4)).off + 1, none⟩ = some (.string t.s) ∧ wr.cell? ⟨(a.add (k * 4)).block, (a.add (k * 4)).off + 2, none⟩ = some (.int .i64 t.n) ∧ wr.cell? ⟨(a.add (k * 4)).block, (a.add (k * 4)).off + 3, none⟩ = some (.slice o' t.l.length cap') := by
  obtain ⟨a, cs, rfl, ha, _, h1, h2⟩ := S.out k t ht
  obtain ⟨o', cap', rfl, _⟩ := h1.look
  exact ⟨a, o', cap', rfl, ha, Lib.hid h1, (h2.kc hk).four⟩

set_option maxRecDepth 100000 in
set_option maxHeartbeats 8000000 in
theorem visit_in (l N : Nat) (J Jx : List (Nd w0 n₀) → World → Prop)
    (hJg : ∀ pre W W', J pre W → Below W.heap.size W W' → J pre W')
    (hY : ∀ m pre (x : Nd w0 n₀) W, J pre W → pre.length < N → YieldAt Fence.wide m Tryz.prog l x.enc W fun e W' => (e = .returned (.bool true) ∧ J (pre ++ [x]) W' ∧ KC W W') ∨ (e = .returned (.bool false) ∧ Jx (pre ++ [x]) W'))
    (t : Tm) : VisitAt l N J Jx t := by
  induction t using Tm.rec (motive_2 := fun ts => ∀ t ∈ ts, VisitAt l N J Jx t) with
  | nil x hx => simp at hx
  | cons t ts ih ihs x hx =>
    rcases List.mem_cons.1 hx with rfl | hx
    · exact ih
    · exact ihs x hx
  | mk op s m ts ih =>
    intro n lv W cs pre hK hc hJ hN
    obtain ⟨p1, q1, rfl, _, _, _, t1⟩ := hc.look
    obtain ⟨o1, cap1, e1, hc1, hm1, S1⟩ := SlOf.open t1
    cases e1
    have hnodes := nodesT_eq lv (.mk op s m ts)
    simp only [Tm.op_mk, Tm.s_mk, Tm.n_mk, Tm.l_mk] at hc hnodes hc1 S1 ⊢
    obtain ⟨x, hx⟩ : ∃ x : Nd w0 n₀, x = ⟨lv, .mk op s m ts, [.int .i64 op, .string s, .int .i64 m, .slice p1 ts.length q1], hc⟩ := ⟨_, rfl⟩
    have hxe : x.enc = #[.int .i64 lv, .agg #[.int .i64 op, .string s, .int .i64 m, .slice p1 ts.length q1]] := by rw [hx]; rfl
    have hxp : x.pair = (lv, .mk op s m ts) := by rw [hx]; rfl
    have hJ1 := hJg pre W (W.alloc (.cells #[.int .i64 op, .string s, .int .i64 m, .slice p1 ts.length q1] 88)) hJ ((Below.refl _ _).alloc (Nat.le_refl _) _)
    rw [hnodes, List.length_cons] at hN
    obtain ⟨fn, tmps, assign, body, hy, hR⟩ := hY (n - 1) pre x _ hJ1 (by omega)
    rw [hxe] at hy
    have IH := Lib.hid ih
    have Hn := Lib.hid hnodes
    have Hxp := Lib.hid hxp
    clear hx hxe hxp ih hnodes hJ1 t1 hc
    refine callsIn_of_wp Tryz.func182 rfl trivial ?_ rfl
    simp only [Tryz.ntmps182, List.size_toArray, List.length_cons, List.length_nil, Nat.reduceAdd, Nat.reduceSub, Array.replicate_succ, Array.replicate_zero, List.push_toArray, List.append_toArray, List.nil_append, List.cons_append]
    gi_wp2
    refine ⟨fun h => (by cases h), hR.mono ?_⟩
    rintro e W1 (⟨rfl, hJ2, hk2⟩ | ⟨rfl, hx2⟩)
    · have hk1 : KC W W1 := (KC.of_below ((Below.refl _ _).alloc (Nat.le_refl _) (.cells #[.int .i64 op, .string s, .int .i64 m, .slice p1 ts.length q1] 88))).trans hk2
      have x0 : W1.cell? ⟨W.heap.size, 3, none⟩ = some (.slice p1 ts.length q1) := hk2.cell (by go_simp)
      gi_wp2
      gi_loopw [17] (fun i wr => ∃ (k : Nat) (ys : List (Nd w0 n₀)), k ≤ ts.length ∧ i = .int .i64 k ∧ ys.map Nd.pair = (lv, .mk op s m ts) :: nodesTs (nextLv lv) (ts.take k) ∧ J (pre ++ ys) wr ∧ KC W wr) (fun i _ => ts.length - (intOf i).toNat)
      case atStart => exact ⟨0, [x], Nat.zero_le _, rfl, by simp [Hxp.out, nodesTs], hJ2, hk1⟩
      case round =>
        obtain ⟨k, ys, hk, rfl, hys, hJk, hkk⟩ := hrel
        have Hys := Lib.hid hys
        clear hys
        by_cases hlt : k < ts.length
        · have hlt' : (k : Int) < (ts.length : Int) := by omega
          obtain ⟨u, hu⟩ : ∃ u, ts[k]? = some u := ⟨ts[k], List.getElem?_eq_getElem hlt⟩
          obtain ⟨a, p2, q2, rfl, ha, Hc, c0, c1, c2, c3⟩ := nd_at S1 (hK.trans hkk) hu
          have Htk := Lib.hid (nodesTs_take (lv := nextLv lv) hu)
          have Hm := Lib.hid (List.mem_of_getElem? hu)
          have gw : IntKind.i64.wrap (lv + 1) = nextLv lv := rfl
          have hlen : (pre ++ ys).length + (nodesT (nextLv lv) u).length ≤ N := by
            have h1 := congrArg List.length Hys.out
            have h2 := (nodesTs_pre (lv := nextLv lv) (l := ts) (k + 1)).length_le
            rw [Htk.out] at h2
            simp only [List.length_map, List.length_cons, List.length_append] at h1 h2 ⊢
            omega
          clear hu
          have HI := Lib.hid (fun (V : World) (hv : Below wr.heap.size wr V) => IH.out u Hm.out (n - 1) (nextLv lv) V [_, _, _, _] (pre ++ ys) ((hK.trans hkk).trans (KC.of_below hv)) Hc.out (hJg _ _ _ hJk hv) hlen)
          gi_wp2_with fail
          refine ⟨trivial, fun h => (by cases h), (HI.out _ ((Below.refl _ _).alloc (Nat.le_refl _) _)).mono ?_⟩
          rintro e W2 (⟨rfl, ⟨zs, hz, hJ3⟩, hk3⟩ | ⟨rfl, zs, hz, hx3⟩)
          · have Hz := Lib.hid hz
            clear hz
            gi_wp2
            go_roundw
            case rel =>
              exact ⟨k + 1, ys ++ zs, hlt, by go_num, by rw [List.map_append, Hys.out, Hz.out, Htk.out]; rfl, by rw [← List.append_assoc]; exact hJ3, (hkk.trans (KC.of_below ((Below.refl _ _).alloc (Nat.le_refl _) _))).trans hk3⟩
            case measure => simp [intOf]; omega
          · have Hz := Lib.hid hz
            clear hz
            gi_wp2
            go_ret
            refine .inr ⟨rfl, ys ++ zs, ?_, by rw [← List.append_assoc]; exact hx3⟩
            rw [Hn.out, List.map_append, Hys.out, List.cons_append]
            obtain ⟨r, hr⟩ := Hz.out
            obtain ⟨r2, hr2⟩ := nodesTs_pre (lv := nextLv lv) (l := ts) (k + 1)
            rw [Htk.out, ← hr] at hr2
            exact ⟨r ++ r2, by rw [← hr2]; simp⟩
        · have hlt' : ¬ (k : Int) < (ts.length : Int) := by omega
          gi_wp2
          go_ret
          refine .inl ⟨rfl, ⟨ys, ?_, hJk⟩, hkk⟩
          rw [Hys.out, Hn.out, List.take_of_length_le (by omega)]
    · gi_wp2
      go_ret
      exact .inr ⟨rfl, [x], by rw [Hn.out]; simp [Hxp.out], hx2⟩
end
end Go.Proofs.YthhepmddcncjoaaGreatDoor
namespace Go.Proofs.YthhepmddcncjoaaGreatDoor
open Go.RowKit Go.Shelf

attribute [local go_sem] Oper.semAt_some

theorem roomOfNone {F : Fence} (hd : F.depth = none) (k : Nat) : F.room k := fun d h => by rw [hd] at h; cases h
theorem roundAny {F : Fence} (hd : F.depth = none) {m m' : Nat} {P : Program} {l : Nat} {f : FuncId} {tmps : Array Value} {assign body : Code} {w : World} {R : Ending → World → Prop}
    (h : RoundIn F m P l f tmps assign body w R) : RoundIn F m' P l f tmps assign body w R := ⟨h.1, fun c cs _ => h.2 c cs (roomOfNone hd _)⟩
theorem yieldAny {F : Fence} (hd : F.depth = none) {m : Nat} (m' : Nat) {P : Program} {l : Nat} {args : Array Value} {W : World} {R : Ending → World → Prop} (h : YieldAt F m P l args W R) : YieldAt F m' P l args W R := by
  obtain ⟨fn, tmps, assign, body, hy, hR⟩ := h
  exact ⟨fn, tmps, assign, body, hy, roundAny hd hR⟩

theorem grownBelow {W W' : World} (h : Below W.heap.size W W') : W.grownBy W' none := ⟨h.os, h.tape, h.output, h.size, fun k hk _ => h.block k hk⟩
theorem eachTerm_in (n : Nat) (t : Tm) (cs : List Value) (w : World) (hc : TmC w w.heap.size t cs) :
    CallsIn Fence.wide n Tryz.prog 165 #[.agg cs.toArray] w fun e w' => e = .returned (.func (.func 181) #[] #[.pointer (some ⟨w.heap.size, 0, none⟩)]) ∧ w' = w.alloc (.cells cs.toArray 88) := by
  obtain ⟨p1, q1, rfl, _, _, _, _⟩ := hc.look
  clear hc
  refine callsIn_of_wp Tryz.func165 rfl trivial ?_ rfl
  simp only [Tryz.ntmps165, List.size_toArray, List.length_cons, List.length_nil, Nat.reduceAdd, Nat.reduceSub, Array.replicate_succ, Array.replicate_zero, List.push_toArray, List.append_toArray, List.nil_append, List.cons_append]
  gi_wp2
  go_ret
  exact ⟨rfl, rfl⟩

set_option maxRecDepth 100000 in
set_option maxHeartbeats 2000000 in
/-- The box B holds the term: it is gone through. -/
theorem eachTerm_stops (n : Nat) (B n₀ : Nat) (t : Tm) (cs : List Value) (w : World) (hB : CellsAt w ⟨B, 0, none⟩ 0 cs) (hc : TmC w n₀ t cs) :
    SeqStopsK Fence.wide n Tryz.prog 181 #[.pointer (some ⟨B, 0, none⟩)] (Nd.enc (w := w) (B := n₀)) KC (fun ys => ys.map Nd.pair = nodesT 1 t) (fun pre => pre.map Nd.pair <+: nodesT 1 t) (nodesT 1 t).length w := by
  intro l J Jx W hW hJ _ hY h0
  have hK : KC w W := KC.of_below hW
  have hv := visit_in (w0 := w) (n₀ := n₀) l (nodesT 1 t).length J Jx (fun pre W W' h hb => hJ pre W W' none h (grownBelow hb) (fun _ e => by cases e)) (fun m pre x W hj hl => yieldAny rfl m (hY pre x W hj hl)) t (n - 1) 1 W cs [] hK hc h0 (by simp)
  obtain ⟨p1, q1, rfl, _, _, _, _⟩ := hc.look
  obtain ⟨c0, c1, c2, c3⟩ := (hB.kc hK).four
  have ea : (⟨B, 0, none⟩ : Addr).add 0 = ⟨B, 0, none⟩ := by unfold Addr.add; simp
  simp only [ea, Nat.zero_add] at c0 c1 c2 c3
  have HV := Lib.hid hv
  clear hv hc hB ea hY hJ
  refine callsIn_of_wp Tryz.func181 rfl trivial ?_ rfl
  simp only [Tryz.ntmps181, List.size_toArray, List.length_cons, List.length_nil, Nat.reduceAdd, Nat.reduceSub, Array.replicate_succ, Array.replicate_zero, List.push_toArray, List.append_toArray, List.nil_append, List.cons_append]
  gi_wp2_with fail
  refine ⟨trivial, fun h => (by cases h), HV.out.mono ?_⟩
  rintro e W1 (⟨rfl, ⟨ys, hys, hJ1⟩, _⟩ | ⟨rfl, ys, hys, hx⟩)
  · gi_wp2
    go_end0
    exact ⟨⟨_, rfl⟩, .inl ⟨ys, hys, by simpa using hJ1⟩⟩
  · gi_wp2
    go_end0
    exact ⟨⟨_, rfl⟩, .inr ⟨ys, hys, by simpa using hx⟩⟩
end Go.Proofs.YthhepmddcncjoaaGreatDoor
namespace Go.Proofs.YthhepmddcncjoaaGreatDoor
open Go.RowKit Go.Shelf

attribute [local go_sem] Oper.semAt_some

theorem scopeWide {n : Nat} {P : Program} {c : Code} {Q : Exit → Act → World → Prop} {a : Act} {w : World} (h : c.wpIn Fence.wide n P (Exit.noGoto Q) a w) : (Code.scope c).wpIn Fence.wide n P Q a w :=
  wpIn_wide.2 (wp_scope_straight (wpIn_wide.1 h))

/-- What the laws of layer 3 read of the listed variables. -/
structure TErr (a : Addr) (w : World) : Prop where
  err : w.cell? ⟨0, 0, none⟩ = some (.iface 256 (.pointer (some a)))
  size : 0 < w.heap.size
theorem TErr.kc {a : Addr} {w w' : World} (h : TErr a w) (k : KC w w') : TErr a w' := ⟨k.cell h.err, Nat.lt_of_lt_of_le h.size k.size⟩
theorem TErr.below {a : Addr} {w w' : World} (h : TErr a w) (k : Below w.heap.size w w') : TErr a w' := h.kc (KC.of_below k)
/-- An error, or none. -/
def okV (a : Addr) (b : Bool) : Value := if b = true then .nilIface else .iface 256 (.pointer (some a))

def mark (D : Nat) : Deferred := { target := .collected D, args := #[] }
/-- The marks of the ranges that are through, each in a block of its own behind the blocks that were there. -/
def Marks (n0 : Nat) (W : World) : List Nat → Prop
  | [] => True
  | D :: Ds => (W.heap[D]? = some (.deferred (some [])) ∧ n0 ≤ D ∧ ∀ E ∈ Ds, E ≠ D) ∧ Marks n0 W Ds
theorem Marks.kept {n0 : Nat} {W W' : World} : ∀ {Ds : List Nat}, (∀ D ∈ Ds, W.heap[D]? = some (Obj.deferred (some [])) → W'.heap[D]? = some (Obj.deferred (some []))) → Marks n0 W Ds → Marks n0 W' Ds
  | [], _, _ => trivial
  | D :: _, h, ⟨⟨h1, h2, h3⟩, h4⟩ => ⟨⟨h D (by simp) h1, h2, h3⟩, Marks.kept (fun E hE => h E (by simp [hE])) h4⟩
theorem Marks.below {n0 : Nat} {W W' : World} {Ds : List Nat} (h : Marks n0 W Ds) (hb : Below W.heap.size W W') : Marks n0 W' Ds := Marks.kept (fun D _ h => (hb.block D (Array.getElem?_eq_some_iff.1 h).1).trans h) h
theorem Marks.others {n0 : Nat} {W W' : World} {Ds : List Nat} (h : Marks n0 W Ds) (hb : KeepsOthers W W') : Marks n0 W' Ds := Marks.kept (fun D _ h => hb.same D _ h rfl) h
theorem Marks.grown {n0 B : Nat} {W W' : World} {row : Option Nat} {Ds : List Nat} (h : Marks n0 W Ds) (hl : ∀ D ∈ Ds, D < B) (hg : W.grownBy W' row) (hr : ∀ r, row = some r → B ≤ r) : Marks n0 W' Ds := by
  obtain ⟨_, _, _, _, hblk⟩ := hg
  refine Marks.kept (fun D hD h => (hblk D (Array.getElem?_eq_some_iff.1 h).1 (fun e => ?_)).trans h) h
  have h1 := hl D hD
  have h2 := hr D e.symm
  omega
theorem kcGrown {W W' : World} {row : Option Nat} (hg : W.grownBy W' row) (hr : ∀ r, row = some r → ∃ o : Obj, W.heap[r]? = some o ∧ o.isCells = false) : KC W W' := by
  obtain ⟨_, _, _, hsz, hblk⟩ := hg
  refine ⟨hsz, fun i o hi ho => (hblk i (Array.getElem?_eq_some_iff.1 hi).1 (fun e => ?_)).trans hi⟩
  obtain ⟨o', h1, h2⟩ := hr i e.symm
  rw [hi] at h1
  cases h1
  rw [ho] at h2
  cases h2
theorem newCells (W : World) (cs : List Value) (T : TypeId) : CellsAt (W.alloc (.cells cs.toArray T)) ⟨W.heap.size, 0, none⟩ 0 cs := by
  intro j c hj
  have hn : (W.alloc (.cells cs.toArray T)).heap[W.heap.size]? = some (.cells cs.toArray T (0, 0)) := World.alloc_heap_new W _
  have hadd : (⟨W.heap.size, 0, none⟩ : Addr).add (0 + j) = ⟨W.heap.size, j, none⟩ := by unfold Addr.add; split <;> simp_all
  rw [hadd]
  unfold World.cell?
  simp only [hn]
  simpa using hj
theorem Marks.lt {n0 : Nat} {W : World} : ∀ {Ds : List Nat}, Marks n0 W Ds → ∀ D ∈ Ds, D < W.heap.size
  | _ :: _, ⟨⟨h1, _, _⟩, h4⟩, D, hD => by
    rcases List.mem_cons.1 hD with rfl | hD
    · exact (Array.getElem?_eq_some_iff.1 h1).1
    · exact Marks.lt h4 D hD
theorem Marks.weak {n0 n1 : Nat} {W : World} (h : n1 ≤ n0) : ∀ {Ds : List Nat}, Marks n0 W Ds → Marks n1 W Ds
  | [], _ => trivial
  | _ :: _, ⟨⟨h1, h2, h3⟩, h4⟩ => ⟨⟨h1, Nat.le_trans h h2, h3⟩, Marks.weak h h4⟩
/-- The frame leaves: each mark is taken in. -/
theorem leaves_marks {F : Fence} {n : Nat} {P : Program} {fn : Func} {tmps : Array Value} {v : Value} (hres : ∀ W : World, (results fn tmps).run P W = .ok v W) {n0 : Nat} {w : World} : ∀ (Ds : List Nat) (W : World), Marks n0 W Ds → Below n0 w W →
    LeavesInM F n P fn tmps (fun e W' => e = .returned v ∧ Below n0 w W') (Ds.map mark) .returning W
  | [], W, _, hB => ⟨v, hres W, rfl, hB⟩
  | D :: Ds, W, ⟨⟨h1, h2, h3⟩, h4⟩, hB => by
    refine ⟨by simp, .inl ⟨D, W.putObj D (.deferred none), rfl, run_takeDeferred h1, leaves_marks hres Ds _ ?_ ?_⟩⟩
    · have key : ∀ (Es : List Nat), (∀ E ∈ Es, E ≠ D) → Marks n0 W Es → Marks n0 (W.putObj D (.deferred none)) Es := by
        intro Es
        induction Es with
        | nil => intro _ _; trivial
        | cons E Es ih =>
          intro hne hm
          obtain ⟨⟨m1, m2, m3⟩, m4⟩ := hm
          exact ⟨⟨(World.putObj_heap_other (fun e => hne E (by simp) e)).trans m1, m2, m3⟩, ih (fun x hx => hne x (by simp [hx])) m4⟩
      exact key Ds h3 h4
    · exact hB.grown (grownBy_putObj' W D _) (by have := (Array.getElem?_eq_some_iff.1 h1).1; have := hB.size; omega) (fun k e => by cases e; exact h2)

set_option maxRecDepth 100000 in
set_option maxHeartbeats 8000000 in
theorem checkTerms_in (l : List Tm) (v : Value) (a : Addr) (w : World) (hl : TmS w w.heap.size l v) (E : TErr a w) :
    CallsIn Fence.wide 6 Tryz.prog 144 #[v] w fun e w' => e = .returned (okV a (l.all (rightT 20))) ∧ Below w.heap.size w w' := by
  obtain ⟨o1, cap1, rfl, hc1, hm1, S1⟩ := SlOf.open hl
  have HE := Lib.hid E
  clear hl E
  refine callsIn_of_wp_marks Tryz.func144 rfl trivial ?_ rfl
  simp only [Tryz.ntmps144, List.size_toArray, List.length_cons, List.length_nil, Nat.reduceAdd, Nat.reduceSub, Array.replicate_succ, Array.replicate_zero, List.push_toArray, List.append_toArray, List.nil_append, List.cons_append]
  gi_wp2_with fail
  refine scopeWide ?_
  gi_wp2_with fail
  refine wpIn_label ?_
  gi_wp2_with fail
  refine wpIn_loop (fun a' wr => ∃ (k : Nat) (Ds : List Nat) (u5 u11 u12 u13 u14 u15 u26 : Value), a' = { tmps := #[.slice o1 l.length cap1, undef, .nilIface, .pointer (some ⟨w.heap.size, 0, none⟩), undef, u5, undef, undef, .slice o1 l.length cap1, .int .i64 l.length, .int .i64 k, u11, u12, u13, u14, u15, undef, undef, undef, undef, undef, undef, undef, undef, undef, undef, u26, undef], defers := Ds.map mark } ∧
      k ≤ l.length ∧ (l.take k).all (rightT 20) = true ∧ Boxed wr w.heap.size 63 .nilIface ∧ Marks (w.heap.size + 1) wr Ds ∧ Below w.heap.size w wr) (fun a' _ => l.length - (intOf (a'.tmps.getD 10 undef)).toNat) ?start ?round
  case start => exact ⟨0, [], _, _, _, _, _, _, _, rfl, Nat.zero_le _, rfl, Boxed.new w _ _, trivial, (Below.refl _ _).alloc (Nat.le_refl _) _⟩
  case round =>
    rintro a' wr ⟨k, Ds, u5, u11, u12, u13, u14, u15, u26, rfl, hk, hr, hw, hM, hB⟩
    have hBs := hB.size
    by_cases hlt : k < l.length
    · have hlt' : (k : Int) < (l.length : Int) := by omega
      obtain ⟨t, ht⟩ : ∃ t, l[k]? = some t := ⟨l[k], List.getElem?_eq_getElem hlt⟩
      obtain ⟨b, p2, q2, rfl, hb, Hc, c0, c1, c2, c3⟩ := tm_at S1 hB ht
      have hbl : (b.add (k * 4)).block < wr.heap.size := by rw [addBlock]; omega
      obtain ⟨WV, hWV⟩ : ∃ WV, wr.alloc (.cells #[.int .i64 t.op, .string t.s, .int .i64 t.n, .slice p2 t.l.length q2] 88) = WV := ⟨_, rfl⟩
      have hV1 : Below wr.heap.size wr WV := by rw [← hWV]; exact (Below.refl _ _).alloc (Nat.le_refl _) _
      have hVs : WV.heap.size = wr.heap.size + 1 := by rw [← hWV]; simp
      have hTV := (Hc.out.under hV1)
      have HE1 := Lib.hid (eachTerm_in 5 t _ WV (hTV.more (by omega)))
      obtain ⟨WL, hWL⟩ : ∃ WL, WV.alloc (.cells #[.int .i64 t.op, .string t.s, .int .i64 t.n, .slice p2 t.l.length q2] 88) = WL := ⟨_, rfl⟩
      have hL1 : Below wr.heap.size wr WL := by rw [← hWL]; exact hV1.alloc (by omega) _
      have hLs : WL.heap.size = wr.heap.size + 2 := by rw [← hWL]; simp [hVs]
      have hTL := Hc.out.under hL1
      have hbox : CellsAt WL ⟨wr.heap.size + 1, 0, none⟩ 0 [.int .i64 t.op, .string t.s, .int .i64 t.n, .slice p2 t.l.length q2] := by
        have := newCells WV [.int .i64 t.op, .string t.s, .int .i64 t.n, .slice p2 t.l.length q2] 88
        rw [hWL, hVs] at this
        exact this
      have hwL : Boxed WL w.heap.size 63 .nilIface := (hL1.block _ hw.lt).trans hw
      have hML : Marks (w.heap.size + 1) WL Ds := hM.below hL1
      have hMl : ∀ D ∈ Ds, D < WL.heap.size := fun D hD => by have := Marks.lt hM D hD; omega
      have HMl := Lib.hid hMl
      clear hMl
      have hBL : Below w.heap.size w WL := hB.trans (hL1.mono hBs)
      have Ht := Lib.hid ht
      have Hr := Lib.hid hr
      have HWV := Lib.hid hWV
      have HWL := Lib.hid hWL
      have HVs := Lib.hid hVs
      have HLs := Lib.hid hLs
      clear ht hr hTV hWV hWL hVs hLs hV1 hL1
      gi_wp2_with fail
      refine ⟨trivial, ?_⟩
      rw [HWV.out]
      refine HE1.out.mono ?_
      rintro e W2 ⟨rfl, rfl⟩
      rw [HVs.out, HWL.out]
      gi_wp2_with fail
      refine wpIn_rangeFunc_ownH rfl (by omega) (gf := 181) (lb := #[.pointer (some ⟨wr.heap.size + 1, 0, none⟩)]) rfl trivial (enters_of Tryz.func181 (by kernel_rfl) rfl)
        (eachTerm_stops 5 (wr.heap.size + 1) wr.heap.size t _ WL hbox hTL) (fun h k => h.trans k) ?hKb (Below.refl _ _) (fun _ => rfl)
        (fun pre W => (Boxed W w.heap.size 63 .nilIface ∧ (∀ x ∈ pre, goodN x.pair = true) ∧ Marks (w.heap.size + 1) W Ds ∧ KC WL W) ∧ Below w.heap.size w W)
        (fun cd pre W => (cd = .exit 0 ∧ Boxed W w.heap.size 63 (okV a false) ∧ (∃ x ∈ pre, goodN x.pair = false) ∧ Marks (w.heap.size + 1) W Ds) ∧ Below w.heap.size w W)
        ?hI ?hIx ⟨⟨hwL, by simp, hML, KC.refl _⟩, hBL⟩
        (fun x a' W => ∃ Bx, CellsAt W ⟨Bx, 0, none⟩ 0 x.cs ∧ a' = { tmps := #[.slice (some b) l.length cap1, undef, .nilIface, .pointer (some ⟨w.heap.size, 0, none⟩), undef, .pointer (some ⟨wr.heap.size, 0, none⟩), .int .i64 x.lv, .pointer (some ⟨Bx, 0, none⟩), .slice (some b) l.length cap1, .int .i64 l.length, .int .i64 k, .bool true, .pointer (some (b.add (k * 4))), .agg #[.int .i64 t.op, .string t.s, .int .i64 t.n, .slice p2 t.l.length q2], .agg #[.int .i64 t.op, .string t.s, .int .i64 t.n, .slice p2 t.l.length q2], .func (.func 181) #[] #[.pointer (some ⟨wr.heap.size + 1, 0, none⟩)], .int .i64 x.lv, .agg x.cs.toArray, undef, undef, undef, undef, undef, undef, undef, undef, u26, undef], defers := [] })
        ?hAx ?assign ?body ?done ?stop
      case hKb => exact fun W l o o' _ ho hc _ => KC.put W l o o' ho hc
      case hI =>
        rintro pre A B row ⟨⟨h1, h2, h3, h4⟩, h5⟩ hg hr
        exact ⟨⟨boxed_own w.heap.size 63 (fun (_ : Unit) => .nilIface) () A B row h1 hg (fun r e => (hr r e).2), h2, h3.grown HMl.out hg (fun r e => (hr r e).1), h4.trans (kcGrown hg (fun r e => (hr r e).2))⟩, ownFrom_below (β := Unit) (Nat.le_refl _) (by have := HLs.out; omega) () A B row h5 hg hr⟩
      case hIx =>
        rintro cd pre A B row ⟨⟨h1, h2, h3, h4⟩, h5⟩ hg hr
        exact ⟨⟨h1, boxed_own w.heap.size 63 (fun (_ : Unit) => okV a false) () A B row h2 hg (fun r e => (hr r e).2), h3, h4.grown HMl.out hg (fun r e => (hr r e).1)⟩, ownFrom_below (β := Unit) (Nat.le_refl _) (by have := HLs.out; omega) () A B row h5 hg hr⟩
      case hAx =>
        rintro x a' _ A B row ⟨Bx, h1, h2⟩ hg hr
        exact ⟨Bx, h1.kc (kcGrown hg (fun r e => (hr r e).2)), h2⟩
      case assign =>
        rintro lp pre ⟨lv, t', cs', ok'⟩ W K ⟨⟨h1, h2, h3, h4⟩, h5⟩ hK
        obtain ⟨o', k', rfl, _⟩ := ok'.look
        have hb1 := (Below.refl W.heap.size W).alloc (Nat.le_refl _) (.cells #[.int .i64 t'.op, .string t'.s, .int .i64 t'.n, .slice o' t'.l.length k'] 88)
        have HK := Lib.hid (hK _ _ ((KeepsOthers.alloc W _).from _) (KC.of_below hb1) ⟨⟨h1.alloc _, h2, h3.below hb1, h4.trans (KC.of_below hb1)⟩, h5.trans (hb1.mono h5.size)⟩ ⟨W.heap.size, newCells W _ _, rfl⟩)
        clear hK h1 h2 h3 h4 h5
        simp only [Nd.enc]
        gi_wp2
        exact HK.out
      case body =>
        rintro lp pre ⟨lv, t', cs', ok'⟩ a' W hlp hrec ⟨⟨h1, h2, h3, h4⟩, h5⟩ ⟨Bx, hcx, rfl⟩ hlen
        have hTm := (ok'.kc h4).more (B' := W.heap.size) (by have := h4.size; have := HLs.out; omega)
        have Hsh := Lib.hid (tshape_c t' W cs' hTm)
        obtain ⟨o', k', rfl, _⟩ := ok'.look
        obtain ⟨e0, e1, e2, e3⟩ := hcx.four
        have ea : (⟨Bx, 0, none⟩ : Addr).add 0 = ⟨Bx, 0, none⟩ := by unfold Addr.add; simp
        simp only [ea, Nat.zero_add] at e0 e1 e2 e3
        have herr : W.cell? ⟨0, 0, none⟩ = some (.iface 256 (.pointer (some a))) := (h5.cell (p := ⟨0, 0, none⟩) HE.out.size).trans HE.out.err
        have hwc := h1.cell
        have hwf := h1.frozen
        clear hcx ea hTm
        by_cases hlv : 20 < lv
        · have hbad : goodN (lv, t') = false := by unfold goodN; rw [decide_eq_false (show ¬ lv ≤ 20 by omega)]; rfl
          have Hbad := Lib.hid hbad
          clear hbad
          gi_wp2
          refine ⟨trivial, ?_⟩
          gi_wp2
          exact ⟨(KeepsOthers.setCell _ _ _).from _, ⟨⟨rfl, h1.set _, ⟨⟨lv, t', _, ok'⟩, by simp, Hbad.out⟩, h3.others (KeepsOthers.setCell _ _ _)⟩, h5.setCell (p := ⟨w.heap.size, 0, none⟩) (Nat.le_refl _) _⟩⟩
        · gi_wp2_with fail
          refine ⟨trivial, (CallsIn.inRound lp (callsIn_wide.2 Hsh.out)).mono ?_⟩
          rintro e W3 ⟨rfl, b3⟩
          have hB3 := h5.trans (b3.mono h5.size)
          have h13 : Boxed W3 w.heap.size 63 .nilIface := (b3.block _ h1.lt).trans h1
          have herr3 : W3.cell? ⟨0, 0, none⟩ = some (.iface 256 (.pointer (some a))) := (hB3.cell (p := ⟨0, 0, none⟩) HE.out.size).trans HE.out.err
          have hwc3 := h13.cell
          have hwf3 := h13.frozen
          have hk3 : KeepsOthers W W3 := ⟨b3.size, fun i _ hi _ => (b3.block i (Array.getElem?_eq_some_iff.1 hi).1).trans hi⟩
          cases hsh : shapeB t' with
          | true =>
            have hgood : goodN (lv, t') = true := by unfold goodN; rw [decide_eq_true (show lv ≤ 20 by omega), hsh]; rfl
            have Hgood := Lib.hid hgood
            clear hgood hsh
            gi_wp2
            exact ⟨hk3.from _, KC.of_below b3, ⟨h13, fun x hx => (List.mem_append.1 hx).elim (h2 x) (fun hx => by rw [List.mem_singleton.1 hx]; exact Hgood.out), h3.below b3, h4.trans (KC.of_below b3)⟩, hB3⟩
          | false =>
            have hbad : goodN (lv, t') = false := by unfold goodN; rw [hsh, Bool.and_false]
            have Hbad := Lib.hid hbad
            clear hbad hsh
            gi_wp2
            exact ⟨(hk3.trans (KeepsOthers.setCell _ _ _)).from _, ⟨⟨rfl, h13.set _, ⟨⟨lv, t', _, ok'⟩, by simp, Hbad.out⟩, (h3.below b3).others (KeepsOthers.setCell _ _ _)⟩, hB3.setCell (p := ⟨w.heap.size, 0, none⟩) (Nat.le_refl _) _⟩⟩
      case done =>
        rintro D ys W hD hys ⟨⟨h1, h2, h3, h4⟩, h5⟩ hK
        have hgood : rightT 20 t = true := by
          have hn := nodes_ok t 1
          rw [show okT 1 t = rightT 20 t from ok_right 20 t (Nat.le_refl _), show ((1 : Nat) : Int) = 1 from rfl, ← hys] at hn
          rw [← hn, List.all_eq_true]
          intro y hy
          obtain ⟨x, hx, rfl⟩ := List.mem_map.1 hy
          exact h2 x hx
        have hr1 : (l.take (k + 1)).all (rightT 20) = true := by
          rw [List.take_succ_eq_append_getElem hlt, List.all_append, Hr.out, show l[k] = t from (List.getElem?_eq_some_iff.1 Ht.out).2]
          simp [hgood]
        have Hr1 := Lib.hid hr1
        have hM1 : Marks (w.heap.size + 1) W (D :: Ds) := ⟨⟨hK, by have := HLs.out; omega, fun E hE e => by have := HMl.out E hE; omega⟩, h3⟩
        clear hr1 hgood hys h2 h4
        gi_wp2
        rw [show ((k : Int) + 1) = ((k + 1 : Nat) : Int) by omega]
        exact ⟨⟨k + 1, D :: Ds, _, _, _, _, _, _, _, rfl, hlt, Hr1.out, h1, hM1, h5⟩, by simp [intOf]; omega⟩
      case stop =>
        rintro D c pre W hD ⟨r, hr⟩ ⟨⟨rfl, h1, ⟨x, hx, hbad⟩, h3⟩, h5⟩ hK
        have hbad2 : rightT 20 t = false := by
          have hn := nodes_ok t 1
          rw [show okT 1 t = rightT 20 t from ok_right 20 t (Nat.le_refl _), show ((1 : Nat) : Int) = 1 from rfl, ← hr] at hn
          rw [← hn, List.all_eq_false]
          exact ⟨x.pair, by simp; exact .inl ⟨x, hx, rfl⟩, by simp [hbad]⟩
        have hall : l.all (rightT 20) = false := by
          rw [List.all_eq_false]
          exact ⟨t, List.mem_of_getElem? Ht.out, by simp [hbad2]⟩
        have Hall := Lib.hid hall
        have hM1 : Marks w.heap.size W (D :: Ds) := ⟨⟨hK, by have := HLs.out; omega, fun E hE e => by have := HMl.out E hE; omega⟩, h3.weak (by omega)⟩
        have hwc := h1.cell
        clear hall hbad2 hbad hr h3
        gi_wp2
        rw [Exit.noGoto_ret]
        refine (show LeavesInM Fence.wide 6 Tryz.prog Tryz.f144 _ (fun e w' => e = .returned (okV a (l.all (rightT 20))) ∧ Below w.heap.size w w') ((D :: Ds).map mark) .returning W from ?_)
        rw [Hall.out]
        exact leaves_marks (v := okV a false) (fun W => (results_tmp rfl _ _ _).trans rfl) (D :: Ds) W hM1 h5
    · have hlt' : ¬ (k : Int) < (l.length : Int) := by omega
      have hall : l.all (rightT 20) = true := by rw [List.take_of_length_le (by omega)] at hr; exact hr
      have Hall := Lib.hid hall
      have hwc := hw.cell
      clear hall hr
      gi_wp2
      refine (show LeavesInM Fence.wide 6 Tryz.prog Tryz.f144 _ (fun e w' => e = .returned (okV a (l.all (rightT 20))) ∧ Below w.heap.size w w') (Ds.map mark) .returning wr from ?_)
      rw [Hall.out]
      exact leaves_marks (v := okV a true) (fun W => (results_tmp rfl _ _ _).trans rfl) Ds wr (hM.weak (by omega)) hB

theorem checkTerms_c (l : List Tm) (v : Value) (a : Addr) (w : World) (hl : TmS w w.heap.size l v) (E : TErr a w) :
    Calls Tryz.prog 144 #[v] w fun e w' => e = .returned (okV a (l.all (rightT 20))) ∧ Below w.heap.size w w' := callsIn_wide.1 (checkTerms_in l v a w hl E)
end Go.Proofs.YthhepmddcncjoaaGreatDoor
namespace Go.Proofs.YthhepmddcncjoaaGreatDoor
open Go.RowKit

theorem okV_t (a : Addr) : okV a true = .nilIface := rfl
theorem okV_f (a : Addr) : okV a false = .iface 256 (.pointer (some a)) := rfl
theorem all_drop {α : Type} {f : α → Bool} {l : List α} {k : Nat} {t : α} (h : l[k]? = some t) : (l.drop k).all f = (f t && (l.drop (k + 1)).all f) := by
  have h1 : l.drop k = t :: l.drop (k + 1) := by rw [List.drop_eq_getElem_cons (List.getElem?_eq_some_iff.1 h).1, (List.getElem?_eq_some_iff.1 h).2]
  rw [h1]; rfl

set_option maxRecDepth 100000 in
set_option maxHeartbeats 4000000 in
theorem checkAtom_c (t : Am) (a : Addr) (w : World) (cs : List Value) (hc : AmC w w.heap.size t cs) (E : TErr a w) :
    Calls Tryz.prog 143 #[.agg cs.toArray] w fun e w' => e = .returned (okV a (rightA t)) ∧ Below w.heap.size w w' := by
  obtain ⟨p1, q1, rfl, hz, t1⟩ := hc.look
  have HN := Lib.hid (fun w => isName_any t.rel w hz)
  have HT := Lib.hid (fun (W : World) (hb : Below w.heap.size w W) => checkTerms_c t.l _ a W ((TmS.below t1 hb).more hb.size) (E.below hb))
  obtain ⟨o1, cap1, e1, hc1, hm1, _⟩ := SlOf.open t1
  cases e1
  have herr := E.err
  have hgs := E.size
  have HE := Lib.hid E
  clear E
  clear hc t1
  have HB0 : Hid (∀ (x : Obj), Below w.heap.size w (w.alloc x)) := Lib.hid fun x => (Below.refl _ _).alloc (Nat.le_refl _) _
  have Hz : Hid (rightA t = (nameB t.rel.data.toList && (decide (1 ≤ (t.l.length : Int)) && decide ((t.l.length : Int) ≤ 8)) && t.l.all (rightT 20))) := Lib.hid (by
    unfold rightA
    rw [show decide (1 ≤ (t.l.length : Int)) = decide (1 ≤ t.l.length) from decide_eq_decide.2 (by omega), show decide ((t.l.length : Int) ≤ 8) = decide (t.l.length ≤ 8) from decide_eq_decide.2 (by omega)]
    cases nameB t.rel.data.toList <;> simp)
  go_enter Tryz.func143, Tryz.ntmps143
  go_wp2_with fail
  refine (HN.out _).mono ?_
  rintro e w1 ⟨rfl, b1⟩
  have B1 := (HB0.out _).trans (b1.mono (by simp))
  obtain ⟨hc, hf⟩ := kept b1
  have hz1 : w.heap.size < w1.heap.size := by have := b1.size; simp at this; omega
  have herr1 := (HE.out.below B1).err
  cases hnm : nameB t.rel.data.toList with
  | false =>
    have Hz1 : Hid (rightA t = false) := Lib.hid (by rw [Hz.out, hnm]; rfl)
    clear hnm
    go_wp2
    go_ret
    exact ⟨by rw [Hz1.out]; rfl, B1⟩
  | true =>
    have Hz1 : Hid (rightA t = ((decide (1 ≤ (t.l.length : Int)) && decide ((t.l.length : Int) ≤ 8)) && t.l.all (rightT 20))) := Lib.hid (by rw [Hz.out, hnm]; rfl)
    clear hnm
    go_wp2_with fail
    refine (count_c _ _).mono ?_
    rintro e w' ⟨rfl, rfl⟩
    cases hcn : (decide (1 ≤ (t.l.length : Int)) && decide ((t.l.length : Int) ≤ 8)) with
    | false =>
      have Hz2 : Hid (rightA t = false) := Lib.hid (by rw [Hz1.out, hcn]; rfl)
      clear hcn
      go_wp2
      go_ret
      exact ⟨by rw [Hz2.out]; rfl, B1⟩
    | true =>
      have Hz2 : Hid (rightA t = t.l.all (rightT 20)) := Lib.hid (by rw [Hz1.out, hcn]; rfl)
      clear hcn
      go_wp2_with fail
      refine (HT.out _ B1).mono ?_
      rintro e w2 ⟨rfl, b2⟩
      go_wp2
      go_ret
      exact ⟨by rw [Hz2.out]; rfl, B1.trans (b2.mono (by omega))⟩

set_option maxRecDepth 100000 in
set_option maxHeartbeats 4000000 in
theorem checkHead_c (t : Am) (fact : Bool) (a : Addr) (w : World) (cs : List Value) (hc : AmC w w.heap.size t cs) (E : TErr a w) :
    Calls Tryz.prog 108 #[.agg cs.toArray, .bool fact] w fun e w' => e = .returned (okV a (t.l.all (headT fact) && rightA t)) ∧ Below w.heap.size w w' := by
  obtain ⟨p1, q1, rfl, hz, t1⟩ := hc.look
  have HA := Lib.hid (fun (W : World) (hb : Below w.heap.size w W) => checkAtom_c t a W _ ((hc.below hb).more hb.size) (E.below hb))
  obtain ⟨o1, cap1, e1, hc1, hm1, S1⟩ := SlOf.open t1
  cases e1
  have herr := E.err
  have hgs := E.size
  have HE := Lib.hid E
  clear E
  clear hc t1
  have HB0 : Hid (∀ (x : Obj), Below w.heap.size w (w.alloc x)) := Lib.hid fun x => (Below.refl _ _).alloc (Nat.le_refl _) _
  go_enter Tryz.func108, Tryz.ntmps108
  go_wp2
  go_loopw [10] (fun i wr => ∃ k : Nat, k ≤ t.l.length ∧ i = .int .i64 k ∧ t.l.all (headT fact) = (t.l.drop k).all (headT fact) ∧ Below (w.heap.size + 1) (w.alloc (.cells #[.string t.rel, .slice p1 t.l.length q1] 58)) wr) (fun i _ => t.l.length - (intOf i).toNat)
  case atStart => exact ⟨0, Nat.zero_le _, rfl, rfl, Below.refl _ _⟩
  case round =>
    obtain ⟨k, hk, rfl, hr, hB2⟩ := hrel
    have hB : Below w.heap.size w wr := (HB0.out _).trans (hB2.mono (by omega))
    have Hr := Lib.hid hr
    clear hr
    have hBs := hB2.size
    simp only [World.size_alloc] at hBs
    have hz0 : w.heap.size < wr.heap.size := by omega
    have x0 : wr.cell? ⟨w.heap.size, 0, none⟩ = some (.string t.rel) := (hB2.cell (p := ⟨w.heap.size, 0, none⟩) (by show w.heap.size < _; omega)).trans (by go_simp)
    have x1 : wr.cell? ⟨w.heap.size, 1, none⟩ = some (.slice p1 t.l.length q1) := (hB2.cell (p := ⟨w.heap.size, 1, none⟩) (by show w.heap.size < _; omega)).trans (by go_simp)
    have herr1 := (HE.out.below hB).err
    have hgs1 := (HE.out.below hB).size
    by_cases hlt : k < t.l.length
    · have hlt' : (k : Int) < (t.l.length : Int) := by omega
      obtain ⟨xe, ht⟩ : ∃ xe, t.l[k]? = some xe := ⟨t.l[k], List.getElem?_eq_getElem hlt⟩
      obtain ⟨b, p3, q3, rfl, ha, Hc, c0, c1, c2, c3⟩ := tm_at S1 hB ht
      have hal : (b.add (k * 4)).block < wr.heap.size := by rw [addBlock]; omega
      have Hst := Lib.hid (Hr.out.trans (all_drop (f := headT fact) ht))
      clear ht Hc
      obtain ⟨op, xs, xn, xl⟩ := xe
      simp only [Tm.op_mk, Tm.s_mk, Tm.n_mk, Tm.l_mk] at c0 c1 c2 c3
      have Hno : Hid (headT fact (.mk op xs xn xl) = false → (t.l.all (headT fact) && rightA t) = false) := Lib.hid (fun h => by rw [Hst.out, h]; rfl)
      have Hyes : Hid (headT fact (.mk op xs xn xl) = true → t.l.all (headT fact) = (t.l.drop (k + 1)).all (headT fact)) := Lib.hid (fun h => by rw [Hst.out, h]; rfl)
      have hw1 : Below (w.heap.size + 1) wr (wr.alloc (.cells #[.int .i64 op, .string xs, .int .i64 xn, .slice p3 xl.length q3] 88)) := (Below.refl _ _).alloc (by omega) _
      have Hw1 := Lib.hid hw1
      clear hw1
      by_cases o1 : op = 1
      · subst o1
        cases fact with
        | true =>
          have Hz := Lib.hid (Hno.out rfl)
          go_wp2
          go_ret
          exact ⟨by rw [Hz.out]; rfl, hB.trans (Hw1.out.mono (by omega))⟩
        | false =>
          have Hz := Lib.hid (Hyes.out rfl)
          go_wp2
          go_roundw
          case rel => exact ⟨k + 1, hlt, by go_num, Hz.out, hB2.trans Hw1.out⟩
          case measure => simp [intOf]; omega
      have e1 : (op == 1) = false := by simpa using o1
      by_cases o4 : op = 4 ∨ op = 5 ∨ op = 6 ∨ op = 7
      · have Hz := Lib.hid (Hno.out (by rcases o4 with rfl | rfl | rfl | rfl <;> rfl))
        clear o1
        rcases o4 with rfl | rfl | rfl | rfl
        all_goals
          go_wp2
          go_ret
          exact ⟨by rw [Hz.out]; rfl, hB.trans (Hw1.out.mono (by omega))⟩
      have e4 : (op == 4) = false := by rw [beq_eq_false_iff_ne]; omega
      have e5 : (op == 5) = false := by rw [beq_eq_false_iff_ne]; omega
      have e6 : (op == 6) = false := by rw [beq_eq_false_iff_ne]; omega
      have e7 : (op == 7) = false := by rw [beq_eq_false_iff_ne]; omega
      have Hz := Lib.hid (Hyes.out (by unfold headT twoB; simp only [Tm.op_mk, e1, e4, e5, e6, e7]; rfl))
      clear o1 o4
      go_wp2
      go_roundw
      case rel => exact ⟨k + 1, hlt, by go_num, Hz.out, hB2.trans Hw1.out⟩
      case measure => simp [intOf]; omega
    · have hlt' : ¬ (k : Int) < (t.l.length : Int) := by omega
      have Hz : Hid ((t.l.all (headT fact) && rightA t) = rightA t) := Lib.hid (by rw [Hr.out, List.drop_of_length_le (by omega)]; rfl)
      go_wp2_with fail
      refine (HA.out _ hB).mono ?_
      rintro e w1 ⟨rfl, b1⟩
      go_wp2
      go_ret
      exact ⟨by rw [Hz.out]; rfl, hB.trans (b1.mono (by omega))⟩
end Go.Proofs.YthhepmddcncjoaaGreatDoor

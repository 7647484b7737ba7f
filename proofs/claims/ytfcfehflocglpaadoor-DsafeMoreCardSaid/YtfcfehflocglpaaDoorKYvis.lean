/- dtype.visit: every term of a list and within it, each ahead of its parts, until the round says 'no more'; the rounds may write blocks that they own. dtype.eachTerm: a function over which a range goes through all terms of a rule. learnNumbers, learnAlike, holdsTwoTerms. dtype.eachAtom: a function over which a range goes through all atoms of a rule. -/
import Derived.Test.YtfcfehflocglpaaDoorKTshape2
import Derived.Deep.AppendLies
import Derived.Test.YtfcfehflocglpaaDoorKYap
namespace Go.Proofs.YtfcfehflocglpaaDoor
open Go.RowKit Go.Shelf

attribute [local go_sem] Oper.semAt_some

/-- Every block stays but those that S owns; what S owns later it owned before, or it is new. -/
structure KO (S : World → Nat → Prop) (W W' : World) : Prop where
  size : W.heap.size ≤ W'.heap.size
  same : ∀ i o, W.heap[i]? = some o → o.isCells = true → ¬ S W i → W'.heap[i]? = some o
  own : ∀ i, S W' i → S W i ∨ W.heap.size ≤ i
  wf : (∀ i, S W i → i < W.heap.size) → ∀ i, S W' i → i < W'.heap.size
theorem KO.refl (S : World → Nat → Prop) (W : World) : KO S W W := ⟨Nat.le_refl _, fun _ _ h _ _ => h, fun _ h => .inl h, fun h => h⟩
/-- What owns nothing new grows. -/
def SGrow (S : World → Nat → Prop) : Prop := ∀ W W', (∀ i, S W i → i < W.heap.size) → Below W.heap.size W W' → ∀ i, S W' i → S W i
theorem KO.of_below {S : World → Nat → Prop} (hG : SGrow S) {W W' : World} (hw : ∀ i, S W i → i < W.heap.size) (hb : Below W.heap.size W W') : KO S W W' :=
  ⟨hb.size, fun i _ ho _ _ => (hb.block i (Array.getElem?_eq_some_iff.1 ho).1).trans ho, fun i h => .inl (hG W W' hw hb i h), fun h i hi => Nat.lt_of_lt_of_le (h i (hG W W' hw hb i hi)) hb.size⟩
/-- What is seen in w0 lies in W, and none of it is owned. -/
def Safe (S : World → Nat → Prop) (w0 W : World) : Prop := ∀ p c, w0.cell? p = some c → W.cell? p = some c ∧ p.block < W.heap.size ∧ ¬ S W p.block
theorem KO.trans {S : World → Nat → Prop} {A B C : World} (h : KO S A B) (k : KO S B C) : KO S A C :=
  ⟨Nat.le_trans h.size k.size, fun i o ho hc hs => k.same i o (h.same i o ho hc hs) hc (fun hb => (h.own i hb).elim hs (fun h => by have := (Array.getElem?_eq_some_iff.1 ho).1; omega)),
    fun i hc => (k.own i hc).elim (fun hb => h.own i hb) (fun hb => .inr (Nat.le_trans h.size hb)), fun hw => k.wf (h.wf hw)⟩
theorem KO.cell {S : World → Nat → Prop} {W W' : World} (k : KO S W W') {p : Addr} {c : Value} (hp : W.cell? p = some c) (hs : ¬ S W p.block) : W'.cell? p = some c := by
  obtain ⟨o, ho, hc⟩ := cells_of_cell hp
  exact (World.cell?_of_block ((k.same _ o ho hc hs).trans ho.symm)).trans hp
/-- What owns nothing by a loop's own books. -/
def SPut (S : World → Nat → Prop) : Prop := ∀ (W : World) (l : Nat) (o o' : Obj), W.heap[l]? = some o → o.isCells = false → ∀ i, S (W.putObj l o') i → S W i
theorem KO.put {S : World → Nat → Prop} (hP : SPut S) (W : World) (l : Nat) (o o' : Obj) (ho : W.heap[l]? = some o) (hc : o.isCells = false) : KO S W (W.putObj l o') := by
  have hsz : (W.putObj l o').heap.size = W.heap.size := by simp
  refine ⟨by rw [hsz]; exact Nat.le_refl _, fun i x hi hx _ => ?_, fun i h => .inl (hP W l o o' ho hc i h), fun h i hi => by rw [hsz]; exact h i (hP W l o o' ho hc i hi)⟩
  have hne : i ≠ l := by rintro rfl; rw [ho] at hi; cases hi; rw [hc] at hx; cases hx
  exact (World.putObj_heap_other hne).trans hi
theorem Safe.ko {S : World → Nat → Prop} {w0 W W' : World} (h : Safe S w0 W) (k : KO S W W') : Safe S w0 W' := fun p c hc => by
  obtain ⟨h1, h2, h3⟩ := h p c hc
  exact ⟨k.cell h1 h3, Nat.lt_of_lt_of_le h2 k.size, fun hs => (k.own _ hs).elim h3 (fun h => by omega)⟩
mutual
def subT : Tm → List Tm
  | .mk o s n l => .mk o s n l :: subTs l
def subTs : List Tm → List Tm
  | [] => []
  | t :: ts => subT t ++ subTs ts
end
theorem subT_eq (t : Tm) : subT t = t :: subTs t.l := by cases t; unfold subT; rfl
theorem subTs_app (a b : List Tm) : subTs (a ++ b) = subTs a ++ subTs b := by
  induction a with
  | nil => simp [subTs]
  | cons x a ih => simp [subTs, ih]
theorem subTs_take {l : List Tm} {k : Nat} {t : Tm} (h : l[k]? = some t) : subTs (l.take (k + 1)) = subTs (l.take k) ++ (t :: subTs t.l) := by
  rw [List.take_succ_eq_append_getElem (List.getElem?_eq_some_iff.1 h).1, subTs_app, (List.getElem?_eq_some_iff.1 h).2]
  simp [subTs, subT_eq]
theorem subTs_pre {l : List Tm} (k : Nat) : subTs (l.take k) <+: subTs l := ⟨subTs (l.drop k), by rw [← subTs_app, List.take_append_drop]⟩
/-- A term that has come, and how it lies in memory. -/
structure Ne (w : World) (B : Nat) (G : Tm → Prop) where
  t : Tm
  cs : List Value
  ok : TmC w B t cs
  good : G t
def Ne.enc {w : World} {B : Nat} {G : Tm → Prop} (x : Ne w B G) : Array Value := #[.agg x.cs.toArray]

section
variable {w0 : World} {n₀ : Nat} {G : Tm → Prop}
/-- A list of terms in a slice that nobody owns; the terms are those of w0. -/
def SlAt (S : World → Nat → Prop) (w0 : World) (n₀ : Nat) (W : World) (l : List Tm) (o : Option Addr) : Prop :=
  ∀ (i : Nat) (x : Tm), l[i]? = some x → ∃ (a : Addr) (cs : List Value), o = some a ∧ TmC w0 n₀ x cs ∧ CellsAt W a (i * 4) cs ∧ ¬ S W a.block
def SlSafe (S : World → Nat → Prop) (w0 : World) (n₀ : Nat) (W : World) (l : List Tm) (v : Value) : Prop := ∃ (o : Option Addr) (cap : Nat), v = .slice o l.length cap ∧ l.length ≤ cap ∧ cap ≤ 9223372036854775807 ∧ SlAt S w0 n₀ W l o
def YPost (S : World → Nat → Prop) (J Jx : List (Ne w0 n₀ G) → World → Prop) (l : List Tm) (pre : List (Ne w0 n₀ G)) (W : World) (e : Ending) (W' : World) : Prop :=
  (e = .returned (.bool true) ∧ (∃ ys : List (Ne w0 n₀ G), ys.map Ne.t = subTs l ∧ J (pre ++ ys) W') ∧ KO S W W') ∨ (e = .returned (.bool false) ∧ ∃ ys : List (Ne w0 n₀ G), ys.map Ne.t <+: subTs l ∧ Jx (pre ++ ys) W')
def YVisit (lb N : Nat) (S : World → Nat → Prop) (J Jx : List (Ne w0 n₀ G) → World → Prop) (l : List Tm) : Prop :=
  ∀ (n : Nat) (W : World) (v : Value) (pre : List (Ne w0 n₀ G)), Safe S w0 W → (∀ i, S W i → i < W.heap.size) → SlSafe S w0 n₀ W l v → (∀ t ∈ subTs l, G t) → J pre W → pre.length + (subTs l).length ≤ N →
    CallsIn Fence.wide n Tryd.prog 88 #[v, .func (.yield lb) #[] #[]] W (YPost S J Jx l pre W)
theorem ne_at {S : World → Nat → Prop} {l : List Tm} {o : Option Addr} {k : Nat} {t : Tm} {W wr : World} (h : Hid (SlAt S w0 n₀ W l o)) (hk : KO S W wr) (ht : l[k]? = some t) :
    ∃ a o' cap', o = some a ∧ (a.add (k * 4)).block < wr.heap.size ∧ Hid (TmC w0 n₀ t [.int .i64 t.op, .string t.s, .int .i64 t.n, .slice o' t.l.length cap']) ∧
      wr.cell? (a.add (k * 4)) = some (.int .i64 t.op) ∧ wr.cell? ⟨(a.add (k * 4)).block, (a.add (k * 4)).off + 1, none⟩ = some (.string t.s) ∧ wr.cell? ⟨(a.add (k * 4)).block, (a.add (k * 4)).off + 2, none⟩ = some (.int .i64 t.n) ∧ wr.cell? ⟨(a.add (k * 4)).block, (a.add (k * 4)).off + 3, none⟩ = some (.slice o' t.l.length cap') := by
  obtain ⟨a, cs, rfl, h1, h2, h3⟩ := h.out k t ht
  obtain ⟨o', cap', rfl, _⟩ := h1.look
  have hc : CellsAt wr a (k * 4) [.int .i64 t.op, .string t.s, .int .i64 t.n, .slice o' t.l.length cap'] := fun j c hj => hk.cell (h2 j c hj) (by rw [addBlock]; exact h3)
  have hb := World.block_lt_of_cell? _ _ (hc 0 _ rfl)
  rw [addBlock] at hb
  exact ⟨a, o', cap', rfl, by rw [addBlock]; exact hb, Lib.hid h1, hc.four⟩
theorem slSafe_of {S : World → Nat → Prop} {W : World} {l : List Tm} {v : Value} (h : TmS w0 n₀ l v) (hs : Safe S w0 W) : SlSafe S w0 n₀ W l v := by
  obtain ⟨o, cap, rfl, h2, h3, h4⟩ := SlOf.open h
  refine ⟨o, cap, rfl, h2, h3, fun i x hx => ?_⟩
  obtain ⟨a, cs, rfl, _, hl, g1, g2⟩ := h4.out i x hx
  obtain ⟨o', cap', rfl, _⟩ := g1.look
  refine ⟨a, _, rfl, g1, fun j c hj => (hs _ _ (g2 j c hj)).1, ?_⟩
  have := (hs _ _ (g2 0 _ rfl)).2.2
  rw [addBlock] at this
  exact this
theorem tmc_sl {w : World} {B : Nat} {u : Tm} {x : Value} (h : TmC w B u [.int .i64 u.op, .string u.s, .int .i64 u.n, x]) : TmS w B u.l x := by
  obtain ⟨v', e, _, _, _, h'⟩ := h.parts
  simp only [List.cons.injEq, true_and, and_true] at e
  subst e
  exact h'
set_option maxRecDepth 100000 in
set_option maxHeartbeats 8000000 in
theorem yvisit_list (lb N : Nat) (S : World → Nat → Prop) (J Jx : List (Ne w0 n₀ G) → World → Prop)
    (hG : SGrow S) (hJg : ∀ pre W W', J pre W → Below W.heap.size W W' → J pre W')
    (hY : ∀ m pre (x : Ne w0 n₀ G) W, J pre W → pre.length < N → YieldAt Fence.wide m Tryd.prog lb x.enc W fun e W' => (e = .returned (.bool true) ∧ J (pre ++ [x]) W' ∧ KO S W W') ∨ (e = .returned (.bool false) ∧ Jx (pre ++ [x]) W'))
    (l : List Tm) (IH : ∀ t ∈ l, YVisit lb N S J Jx t.l) : YVisit lb N S J Jx l := by
  intro n W v pre hT hw hS hGd hJ hN
  obtain ⟨o1, cap1, rfl, hc1, hm1, hS1⟩ := hS
  have S1 := Lib.hid hS1
  have HI := Lib.hid IH
  have HJ := Lib.hid hJg
  have HW := Lib.hid hw
  have HY := Lib.hid hY
  have HT := Lib.hid hT
  have K0 : Hid (KO S W W) := Lib.hid (KO.refl S W)
  have J0 := Lib.hid hJ
  clear IH hJg hY hS1 hT hw
  refine callsIn_of_wp Tryd.func88 rfl trivial ?_ rfl
  simp only [Tryd.ntmps88, List.size_toArray, List.length_cons, List.length_nil, Nat.reduceAdd, Nat.reduceSub, Array.replicate_succ, Array.replicate_zero, List.push_toArray, List.append_toArray, List.nil_append, List.cons_append]
  gi_wp2
  gi_loopw [9] (fun i wr => ∃ (k : Nat) (ys : List (Ne w0 n₀ G)), k ≤ l.length ∧ i = .int .i64 k ∧ ys.map Ne.t = subTs (l.take k) ∧ J (pre ++ ys) wr ∧ KO S W wr) (fun i _ => l.length - (intOf i).toNat)
  case atStart => exact ⟨0, [], Nat.zero_le _, rfl, by simp [subTs], by simpa using J0.out, K0.out⟩
  case round =>
    obtain ⟨k, ys, hk, rfl, hys, hJk, hkk⟩ := hrel
    have Hys := Lib.hid hys
    clear hys
    have hTr : Safe S w0 wr := HT.out.ko hkk
    have hwr := hkk.wf HW.out
    by_cases hlt : k < l.length
    · have hlt' : (k : Int) < (l.length : Int) := by omega
      have hk0 : (0 : Int) ≤ (k : Int) := by omega
      obtain ⟨u, hu⟩ : ∃ u, l[k]? = some u := ⟨l[k], List.getElem?_eq_getElem hlt⟩
      obtain ⟨a, p2, q2, rfl, hal, Hc, c0, c1, c2, c3⟩ := ne_at S1 hkk hu
      have Htk := Lib.hid (subTs_take hu)
      have Hm := Lib.hid (List.mem_of_getElem? hu)
      have hlen : (pre ++ ys).length + (u :: subTs u.l).length ≤ N := by
        have h1 := congrArg List.length Hys.out
        have h2 := (subTs_pre (l := l) (k + 1)).length_le
        rw [Htk.out] at h2
        simp only [List.length_map, List.length_append, List.length_cons] at h1 h2 hN ⊢
        omega
      have Hlen := Lib.hid hlen
      obtain ⟨V, hV⟩ : ∃ V, wr.alloc (.cells #[.int .i64 u.op, .string u.s, .int .i64 u.n, .slice p2 u.l.length q2] 43) = V := ⟨_, rfl⟩
      have hbV : Below wr.heap.size wr V := by rw [← hV]; exact (Below.refl _ _).alloc (Nat.le_refl _) _
      have JV := HJ.out _ _ _ hJk hbV
      have KV := KO.of_below hG hwr hbV
      have hnS : ¬ S V wr.heap.size := fun hs => Nat.lt_irrefl _ (hwr _ (hG _ _ hwr hbV _ hs))
      have hsV : V.heap.size = wr.heap.size + 1 := by rw [← hV]; simp
      have hrow : V.heap[wr.heap.size]? = some (.cells #[.int .i64 u.op, .string u.s, .int .i64 u.n, .slice p2 u.l.length q2] 43 (0, 0)) := by rw [← hV]; exact World.alloc_heap_new wr _
      have d0 : V.cell? ⟨wr.heap.size, 0, none⟩ = some (.int .i64 u.op) := by unfold World.cell?; rw [hrow]; rfl
      have d1 : V.cell? ⟨wr.heap.size, 1, none⟩ = some (.string u.s) := by unfold World.cell?; rw [hrow]; rfl
      have d2 : V.cell? ⟨wr.heap.size, 2, none⟩ = some (.int .i64 u.n) := by unfold World.cell?; rw [hrow]; rfl
      have d3 : V.cell? ⟨wr.heap.size, 3, none⟩ = some (.slice p2 u.l.length q2) := by unfold World.cell?; rw [hrow]; rfl
      have hsub : ∀ t, t = u ∨ t ∈ subTs u.l → t ∈ subTs l := fun t h => (subTs_pre (l := l) (k + 1)).subset (by rw [Htk.out]; exact List.mem_append_right _ (List.mem_cons.2 h))
      have Hsub := Lib.hid hsub
      have hgu := hGd u (hsub u (.inl rfl))
      clear hsub
      obtain ⟨x, hx⟩ : ∃ x : Ne w0 n₀ G, x = ⟨u, _, Hc.out, hgu⟩ := ⟨_, rfl⟩
      have hxe : x.enc = #[.agg #[.int .i64 u.op, .string u.s, .int .i64 u.n, .slice p2 u.l.length q2]] := by rw [hx]; rfl
      have hxt : x.t = u := by rw [hx]
      obtain ⟨fn, tmps, assign, body, hy, hR⟩ := HY.out (n - 1) (pre ++ ys) x V JV (by have := Hlen.out; simp only [List.length_append, List.length_cons] at this ⊢; omega)
      rw [hxe] at hy
      have KVr := Lib.hid (hkk.trans KV)
      have Hrow := Lib.hid hrow
      have HnS := Lib.hid hnS
      have HsV := Lib.hid hsV
      have Hxt := Lib.hid hxt
      have HSu := Lib.hid (tmc_sl Hc.out)
      clear hu hx hxe hxt hkk KV hnS hrow hbV hTr hJk JV hlen hwr
      have pfx : subTs (l.take k) ++ (u :: subTs u.l) <+: subTs l := by rw [← Htk.out]; exact subTs_pre (k + 1)
      have Pfx := Lib.hid pfx
      clear pfx
      gi_wp2
      refine ⟨fun h => (by cases h), hR.mono ?_⟩
      rintro e W1 (⟨rfl, hJ2, hk2⟩ | ⟨rfl, hx2⟩)
      · have e3 : W1.cell? ⟨wr.heap.size, 3, none⟩ = some (.slice p2 u.l.length q2) := hk2.cell d3 HnS.out
        have hK2 := Lib.hid (KVr.out.trans hk2)
        have hTr2 : Safe S w0 W1 := HT.out.ko hK2.out
        have hlr : wr.heap.size < W1.heap.size := by have := hk2.size; have := HsV.out; omega
        have HC := Lib.hid (HI.out u Hm.out (n - 1) W1 _ (pre ++ ys ++ [x]) hTr2 (hK2.out.wf HW.out) (slSafe_of HSu.out hTr2) (fun t h => hGd t (Hsub.out t (.inr h))) hJ2 (by have := Hlen.out; simp only [List.length_append, List.length_cons, List.length_nil] at this ⊢; omega))
        clear hTr2 hJ2 hk2 c0 c1 c2 c3 d0 d1 d2 d3
        gi_wp2_with fail
        refine ⟨trivial, fun h => (by cases h), HC.out.mono ?_⟩
        rintro e W2 (⟨rfl, ⟨zs, hz, hJ3⟩, hk3⟩ | ⟨rfl, zs, hz, hx3⟩)
        · have Hz := Lib.hid hz
          have HJ3 := Lib.hid hJ3
          have HK3 := Lib.hid (hK2.out.trans hk3)
          clear hz hJ3 hk3
          gi_wp2
          go_roundw
          case rel =>
            exact ⟨k + 1, ys ++ x :: zs, hlt, by go_num, by rw [List.map_append, List.map_cons, Hys.out, Hz.out, Hxt.out, Htk.out], by have := HJ3.out; simpa using this, HK3.out⟩
          case measure => simp [intOf]; omega
        · have Hz := Lib.hid hz
          have HX3 := Lib.hid hx3
          clear hz hx3
          gi_wp2
          go_ret
          refine .inr ⟨rfl, ys ++ x :: zs, ?_, by have := HX3.out; simpa using this⟩
          rw [List.map_append, List.map_cons, Hys.out, Hxt.out]
          obtain ⟨r, hr⟩ := Hz.out
          obtain ⟨r2, hr2⟩ := Pfx.out
          exact ⟨r ++ r2, by rw [← hr2, ← hr]; simp⟩
      · have HX2 := Lib.hid hx2
        clear hx2 c0 c1 c2 c3 d0 d1 d2 d3
        gi_wp2
        refine ⟨trivial, ?_⟩
        gi_wp2
        go_ret
        refine .inr ⟨rfl, ys ++ [x], ?_, by have := HX2.out; simpa using this⟩
        rw [List.map_append, Hys.out, List.map_cons, List.map_nil, Hxt.out]
        obtain ⟨r2, hr2⟩ := Pfx.out
        exact ⟨subTs u.l ++ r2, by rw [← hr2]; simp⟩
    · have hlt' : ¬ (k : Int) < (l.length : Int) := by omega
      gi_wp2
      go_ret
      refine .inl ⟨rfl, ⟨ys, ?_, hJk⟩, hkk⟩
      rw [Hys.out, List.take_of_length_le (by omega)]
/-- .. of whatever list. -/
theorem yvisit_in (lb N : Nat) (S : World → Nat → Prop) (J Jx : List (Ne w0 n₀ G) → World → Prop)
    (hG : SGrow S) (hJg : ∀ pre W W', J pre W → Below W.heap.size W W' → J pre W')
    (hY : ∀ m pre (x : Ne w0 n₀ G) W, J pre W → pre.length < N → YieldAt Fence.wide m Tryd.prog lb x.enc W fun e W' => (e = .returned (.bool true) ∧ J (pre ++ [x]) W' ∧ KO S W W') ∨ (e = .returned (.bool false) ∧ Jx (pre ++ [x]) W'))
    (l : List Tm) : YVisit lb N S J Jx l := by
  have all : ∀ t : Tm, YVisit lb N S J Jx t.l := by
    intro t
    induction t using Tm.rec (motive_2 := fun ts => ∀ t ∈ ts, YVisit lb N S J Jx t.l) with
    | nil x hx => simp at hx
    | cons t ts ih ihs x hx =>
      rcases List.mem_cons.1 hx with rfl | hx
      · exact ih
      · exact ihs x hx
    | mk op s m ts ih => exact yvisit_list lb N S J Jx hG hJg hY ts ih
  exact yvisit_list lb N S J Jx hG hJg hY l fun t _ => all t
end
end Go.Proofs.YtfcfehflocglpaaDoor
namespace Go.Proofs.YtfcfehflocglpaaDoor
open Go.RowKit Go.Shelf

attribute [local go_sem] Oper.semAt_some

def litTs (l : Lt) : List Tm := subTs [l.x, l.y] ++ subTs l.a.l
def termsR (r : Ru) : List Tm := subTs r.head.l ++ r.body.flatMap litTs
theorem termsR_take {l : List Lt} {k : Nat} {t : Lt} (h : l[k]? = some t) : (l.take (k + 1)).flatMap litTs = (l.take k).flatMap litTs ++ litTs t := by
  rw [List.take_succ_eq_append_getElem (List.getElem?_eq_some_iff.1 h).1, (List.getElem?_eq_some_iff.1 h).2]
  simp
theorem termsR_pre (l : List Lt) (k : Nat) : (l.take k).flatMap litTs <+: l.flatMap litTs :=
  ⟨(l.drop k).flatMap litTs, by rw [← List.flatMap_append, List.take_append_drop]⟩
/-- A part of a body in a slice that nobody owns. -/
theorem lt_ko {S : World → Nat → Prop} {w0 wr : World} {n₀ : Nat} {l : List Lt} {o : Option Addr} {k : Nat} {t : Lt} (h : Hid (SlIn w0 n₀ 11 (LtC w0 n₀) l o)) (hs : Safe S w0 wr) (ht : l[k]? = some t) :
    ∃ a o0 k0 o1 k1 o2 k2, o = some a ∧ (a.add (k * 11)).block < wr.heap.size ∧ Hid (LtC w0 n₀ t [.int .i64 t.op, .string t.a.rel, .slice o0 t.a.l.length k0, .int .i64 t.x.op, .string t.x.s, .int .i64 t.x.n, .slice o1 t.x.l.length k1, .int .i64 t.y.op, .string t.y.s, .int .i64 t.y.n, .slice o2 t.y.l.length k2]) ∧
      CellsAt wr a (k * 11) [.int .i64 t.op, .string t.a.rel, .slice o0 t.a.l.length k0, .int .i64 t.x.op, .string t.x.s, .int .i64 t.x.n, .slice o1 t.x.l.length k1, .int .i64 t.y.op, .string t.y.s, .int .i64 t.y.n, .slice o2 t.y.l.length k2] := by
  obtain ⟨a, cs, rfl, _, _, h1, h2⟩ := h.out k t ht
  obtain ⟨o0, k0, o1, k1, o2, k2, rfl, _⟩ := h1.look
  have hc : CellsAt wr a (k * 11) _ := fun j c hj => (hs _ _ (h2 j c hj)).1
  exact ⟨a, o0, k0, o1, k1, o2, k2, rfl, (hs _ _ (h2 0 _ rfl)).2.1, Lib.hid h1, hc⟩
theorem yeach_in (n : Nat) (r : Ru) (cs : List Value) (w : World) (hc : RuC w w.heap.size r cs) :
    CallsIn Fence.wide n Tryd.prog 61 #[.agg cs.toArray] w fun e w' => e = .returned (.func (.func 87) #[] #[.pointer (some ⟨w.heap.size, 0, none⟩)]) ∧ w' = w.alloc (.cells cs.toArray 27) := by
  obtain ⟨o0, k0, o1, k1, rfl, _⟩ := hc.look
  clear hc
  refine callsIn_of_wp Tryd.func61 rfl trivial ?_ rfl
  simp only [Tryd.ntmps61, List.size_toArray, List.length_cons, List.length_nil, Nat.reduceAdd, Nat.reduceSub, Array.replicate_succ, Array.replicate_zero, List.push_toArray, List.append_toArray, List.nil_append, List.cons_append]
  gi_wp2
  go_ret
  exact ⟨rfl, rfl⟩

set_option maxRecDepth 100000 in
set_option maxHeartbeats 4000000 in
/-- The box B holds the rule: its terms are gone through. -/
theorem yeach_stops {G : Tm → Prop} (n B n₀ : Nat) (r : Ru) (cs : List Value) (w0 w : World) (S : World → Nat → Prop) (hG : SGrow S) (hs : Safe S w0 w) (hw : ∀ i, S w i → i < w.heap.size) (hB : CellsAt w0 ⟨B, 0, none⟩ 0 cs) (hc : RuC w0 n₀ r cs) (hGd : ∀ t ∈ termsR r, G t) :
    SeqStopsK Fence.wide n Tryd.prog 87 #[.pointer (some ⟨B, 0, none⟩)] (Ne.enc (w := w0) (B := n₀) (G := G)) (KO S) (fun ys => ys.map Ne.t = termsR r) (fun pre => pre.map Ne.t <+: termsR r) (termsR r).length w := by
  intro l J Jx W hW hJ _ hY h0
  have hKW := KO.of_below hG hw hW
  have hs1 := hs.ko hKW
  have hw1 := hKW.wf hw
  have hJg : ∀ pre W W', J pre W → Below W.heap.size W W' → J pre W' := fun pre W W' h hb => hJ pre W W' none h (grownBelow hb) (fun _ e => by cases e)
  have HV := Lib.hid (fun (ts : List Tm) => yvisit_in (w0 := w0) (n₀ := n₀) (G := G) l (termsR r).length S J Jx hG hJg (fun m pre x W hj hl => yieldAny rfl m (hY pre x W hj hl)) ts)
  obtain ⟨o0, k0, o1, k1, rfl, _, hA, hL⟩ := hc.look
  obtain ⟨_, _, e1, _, hT⟩ := hA.look
  obtain ⟨rfl, rfl⟩ : _ ∧ _ := by simpa using e1
  obtain ⟨_, _, e2, hb1, hb2, SL⟩ := SlOf.open hL
  cases e2
  have hBW : CellsAt W ⟨B, 0, none⟩ 0 _ := fun j c hj => (hs1 _ _ (hB j c hj)).1
  obtain ⟨c0, c1, c2, c3⟩ := hBW.four
  have ea : (⟨B, 0, none⟩ : Addr).add 0 = ⟨B, 0, none⟩ := by unfold Addr.add; simp
  simp only [ea, Nat.zero_add] at c0 c1 c2 c3
  have hBl : B < W.heap.size := World.block_lt_of_cell? _ _ c0
  have Hs := Lib.hid hs1
  have Hw := Lib.hid hw1
  have HJg := Lib.hid hJg
  have HT := Lib.hid hT
  have HBW := Lib.hid hB
  have H0 := Lib.hid h0
  have HtR : Hid (termsR r = subTs r.head.l ++ r.body.flatMap litTs) := Lib.hid rfl
  have HC := Lib.hid (HV.out r.head.l (n - 1) W _ [] hs1 hw1 (slSafe_of hT hs1) (fun t h => hGd t (List.mem_append_left _ h)) h0 (by simp [termsR]))
  clear hKW hs1 hw1 hJg hA hL hT hBW hB hc hY hJ h0 hs hw hW ea
  refine callsIn_of_wp Tryd.func87 rfl trivial ?_ rfl
  simp only [Tryd.ntmps87, List.size_toArray, List.length_cons, List.length_nil, Nat.reduceAdd, Nat.reduceSub, Array.replicate_succ, Array.replicate_zero, List.push_toArray, List.append_toArray, List.nil_append, List.cons_append]
  gi_wp2_with fail
  refine ⟨trivial, fun h => (by cases h), HC.out.mono ?_⟩
  rintro e W1 (⟨rfl, ⟨ys, hys, hJ1⟩, hk1⟩ | ⟨rfl, ys, hys, hx⟩)
  · have Hk1 := Lib.hid hk1
    have hB1 : CellsAt W1 ⟨B, 0, none⟩ 0 _ := fun j c hj => (Hs.out.ko hk1 _ _ (HBW.out j c hj)).1
    obtain ⟨f0, f1, f2, f3⟩ := hB1.four
    have ea : (⟨B, 0, none⟩ : Addr).add 0 = ⟨B, 0, none⟩ := by unfold Addr.add; simp
    simp only [ea, Nat.zero_add] at f0 f1 f2 f3
    have hBl1 : B < W1.heap.size := World.block_lt_of_cell? _ _ f0
    have Hys := Lib.hid hys
    have HJ1 := Lib.hid hJ1
    clear hk1 hys hJ1 c0 c1 c2 c3 hB1 ea
    gi_wp2
    gi_loopw [14] (fun i wr => ∃ (k : Nat) (ys : List (Ne w0 n₀ G)), k ≤ r.body.length ∧ i = .int .i64 k ∧ ys.map Ne.t = subTs r.head.l ++ (r.body.take k).flatMap litTs ∧ J ys wr ∧ KO S W wr) (fun i _ => r.body.length - (intOf i).toNat)
    case atStart => exact ⟨0, ys, Nat.zero_le _, rfl, by simpa using Hys.out, by simpa using HJ1.out, Hk1.out⟩
    case round =>
      obtain ⟨k, ys, hk, rfl, hys, hJk, hkk⟩ := hrel
      have Hyk := Lib.hid hys
      have hsr := Hs.out.ko hkk
      have hwr := hkk.wf Hw.out
      by_cases hlt : k < r.body.length
      · have hlt' : (k : Int) < (r.body.length : Int) := by omega
        have hk0 : (0 : Int) ≤ (k : Int) := by omega
        obtain ⟨u, hu⟩ : ∃ u, r.body[k]? = some u := ⟨r.body[k], List.getElem?_eq_getElem hlt⟩
        obtain ⟨a, p0, q0, p1, q1, p2, q2, rfl, hal, Hc, hca⟩ := lt_ko SL hsr hu
        obtain ⟨c0, c1, c2, c3, c4, c5, c6, c7, c8, c9, c10⟩ := hca.n11
        obtain ⟨_, _, _, _, _, _, ec, _, hA, hX, hY⟩ := Hc.out.look
        simp only [List.cons.injEq, Value.slice.injEq, true_and, and_true] at ec
        obtain ⟨⟨rfl, rfl⟩, ⟨rfl, rfl⟩, rfl, rfl⟩ := ec
        obtain ⟨_, _, ea, _, hTa⟩ := hA.look
        simp only [List.cons.injEq, Value.slice.injEq, true_and, and_true] at ea
        obtain ⟨rfl, rfl⟩ := ea
        have Htk := Lib.hid (termsR_take hu)
        have hlen : ys.length + (litTs u).length ≤ (termsR r).length := by
          have h1 := congrArg List.length Hyk.out
          have h2 := (termsR_pre r.body (k + 1)).length_le
          rw [Htk.out] at h2
          rw [HtR.out]
          simp only [List.length_map, List.length_append] at h1 h2 ⊢
          omega
        have pfx : subTs r.head.l ++ (r.body.take k).flatMap litTs ++ litTs u <+: termsR r := by
          rw [HtR.out, List.append_assoc, ← Htk.out]
          obtain ⟨r2, hr2⟩ := termsR_pre r.body (k + 1)
          exact ⟨r2, by rw [List.append_assoc, hr2]⟩
        have Hlen := Lib.hid hlen
        have Pfx := Lib.hid pfx
        obtain ⟨V1, hV1⟩ : ∃ V1, wr.alloc (.cells #[.int .i64 u.op, .string u.a.rel, .slice p0 u.a.l.length q0, .int .i64 u.x.op, .string u.x.s, .int .i64 u.x.n, .slice p1 u.x.l.length q1, .int .i64 u.y.op, .string u.y.s, .int .i64 u.y.n, .slice p2 u.y.l.length q2] 45) = V1 := ⟨_, rfl⟩
        have hb1 : Below wr.heap.size wr V1 := by rw [← hV1]; exact (Below.refl _ _).alloc (Nat.le_refl _) _
        have hrow1 : V1.heap[wr.heap.size]? = some (.cells #[.int .i64 u.op, .string u.a.rel, .slice p0 u.a.l.length q0, .int .i64 u.x.op, .string u.x.s, .int .i64 u.x.n, .slice p1 u.x.l.length q1, .int .i64 u.y.op, .string u.y.s, .int .i64 u.y.n, .slice p2 u.y.l.length q2] 45 (0, 0)) := by rw [← hV1]; exact World.alloc_heap_new wr _
        have hsz1 : V1.heap.size = wr.heap.size + 1 := by rw [← hV1]; simp
        have K1 := KO.of_below hG hwr hb1
        have hw1 := K1.wf hwr
        obtain ⟨V2, hV2⟩ : ∃ V2, V1.alloc (.cells #[.int .i64 u.x.op, .string u.x.s, .int .i64 u.x.n, .slice p1 u.x.l.length q1, .int .i64 u.y.op, .string u.y.s, .int .i64 u.y.n, .slice p2 u.y.l.length q2] 43) = V2 := ⟨_, rfl⟩
        have hb2 : Below V1.heap.size V1 V2 := by rw [← hV2]; exact (Below.refl _ _).alloc (Nat.le_refl _) _
        have hrow2 : V2.heap[V1.heap.size]? = some (.cells #[.int .i64 u.x.op, .string u.x.s, .int .i64 u.x.n, .slice p1 u.x.l.length q1, .int .i64 u.y.op, .string u.y.s, .int .i64 u.y.n, .slice p2 u.y.l.length q2] 43 (0, 0)) := by rw [← hV2]; exact World.alloc_heap_new V1 _
        have hsz2 : V2.heap.size = V1.heap.size + 1 := by rw [← hV2]; simp
        have K2 := KO.of_below hG hw1 hb2
        have hw2 := K2.wf hw1
        have nS1 : ¬ S V2 wr.heap.size := fun h => Nat.lt_irrefl _ (hwr _ (hG _ _ hwr hb1 _ (hG _ _ hw1 hb2 _ h)))
        have nS2 : ¬ S V2 V1.heap.size := fun h => Nat.lt_irrefl _ (hw1 _ (hG _ _ hw1 hb2 _ h))
        have SS : SlSafe S w0 n₀ V2 [u.x, u.y] (.slice (some ⟨V1.heap.size, 0, none⟩) 2 2) := by
          refine ⟨_, 2, rfl, Nat.le_refl _, by decide, fun i x hx => ?_⟩
          have news := World.news_of_block hrow2
          match i, hx with
          | 0, hx =>
            obtain rfl : u.x = x := by simpa using hx
            refine ⟨_, _, rfl, hX, fun j c hj => news (0 * 4 + j) c ?_, nS2⟩
            rcases j with _ | _ | _ | _ | j <;> simp_all
          | 1, hx =>
            obtain rfl : u.y = x := by simpa using hx
            refine ⟨_, _, rfl, hY, fun j c hj => news (1 * 4 + j) c ?_, nS2⟩
            rcases j with _ | _ | _ | _ | j <;> simp_all
          | i + 2, hx => simp at hx
        rw [hsz1] at SS
        have K02 := Lib.hid (hkk.trans (K1.trans K2))
        have JV := HJg.out _ _ _ (HJg.out _ _ _ hJk hb1) hb2
        have d0 : V1.cell? ⟨wr.heap.size, 0, none⟩ = some (.int .i64 u.op) := by unfold World.cell?; rw [hrow1]; rfl
        have d1 : V1.cell? ⟨wr.heap.size, 1, none⟩ = some (.string u.a.rel) := by unfold World.cell?; rw [hrow1]; rfl
        have d2 : V1.cell? ⟨wr.heap.size, 2, none⟩ = some (.slice p0 u.a.l.length q0) := by unfold World.cell?; rw [hrow1]; rfl
        have d3 : V1.cell? ⟨wr.heap.size, 3, none⟩ = some (.int .i64 u.x.op) := by unfold World.cell?; rw [hrow1]; rfl
        have d4 : V1.cell? ⟨wr.heap.size, 4, none⟩ = some (.string u.x.s) := by unfold World.cell?; rw [hrow1]; rfl
        have d5 : V1.cell? ⟨wr.heap.size, 5, none⟩ = some (.int .i64 u.x.n) := by unfold World.cell?; rw [hrow1]; rfl
        have d6 : V1.cell? ⟨wr.heap.size, 6, none⟩ = some (.slice p1 u.x.l.length q1) := by unfold World.cell?; rw [hrow1]; rfl
        have d7 : V1.cell? ⟨wr.heap.size, 7, none⟩ = some (.int .i64 u.y.op) := by unfold World.cell?; rw [hrow1]; rfl
        have d8 : V1.cell? ⟨wr.heap.size, 8, none⟩ = some (.string u.y.s) := by unfold World.cell?; rw [hrow1]; rfl
        have d9 : V1.cell? ⟨wr.heap.size, 9, none⟩ = some (.int .i64 u.y.n) := by unfold World.cell?; rw [hrow1]; rfl
        have d10 : V1.cell? ⟨wr.heap.size, 10, none⟩ = some (.slice p2 u.y.l.length q2) := by unfold World.cell?; rw [hrow1]; rfl
        have m2 : V2.cell? ⟨wr.heap.size, 2, none⟩ = some (.slice p0 u.a.l.length q0) := (hb2.cell (p := ⟨wr.heap.size, 2, none⟩) (by show wr.heap.size < _; omega)).trans d2
        have M2 := Lib.hid m2
        have HC1 := Lib.hid (HV.out [u.x, u.y] (n - 1) V2 _ ys (Hs.out.ko K02.out) hw2 SS (fun t h => hGd t (Pfx.out.subset (List.mem_append_right _ (List.mem_append_left _ h)))) JV (by have := Hlen.out; unfold litTs at this; simp only [List.length_append] at this; omega))
        have HTa := Lib.hid hTa
        have NS1 := Lib.hid nS1
        have hszV : wr.heap.size < V1.heap.size := by omega
        have hszW : wr.heap.size < V2.heap.size := by omega
        clear hys hJk hkk hsr hwr hu Hc hca hA hX hY hTa hlen pfx hb1 hrow1 K1 hw1 hb2 hrow2 K2 hw2 nS1 nS2 SS JV m2
        gi_wp2_with fail
        refine ⟨trivial, fun h => (by cases h), HC1.out.mono ?_⟩
        rintro e W2 (⟨rfl, ⟨zs, hz, hJ2⟩, hk2⟩ | ⟨rfl, zs, hz, hx2⟩)
        · have e2 : W2.cell? ⟨wr.heap.size, 2, none⟩ = some (.slice p0 u.a.l.length q0) := hk2.cell M2.out NS1.out
          have K22 := Lib.hid (K02.out.trans hk2)
          have hlr : wr.heap.size < W2.heap.size := by have := hk2.size; omega
          have hzl : zs.length = (subTs [u.x, u.y]).length := by rw [← hz, List.length_map]
          have HC2 := Lib.hid (HV.out u.a.l (n - 1) W2 _ (ys ++ zs) (Hs.out.ko K22.out) (K22.out.wf Hw.out) (slSafe_of HTa.out (Hs.out.ko K22.out)) (fun t h => hGd t (Pfx.out.subset (List.mem_append_right _ (List.mem_append_right _ h)))) hJ2 (by have := Hlen.out; unfold litTs at this; simp only [List.length_append] at this ⊢; omega))
          have Hz := Lib.hid hz
          clear hz hJ2 hk2 c0 c1 c2 c3 c4 c5 c6 c7 c8 c9 c10 d0 d1 d2 d3 d4 d5 d6 d7 d8 d9 d10
          gi_wp2_with fail
          refine ⟨trivial, fun h => (by cases h), HC2.out.mono ?_⟩
          rintro e W3 (⟨rfl, ⟨vs, hv, hJ3⟩, hk3⟩ | ⟨rfl, vs, hv, hx3⟩)
          · have Hv := Lib.hid hv
            have HJ3 := Lib.hid hJ3
            have K33 := Lib.hid (K22.out.trans hk3)
            clear hv hJ3 hk3 e2
            gi_wp2
            go_roundw
            case rel =>
              refine ⟨k + 1, ys ++ zs ++ vs, hlt, by go_num, ?_, HJ3.out, K33.out⟩
              rw [List.map_append, List.map_append, Hyk.out, Hz.out, Hv.out, Htk.out]
              unfold litTs
              simp only [List.append_assoc]
            case measure => simp [intOf]; omega
          · have Hv := Lib.hid hv
            have HX3 := Lib.hid hx3
            clear hv hx3 e2
            gi_wp2
            refine bodyPost_ret (results_none rfl _ _ _) rfl ?_
            refine ⟨⟨_, rfl⟩, .inr ⟨ys ++ zs ++ vs, ?_, HX3.out⟩⟩
            rw [List.map_append, List.map_append, Hyk.out, Hz.out]
            obtain ⟨r1, hr1⟩ := Hv.out
            obtain ⟨r2, hr2⟩ := Pfx.out
            refine ⟨r1 ++ r2, ?_⟩
            rw [← hr2]
            unfold litTs
            rw [← hr1]
            simp only [List.append_assoc]
        · have Hz := Lib.hid hz
          have HX2 := Lib.hid hx2
          clear hz hx2 c0 c1 c2 c3 c4 c5 c6 c7 c8 c9 c10 d0 d1 d2 d3 d4 d5 d6 d7 d8 d9 d10
          gi_wp2
          refine ⟨trivial, ?_⟩
          gi_wp2
          refine bodyPost_ret (results_none rfl _ _ _) rfl ?_
          refine ⟨⟨_, rfl⟩, .inr ⟨ys ++ zs, ?_, HX2.out⟩⟩
          rw [List.map_append, Hyk.out]
          obtain ⟨r1, hr1⟩ := Hz.out
          obtain ⟨r2, hr2⟩ := Pfx.out
          refine ⟨r1 ++ (subTs u.a.l ++ r2), ?_⟩
          rw [← hr2]
          unfold litTs
          rw [← hr1]
          simp only [List.append_assoc]
      · have hlt' : ¬ (k : Int) < (r.body.length : Int) := by omega
        have HJk := Lib.hid hJk
        clear hJk hkk hsr hwr hys
        gi_wp2
        go_end0
        refine ⟨⟨_, rfl⟩, .inl ⟨ys, ?_, HJk.out⟩⟩
        rw [Hyk.out, HtR.out, List.take_of_length_le (by omega)]
  · have Hys := Lib.hid hys
    have HX := Lib.hid hx
    clear hys hx
    gi_wp2
    refine bodyPost_ret (results_none rfl _ _ _) rfl ?_
    refine ⟨⟨_, rfl⟩, .inr ⟨ys, ?_, by simpa using HX.out⟩⟩
    rw [HtR.out]
    exact Hys.out.trans (List.prefix_append _ _)
end Go.Proofs.YtfcfehflocglpaaDoor
namespace Go.Proofs.YtfcfehflocglpaaDoor
open Go.RowKit

/-- A step that turns but the map keeps all cells. -/
theorem KnM.kc {V : List (List UInt8)} {W W' : World} {B : Nat} {K : Kn} (h : KnM V W B K) (hg : W.grownBy W' (some B)) : KC W W' := by
  refine ⟨hg.size, fun i o hi ho => (hg.block i (Array.getElem?_eq_some_iff.1 hi).1 (fun e => ?_)).trans hi⟩
  cases e
  obtain ⟨D, ⟨es, clock, h1, _⟩, _⟩ := h.map
  rw [h1] at hi
  cases hi
  cases ho
theorem gBelow {n B : Nat} {W W' : World} (hg : W.grownBy W' (some B)) (hB : n ≤ B) (hW : n ≤ W.heap.size) : Below n W W' :=
  ⟨hg.os, hg.tape, hg.output, hg.size, fun i hi => hg.block i (by omega) (fun e => by have := Option.some.inj e; omega)⟩
def nums (l : List Tm) : List (Tm × Int) := l.map fun t => (t, 1)
theorem nums_drop {l : List Tm} {k : Nat} {t : Tm} (h : l[k]? = some t) : nums (l.drop k) = (t, 1) :: nums (l.drop (k + 1)) := by
  have h1 : l.drop k = t :: l.drop (k + 1) := by rw [List.drop_eq_getElem_cons (List.getElem?_eq_some_iff.1 h).1, (List.getElem?_eq_some_iff.1 h).2]
  rw [h1]; rfl
theorem learnL_cons (K : Kn) (t : Tm) (k : Int) (l : List (Tm × Int)) : learnL K ((t, k) :: l) = (match learn1 K t k with | none => none | some K' => learnL K' l) := by
  rw [learnL]; rfl

set_option maxRecDepth 100000 in
set_option maxHeartbeats 4000000 in
theorem learnNumbers_c (l : List Tm) (v : Value) (B n₀ : Nat) (V : List (List UInt8)) (hV : V.length ≤ 1000000) (K : Kn) (a b' c d : Addr) (w : World) (hc : SlOf w w.heap.size 4 (TmC w n₀) l v) (hB : n₀ ≤ B) (hM : KnM V w B K) (hv : ∀ t ∈ l, t.op = 1 → nm t ∈ V) (E : YEnv n₀ a b' c d w) :
    Calls Tryd.prog 98 #[.map (some B), v] w (LearnR V w B a (learnL K (nums l))) := by
  obtain ⟨o, cap, rfl, hcap, hmax, SL⟩ := hc.open
  have HE := Lib.hid E
  have HM := Lib.hid hM
  have hB1 := hM.lt
  clear hM E hc
  go_enter Tryd.func98, Tryd.ntmps98
  go_wp2
  go_loopw [10] (fun i wr => ∃ (k : Nat) (Kk : Kn), k ≤ l.length ∧ i = .int .i64 k ∧ learnL K (nums l) = learnL Kk (nums (l.drop k)) ∧ KnM V wr B Kk ∧ w.grownBy wr (some B)) (fun i _ => l.length - (intOf i).toNat)
  case atStart => exact ⟨0, K, Nat.zero_le _, rfl, rfl, HM.out, World.grownBy.refl _ _⟩
  case round =>
    obtain ⟨k, Kk, hk, rfl, hr, hM2, hg2⟩ := hrel
    have hB' : Below n₀ w wr := gBelow hg2 hB (by omega)
    have Hr := Lib.hid hr
    clear hr
    have HM2 := Lib.hid hM2
    have Hg2 := Lib.hid hg2
    have hBs := hg2.size
    clear hM2 hg2
    by_cases hlt : k < l.length
    · have hlt' : (k : Int) < (l.length : Int) := by omega
      obtain ⟨t, ht⟩ : ∃ t, l[k]? = some t := ⟨l[k], List.getElem?_eq_getElem hlt⟩
      obtain ⟨b, cs, rfl, ha, _, h1, h2⟩ := SL.out k t ht
      obtain ⟨p3, q3, rfl, _⟩ := h1.look
      obtain ⟨c0, c1, c2, c3⟩ := (h2.kc (HM.out.kc Hg2.out)).four
      have hal : (b.add (k * 4)).block < wr.heap.size := by rw [addBlock]; omega
      have hBw : B < wr.heap.size := by omega
      have Hst := Lib.hid (Hr.out.trans (by rw [nums_drop ht, learnL_cons]))
      have Hv := Lib.hid (hv t (List.mem_of_getElem? ht))
      have HI := Lib.hid (fun (W : World) (hb : Below wr.heap.size wr W) => learn_c t 1 _ B n₀ V hV Kk a b' c d W (TmC.under (TmC.under h1 hB') (hb.mono (by omega))) hB (HM2.out.below hb hBw) Hv.out (.inl rfl) ((HE.out.below hB').below (hb.mono (by omega))))
      clear h1 h2 ht Hr
      go_wp2_with fail
      refine (HI.out _ ((Below.refl _ _).alloc (Nat.le_refl _) _)).mono ?_
      rintro e w1 hR
      have G1 := Lib.hid (gB ((Below.refl _ wr).alloc (Nat.le_refl _) (.cells #[.int .i64 t.op, .string t.s, .int .i64 t.n, .slice p3 t.l.length q3] 43)) (some B))
      cases hl : learn1 Kk t 1 with
      | none =>
        rw [hl] at hR
        cases hR with
        | bad hg3 =>
        have Hq : Hid (learnL K (nums l) = none) := Lib.hid (by rw [Hst.out, hl])
        have Hg3 := Lib.hid (Hg2.out.trans (G1.out.trans hg3))
        clear hl hg3
        unfold errV
        go_wp2
        go_ret
        rw [Hq.out]
        exact .bad Hg3.out
      | some K' =>
        rw [hl] at hR
        cases hR with
        | good hm3 hg3 =>
        have Hz2 : Hid (learnL K (nums l) = learnL K' (nums (l.drop (k + 1)))) := Lib.hid (by rw [Hst.out, hl])
        have Hg3 := Lib.hid (Hg2.out.trans (G1.out.trans hg3))
        have Hm3 := Lib.hid hm3
        clear hl hg3 hm3
        go_wp2
        go_roundw
        case rel => exact ⟨k + 1, K', hlt, by go_num, Hz2.out, Hm3.out, Hg3.out⟩
        case measure => simp [intOf]; omega
    · have hlt' : ¬ (k : Int) < (l.length : Int) := by omega
      have Hq : Hid (learnL K (nums l) = some Kk) := Lib.hid (by rw [Hr.out, List.drop_of_length_le (by omega)]; rfl)
      go_wp2
      go_ret
      rw [Hq.out]
      exact .good HM2.out Hg2.out

theorem LearnR.ret {V : List (List UInt8)} {W W' : World} {B : Nat} {a : Addr} {r : Option Kn} {e : Ending} (h : LearnR V W B a r e W') : ∃ v, e = .returned v ∧ LearnR V W B a r (.returned v) W' := by
  cases h with
  | bad h => exact ⟨_, rfl, .bad h⟩
  | good h k => exact ⟨_, rfl, .good h k⟩
/-- Does a part of a body hold two terms against each other? -/
def duoB (t : Lt) : Bool := t.op == 3 || t.op == 4 || t.op == 5 || t.op == 6
set_option maxRecDepth 100000 in
set_option maxHeartbeats 4000000 in
theorem holdsTwo_v (t : Lt) (v1 v2 v3 v4 v5 v6 v7 v8 v9 v10 : Value) (w : World) :
    Calls Tryd.prog 97 #[.agg #[.int .i64 t.op, v1, v2, v3, v4, v5, v6, v7, v8, v9, v10]] w fun e w' => e = .returned (.bool (duoB t)) ∧ Below w.heap.size w w' := by
  have hB0 : ∀ x : Obj, Hid (Below w.heap.size w (w.alloc x)) := fun x => Lib.hid ((Below.refl _ _).alloc (Nat.le_refl _) _)
  by_cases h3 : t.op = 3 ∨ t.op = 4 ∨ t.op = 5 ∨ t.op = 6
  · have Hq : Hid (duoB t = true) := Lib.hid (by unfold duoB; rcases h3 with h | h | h | h <;> rw [h] <;> rfl)
    rcases h3 with h3 | h3 | h3 | h3
    all_goals
      go_enter Tryd.func97, Tryd.ntmps97
      go_wp2
      go_ret
      exact ⟨by rw [Hq.out]; rfl, (hB0 _).out⟩
  · have g3 : t.op ≠ 3 := fun h => h3 (.inl h)
    have g4 : t.op ≠ 4 := fun h => h3 (.inr (.inl h))
    have g5 : t.op ≠ 5 := fun h => h3 (.inr (.inr (.inl h)))
    have g6 : t.op ≠ 6 := fun h => h3 (.inr (.inr (.inr h)))
    have Hq : Hid (duoB t = false) := Lib.hid (by unfold duoB; simp [g3, g4, g5, g6])
    clear h3
    go_enter Tryd.func97, Tryd.ntmps97
    go_wp2
    go_ret
    exact ⟨by rw [Hq.out]; rfl, (hB0 _).out⟩

theorem holdsTwo_c (t : Lt) (cs : List Value) (n₀ : Nat) (w : World) (hc : LtC w n₀ t cs) :
    Calls Tryd.prog 97 #[.agg cs.toArray] w fun e w' => e = .returned (.bool (duoB t)) ∧ Below w.heap.size w w' := by
  obtain ⟨o0, k0, o1, k1, o2, k2, rfl, _⟩ := hc.look
  exact holdsTwo_v t _ _ _ _ _ _ _ _ _ _ w

set_option maxRecDepth 100000 in
set_option maxHeartbeats 4000000 in
theorem learnAlike_c (x y : Tm) (cx cy : List Value) (B n₀ : Nat) (V : List (List UInt8)) (hV : V.length ≤ 1000000) (K : Kn) (a b' c d : Addr) (w : World) (hx : TmC w n₀ x cx) (hy : TmC w n₀ y cy) (hB : n₀ ≤ B) (hM : KnM V w B K) (hvx : x.op = 1 → nm x ∈ V) (hvy : y.op = 1 → nm y ∈ V) (E : YEnv n₀ a b' c d w) :
    Calls Tryd.prog 99 #[.map (some B), .agg cx.toArray, .agg cy.toArray] w (LearnR V w B a (alike1 K x y)) := by
  obtain ⟨p0, q0, rfl, _⟩ := hx.look
  obtain ⟨p1, q1, rfl, _⟩ := hy.look
  have hB1 := hM.lt
  have hb2 : ∀ (o p : Obj), Below w.heap.size w ((w.alloc o).alloc p) := fun o p => ((Below.refl _ _).alloc (Nat.le_refl _) _).alloc (by simp) _
  have HOx := Lib.hid (fun (W : World) (hb : Below w.heap.size w W) => of_c x _ B n₀ V K W (TmC.under hx (hb.mono (by omega))) (hM.below hb hB1))
  have HOy := Lib.hid (fun (W : World) (hb : Below w.heap.size w W) => of_c y _ B n₀ V K W (TmC.under hy (hb.mono (by omega))) (hM.below hb hB1))
  have HLx := Lib.hid (fun (k : Int) (hk : k = 1 ∨ k = 2) (W : World) (hb : Below w.heap.size w W) => learn_c x k _ B n₀ V hV K a b' c d W (TmC.under hx (hb.mono (by omega))) hB (hM.below hb hB1) hvx hk (E.below (hb.mono (by omega))))
  have HLy := Lib.hid (fun (k : Int) (hk : k = 1 ∨ k = 2) (W : World) (hb : Below w.heap.size w W) => learn_c y k _ B n₀ V hV K a b' c d W (TmC.under hy (hb.mono (by omega))) hB (hM.below hb hB1) hvy hk (E.below (hb.mono (by omega))))
  have HM := Lib.hid hM
  have tyx := ofK_ty hM.ty x
  have tyy := ofK_ty hM.ty y
  have fin : Hid (∀ (r : Option Kn) (W W' : World) (e : Ending), Below w.heap.size w W → LearnR V W B a r e W' → LearnR V w B a r e W') := Lib.hid fun r W W' e hb h => by
    cases h with
    | bad h => exact .bad ((gB hb _).trans h)
    | good h1 h2 => exact .good h1 ((gB hb _).trans h2)
  clear hM E hx hy
  by_cases h1 : ofK K y = 0
  · have h1' : (ofK K y == 0) = true := by simpa using h1
    go_enter Tryd.func99, Tryd.ntmps99
    go_wp2_with fail
    refine (HOy.out _ (hb2 _ _)).mono ?_
    rintro e w1 ⟨rfl, b1⟩
    obtain ⟨hc1, hf1⟩ := boxY w.heap.size b1 (by simp; omega)
    obtain ⟨hc2, hf2⟩ := boxY (w.heap.size + 1) b1 (by simp)
    have B1 := Lib.hid ((hb2 (.cells #[.int .i64 x.op, .string x.s, .int .i64 x.n, .slice p0 x.l.length q0] 43) (.cells #[.int .i64 y.op, .string y.s, .int .i64 y.n, .slice p1 y.l.length q1] 43)).trans (b1.mono (by simp; omega)))
    have hsz1 := b1.size
    simp only [World.size_alloc] at hsz1
    go_wp2_with fail
    have B2 : ∀ W : World, Hid (Below w.heap.size w W → ∀ (a0 a1 a2 a3 b0 b1 b2 b3 : Value), Below w.heap.size w ((((((((W.setCell ⟨w.heap.size, 0, none⟩ a0).setCell ⟨w.heap.size, 1, none⟩ a1).setCell ⟨w.heap.size, 2, none⟩ a2).setCell ⟨w.heap.size, 3, none⟩ a3).setCell ⟨w.heap.size + 1, 0, none⟩ b0).setCell ⟨w.heap.size + 1, 1, none⟩ b1).setCell ⟨w.heap.size + 1, 2, none⟩ b2).setCell ⟨w.heap.size + 1, 3, none⟩ b3)) := fun W => Lib.hid fun h a0 a1 a2 a3 b0 b1 b2 b3 =>
      (((((((h.setCell (Nat.le_refl _) a0).setCell (Nat.le_refl _) a1).setCell (Nat.le_refl _) a2).setCell (Nat.le_refl _) a3).setCell (Nat.le_succ _) b0).setCell (Nat.le_succ _) b1).setCell (Nat.le_succ _) b2).setCell (Nat.le_succ _) b3
    refine (HOx.out _ ((B2 w1).out B1.out _ _ _ _ _ _ _ _)).mono ?_
    rintro e w2 ⟨rfl, b2⟩
    have B3 := Lib.hid (((B2 w1).out B1.out _ _ _ _ _ _ _ _).trans (b2.mono (by simp; omega)))
    obtain ⟨hc3, hf3⟩ := boxY w.heap.size b2 (by simp; omega)
    by_cases h2 : ofK K x = 0
    · have h2' : (ofK K x != 0) = false := by simpa using h2
      have Hq : Hid (alike1 K x y = some K) := Lib.hid (by unfold alike1; rw [if_pos h1, if_neg (fun h => h h2)])
      go_wp2
      go_ret
      rw [Hq.out]
      exact .good (HM.out.below B3.out hB1) (gB B3.out _)
    · have h2' : (ofK K x != 0) = true := by simpa using h2
      have Hq : Hid (alike1 K x y = learn1 K y (ofK K x)) := Lib.hid (by unfold alike1; rw [if_pos h1, if_pos h2])
      have hk : Hid (ofK K x = 1 ∨ ofK K x = 2) := Lib.hid (tyx.resolve_left h2)
      go_wp2_with fail
      refine (HLy.out _ hk.out _ B3.out).mono ?_
      rintro e w3 hR
      obtain ⟨v, rfl, hR'⟩ := (fin.out _ _ _ _ B3.out hR).ret
      have HR := Lib.hid hR'
      clear hR hR'
      go_wp2
      go_ret
      rw [Hq.out]
      exact HR.out
  · have h1' : (ofK K y == 0) = false := by simpa using h1
    have h2' : (ofK K y != 0) = true := by simpa using h1
    have Hq : Hid (alike1 K x y = learn1 K x (ofK K y)) := Lib.hid (by unfold alike1; rw [if_neg h1])
    have hk : Hid (ofK K y = 1 ∨ ofK K y = 2) := Lib.hid (tyy.resolve_left h1)
    go_enter Tryd.func99, Tryd.ntmps99
    go_wp2_with fail
    refine (HOy.out _ (hb2 _ _)).mono ?_
    rintro e w1 ⟨rfl, b1⟩
    obtain ⟨hc1, hf1⟩ := boxY w.heap.size b1 (by simp; omega)
    obtain ⟨hc2, hf2⟩ := boxY (w.heap.size + 1) b1 (by simp)
    have B1 := Lib.hid ((hb2 (.cells #[.int .i64 x.op, .string x.s, .int .i64 x.n, .slice p0 x.l.length q0] 43) (.cells #[.int .i64 y.op, .string y.s, .int .i64 y.n, .slice p1 y.l.length q1] 43)).trans (b1.mono (by simp; omega)))
    have hsz1 := b1.size
    simp only [World.size_alloc] at hsz1
    go_wp2_with fail
    refine (HOy.out _ B1.out).mono ?_
    rintro e w2 ⟨rfl, b2⟩
    have B3 := Lib.hid (B1.out.trans (b2.mono (by omega)))
    obtain ⟨hc3, hf3⟩ := boxY w.heap.size b2 (by omega)
    go_wp2_with fail
    refine (HLx.out _ hk.out _ B3.out).mono ?_
    rintro e w3 hR
    obtain ⟨v, rfl, hR'⟩ := (fin.out _ _ _ _ B3.out hR).ret
    have HR := Lib.hid hR'
    clear hR hR'
    go_wp2
    go_ret
    rw [Hq.out]
    exact HR.out
end Go.Proofs.YtfcfehflocglpaaDoor
namespace Go.Proofs.YtfcfehflocglpaaDoor
open Go.RowKit Go.Shelf

attribute [local go_sem] Oper.semAt_some

def atomsL : List Lt → List Am
  | [] => []
  | t :: l => if duoB t then atomsL l else t.a :: atomsL l
def atomsR (r : Ru) : List Am := r.head :: atomsL r.body
theorem atomsL_app : ∀ (a b : List Lt), atomsL (a ++ b) = atomsL a ++ atomsL b
  | [], b => rfl
  | t :: a, b => by
    show (if duoB t then atomsL (a ++ b) else t.a :: atomsL (a ++ b)) = (if duoB t then atomsL a else t.a :: atomsL a) ++ atomsL b
    rw [atomsL_app a b]
    split <;> rfl
theorem atomsL_take {l : List Lt} {k : Nat} {t : Lt} (h : l[k]? = some t) : atomsL (l.take (k + 1)) = atomsL (l.take k) ++ (if duoB t then [] else [t.a]) := by
  rw [List.take_succ_eq_append_getElem (List.getElem?_eq_some_iff.1 h).1, (List.getElem?_eq_some_iff.1 h).2, atomsL_app]
  rfl
theorem atomsL_pre (l : List Lt) (k : Nat) : atomsL (l.take k) <+: atomsL l := ⟨atomsL (l.drop k), by rw [← atomsL_app, List.take_append_drop]⟩
/-- An atom that has come, and how it lies in memory. -/
structure Na (w : World) (B : Nat) (G : Am → Prop) where
  t : Am
  cs : List Value
  ok : AmC w B t cs
  good : G t
def Na.enc {w : World} {B : Nat} {G : Am → Prop} (x : Na w B G) : Array Value := #[.agg x.cs.toArray]

theorem yatom_in (n : Nat) (r : Ru) (cs : List Value) (w : World) (hc : RuC w w.heap.size r cs) :
    CallsIn Fence.wide n Tryd.prog 95 #[.agg cs.toArray] w fun e w' => e = .returned (.func (.func 126) #[] #[.pointer (some ⟨w.heap.size, 0, none⟩)]) ∧ w' = w.alloc (.cells cs.toArray 27) := by
  obtain ⟨o0, k0, o1, k1, rfl, _⟩ := hc.look
  clear hc
  refine callsIn_of_wp Tryd.func95 rfl trivial ?_ rfl
  simp only [Tryd.ntmps95, List.size_toArray, List.length_cons, List.length_nil, Nat.reduceAdd, Nat.reduceSub, Array.replicate_succ, Array.replicate_zero, List.push_toArray, List.append_toArray, List.nil_append, List.cons_append]
  gi_wp2
  go_ret
  exact ⟨rfl, rfl⟩

set_option maxRecDepth 100000 in
set_option maxHeartbeats 4000000 in
/-- The box B holds the rule: its atoms are gone through. -/
theorem yatom_stops {G : Am → Prop} (n B n₀ : Nat) (r : Ru) (cs : List Value) (w0 w : World) (S : World → Nat → Prop) (hG : SGrow S) (hs : Safe S w0 w) (hw : ∀ i, S w i → i < w.heap.size) (hB : CellsAt w0 ⟨B, 0, none⟩ 0 cs) (hc : RuC w0 n₀ r cs) (hGd : ∀ t ∈ atomsR r, G t) :
    SeqStopsK Fence.wide n Tryd.prog 126 #[.pointer (some ⟨B, 0, none⟩)] (Na.enc (w := w0) (B := n₀) (G := G)) (KO S) (fun ys => ys.map Na.t = atomsR r) (fun pre => pre.map Na.t <+: atomsR r) (atomsR r).length w := by
  intro l J Jx W hW hJ _ hY h0
  have hKW := KO.of_below hG hw hW
  have hs1 := hs.ko hKW
  have hw1 := hKW.wf hw
  have hJg : ∀ pre W W', J pre W → Below W.heap.size W W' → J pre W' := fun pre W W' h hb => hJ pre W W' none h (grownBelow hb) (fun _ e => by cases e)
  obtain ⟨o0, k0, o1, k1, rfl, _, hA, hL⟩ := hc.look
  obtain ⟨_, _, e2, hb1, hb2, SL⟩ := SlOf.open hL
  cases e2
  have hBW : CellsAt W ⟨B, 0, none⟩ 0 _ := fun j c hj => (hs1 _ _ (hB j c hj)).1
  obtain ⟨c0, c1, c2, c3⟩ := hBW.four
  have ea : (⟨B, 0, none⟩ : Addr).add 0 = ⟨B, 0, none⟩ := by unfold Addr.add; simp
  simp only [ea, Nat.zero_add] at c0 c1 c2 c3
  have hBl : B < W.heap.size := World.block_lt_of_cell? _ _ c0
  obtain ⟨x, hx⟩ : ∃ x : Na w0 n₀ G, x = ⟨r.head, _, hA, hGd _ (List.mem_cons_self ..)⟩ := ⟨_, rfl⟩
  have hxe : x.enc = #[.agg #[.string r.head.rel, .slice o0 r.head.l.length k0]] := by rw [hx]; rfl
  have hxt : x.t = r.head := by rw [hx]
  obtain ⟨fn, tmps, assign, body, hy, hR⟩ := hY [] x W h0 (by simp [atomsR])
  rw [hxe] at hy
  have Hs := Lib.hid hs1
  have Hw := Lib.hid hw1
  have HJg := Lib.hid hJg
  have HY := Lib.hid hY
  have HBW := Lib.hid hB
  have Hxt := Lib.hid hxt
  have HGd := Lib.hid hGd
  clear hKW hs1 hw1 hJg hA hL hBW hB hc hY hJ h0 hs hw hW ea hx hxe hxt hGd
  refine callsIn_of_wp Tryd.func126 rfl trivial ?_ rfl
  simp only [Tryd.ntmps126, List.size_toArray, List.length_cons, List.length_nil, Nat.reduceAdd, Nat.reduceSub, Array.replicate_succ, Array.replicate_zero, List.push_toArray, List.append_toArray, List.nil_append, List.cons_append]
  gi_wp2
  refine ⟨fun h => (by cases h), hR.mono ?_⟩
  rintro e W1 (⟨rfl, hJ1, hk1⟩ | ⟨rfl, hx2⟩)
  · have Hk1 := Lib.hid hk1
    have hB1 : CellsAt W1 ⟨B, 0, none⟩ 0 _ := fun j c hj => (Hs.out.ko hk1 _ _ (HBW.out j c hj)).1
    obtain ⟨f0, f1, f2, f3⟩ := hB1.four
    have ea : (⟨B, 0, none⟩ : Addr).add 0 = ⟨B, 0, none⟩ := by unfold Addr.add; simp
    simp only [ea, Nat.zero_add] at f0 f1 f2 f3
    have hBl1 : B < W1.heap.size := World.block_lt_of_cell? _ _ f0
    have HJ1 := Lib.hid hJ1
    clear hk1 hJ1 c0 c1 c2 c3 hB1 ea
    gi_wp2
    gi_loopw [13] (fun i wr => ∃ (k : Nat) (ys : List (Na w0 n₀ G)), k ≤ r.body.length ∧ i = .int .i64 k ∧ ys.map Na.t = r.head :: atomsL (r.body.take k) ∧ J ys wr ∧ KO S W wr) (fun i _ => r.body.length - (intOf i).toNat)
    case atStart => exact ⟨0, [x], Nat.zero_le _, rfl, by simp [Hxt.out, atomsL], by simpa using HJ1.out, Hk1.out⟩
    case round =>
      obtain ⟨k, ys, hk, rfl, hys, hJk, hkk⟩ := hrel
      have Hyk := Lib.hid hys
      have hsr := Hs.out.ko hkk
      have hwr := hkk.wf Hw.out
      by_cases hlt : k < r.body.length
      · have hlt' : (k : Int) < (r.body.length : Int) := by omega
        have hk0 : (0 : Int) ≤ (k : Int) := by omega
        obtain ⟨u, hu⟩ : ∃ u, r.body[k]? = some u := ⟨r.body[k], List.getElem?_eq_getElem hlt⟩
        obtain ⟨a, p0, q0, p1, q1, p2, q2, rfl, hal, Hc, hca⟩ := lt_ko SL hsr hu
        obtain ⟨c0, c1, c2, c3, c4, c5, c6, c7, c8, c9, c10⟩ := hca.n11
        have Htk := Lib.hid (atomsL_take hu)
        obtain ⟨V1, hV1⟩ : ∃ V1, wr.alloc (.cells #[.int .i64 u.op, .string u.a.rel, .slice p0 u.a.l.length q0, .int .i64 u.x.op, .string u.x.s, .int .i64 u.x.n, .slice p1 u.x.l.length q1, .int .i64 u.y.op, .string u.y.s, .int .i64 u.y.n, .slice p2 u.y.l.length q2] 45) = V1 := ⟨_, rfl⟩
        have hb1' : Below wr.heap.size wr V1 := by rw [← hV1]; exact (Below.refl _ _).alloc (Nat.le_refl _) _
        have hrow1 : V1.heap[wr.heap.size]? = some (.cells #[.int .i64 u.op, .string u.a.rel, .slice p0 u.a.l.length q0, .int .i64 u.x.op, .string u.x.s, .int .i64 u.x.n, .slice p1 u.x.l.length q1, .int .i64 u.y.op, .string u.y.s, .int .i64 u.y.n, .slice p2 u.y.l.length q2] 45 (0, 0)) := by rw [← hV1]; exact World.alloc_heap_new wr _
        have hsz1 : V1.heap.size = wr.heap.size + 1 := by rw [← hV1]; simp
        have HV := Lib.hid hV1
        have Hrow1 := Lib.hid hrow1
        have Hb1 := Lib.hid hb1'
        have HJk := Lib.hid hJk
        have Hkk := Lib.hid hkk
        have Hwr := Lib.hid hwr
        clear hys hJk hkk hsr hwr hu hca hb1' hrow1 hV1
        gi_wp2_with fail
        refine ⟨trivial, fun h => (by cases h), (callsIn_wide.2 (holdsTwo_v u _ _ _ _ _ _ _ _ _ _ _)).mono ?_⟩
        rintro e W2 ⟨rfl, b2⟩
        have hbb : Below wr.heap.size wr W2 := ((Below.refl _ _).alloc (Nat.le_refl _) _).trans (b2.mono (by simp))
        have hcell := fun (o : Nat) => b2.cell (p := ⟨wr.heap.size, o, none⟩) (by simp)
        have hsz2 := b2.size
        simp only [World.size_alloc] at hsz2
        have KK := Lib.hid (Hkk.out.trans (KO.of_below hG Hwr.out hbb))
        have JJ := Lib.hid (HJg.out _ _ _ HJk.out hbb)
        have hcl1 : W2.cell? ⟨wr.heap.size, 1, none⟩ = some (.string u.a.rel) := by rw [hcell 1]; unfold World.cell?; simp only []; rw [World.alloc_heap_new]; rfl
        have hcl2 : W2.cell? ⟨wr.heap.size, 2, none⟩ = some (.slice p0 u.a.l.length q0) := by rw [hcell 2]; unfold World.cell?; simp only []; rw [World.alloc_heap_new]; rfl
        clear hbb hcell b2
        cases hd : duoB u with
        | true =>
          have Htk2 : Hid (atomsL (r.body.take (k + 1)) = atomsL (r.body.take k)) := Lib.hid (by rw [Htk.out, hd]; simp)
          clear hd
          gi_wp2
          refine ⟨fun f h => (by cases h), ?_⟩
          gi_wp2
          go_roundw
          case rel => exact ⟨k + 1, ys, hlt, by go_num, by rw [Htk2.out]; exact Hyk.out, JJ.out, KK.out⟩
          case measure => simp [intOf]; omega
        | false =>
          have Htk2 : Hid (atomsL (r.body.take (k + 1)) = atomsL (r.body.take k) ++ [u.a]) := Lib.hid (by rw [Htk.out, hd]; rfl)
          clear hd
          have pfx : atomsL (r.body.take (k + 1)) <+: atomsL r.body := atomsL_pre _ _
          have Pfx := Lib.hid pfx
          obtain ⟨_, _, _, _, _, _, ec, _, hAu, _, _⟩ := Hc.out.look
          simp only [List.cons.injEq, Value.slice.injEq, true_and, and_true] at ec
          obtain ⟨⟨rfl, rfl⟩, ⟨rfl, rfl⟩, rfl, rfl⟩ := ec
          have hgu : G u.a := HGd.out _ (List.mem_cons_of_mem _ (Pfx.out.subset (by rw [Htk2.out]; simp)))
          obtain ⟨x2, hx2⟩ : ∃ x : Na w0 n₀ G, x = ⟨u.a, _, hAu, hgu⟩ := ⟨_, rfl⟩
          have hxe2 : x2.enc = #[.agg #[.string u.a.rel, .slice p0 u.a.l.length q0]] := by rw [hx2]; rfl
          have hxt2 : x2.t = u.a := by rw [hx2]
          obtain ⟨fn2, tmps2, assign2, body2, hy2, hR2⟩ := HY.out ys x2 W2 JJ.out (by
            have h1 := congrArg List.length Hyk.out
            have h2 := Pfx.out.length_le
            rw [Htk2.out] at h2
            simp only [List.length_map, List.length_append, List.length_cons, List.length_nil] at h1 h2
            unfold atomsR
            simp only [List.length_cons]
            omega)
          rw [hxe2] at hy2
          have Hxt2 := Lib.hid hxt2
          clear pfx hAu hgu hx2 hxe2 hxt2
          gi_wp2
          refine ⟨fun h => (by cases h), hR2.mono ?_⟩
          rintro e W3 (⟨rfl, hJ3, hk3⟩ | ⟨rfl, hx3⟩)
          · have HJ3 := Lib.hid hJ3
            have K33 := Lib.hid (KK.out.trans hk3)
            clear hJ3 hk3
            gi_wp2
            go_roundw
            case rel =>
              refine ⟨k + 1, ys ++ [x2], hlt, by go_num, ?_, HJ3.out, K33.out⟩
              rw [List.map_append, Hyk.out, Htk2.out, List.map_cons, List.map_nil, Hxt2.out]
              simp
            case measure => simp [intOf]; omega
          · have HX3 := Lib.hid hx3
            clear hx3
            gi_wp2
            refine bodyPost_ret (results_none rfl _ _ _) rfl ?_
            refine ⟨⟨_, rfl⟩, .inr ⟨ys ++ [x2], ?_, HX3.out⟩⟩
            rw [List.map_append, Hyk.out, List.map_cons, List.map_nil, Hxt2.out]
            obtain ⟨r2, hr2⟩ := Pfx.out
            refine ⟨r2, ?_⟩
            unfold atomsR
            rw [← hr2, Htk2.out]
            simp
      · have hlt' : ¬ (k : Int) < (r.body.length : Int) := by omega
        have HJk := Lib.hid hJk
        clear hJk hkk hsr hwr hys
        gi_wp2
        go_end0
        refine ⟨⟨_, rfl⟩, .inl ⟨ys, ?_, HJk.out⟩⟩
        rw [Hyk.out, List.take_of_length_le (by omega)]
        rfl
  · have HX := Lib.hid hx2
    clear hx2
    gi_wp2
    refine bodyPost_ret (results_none rfl _ _ _) rfl ?_
    refine ⟨⟨_, rfl⟩, .inr ⟨[x], ?_, by simpa using HX.out⟩⟩
    simp [Hxt.out, atomsR]
end Go.Proofs.YtfcfehflocglpaaDoor

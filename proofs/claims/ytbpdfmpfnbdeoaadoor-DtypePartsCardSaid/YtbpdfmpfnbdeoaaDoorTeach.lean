/- dtree.eachTerm: a function over which a range goes through every term within a term. -/
import Derived.Test.YtbpdfmpfnbdeoaaDoorTvisit
namespace Go.Proofs.YtbpdfmpfnbdeoaaDoor
open Go.RowKit Go.Shelf

attribute [local go_sem] Oper.semAt_some

theorem roomOfNone {F : Fence} (hd : F.depth = none) (k : Nat) : F.room k := fun d h => by rw [hd] at h; cases h
theorem roundAny {F : Fence} (hd : F.depth = none) {m m' : Nat} {P : Program} {l : Nat} {f : FuncId} {tmps : Array Value} {assign body : Code} {w : World} {R : Ending → World → Prop}
    (h : RoundIn F m P l f tmps assign body w R) : RoundIn F m' P l f tmps assign body w R := ⟨h.1, fun c cs _ => h.2 c cs (roomOfNone hd _)⟩
theorem yieldAny {F : Fence} (hd : F.depth = none) {m : Nat} (m' : Nat) {P : Program} {l : Nat} {args : Array Value} {W : World} {R : Ending → World → Prop} (h : YieldAt F m P l args W R) : YieldAt F m' P l args W R := by
  obtain ⟨fn, tmps, assign, body, hy, hR⟩ := h
  exact ⟨fn, tmps, assign, body, hy, roundAny hd hR⟩

theorem grownBelow {W W' : World} (h : Below W.heap.size W W') : W.grownBy W' none := ⟨h.os, h.tape, h.output, h.size, fun k hk _ => h.block k hk⟩
theorem eachTerm_in (n : Nat) (t : Tm) (cs : List Value) (w : World) (hc : TmC w w.heap.size t cs) :
    CallsIn Fence.wide n Tryd.prog 132 #[.agg cs.toArray] w fun e w' => e = .returned (.func (.func 140) #[] #[.pointer (some ⟨w.heap.size, 0, none⟩)]) ∧ w' = w.alloc (.cells cs.toArray 43) := by
  obtain ⟨p1, q1, rfl, _, _, _, _⟩ := hc.look
  clear hc
  refine callsIn_of_wp Tryd.func132 rfl trivial ?_ rfl
  simp only [Tryd.ntmps132, List.size_toArray, List.length_cons, List.length_nil, Nat.reduceAdd, Nat.reduceSub, Array.replicate_succ, Array.replicate_zero, List.push_toArray, List.append_toArray, List.nil_append, List.cons_append]
  gi_wp2
  go_ret
  exact ⟨rfl, rfl⟩

set_option maxRecDepth 100000 in
set_option maxHeartbeats 2000000 in
/-- The box B holds the term: it is gone through. -/
theorem eachTerm_stops (n : Nat) (B n₀ : Nat) (t : Tm) (cs : List Value) (w : World) (hB : CellsAt w ⟨B, 0, none⟩ 0 cs) (hc : TmC w n₀ t cs) :
    SeqStopsK Fence.wide n Tryd.prog 140 #[.pointer (some ⟨B, 0, none⟩)] (Nd.enc (w := w) (B := n₀)) KC (fun ys => ys.map Nd.pair = nodesT 1 t) (fun pre => pre.map Nd.pair <+: nodesT 1 t) (nodesT 1 t).length w := by
  intro l J Jx W hW hJ _ hY h0
  have hK : KC w W := KC.of_below hW
  have hv := visit_in (w0 := w) (n₀ := n₀) l (nodesT 1 t).length J Jx (fun pre W W' h hb => hJ pre W W' none h (grownBelow hb) (fun _ e => by cases e)) (fun m pre x W hj hl => yieldAny rfl m (hY pre x W hj hl)) t (n - 1) 1 W cs [] hK hc h0 (by simp)
  obtain ⟨p1, q1, rfl, _, _, _, _⟩ := hc.look
  obtain ⟨c0, c1, c2, c3⟩ := (hB.kc hK).four
  have ea : (⟨B, 0, none⟩ : Addr).add 0 = ⟨B, 0, none⟩ := by unfold Addr.add; simp
  simp only [ea, Nat.zero_add] at c0 c1 c2 c3
  have HV := Lib.hid hv
  clear hv hc hB ea hY hJ
  refine callsIn_of_wp Tryd.func140 rfl trivial ?_ rfl
  simp only [Tryd.ntmps140, List.size_toArray, List.length_cons, List.length_nil, Nat.reduceAdd, Nat.reduceSub, Array.replicate_succ, Array.replicate_zero, List.push_toArray, List.append_toArray, List.nil_append, List.cons_append]
  gi_wp2_with fail
  refine ⟨trivial, fun h => (by cases h), HV.out.mono ?_⟩
  rintro e W1 (⟨rfl, ⟨ys, hys, hJ1⟩, _⟩ | ⟨rfl, ys, hys, hx⟩)
  · gi_wp2
    go_end0
    exact ⟨⟨_, rfl⟩, .inl ⟨ys, hys, by simpa using hJ1⟩⟩
  · gi_wp2
    go_end0
    exact ⟨⟨_, rfl⟩, .inr ⟨ys, hys, by simpa using hx⟩⟩
end Go.Proofs.YtbpdfmpfnbdeoaaDoor

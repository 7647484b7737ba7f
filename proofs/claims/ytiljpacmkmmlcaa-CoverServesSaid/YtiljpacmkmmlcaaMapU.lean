/- A map from sets to sets, both as bits, that a call has made: what it holds, as a function. -/
import Derived.WalkKit
import Derived.Below
import Derived.Maps.OwnSet
import Derived.Maps.OwnIn
set_option linter.unusedSimpArgs false
set_option linter.unusedVariables false
namespace Go.Proofs.Ytiljpacmkmmlcaa
open Go.RowKit Go.Maps Go.WideMaps

def MapU (P : Program) (w : World) (kT eT : TypeId) (B n : Nat) (f : Nat → Option Nat) : Prop :=
  ∃ D : DataW Unit, w.ownsMap P kT (plainElem P eT) B n D ∧ IsMap D ∧ (∀ k : Nat, D.atKey (.int .u64 (k : Int)) (.lit (.int .u64 0)) = .lit (.int .u64 (((f k).getD 0 : Nat) : Int))) ∧ ∀ k : Nat, Maps.has D (.int .u64 (k : Int)) = (f k).isSome
def updU (f : Nat → Option Nat) (k v : Nat) : Nat → Option Nat := fun x => if x = k then some v else f x
theorem updU_same (f : Nat → Option Nat) (k v : Nat) : updU f k v k = some v := if_pos rfl
theorem updU_other (f : Nat → Option Nat) {k x : Nat} (v : Nat) (h : x ≠ k) : updU f k v x = f x := if_neg h
theorem mapU_made (P : Program) (w : World) (kT eT : TypeId) : MapU P (w.alloc (.map #[] 0)) kT eT w.heap.size 0 (fun _ => none) :=
  ⟨.map [], World.ownsMap_made w P kT _, isMap_empty, fun _ => rfl, fun _ => rfl⟩
theorem MapU.mono {P : Program} {w : World} {kT eT : TypeId} {B n n' : Nat} {f : Nat → Option Nat} (h : MapU P w kT eT B n f) (hn : n ≤ n') : MapU P w kT eT B n' f := by
  obtain ⟨D, h1, h2⟩ := h
  exact ⟨D, h1.mono hn, h2⟩
theorem MapU.lt {P : Program} {w : World} {kT eT : TypeId} {B n : Nat} {f : Nat → Option Nat} (h : MapU P w kT eT B n f) : B < w.heap.size := by
  obtain ⟨D, h1, _⟩ := h
  exact h1.lt
theorem MapU.kept {P : Program} {w w' : World} {kT eT : TypeId} {B n : Nat} {f : Nat → Option Nat} {row : Option Nat} (h : MapU P w kT eT B n f) (hg : w.grownBy w' row) (hne : some B ≠ row) : MapU P w' kT eT B n f := by
  obtain ⟨D, h1, h2⟩ := h
  exact ⟨D, h1.kept hg hne, h2⟩
theorem MapU.same {P : Program} {w w' : World} {kT eT : TypeId} {B n : Nat} {f : Nat → Option Nat} (h : MapU P w kT eT B n f) (hb : w'.heap[B]? = w.heap[B]?) : MapU P w' kT eT B n f := by
  obtain ⟨D, ⟨es, clock, h1, h2⟩, h3⟩ := h
  exact ⟨D, ⟨es, clock, hb.trans h1, h2⟩, h3⟩
theorem MapU.below {P : Program} {w w' : World} {kT eT : TypeId} {B n N : Nat} {f : Nat → Option Nat} (h : MapU P w kT eT B n f) (hb : Below N w w') (hN : B < N) : MapU P w' kT eT B n f := h.same (hb.block B hN)
theorem u64_wf {n : Nat} (h : n < 256) : (Lit.int .u64 (n : Int)).wf = true := WalkArith.wf_u64 ⟨by omega, by omega⟩
theorem MapU.put {P : Program} {w' : World} {kT eT : TypeId} {B n : Nat} {f : Nat → Option Nat} {D : DataW Unit} (h2 : IsMap D) (h3 : ∀ k : Nat, D.atKey (.int .u64 (k : Int)) (.lit (.int .u64 0)) = .lit (.int .u64 (((f k).getD 0 : Nat) : Int))) (h4 : ∀ k : Nat, Maps.has D (.int .u64 (k : Int)) = (f k).isSome) (k v : Nat)
    (h1 : w'.ownsMap P kT (plainElem P eT) B n (D.put (.int .u64 (k : Int)) (.lit (.int .u64 (v : Int))))) : MapU P w' kT eT B n (updU f k v) := by
  have hk : WideAt.IsKeyLit (.int .u64 (k : Int)) := trivial
  refine ⟨_, h1, h2.put _ _, fun x => ?_, fun x => ?_⟩
  · by_cases e : x = k
    · subst e; rw [atKey_put_same h2 hk, updU_same]; rfl
    · rw [atKey_put_other (by intro h; cases h; exact e (by omega)), h3, updU_other _ _ e]
  · by_cases e : x = k
    · subst e; rw [has_put_same h2 hk, updU_same]; rfl
    · rw [has_put_other (by intro h; cases h; exact e (by omega)), h4, updU_other _ _ e]

section
variable {P : Program} (w : World) {ops : Array Oper} {rest : List Oper} {o : Oper} {a : Act} {Q : Exit → Act → World → Prop}
theorem mapU_store (t kT eT : TypeId) (ht : P.underlying t = some (.map kT eT)) (hkT : P.underlying kT = some (.int .u64)) (heT : P.underlying eT = some (.int .u64))
    (B n : Nat) (f : Nat → Option Nat) (h : MapU P w kT eT B n f) (hn : n < maxLen) (k v : Nat) (hk : k < 256) (hv : v < 256) : ∃ w', (Instr.mapUpdate t (.map (some B)) (.int .u64 (k : Int)) (.int .u64 (v : Int))).run P w = .ok () w' ∧ MapU P w' kT eT B (n + 1) (updU f k v) ∧ w.grownBy w' (some B) := by
  obtain ⟨D, h1, h2, h3, h4⟩ := h
  obtain ⟨w', r1, r2, r3⟩ := h1.update (int_keyed hkT) ht hn (keyOf_int_mk hkT (u64_wf hk)) (plainElem_int heT (u64_wf hv))
  exact ⟨w', r1, MapU.put h2 h3 h4 k v r2, r3⟩
theorem mapU_look (t kT eT : TypeId) (ht : P.underlying t = some (.map kT eT)) (hkT : P.underlying kT = some (.int .u64)) (heT : P.underlying eT = some (.int .u64)) (hz : (zeroValue eT).run P w = .ok (.int .u64 0) w)
    (B n : Nat) (f : Nat → Option Nat) (h : MapU P w kT eT B n f) (k : Nat) (hk : k < 256) :
    (Instr.lookup t (.map (some B)) (.int .u64 (k : Int)) true).run P w = .ok (.tuple #[.int .u64 (((f k).getD 0 : Nat) : Int), .bool (f k).isSome]) w ∧ (Instr.lookup t (.map (some B)) (.int .u64 (k : Int)) false).run P w = .ok (.int .u64 (((f k).getD 0 : Nat) : Int)) w := by
  obtain ⟨D, h1, h2, h3, h4⟩ := h
  have hw0 : (Lit.int .u64 0).wf = true := by decide
  obtain ⟨v, ps, hrun, hv⟩ := h1.look_ok (int_keyed hkT) ht hz (plainElem_int heT hw0) (keyOf_int_mk hkT (u64_wf hk))
  obtain ⟨c, rfl, hc, _⟩ := plainElem_int_inv heT hv
  obtain ⟨c2, hrun2, hat2, _⟩ := h1.lookup_int (int_keyed hkT) ht heT hz (keyOf_int_mk hkT (u64_wf hk))
  rw [h3] at hc hat2
  have e1 : c = (((f k).getD 0 : Nat) : Int) := by
    have := congrArg Prod.fst hc
    simpa using this.symm
  have e2 : c2 = (((f k).getD 0 : Nat) : Int) := by simpa using hat2.symm
  subst e1
  subst e2
  rw [h4] at hrun
  exact ⟨hrun, hrun2⟩
end
end Go.Proofs.Ytiljpacmkmmlcaa

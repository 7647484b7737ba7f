/- A map from names to numbers that a call has made: what it holds, as a function; 0 is never stored. -/
import Derived.WalkKit
import Derived.Below
import Derived.Maps.OwnSet
import Derived.Maps.OwnIn
import Derived.StringKeys
namespace Go.Proofs.YtbpdfmpfnbdeoaaDoor
open Go.RowKit Go.Maps Go.WideMaps

def MapI (P : Program) (w : World) (kT eT : TypeId) (B n : Nat) (f : List UInt8 → Int) (c : Nat) : Prop :=
  ∃ D : DataW Unit, w.ownsMap P kT (plainElem P eT) B n D ∧ Tidy D ∧ (∀ s, D.atKey (.string s) (.lit (.int .i64 0)) = .lit (.int .i64 (f s))) ∧ (∀ s, Maps.has D (.string s) = decide (f s ≠ 0)) ∧ Maps.size D = c
def updF (f : List UInt8 → Int) (s : List UInt8) (v : Int) : List UInt8 → Int := fun n => if n = s then v else f n
theorem updF_same (f : List UInt8 → Int) (s : List UInt8) (v : Int) : updF f s v s = v := if_pos rfl
theorem updF_other (f : List UInt8 → Int) {s n : List UInt8} (v : Int) (h : n ≠ s) : updF f s v n = f n := if_neg h
theorem mapI_made (P : Program) (w : World) (kT eT : TypeId) : MapI P (w.alloc (.map #[] 0)) kT eT w.heap.size 0 (fun _ => 0) 0 :=
  ⟨.map [], World.ownsMap_made w P kT _, tidy_empty, fun _ => rfl, fun _ => rfl, rfl⟩
theorem MapI.mono {P : Program} {w : World} {kT eT : TypeId} {B n n' : Nat} {f : List UInt8 → Int} {c : Nat} (h : MapI P w kT eT B n f c) (hn : n ≤ n') : MapI P w kT eT B n' f c := by
  obtain ⟨D, h1, h2⟩ := h
  exact ⟨D, h1.mono hn, h2⟩
theorem MapI.lt {P : Program} {w : World} {kT eT : TypeId} {B n : Nat} {f : List UInt8 → Int} {c : Nat} (h : MapI P w kT eT B n f c) : B < w.heap.size := by
  obtain ⟨D, h1, _⟩ := h
  exact h1.lt
theorem MapI.kept {P : Program} {w w' : World} {kT eT : TypeId} {B n : Nat} {f : List UInt8 → Int} {c : Nat} {row : Option Nat} (h : MapI P w kT eT B n f c) (hg : w.grownBy w' row) (hne : some B ≠ row) : MapI P w' kT eT B n f c := by
  obtain ⟨D, h1, h2⟩ := h
  exact ⟨D, h1.kept hg hne, h2⟩
theorem MapI.alloc {P : Program} {w : World} {kT eT : TypeId} {B n : Nat} {f : List UInt8 → Int} {c : Nat} (h : MapI P w kT eT B n f c) (o : Obj) : MapI P (w.alloc o) kT eT B n f c := h.kept (World.grownBy_alloc w o none) (by simp)
theorem MapI.drew {P : Program} {w : World} {kT eT : TypeId} {B n : Nat} {f : List UInt8 → Int} {c : Nat} (h : MapI P w kT eT B n f c) : MapI P w.drew kT eT B n f c := h
theorem MapI.below {P : Program} {w w' : World} {kT eT : TypeId} {B n N : Nat} {f : List UInt8 → Int} {c : Nat} (h : MapI P w kT eT B n f c) (hb : Below N w w') (hN : B < N) : MapI P w' kT eT B n f c := by
  obtain ⟨D, ⟨es, clock, h1, h2⟩, h3⟩ := h
  exact ⟨D, ⟨es, clock, (hb.block B hN).trans h1, h2⟩, h3⟩
theorem MapI.put {P : Program} {w' : World} {kT eT : TypeId} {B n : Nat} {f : List UInt8 → Int} {c : Nat} {D : DataW Unit} (h2 : Tidy D) (h3 : ∀ s, D.atKey (.string s) (.lit (.int .i64 0)) = .lit (.int .i64 (f s))) (h4 : ∀ s, Maps.has D (.string s) = decide (f s ≠ 0)) (h5 : Maps.size D = c) (s : List UInt8) {v : Int} (hv : v ≠ 0)
    (h1 : w'.ownsMap P kT (plainElem P eT) B n (D.put (.string s) (.lit (.int .i64 v)))) : MapI P w' kT eT B n (updF f s v) (if f s = 0 then c + 1 else c) := by
  have hk : WideAt.IsKeyLit (.string s) := trivial
  refine ⟨_, h1, h2.put hk _, fun n => ?_, fun n => ?_, ?_⟩
  · by_cases e : n = s
    · subst e; rw [atKey_put_same h2.isMap hk, updF_same]
    · rw [atKey_put_other (by intro h; cases h; exact e rfl), h3, updF_other _ _ e]
  · by_cases e : n = s
    · subst e; rw [has_put_same h2.isMap hk, updF_same]; simp [hv]
    · rw [has_put_other (by intro h; cases h; exact e rfl), h4, updF_other _ _ e]
  · rw [size_put h2, h4, h5]
    by_cases e : f s = 0
    · rw [if_pos e]; simp [e]
    · rw [if_neg e]; simp [e]

section
variable {P : Program} (w : World) {ops : Array Oper} {rest : List Oper} {o : Oper} {a : Act} {Q : Exit → Act → World → Prop}
theorem wpList_mapI_put (hg : o.guard = none) (m x u : Operand) (t : TypeId) (hop : o.op = Op.mapUpdate t m x u) (kT eT : TypeId) (ht : P.underlying t = some (.map kT eT)) (hkT : P.underlying kT = some .string) (heT : P.underlying eT = some (.int .i64))
    (B n : Nat) (f : List UInt8 → Int) (c : Nat) (hm : a.eval m = .map (some B)) (h : MapI P w kT eT B n f c) (hn : n < maxLen) (s : ByteArray) (v : Int) (hx : a.eval x = .string s) (hu : a.eval u = .int .i64 v) (hs : s.size ≤ maxLen) (hv : v ≠ 0) (hw : (Lit.int .i64 v).wf = true)
    (hK : ∀ w', MapI P w' kT eT B (n + 1) (updF f s.data.toList v) (if f s.data.toList = 0 then c + 1 else c) → w.grownBy w' (some B) → wpList P ops Q rest (a.put o.dst undef) w') : wpList P ops Q (o :: rest) a w := by
  obtain ⟨D, h1, h2, h3, h4, h5⟩ := h
  exact wpList_mapUpdate_own w hg m x u t hop kT eT (string_keyed hkT) ht _ B n D hm h1 hn _ _ _ hx hu (keyOf_string_mk hkT hs) _ [] (plainElem_int heT hw) fun w' hown hgrow => hK w' (MapI.put h2 h3 h4 h5 _ hv hown) hgrow
theorem wpList_mapI_get (hg : o.guard = none) (m x : Operand) (t : TypeId) (hop : o.op = Op.lookup t m x false) (kT eT : TypeId) (ht : P.underlying t = some (.map kT eT)) (hkT : P.underlying kT = some .string) (heT : P.underlying eT = some (.int .i64)) (hz : (zeroValue eT).run P w = .ok (.int .i64 0) w)
    (B n : Nat) (f : List UInt8 → Int) (c : Nat) (hm : a.eval m = .map (some B)) (h : MapI P w kT eT B n f c) (s : ByteArray) (hx : a.eval x = .string s) (hs : s.size ≤ maxLen)
    (hK : (Lit.int .i64 (f s.data.toList)).wf = true → wpList P ops Q rest (a.put o.dst (.int .i64 (f s.data.toList))) w) : wpList P ops Q (o :: rest) a w := by
  obtain ⟨D, h1, h2, h3, h4, h5⟩ := h
  refine wpList_lookup_own_int w hg m x t hop kT eT .i64 (string_keyed hkT) ht heT hz B n D hm h1 _ _ hx (keyOf_string_mk hkT hs) fun c hc hwf => ?_
  rw [h3] at hc
  have : f s.data.toList = c := by simpa using hc
  subst this
  exact hK hwf
theorem wpList_mapI_len (hg : o.guard = none) (m : Operand) (t : TypeId) (hop : o.op = Op.call { callee := Callee.builtin Builtin.len, args := #[m], argTypes := #[t] }) (kT eT : TypeId) (ht : P.underlying t = some (.map kT eT))
    (B n : Nat) (f : List UInt8 → Int) (c : Nat) (hm : a.eval m = .map (some B)) (h : MapI P w kT eT B n f c) (hK : wpList P ops Q rest (a.put o.dst (.int .i64 (c : Nat))) w) : wpList P ops Q (o :: rest) a w := by
  obtain ⟨D, h1, h2, h3, h4, rfl⟩ := h
  exact wpList_len_own w hg m t hop kT eT ht _ B n D hm h1 hK
variable {F : Fence} {nF : Nat}
theorem wpListIn_mapI_put (hg : o.guard = none) (m x u : Operand) (t : TypeId) (hop : o.op = Op.mapUpdate t m x u) (kT eT : TypeId) (ht : P.underlying t = some (.map kT eT)) (hkT : P.underlying kT = some .string) (heT : P.underlying eT = some (.int .i64))
    (B n : Nat) (f : List UInt8 → Int) (c : Nat) (hm : a.eval m = .map (some B)) (h : MapI P w kT eT B n f c) (hn : n < maxLen) (s : ByteArray) (v : Int) (hx : a.eval x = .string s) (hu : a.eval u = .int .i64 v) (hs : s.size ≤ maxLen) (hv : v ≠ 0) (hw : (Lit.int .i64 v).wf = true)
    (hK : ∀ w', MapI P w' kT eT B (n + 1) (updF f s.data.toList v) (if f s.data.toList = 0 then c + 1 else c) → w.grownBy w' (some B) → wpListIn F nF P ops Q rest (a.put o.dst undef) w') : wpListIn F nF P ops Q (o :: rest) a w := by
  obtain ⟨D, h1, h2, h3, h4, h5⟩ := h
  exact wpListIn_mapUpdate_own w hg m x u t hop kT eT (string_keyed hkT) ht _ B n D hm h1 hn _ _ _ hx hu (keyOf_string_mk hkT hs) _ [] (plainElem_int heT hw) fun w' hown hgrow => hK w' (MapI.put h2 h3 h4 h5 _ hv hown) hgrow
theorem wpListIn_mapI_get (hg : o.guard = none) (m x : Operand) (t : TypeId) (hop : o.op = Op.lookup t m x false) (kT eT : TypeId) (ht : P.underlying t = some (.map kT eT)) (hkT : P.underlying kT = some .string) (heT : P.underlying eT = some (.int .i64)) (hz : (zeroValue eT).run P w = .ok (.int .i64 0) w)
    (B n : Nat) (f : List UInt8 → Int) (c : Nat) (hm : a.eval m = .map (some B)) (h : MapI P w kT eT B n f c) (s : ByteArray) (hx : a.eval x = .string s) (hs : s.size ≤ maxLen)
    (hK : (Lit.int .i64 (f s.data.toList)).wf = true → wpListIn F nF P ops Q rest (a.put o.dst (.int .i64 (f s.data.toList))) w) : wpListIn F nF P ops Q (o :: rest) a w := by
  obtain ⟨D, h1, h2, h3, h4, h5⟩ := h
  refine wpListIn_lookup_own_int w hg m x t hop kT eT .i64 (string_keyed hkT) ht heT hz B n D hm h1 _ _ hx (keyOf_string_mk hkT hs) fun c hc hwf => ?_
  rw [h3] at hc
  have : f s.data.toList = c := by simpa using hc
  subst this
  exact hK hwf
end
end Go.Proofs.YtbpdfmpfnbdeoaaDoor

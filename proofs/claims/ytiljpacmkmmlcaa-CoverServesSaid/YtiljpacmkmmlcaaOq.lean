/- A slice of one's own from some place of its row on: what is cut ahead, what is put behind. -/
import Derived.Test.YtiljpacmkmmlcaaSpr
import Derived.Test.YtiljpacmkmmlcaaOwn
import Derived.Test.YtiljpacmkmmlcaaFlow
set_option linter.unusedSimpArgs false
set_option linter.unusedVariables false
namespace Go.Proofs.Ytiljpacmkmmlcaa
open Go.RowKit

/-- One cell an element; a row's tail. -/
def OwnQ (w : World) (base : Nat) (e : TypeId) (v : Value) (xs : List Value) : Prop :=
  (v = .slice none 0 0 ∧ xs = []) ∨ ∃ g o cap cur, v = .slice (some ⟨g, o, none⟩) xs.length cap ∧ base ≤ g ∧ w.heap[g]? = some (.cells cur e (0, 0)) ∧ xs.length ≤ cap ∧ cap ≤ maxLen ∧ o + cap ≤ cur.size ∧ (cur.toList.drop o).take xs.length = xs
section
variable {w w' : World} {base : Nat} {e : TypeId} {v : Value} {xs : List Value}
theorem OwnQ.of_own {n : Nat} (h : w.ownsRow base e 1 v n xs) : OwnQ w base e v xs := by
  obtain ⟨h1, h2⟩ := h
  rw [Nat.mul_one] at h1
  subst h1
  rcases h2 with ⟨h2, h3⟩ | ⟨g, cap, cur, h2, h3, h4, h5, h6, h7, h8⟩
  · exact .inl ⟨h2, List.length_eq_zero_iff.1 h3⟩
  · exact .inr ⟨g, 0, cap, cur, h2, h3, h4, h5, h6, by omega, by rw [List.drop_zero]; rw [Nat.mul_one] at h8; exact h8⟩
theorem OwnQ.lt (h : OwnQ w base e v xs) : ∀ k, v.ownBlock = some k → base ≤ k ∧ k < w.heap.size := by
  intro k hk
  rcases h with ⟨rfl, _⟩ | ⟨g, o, cap, cur, rfl, hb, hg, _⟩
  · cases hk
  · cases hk
    exact ⟨hb, (Array.getElem?_eq_some_iff.1 hg).1⟩
theorem OwnQ.cellsB (h : OwnQ w base e v xs) : ∀ j, v.ownBlock = some j → ∃ cs T fz, w.heap[j]? = some (.cells cs T fz) := by
  intro j hj
  rcases h with ⟨rfl, _⟩ | ⟨g, o, cap, cur, rfl, _, hg, _⟩
  · cases hj
  · cases hj
    exact ⟨_, _, _, hg⟩
theorem OwnQ.kept {row : Option Nat} (h : OwnQ w base e v xs) (hg : w.grownBy w' row) (hne : v.ownBlock = none ∨ v.ownBlock ≠ row) : OwnQ w' base e v xs := by
  rcases h with h | ⟨g, o, cap, cur, rfl, hb, hg', h⟩
  · exact .inl h
  · refine .inr ⟨g, o, cap, cur, rfl, hb, (hg.block g (Array.getElem?_eq_some_iff.1 hg').1 ?_).trans hg', h⟩
    rcases hne with h | h
    · cases h
    · exact h
theorem OwnQ.past (h : OwnQ w base e v xs) (hb : Below w.heap.size w w') : OwnQ w' base e v xs :=
  h.kept (grown_below hb none) (by cases hv : v.ownBlock with | none => exact .inl rfl | some j => exact .inr (by simp))
theorem OwnQ.form (h : OwnQ w base e v xs) : ∃ (a : Option Addr) (cap : Nat), v = .slice a xs.length cap ∧ xs.length ≤ cap ∧ cap ≤ maxLen := by
  rcases h with ⟨rfl, rfl⟩ | ⟨g, o, cap, cur, rfl, _, _, h1, h2, _⟩
  · exact ⟨none, 0, rfl, Nat.le_refl _, Nat.zero_le _⟩
  · exact ⟨_, cap, rfl, h1, h2⟩
theorem add_none (g o k : Nat) : (⟨g, o, none⟩ : Addr).add k = ⟨g, o + k, none⟩ := by
  unfold Addr.add
  split
  · rename_i h; subst h; rfl
  · rfl
theorem OwnQ.at_ (h : OwnQ w base e v xs) {i : Nat} {u : Value} (hi : xs[i]? = some u) : ∃ a cap, v = .slice (some a) xs.length cap ∧ w.cell? (a.add i) = some u := by
  rcases h with ⟨_, rfl⟩ | ⟨g, o, cap, cur, rfl, hb, hg, h1, h2, h3, h4⟩
  · simp at hi
  · refine ⟨_, cap, rfl, ?_⟩
    have hl := (List.getElem?_eq_some_iff.1 hi).1
    rw [add_none]
    rw [← h4, List.getElem?_take, if_pos hl, List.getElem?_drop, Array.getElem?_toList] at hi
    simp [World.cell?, hg, hi]
/-- The first one goes. -/
theorem OwnQ.tail {x : Value} (h : OwnQ w base e v (x :: xs)) : ∃ g o cap, v = .slice (some ⟨g, o, none⟩) (xs.length + 1) cap ∧ xs.length + 1 ≤ cap ∧ cap ≤ 9223372036854775807 ∧ OwnQ w base e (sliced (some ⟨g, o, none⟩) 1 (xs.length + 1) cap 1) xs := by
  rcases h with ⟨_, h⟩ | ⟨g, o, cap, cur, rfl, hb, hg, h1, h2, h3, h4⟩
  · cases h
  · rw [List.length_cons] at h1 h4
    refine ⟨g, o, cap, rfl, h1, by unfold maxLen at h2; omega, .inr ?_⟩
    have hd : (cur.toList.drop (o + 1)).take xs.length = xs := by
      have := congrArg (List.drop 1) h4
      rw [List.drop_take, List.drop_drop, List.drop_one, List.tail_cons] at this
      simpa using this
    by_cases hc : cap = 1
    · subst hc
      have hx : xs = [] := List.length_eq_zero_iff.1 (by omega)
      subst hx
      exact ⟨g, o, 0, cur, by simp [sliced], hb, hg, Nat.zero_le _, Nat.zero_le _, by omega, by simp⟩
    · refine ⟨g, o + 1, cap - 1, cur, ?_, hb, hg, by omega, by omega, by omega, hd⟩
      unfold sliced
      rw [if_neg hc]
      simp [add_none]
end
section
variable {P : Program} (w : World)
theorem run_append_q (base : Nat) (t ty e : TypeId) (i : TypeInfo) (z : Value) (bytes : Nat) (ht : P.underlying t = some (.slice e)) (hi : P.info? e = some i) (hz : i.zero = some z)
    (hsize : i.size = 1) (hby : i.bytes = bytes) (hzs : z.cells.size = 1)
    (v : Value) (xs : List Value) (hown : OwnQ w base e v xs) (u : Value) (m : Nat) (news : List Value) (hu : Spread w 1 u m news)
    (h63 : xs.length + m ≤ maxLen) (hbytes : (xs.length + m) * bytes ≤ 140737488355328) (hbase : base ≤ w.heap.size) :
    ∃ v' w', (Builtin.append_ #[t, t] ty #[v, u]).run P w = .ok v' w' ∧ OwnQ w' base e v' (xs ++ news) ∧ w.grownBy w' v.ownBlock ∧ (v'.ownBlock = v.ownBlock ∨ v'.ownBlock = some w.heap.size) := by
  rcases hown with ⟨rfl, rfl⟩ | ⟨g, o, cap, cur, rfl, hb, hg, h1, h2, h3, h4⟩
  · obtain ⟨v', w', r, a, b, c⟩ := run_append_any (P := P) w base t ty e i z 1 bytes ht hi hz hsize hby hzs (by decide) _ 0 [] (World.ownsRow_nil _ _ _ _) u m news hu (by simpa using h63) (by simpa using hbytes) hbase
    exact ⟨v', w', r, OwnQ.of_own a, b, c⟩
  · have holds : ∀ j u, xs[j]? = some u → w.cell? ((⟨g, o, none⟩ : Addr).add j) = some u := fun j u hj => by
      have hl := (List.getElem?_eq_some_iff.1 hj).1
      rw [add_none]
      rw [← h4, List.getElem?_take, if_pos hl, List.getElem?_drop, Array.getElem?_toList] at hj
      simp [World.cell?, hg, hj]
    rcases hu with ⟨rfl, rfl, rfl⟩ | ⟨ad, c, rfl, k2, k3, k4⟩
    · refine ⟨.slice (some ⟨g, o, none⟩) xs.length cap, w, ?_, ?_, grown_refl _ _, .inl rfl⟩
      · simp [Builtin.append_, run_underlying ht, sizeOf, typeInfo, hi, Builtin.lenOf, Builtin.firstCells, h1, storeCells]
      · rw [List.append_nil]
        exact .inr ⟨g, o, cap, cur, rfl, hb, hg, h1, h2, h3, h4⟩
    · rw [Nat.mul_one] at k2
      by_cases hroom : xs.length + m ≤ cap
      · have hst := run_storeCells_at P g (o + xs.length) e news 0 cur w hg (by omega) k4
        have hf := run_firstCells_some (P := P) w i.size m ad m c news (by rw [hsize]; omega) k3
        simp only [Nat.add_zero] at hst
        refine ⟨.slice (some ⟨g, o, none⟩) (xs.length + m) cap, w.setRow g (cur.toList.take (o + xs.length) ++ news ++ cur.toList.drop (o + xs.length + news.length)).toArray, ?_, .inr ⟨g, o, cap, _, by rw [List.length_append, k2], hb, setRow_heap w g cur _ e _ hg, by rw [List.length_append]; omega, h2, ?_, ?_⟩, ⟨rfl, rfl, rfl, by simp, fun k _ hk => setRow_other w g k _ (fun e => hk (by simp [Value.ownBlock, e]))⟩, .inl rfl⟩
        · rw [hsize] at hf
          simp [Builtin.append_, run_underlying ht, sizeOf, typeInfo, hi, Builtin.lenOf, hroom, hsize, hf, add_none, hst]
        · simp only [List.size_toArray, List.length_append, List.length_take, List.length_drop, Array.length_toList]
          omega
        · have e1 : ((cur.toList.take (o + xs.length) ++ news ++ cur.toList.drop (o + xs.length + news.length)).toArray.toList.drop o) = xs ++ news ++ cur.toList.drop (o + xs.length + news.length) := by
            show (cur.toList.take (o + xs.length) ++ news ++ cur.toList.drop (o + xs.length + news.length)).drop o = _
            have hcl : cur.toList.length = cur.size := Array.length_toList
            have e2 : (cur.toList.take (o + xs.length)).length = o + xs.length := by rw [List.length_take]; omega
            have e3 : (cur.toList.take (o + xs.length)).drop o = xs := by
              rw [List.drop_take, show o + xs.length - o = xs.length by omega]
              exact h4
            have e4 : ∀ (T D : List Value), o ≤ T.length → (T ++ D).drop o = T.drop o ++ D := fun T D h => List.drop_append_of_le_length h
            rw [List.append_assoc, e4 _ _ (by omega), e3, List.append_assoc]
          rw [e1]
          exact List.take_left
      · have hr := run_append_grow (P := P) w t ty e i z ht hi hz ⟨g, o, none⟩ xs.length cap xs (by rw [hsize, Nat.mul_one]) holds ad m c news (by rw [hsize]; omega) k3 (by omega) (by unfold maxLen at h63; omega) (by rw [hby]; exact growslice_fits (by omega) hbytes)
        have hge := grownCap_ge w (xs.length + m) cap e
        refine ⟨_, _, hr, .inr ⟨w.heap.size, 0, _, _, by rw [List.length_append, k2], hbase, heap_alloc_new w.drew _, by rw [List.length_append, k2]; exact hge, grownCap_le_maxLen w _ _ e h63, ?_, ?_⟩, ⟨rfl, rfl, rfl, by simp, fun k hk _ => (World.grownBy_alloc w.drew _ none).block k hk (by simp)⟩, .inr rfl⟩
        · simp only [Array.size_append, List.size_toArray, size_zeroCells, hzs, k2]
          omega
        · simp only [Array.toList_append, List.append_assoc, List.drop_zero]
          rw [← List.append_assoc]
          exact List.take_left
theorem wp_append_q {o : Oper} {a : Act} {K : Act → World → Prop} {Q : Exit → Act → World → Prop} (s x : Operand) (t : TypeId)
    (ho : o.op = .call { callee := .builtin .append, args := #[s, x], argTypes := #[t, t] })
    (base : Nat) (e : TypeId) (i : TypeInfo) (z : Value) (bytes : Nat) (ht : P.underlying t = some (.slice e)) (hi : P.info? e = some i) (hz : i.zero = some z)
    (hsize : i.size = 1) (hby : i.bytes = bytes) (hzs : z.cells.size = 1)
    (v : Value) (xs : List Value) (hs : a.eval s = v) (hown : OwnQ w base e v xs) (u : Value) (m : Nat) (news : List Value) (hx : a.eval x = u) (hu : Spread w 1 u m news)
    (h63 : xs.length + m ≤ maxLen) (hbytes : (xs.length + m) * bytes ≤ 140737488355328) (hbase : base ≤ w.heap.size)
    (h : ∀ v' w', OwnQ w' base e v' (xs ++ news) → w.grownBy w' v.ownBlock → K (a.put o.dst v') w') : o.wp P a w K Q := by
  obtain ⟨v', w', hr, h2, h3, _⟩ := run_append_q (P := P) w base t o.type e i z bytes ht hi hz hsize hby hzs v xs hown u m news hu h63 hbytes hbase
  unfold Oper.wp execOp
  simp only [ho, resolve, invoke, builtin, Sem.run_bind, Sem.run_pure, Result.andThen_ok, List.map_toArray, List.map_cons, List.map_nil, hs, hx, hr]
  exact h v' w' h2 h3
theorem wpList_append_q {ops : Array Oper} {rest : List Oper} {o : Oper} {a : Act} {Q : Exit → Act → World → Prop} (hgd : o.guard = none) (s x : Operand) (t : TypeId)
    (ho : o.op = .call { callee := .builtin .append, args := #[s, x], argTypes := #[t, t] })
    (base : Nat) (e : TypeId) (i : TypeInfo) (z : Value) (bytes : Nat) (ht : P.underlying t = some (.slice e)) (hi : P.info? e = some i) (hz : i.zero = some z)
    (hsize : i.size = 1) (hby : i.bytes = bytes) (hzs : z.cells.size = 1)
    (v : Value) (xs : List Value) (hs : a.eval s = v) (hown : OwnQ w base e v xs) (u : Value) (m : Nat) (news : List Value) (hx : a.eval x = u) (hu : Spread w 1 u m news)
    (h63 : xs.length + m ≤ maxLen) (hbytes : (xs.length + m) * bytes ≤ 140737488355328) (hbase : base ≤ w.heap.size)
    (h : ∀ v' w', OwnQ w' base e v' (xs ++ news) → w.grownBy w' v.ownBlock → wpList P ops Q rest (a.put o.dst v') w') : wpList P ops Q (o :: rest) a w := by
  refine wpList_plain hgd fun _ hK => ?_
  obtain ⟨v', w', hr, h2, h3, _⟩ := run_append_q (P := P) w base t o.type e i z bytes ht hi hz hsize hby hzs v xs hown u m news hu h63 hbytes hbase
  unfold Oper.wp execOp
  simp only [ho, resolve, invoke, builtin, Sem.run_bind, Sem.run_pure, Result.andThen_ok, List.map_toArray, List.map_cons, List.map_nil, hs, hx, hr]
  exact hK _ _ (h v' w' h2 h3)
end
end Go.Proofs.Ytiljpacmkmmlcaa

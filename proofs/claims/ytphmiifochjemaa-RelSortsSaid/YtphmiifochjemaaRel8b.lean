/- soritesref08.Rise, In, Put, Sort. -/
import Derived.Test.YtphmiifochjemaaRel8
import Derived.Test.YtphmiifochjemaaOwn
import Derived.OwnWalk
import Derived.WalkSpells
namespace Go.Proofs.Ytphmiifochjemaa
open Go.RowKit

theorem infoRow : (Try.prog.info? 23).map (fun i => (i.zero, i.size, i.bytes)) = some (some (.slice none 0 0), 1, 24) := by kernel_rfl
theorem one_row (v : Value) (h : v.oneCell' = true) : ∀ u ∈ [v], u.oneCell' = true := by
  intro u hu
  rw [List.mem_singleton.1 hu]
  exact h
theorem own_lt {w : World} {base e size n : Nat} {v : Value} {xs : List Value} (h : w.ownsRow base e size v n xs) {b : Nat} (hb : b < base) : v.ownBlock ≠ some b := by
  intro he
  have := (h.lt b he).1
  omega
theorem take_snoc {α : Type} {l : List α} {k : Nat} {x : α} (h : l[k]? = some x) : l.take (k + 1) = l.take k ++ [x] := by
  rw [List.take_add_one, h]
  simp
theorem drop_cons' {α : Type} {l : List α} {k : Nat} {x : α} (h : l[k]? = some x) : l.drop k = x :: l.drop (k + 1) := by
  rw [List.drop_eq_getElem_cons (List.getElem?_eq_some_iff.1 h).1, (List.getElem?_eq_some_iff.1 h).2]
section
variable {α : Type} {c : α → α → Int}
theorem rise_drop {l : List α} {k : Nat} {x y : α} (hx : l[k]? = some x) (hy : l[k + 1]? = some y) : riseL c (l.drop k) = (decide (c x y < 0) && riseL c (l.drop (k + 1))) := by
  rw [drop_cons' hx, drop_cons' hy]; rfl
theorem rise_last {l : List α} {k : Nat} (h : l.length ≤ k + 1) : riseL c (l.drop k) = true := by
  cases hd : l.drop k with
  | nil => rfl
  | cons a m =>
    have h1 := congrArg List.length hd
    rw [List.length_drop, List.length_cons] at h1
    have : m = [] := List.eq_nil_of_length_eq_zero (by omega)
    rw [this]; rfl
theorem in_drop {l : List α} {k : Nat} {x t : α} (hx : l[k]? = some x) : inL c (l.drop k) t = (decide (c x t = 0) || inL c (l.drop (k + 1)) t) := by
  rw [drop_cons' hx]; rfl
theorem putL_cons (x : α) (m : List α) (t : α) : putL c (x :: m) t = if c x t < 0 then x :: putL c m t else if c x t = 0 then x :: m else t :: x :: m := rfl
theorem newL_cons (x : α) (m : List α) (t : α) : newL c (x :: m) t = if c x t < 0 then newL c m t else if c x t = 0 then false else true := rfl
theorem put_lt {l : List α} {k : Nat} {x t : α} (hx : l[k]? = some x) (h : c x t < 0) : l.take k ++ putL c (l.drop k) t = l.take (k + 1) ++ putL c (l.drop (k + 1)) t ∧ newL c (l.drop k) t = newL c (l.drop (k + 1)) t := by
  rw [drop_cons' hx, take_snoc hx, putL_cons, newL_cons, if_pos h, if_pos h]
  exact ⟨by simp, rfl⟩
theorem put_eq {l : List α} {k : Nat} {x t : α} (hx : l[k]? = some x) (h : c x t = 0) : putL c (l.drop k) t = l.drop k ∧ newL c (l.drop k) t = false := by
  have h0 : ¬ c x t < 0 := by omega
  rw [drop_cons' hx, putL_cons, newL_cons, if_neg h0, if_neg h0, if_pos h, if_pos h]
  exact ⟨rfl, rfl⟩
theorem put_gt {l : List α} {k : Nat} {x t : α} (hx : l[k]? = some x) (h1 : ¬ c x t < 0) (h2 : ¬ c x t = 0) : putL c (l.drop k) t = [t] ++ l.drop k ∧ newL c (l.drop k) t = true := by
  rw [drop_cons' hx, putL_cons, newL_cons, if_neg h1, if_neg h1, if_neg h2, if_neg h2]
  exact ⟨rfl, rfl⟩
theorem put_end {l : List α} {k : Nat} {t : α} (h : l.length ≤ k) : putL c (l.drop k) t = [t] ++ l.drop k ∧ newL c (l.drop k) t = true := by
  rw [List.drop_of_length_le h]
  exact ⟨rfl, rfl⟩
end

set_option maxRecDepth 100000 in
set_option maxHeartbeats 4000000 in
theorem rin_c (l : List Rw) (t : Rw) (v u : Value) (w : World) (h1 : RwsS w w.heap.size l v) (h2 : SlOf w w.heap.size 3 VlC t u) :
    Calls Try.prog 23 #[v, u] w fun e w' => e = .returned (.bool (inL rwC l t)) ∧ Below w.heap.size w w' := by
  obtain ⟨o1, cap1, rfl, hc1, hm1, S1⟩ := SlOf.open h1
  have H2 := Lib.hid h2
  clear h1 h2
  go_enter Try.func23, Try.ntmps23
  go_wp2
  go_loopw [5] (fun i wr => ∃ k : Nat, k ≤ l.length ∧ i = .int .i64 k ∧ inL rwC l t = inL rwC (l.drop k) t ∧ Below w.heap.size w wr) (fun i _ => l.length - (intOf i).toNat)
  case atStart => exact ⟨0, Nat.zero_le _, rfl, rfl, Below.refl _ _⟩
  case round =>
    obtain ⟨k, hk, rfl, hr, hB⟩ := hrel
    have Hr := Lib.hid hr
    clear hr
    by_cases hlt : k < l.length
    · have hlt' : (k : Int) < (l.length : Int) := by omega
      obtain ⟨x, hx⟩ : ∃ x, l[k]? = some x := ⟨l[k], List.getElem?_eq_getElem hlt⟩
      obtain ⟨a, p3, q3, rfl, ha, Hx, c0, _⟩ := rw_at S1 hB hx
      have hBs := hB.size
      have hal : (a.add k).block < wr.heap.size := by rw [addBlock]; omega
      have Hst := Lib.hid (Hr.out.trans (in_drop (c := rwC) (t := t) hx))
      clear hx
      have HI := Lib.hid (rcompare_c x t _ u wr Hx.out (VlS.past H2.out hB))
      obtain ⟨z, hz⟩ : ∃ z, rwC x t = z := ⟨_, rfl⟩
      rw [hz] at HI Hst
      clear hz
      go_wp2_with fail
      refine HI.out.mono ?_
      rintro e w1 ⟨rfl, b1⟩
      have hB3 := hB.trans (b1.mono hBs)
      by_cases h0 : z = 0
      · subst h0
        have Hz : Hid (inL rwC l t = true) := Lib.hid (Hst.out.trans (by simp))
        go_wp2
        go_ret
        exact ⟨by rw [Hz.out]; rfl, hB3⟩
      · have h0' : (z == 0) = false := by simpa using h0
        have Hz := Lib.hid (Hst.out.trans (by rw [decide_eq_false h0, Bool.false_or]))
        clear h0
        go_wp2
        go_roundw
        case rel => exact ⟨k + 1, hlt, by go_num, Hz.out, hB3⟩
        case measure => simp [intOf]; omega
    · have hlt' : ¬ (k : Int) < (l.length : Int) := by omega
      have Hz : Hid (inL rwC l t = false) := Lib.hid (by rw [Hr.out, List.drop_of_length_le (by omega)]; rfl)
      go_wp2
      go_ret
      exact ⟨by rw [Hz.out]; rfl, hB⟩

theorem held2' {W w1 : World} (b : Below W.heap.size W.drew w1) {p q : Addr} {v0 v1 : Value} (hp : p.block < W.heap.size) (hq : q.block < W.heap.size)
    (h : W.cell? p = some v0 ∧ W.cell? q = some v1) : w1.cell? p = some v0 ∧ w1.cell? q = some v1 := ⟨(b.cell hp).trans h.1, (b.cell hq).trans h.2⟩

set_option maxRecDepth 100000 in
set_option maxHeartbeats 4000000 in
theorem rrise_c (l : List Rw) (v : Value) (w : World) (h1 : RwsS w w.heap.size l v) :
    Calls Try.prog 20 #[v] w fun e w' => e = .returned (.bool (riseL rwC l)) ∧ Below w.heap.size w w' := by
  obtain ⟨o1, cap1, rfl, hc1, hm1, S1⟩ := SlOf.open h1
  clear h1
  go_enter Try.func20, Try.ntmps20
  go_wp2
  go_loopw [3] (fun i wr => ∃ k : Nat, i = .int .i64 ((k : Int) + 1) ∧ (k = 0 ∨ k < l.length) ∧ riseL rwC l = riseL rwC (l.drop k) ∧ Below w.heap.size w wr) (fun i _ => l.length - (intOf i).toNat)
  case atStart => exact ⟨0, rfl, .inl rfl, rfl, Below.refl _ _⟩
  case round =>
    obtain ⟨k, rfl, hk, hr, hB⟩ := hrel
    have Hr := Lib.hid hr
    clear hr
    by_cases hlt : k + 1 < l.length
    · have hlt' : (k : Int) + 1 < (l.length : Int) := by omega
      have hlt2 : (k : Int) < (l.length : Int) := by omega
      have hk0 : (0 : Int) ≤ (k : Int) := by omega
      have hk1 : (0 : Int) ≤ (k : Int) + 1 := by omega
      obtain ⟨x, hx⟩ : ∃ x, l[k]? = some x := ⟨l[k], List.getElem?_eq_getElem (by omega)⟩
      obtain ⟨y, hy⟩ : ∃ y, l[k + 1]? = some y := ⟨l[k + 1], List.getElem?_eq_getElem hlt⟩
      obtain ⟨a, p3, q3, rfl, ha, Hx, c0, _⟩ := rw_at S1 hB hx
      obtain ⟨a', p4, q4, e2, _, Hy, d0, _⟩ := rw_at S1 hB hy
      cases e2
      have hBs := hB.size
      have hal : (a.add k).block < wr.heap.size := by rw [addBlock]; omega
      have hal2 : (a.add (k + 1)).block < wr.heap.size := by rw [addBlock]; omega
      have ea : a.add (k + 1) = ⟨a.block, a.off + (k + 1), none⟩ := by unfold Addr.add; simp
      rw [ea] at d0 hal2
      have Hst := Lib.hid (Hr.out.trans (rise_drop (c := rwC) hx hy))
      clear ea
      clear hx hy
      have HI := Lib.hid (fun (W : World) (hb : Below wr.heap.size wr W) => rcompare_c x y _ _ W (VlS.past Hx.out hb) (VlS.past Hy.out hb))
      obtain ⟨z, hz⟩ : ∃ z, rwC x y = z := ⟨_, rfl⟩
      rw [hz] at HI Hst
      clear hz
      have u1 : IntKind.i64.wrap ((k : Int) + 1 - 1) = (k : Int) := by rw [show (k : Int) + 1 - 1 = k by omega]; exact IntWalk.i64_in _ (by omega)
      have u0 : IntKind.i64.wrap (k : Int) = (k : Int) := IntWalk.i64_in _ (by omega)
      have u2 : IntKind.i64.wrap ((k : Int) + 1) = (k : Int) + 1 := IntWalk.i64_in _ (by omega)
      have u3 : ((k : Int) + 1).toNat = k + 1 := by omega
      go_wp2
      go_region_held3 (fun w' => w'.cell? (a.add k) = some (.slice p3 x.length q3) ∧ w'.cell? ⟨a.block, a.off + (k + 1), none⟩ = some (.slice p4 y.length q4)) (first | exact ⟨c0, d0⟩ | exact hk) (first | (go_at_call 33; have hh := HI.out wr.drew ((Below.refl wr.heap.size wr).drew); refine hh.mono ?_; rintro e w1 ⟨rfl, b1⟩; have hk := held2' (q := ⟨a.block, a.off + (k + 1), none⟩) b1 hal hal2 ⟨c0, d0⟩))
      have hB3 := hB.trans ((((Below.refl _ wr).drew).trans (b1.mono (by show _ ≤ wr.heap.size; omega))).mono hBs)
      by_cases h0 : (0 : Int) ≤ z
      · have Hz : Hid (riseL rwC l = false) := Lib.hid (Hst.out.trans (by rw [decide_eq_false (by omega)]; rfl))
        go_wp2
        go_ret
        exact ⟨by rw [Hz.out]; rfl, hB3⟩
      · have Hz := Lib.hid (Hst.out.trans (by rw [decide_eq_true (show z < 0 by omega), Bool.true_and]))
        go_wp2
        go_roundw
        case rel => exact ⟨k + 1, by go_num, .inr hlt, Hz.out, hB3⟩
        case measure => simp [intOf]; omega
    · have hlt' : ¬ (k : Int) + 1 < (l.length : Int) := by omega
      have Hz : Hid (riseL rwC l = true) := Lib.hid (by rw [Hr.out, rise_last (by omega)])
      go_wp2
      go_ret
      exact ⟨by rw [Hz.out]; rfl, hB⟩

end Go.Proofs.Ytphmiifochjemaa

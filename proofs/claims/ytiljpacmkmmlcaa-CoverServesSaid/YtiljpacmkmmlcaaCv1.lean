/- soritesref12: has, Within, Inside, Serves, Which. -/
import Derived.Test.YtiljpacmkmmlcaaSl
import Derived.Test.YtiljpacmkmmlcaaKa
set_option linter.unusedSimpArgs false
set_option linter.unusedVariables false
namespace Go.Proofs.Ytiljpacmkmmlcaa
open Go.RowKit

/-- A set's cell: a slice of numbers below B. -/
def IntsC (w : World) (B : Nat) (l : List Int) (cs : List Value) : Prop := ∃ v, cs = [v] ∧ SlOf w B 1 IntC l v
theorem IntsC.below {w w' : World} {B : Nat} {l : List Int} {cs : List Value} (h : IntsC w B l cs) (hb : Below B w w') : IntsC w' B l cs := by
  obtain ⟨v, h1, h2⟩ := h
  exact ⟨v, h1, SlOf.int h2 hb (Nat.le_refl _)⟩
theorem IntsC.more {w : World} {B B' : Nat} {l : List Int} {cs : List Value} (h : IntsC w B l cs) (hB : B ≤ B') : IntsC w B' l cs := by
  obtain ⟨v, h1, h2⟩ := h
  exact ⟨v, h1, SlOf.int h2 (Below.refl _ _) hB⟩
abbrev SetsS (w : World) (B : Nat) (l : List (List Int)) (v : Value) : Prop := SlOf w B 1 (IntsC w B) l v
theorem SetsS.past {w w' : World} {l : List (List Int)} {v : Value} (h : SetsS w w.heap.size l v) (hb : Below w.heap.size w w') : SetsS w' w'.heap.size l v := SlOf.more (SlOf.below h hb fun _ _ _ h => IntsC.below h hb) hb.size fun _ _ _ h => IntsC.more h hb.size
theorem set_at {w wr : World} {l : List (List Int)} {o : Option Addr} {k : Nat} {s : List Int} (S : Hid (SlIn w w.heap.size 1 (IntsC w w.heap.size) l o)) (hB : Below w.heap.size w wr) (ht : l[k]? = some s) :
    ∃ a o' cap', o = some a ∧ a.block < w.heap.size ∧ SlOf wr wr.heap.size 1 IntC s (.slice o' s.length cap') ∧ wr.cell? (a.add k) = some (.slice o' s.length cap') := by
  obtain ⟨a, cs, rfl, ha, _, ⟨v, rfl, h1⟩, h2⟩ := S.out k s ht
  obtain ⟨o', cap', rfl, _⟩ := SlOf.uni h1
  have h3 := (h2.below ha hB).n1
  rw [Nat.mul_one] at h3
  exact ⟨a, o', cap', rfl, ha, SlOf.int h1 hB hB.size, h3⟩
theorem con_drop {l : List Int} {k : Nat} {x : Int} (h : l[k]? = some x) (n : Int) : (l.drop k).contains n = ((n == x) || (l.drop (k + 1)).contains n) := by
  have h1 := List.getElem?_eq_some_iff.1 h
  rw [List.drop_eq_getElem_cons h1.1, h1.2, List.contains_cons]
theorem allI_drop {f : Int → Bool} {l : List Int} {k : Nat} {x : Int} (h : l[k]? = some x) : (l.drop k).all f = (f x && (l.drop (k + 1)).all f) := by
  have h1 := List.getElem?_eq_some_iff.1 h
  rw [List.drop_eq_getElem_cons h1.1, h1.2]; rfl
def hasL (l : List Int) (n : Int) : Bool := l.contains n
set_option maxRecDepth 100000 in
set_option maxHeartbeats 4000000 in
theorem has12_c (l : List Int) (n : Int) (v : Value) (w : World) (h : SlOf w w.heap.size 1 IntC l v) :
    Calls Try.prog 30 #[v, .int .i64 n] w fun e w' => e = .returned (.bool (hasL l n)) ∧ w = w' := by
  obtain ⟨o1, cap1, rfl, hc1, hm1, S1⟩ := SlOf.open h
  clear h
  go_enter Try.func30, Try.ntmps30
  go_wp2
  go_loop [5] (fun i => ∃ k : Nat, k ≤ l.length ∧ i = .int .i64 (k : Int) ∧ Hid (hasL l n = (l.drop k).contains n)) (fun i => l.length - (intOf i).toNat)
  case atStart => exact ⟨0, Nat.zero_le _, rfl, Lib.hid rfl⟩
  case round =>
    obtain ⟨k, hk, rfl, hr⟩ := hrel
    by_cases hlt : k < l.length
    · have hlt' : (k : Int) < (l.length : Int) := by omega
      obtain ⟨x, hx⟩ : ∃ x, l[k]? = some x := ⟨l[k], List.getElem?_eq_getElem hlt⟩
      obtain ⟨a, rfl, ha, hI, c0⟩ := int_at S1 (Below.refl _ _) hx
      have hal : (a.add k).block < w.heap.size := by rw [addBlock]; exact ha
      have Hst := Lib.hid (hr.out.trans (con_drop hx n))
      clear hx hr
      by_cases he : n = x
      · subst he
        have hz : (n == n) = true := by simp
        have Hz : Hid (hasL l n = true) := Lib.hid (by rw [Hst.out]; simp)
        go_wp2
        go_ret
        exact ⟨by rw [Hz.out]; rfl, rfl⟩
      · have hz : (x == n) = false := by rw [beq_eq_false_iff_ne]; exact fun h => he h.symm
        have Hz : Hid (hasL l n = (l.drop (k + 1)).contains n) := Lib.hid (by rw [Hst.out, beq_eq_false_iff_ne.2 he, Bool.false_or])
        clear he
        go_wp2
        go_round
        case rel => exact ⟨k + 1, hlt, by go_num, Hz⟩
        case measure => simp [intOf]; omega
    · have hlt' : ¬ (k : Int) < (l.length : Int) := by omega
      have Hz : Hid (hasL l n = false) := Lib.hid (by rw [hr.out, List.drop_of_length_le (by omega)]; rfl)
      clear hr
      go_wp2
      go_ret
      exact ⟨by rw [Hz.out]; rfl, rfl⟩
set_option maxRecDepth 100000 in
set_option maxHeartbeats 4000000 in
theorem within12_c (a b : List Int) (v u : Value) (w : World) (h1 : SlOf w w.heap.size 1 IntC a v) (h2 : SlOf w w.heap.size 1 IntC b u) :
    Calls Try.prog 23 #[v, u] w fun e w' => e = .returned (.bool (withinL a b)) ∧ w = w' := by
  obtain ⟨o1, cap1, rfl, hc1, hm1, S1⟩ := SlOf.open h1
  obtain ⟨o2, cap2, rfl, hc2, hm2, S2⟩ := SlOf.open h2
  have HH := Lib.hid (fun (n : Int) => has12_c b n (.slice o2 b.length cap2) w h2)
  clear h1 h2
  go_enter Try.func23, Try.ntmps23
  go_wp2
  go_loop [5] (fun i => ∃ k : Nat, k ≤ a.length ∧ i = .int .i64 (k : Int) ∧ Hid (withinL a b = (a.drop k).all fun x => hasL b x)) (fun i => a.length - (intOf i).toNat)
  case atStart => exact ⟨0, Nat.zero_le _, rfl, Lib.hid rfl⟩
  case round =>
    obtain ⟨k, hk, rfl, hr⟩ := hrel
    by_cases hlt : k < a.length
    · have hlt' : (k : Int) < (a.length : Int) := by omega
      obtain ⟨x, hx⟩ : ∃ x, a[k]? = some x := ⟨a[k], List.getElem?_eq_getElem hlt⟩
      obtain ⟨ad, rfl, ha, hI, c0⟩ := int_at S1 (Below.refl _ _) hx
      have hal : (ad.add k).block < w.heap.size := by rw [addBlock]; exact ha
      have Hst := Lib.hid (hr.out.trans (allI_drop (f := fun x => hasL b x) hx))
      have HX := Lib.hid (HH.out x)
      clear hx hr
      go_wp2_with fail
      refine HX.out.mono ?_
      rintro e w1 ⟨rfl, rfl⟩
      cases hc : hasL b x with
      | false =>
        have Hz : Hid (withinL a b = false) := Lib.hid (by rw [Hst.out, hc]; rfl)
        clear hc
        go_wp2
        go_ret
        exact ⟨by rw [Hz.out]; rfl, rfl⟩
      | true =>
        have Hz : Hid (withinL a b = (a.drop (k + 1)).all fun x => hasL b x) := Lib.hid (by rw [Hst.out, hc]; rfl)
        clear hc
        go_wp2
        go_round
        case rel => exact ⟨k + 1, hlt, by go_num, Hz⟩
        case measure => simp [intOf]; omega
    · have hlt' : ¬ (k : Int) < (a.length : Int) := by omega
      have Hz : Hid (withinL a b = true) := Lib.hid (by rw [hr.out, List.drop_of_length_le (by omega)]; rfl)
      clear hr
      go_wp2
      go_ret
      exact ⟨by rw [Hz.out]; rfl, rfl⟩
set_option maxRecDepth 100000 in
set_option maxHeartbeats 4000000 in
theorem inside12_c (a b : List Int) (v u : Value) (w : World) (h1 : SlOf w w.heap.size 1 IntC a v) (h2 : SlOf w w.heap.size 1 IntC b u) :
    Calls Try.prog 29 #[v, u] w fun e w' => e = .returned (.bool (insideL a b)) ∧ w = w' := by
  have HH := Lib.hid (within12_c a b v u w h1 h2)
  obtain ⟨o1, cap1, rfl, hc1, hm1, _⟩ := SlOf.open h1
  obtain ⟨o2, cap2, rfl, hc2, hm2, _⟩ := SlOf.open h2
  clear h1 h2
  go_enter Try.func29, Try.ntmps29
  go_wp2_with fail
  refine HH.out.mono ?_
  rintro e w1 ⟨rfl, rfl⟩
  cases hw : withinL a b with
  | false =>
    have Hz : Hid (insideL a b = false) := Lib.hid (by unfold insideL; rw [hw]; rfl)
    clear hw
    go_wp2
    go_ret
    exact ⟨by rw [Hz.out]; rfl, rfl⟩
  | true =>
    by_cases hl : a.length < b.length
    · have hl' : (a.length : Int) < (b.length : Int) := by omega
      have Hz : Hid (insideL a b = true) := Lib.hid (by unfold insideL; rw [hw, decide_eq_true hl]; rfl)
      clear hw hl
      go_wp2
      go_ret
      exact ⟨by rw [Hz.out]; rfl, rfl⟩
    · have hl' : ¬ (a.length : Int) < (b.length : Int) := by omega
      have Hz : Hid (insideL a b = false) := Lib.hid (by unfold insideL; rw [hw, decide_eq_false hl]; rfl)
      have Hl := Lib.hid hl
      clear hw hl
      go_wp2
      go_ret
      exact ⟨by rw [Hz.out]; show Ending.returned (.bool (decide (a.length < b.length))) = _; rw [decide_eq_false Hl.out], rfl⟩
theorem SlOf.cutI {w : World} {B n c : Nat} {l : List Int} {o : Option Addr} (h : SlOf w B 1 IntC l (.slice o l.length c)) : SlOf w B 1 IntC (l.take n) (.slice o (l.take n).length c) := by
  rcases h with ⟨hv, rfl⟩ | ⟨a, cap, hv, h2, h3, h4, h5⟩
  · injection hv with e1 e2 e3
    subst e1; subst e3
    exact .inl ⟨by simp, by simp⟩
  · injection hv with e1 e2 e3
    subst e1; subst e3
    refine .inr ⟨a, c, rfl, by rw [List.length_take]; omega, h3, fun hne => h4 fun e => hne (by rw [e]; simp), fun i x hx => ?_⟩
    rw [List.getElem?_take] at hx
    split at hx
    · exact h5 i x hx
    · cases hx
set_option maxRecDepth 100000 in
set_option maxHeartbeats 4000000 in
theorem serves12_c (o s : List Int) (v u : Value) (w : World) (h1 : SlOf w w.heap.size 1 IntC o v) (h2 : SlOf w w.heap.size 1 IntC s u) :
    Calls Try.prog 13 #[v, u] w fun e w' => e = .returned (.bool (servesL o s)) ∧ w = w' := by
  obtain ⟨o1, cap1, rfl, hc1, hm1, _⟩ := SlOf.open h1
  obtain ⟨o2, cap2, rfl, hc2, hm2, _⟩ := SlOf.open h2
  by_cases hl : o.length < s.length
  · have hl' : (o.length : Int) < (s.length : Int) := by omega
    have Hz : Hid (servesL o s = false) := Lib.hid (by unfold servesL; rw [decide_eq_false (by omega)]; rfl)
    clear h1 h2 hl
    go_enter Try.func13, Try.ntmps13
    go_wp2
    go_ret
    exact ⟨by rw [Hz.out]; rfl, rfl⟩
  · have hl' : ¬ (o.length : Int) < (s.length : Int) := by omega
    have hle : (s.length : Int) ≤ (cap1 : Int) := by omega
    have hcut := h1.cutI (n := s.length)
    have hlen : (o.take s.length).length = s.length := by rw [List.length_take]; omega
    rw [hlen] at hcut
    have HA := Lib.hid (within12_c (o.take s.length) s (.slice o1 s.length cap1) (.slice o2 s.length cap2) w hcut h2)
    have HB := Lib.hid (within12_c s (o.take s.length) (.slice o2 s.length cap2) (.slice o1 s.length cap1) w h2 hcut)
    have HS : Hid (servesL o s = (withinL (o.take s.length) s && withinL s (o.take s.length))) := Lib.hid (by unfold servesL; rw [decide_eq_true (by omega)]; rfl)
    obtain ⟨p, hp⟩ : ∃ p, o.take s.length = p := ⟨_, rfl⟩
    rw [hp] at HA HB HS
    clear h1 h2 hl hcut hlen hp
    go_enter Try.func13, Try.ntmps13
    go_wp2_with fail
    refine HA.out.mono ?_
    rintro e w1 ⟨rfl, rfl⟩
    cases hw : withinL p s with
    | false =>
      have Hz : Hid (servesL o s = false) := Lib.hid (by rw [HS.out, hw]; rfl)
      clear hw
      go_wp2
      go_ret
      exact ⟨by rw [Hz.out]; rfl, rfl⟩
    | true =>
      have Hz : Hid (servesL o s = withinL s p) := Lib.hid (by rw [HS.out, hw, Bool.true_and])
      clear hw
      go_wp2_with fail
      refine HB.out.mono ?_
      rintro e w1 ⟨rfl, rfl⟩
      go_wp2
      go_ret
      exact ⟨by rw [Hz.out]; rfl, rfl⟩
/-- The place of the first order that serves a set. -/
def whichL (os : List (List Int)) (s : List Int) : Option Nat := os.findIdx? fun o => servesL o s
def whichV : Option Nat → Value
  | some i => .tuple #[.int .i64 (i : Int), .bool true]
  | none => .tuple #[.int .i64 0, .bool false]
theorem which_hit {os : List (List Int)} {s o : List Int} {k : Nat} (hk : os[k]? = some o) (hn : ∀ x ∈ os.take k, servesL x s = false) (ho : servesL o s = true) : whichL os s = some k := by
  unfold whichL
  rw [List.findIdx?_eq_some_iff_getElem]
  have h1 := List.getElem?_eq_some_iff.1 hk
  refine ⟨h1.1, by rw [h1.2]; exact ho, fun j hj => ?_⟩
  have hjl : j < os.length := Nat.lt_trans hj h1.1
  have := hn (os[j]'hjl) (List.mem_of_getElem? (i := j) (by rw [List.getElem?_take, if_pos hj, List.getElem?_eq_getElem hjl]))
  simpa using this
theorem which_miss {os : List (List Int)} {s : List Int} (hn : ∀ x ∈ os, servesL x s = false) : whichL os s = none := by
  unfold whichL
  rw [List.findIdx?_eq_none_iff]
  exact fun x hx => by simpa using hn x hx
set_option maxRecDepth 100000 in
set_option maxHeartbeats 4000000 in
theorem which12_c (os : List (List Int)) (s : List Int) (v u : Value) (w : World) (h1 : SetsS w w.heap.size os v) (h2 : SlOf w w.heap.size 1 IntC s u) :
    Calls Try.prog 15 #[v, u] w fun e w' => e = .returned (whichV (whichL os s)) ∧ w = w' := by
  obtain ⟨o1, cap1, rfl, hc1, hm1, S1⟩ := SlOf.open h1
  have HH := Lib.hid (fun (o : List Int) (z : Value) (hz : SlOf w w.heap.size 1 IntC o z) => serves12_c o s z u w hz h2)
  obtain ⟨o2, cap2, rfl, _⟩ := SlOf.uni h2
  clear h1 h2
  go_enter Try.func15, Try.ntmps15
  go_wp2
  go_loop [6] (fun i => ∃ k : Nat, k ≤ os.length ∧ i = .int .i64 (k : Int) ∧ Hid (∀ x ∈ os.take k, servesL x s = false)) (fun i => os.length - (intOf i).toNat)
  case atStart => exact ⟨0, Nat.zero_le _, rfl, Lib.hid (fun x hx => by simp at hx)⟩
  case round =>
    obtain ⟨k, hk, rfl, hr⟩ := hrel
    by_cases hlt : k < os.length
    · have hlt' : (k : Int) < (os.length : Int) := by omega
      obtain ⟨x, hx⟩ : ∃ x, os[k]? = some x := ⟨os[k], List.getElem?_eq_getElem hlt⟩
      obtain ⟨a, o3, c3, rfl, ha, hX, c0⟩ := set_at S1 (Below.refl _ _) hx
      have hal : (a.add k).block < w.heap.size := by rw [addBlock]; exact ha
      have HX := Lib.hid (HH.out x _ hX)
      have Hx := Lib.hid hx
      clear hx hX
      go_wp2_with fail
      refine HX.out.mono ?_
      rintro e w1 ⟨rfl, rfl⟩
      cases hs : servesL x s with
      | true =>
        have Hz : Hid (whichL os s = some k) := Lib.hid (which_hit Hx.out hr.out hs)
        clear hs
        go_wp2
        go_ret2
        exact ⟨by rw [Hz.out]; rfl, rfl⟩
      | false =>
        have Hz : Hid (∀ y ∈ os.take (k + 1), servesL y s = false) := Lib.hid (fun y hy => by
          rw [List.take_add_one, Hx.out] at hy
          rcases List.mem_append.1 hy with hy | hy
          · exact hr.out y hy
          · rw [show y = x by simpa using hy]; exact hs)
        clear hs
        go_wp2
        go_round
        case rel => exact ⟨k + 1, hlt, by go_num, Hz⟩
        case measure => simp [intOf]; omega
    · have hlt' : ¬ (k : Int) < (os.length : Int) := by omega
      have Hz : Hid (whichL os s = none) := Lib.hid (which_miss fun x hx => hr.out x (by rw [List.take_of_length_le (by omega)]; exact hx))
      clear hr
      go_wp2
      go_ret2
      exact ⟨by rw [Hz.out]; rfl, rfl⟩
end Go.Proofs.Ytiljpacmkmmlcaa

/- cover.asColumns. -/
import Derived.Test.YtiljpacmkmmlcaaWc
set_option linter.unusedSimpArgs false
set_option linter.unusedVariables false
namespace Go.Proofs.Ytiljpacmkmmlcaa
open Go.RowKit

theorem grown_viaC {a b : World} {o : Obj} {row : Option Nat} (k : (a.alloc o).grownBy b row) : a.grownBy b row :=
  ⟨k.os, k.tape, k.output, Nat.le_trans (by simp) k.size, fun i hi hne => (k.block i (by simp; omega) hne).trans (Below.heap_alloc a o i hi)⟩
theorem one_u64 (x : Int) : ∀ u ∈ [Value.int .u64 x], u.oneCell' = true := fun u hu => by simp at hu; subst hu; rfl
theorem infoU : (Try.prog.info? 54).map (fun i => (i.zero, i.size, i.bytes)) = some (some (.int .u64 0), 1, 8) := by kernel_rfl
theorem setsTo_step {c : Int} {l : List (List Int)} {k : Nat} {s : List Int} (h : setsTo c l k) (hs : l[k]? = some s) (h1 : setOk c s = true) (h2 : maskL s ∉ (l.take k).map maskL) : setsTo c l (k + 1) := by
  intro i t hi ht
  by_cases e : i = k
  · subst e
    rw [hs] at ht
    cases ht
    refine ⟨h1, fun j u hj hu e => h2 ?_⟩
    subst e
    exact List.mem_map.2 ⟨u, List.mem_of_getElem? (i := j) (by rw [List.getElem?_take, if_pos hj]; exact hu), rfl⟩
  · exact h i t (by omega) ht
theorem setOk_nn {c : Int} {s : List Int} (h : setOk c s = true) : (∀ x ∈ s, 0 ≤ x ∧ x < c) ∧ riseI s = true := by
  unfold setOk at h
  rw [Bool.and_eq_true, Bool.and_eq_true, List.all_eq_true] at h
  exact ⟨fun x hx => by have := h.2.1 x hx; simpa using this, h.2.2⟩
theorem mask_256 {c : Int} {s : List Int} (h : setOk c s = true) (h8 : c ≤ 8) : maskL s < 256 :=
  mask_lt (n := 8) fun x hx => ⟨((setOk_nn h).1 x hx).1, by have := ((setOk_nn h).1 x hx).2; omega⟩
theorem sets_bad1 {c : Int} {l : List (List Int)} {k : Nat} {s : List Int} (hs : l[k]? = some s) (h : setOk c s = false) : rightS c l = false := by
  cases hr : rightS c l with
  | false => rfl
  | true =>
    obtain ⟨_, h2⟩ := rightS_iff.1 hr
    rw [(h2 k s (List.getElem?_eq_some_iff.1 hs).1 hs).1] at h
    cases h
theorem sets_bad2 {c : Int} {l : List (List Int)} {k : Nat} {s : List Int} (hs : l[k]? = some s) (h : maskL s ∈ (l.take k).map maskL) : rightS c l = false := by
  cases hr : rightS c l with
  | false => rfl
  | true =>
    obtain ⟨_, h2⟩ := rightS_iff.1 hr
    obtain ⟨t, ht, e⟩ := List.mem_map.1 h
    obtain ⟨j, hj⟩ := List.mem_iff_getElem?.1 ht
    rw [List.getElem?_take] at hj
    split at hj
    · rename_i hjk
      have hk := h2 k s (List.getElem?_eq_some_iff.1 hs).1 hs
      have hj' := h2 j t (List.getElem?_eq_some_iff.1 hj).1 hj
      have a := setOk_nn hk.1
      have b := setOk_nn hj'.1
      exact absurd (mask_inj (fun x hx => (b.1 x hx).1) (fun x hx => (a.1 x hx).1) b.2 a.2 e) (hk.2 j t hjk hj)
    · cases hj
theorem sets_bad0 {c : Int} {l : List (List Int)} (h : c < 1 ∨ 8 < c ∨ 60 < l.length) : rightS c l = false := by
  cases hr : rightS c l with
  | false => rfl
  | true =>
    obtain ⟨h1, _⟩ := rightS_iff.1 hr
    omega
/-- So far. -/
structure AsI (c : Int) (l : List (List Int)) (k : Nat) (w wr : World) (v : Value) : Prop where
  ok : setsTo c l k
  lt : ∀ m ∈ (l.take k).map maskL, m < 256
  own : wr.ownsRow w.heap.size 54 1 v k (mvL ((l.take k).map maskL))
  b : Below w.heap.size w wr
def AsR (c : Int) (l : List (List Int)) (w w' : World) (e : Ending) : Prop :=
  (rightS c l = false ∧ e = .returned (.tuple #[.slice none 0 0, .bool false])) ∨ ∃ v, rightS c l = true ∧ e = .returned (.tuple #[v, .bool true]) ∧ w'.ownsRow w.heap.size 54 1 v l.length (mvL (l.map maskL)) ∧ (∀ m ∈ l.map maskL, m < 256)
set_option linter.unusedVariables false in
set_option maxRecDepth 100000 in
set_option maxHeartbeats 8000000 in
theorem asColumns_c (c : Int) (l : List (List Int)) (v : Value) (w : World) (h : SetsS w w.heap.size l v) :
    Calls Try.prog 24 #[.int .i64 c, v] w fun e w' => AsR c l w w' e ∧ Below w.heap.size w w' := by
  obtain ⟨i0, hi, hz0, hz1, hz2⟩ := info_parts infoU
  obtain ⟨o1, cap1, rfl, hc1, hm1, S1⟩ := SlOf.open h
  clear h
  by_cases hc0 : c < 1
  · have Hz : Hid (rightS c l = false) := Lib.hid (sets_bad0 (.inl hc0))
    go_enter Try.func24, Try.ntmps24
    go_wp2
    go_ret2
    exact ⟨.inl ⟨Hz.out, rfl⟩, Below.refl _ _⟩
  by_cases hc8 : c > 8
  · have Hz : Hid (rightS c l = false) := Lib.hid (sets_bad0 (.inr (.inl hc8)))
    go_enter Try.func24, Try.ntmps24
    go_wp2
    go_ret2
    exact ⟨.inl ⟨Hz.out, rfl⟩, Below.refl _ _⟩
  by_cases hl60 : 60 < l.length
  · have hl60' : (l.length : Int) > 60 := by omega
    have Hz : Hid (rightS c l = false) := Lib.hid (sets_bad0 (.inr (.inr hl60)))
    go_enter Try.func24, Try.ntmps24
    go_wp2
    go_ret2
    exact ⟨.inl ⟨Hz.out, rfl⟩, Below.refl _ _⟩
  have hl60' : ¬ (l.length : Int) > 60 := by omega
  have hc1 : 1 ≤ c := by omega
  have hc8' : c ≤ 8 := by omega
  go_enter Try.func24, Try.ntmps24
  go_wp2
  go_loopw [6, 24] (fun sv i wr => ∃ (k : Nat) (mv : Value), k ≤ l.length ∧ i = .int .i64 (k : Int) ∧ mv = sv ∧ Hid (AsI c l k w wr mv)) (fun _ i _ => l.length - (intOf i).toNat)
  case atStart => exact ⟨0, _, Nat.zero_le _, rfl, rfl, Lib.hid ⟨fun i s h => by omega, fun m hm => by simp at hm, World.ownsRow_nil _ _ _ _, Below.refl _ _⟩⟩
  case round =>
    obtain ⟨k, mv, hk, rfl, rfl, hr⟩ := hrel
    by_cases hlt : k < l.length
    · have hlt' : (k : Int) < (l.length : Int) := by omega
      have hB := hr.out.b
      obtain ⟨s, hs⟩ : ∃ s, l[k]? = some s := ⟨_, List.getElem?_eq_getElem hlt⟩
      obtain ⟨a, o3, c3, rfl, ha, hS, c0⟩ := set_at S1 hB hs
      have hal : (a.add k).block < wr.heap.size := by rw [addBlock]; exact Nat.lt_of_lt_of_le ha hB.size
      have HC := Lib.hid (columnsOf_c c s _ wr hc1 hc8' hS)
      have Hs := Lib.hid hs
      clear hS hs hB
      go_wp2_with fail
      refine HC.out.mono ?_
      rintro e w1 ⟨⟨m, rfl, hm⟩, rfl⟩
      clear HC
      cases hok : setOk c s with
      | false =>
        have Hz : Hid (rightS c l = false) := Lib.hid (sets_bad1 Hs.out hok)
        clear hok hm
        go_wp2
        go_ret2
        exact ⟨.inl ⟨Hz.out, rfl⟩, hr.out.b⟩
      | true =>
        obtain rfl := hm hok
        have hlen : ((l.take k).map maskL).length = k := by rw [List.length_map, List.length_take]; omega
        have HOW : Hid (wr.ownsRow w.heap.size 54 1 mv k (mvL ((l.take k).map maskL))) := Lib.hid hr.out.own
        have HQ := Lib.hid (contains_c ((l.take k).map maskL) (maskL s) mv wr (ms_of_own (by rw [hlen]; exact HOW.out) hr.out.lt))
        have Hok := Lib.hid hok
        have H256 := Lib.hid (mask_256 hok hc8')
        have HS1 : Hid (k + 1 ≤ maxLen) := Lib.hid (by unfold maxLen; omega)
        have HS2 : Hid ((k + 1) * 8 ≤ 140737488355328) := Lib.hid (by omega)
        have HBs := Lib.hid hr.out.b.size
        clear hok hm
        go_wp2_with fail
        refine HQ.out.mono ?_
        rintro e w2 ⟨rfl, rfl⟩
        clear HQ
        cases hin : inMs ((l.take k).map maskL) (maskL s) with
        | true =>
          have Hz : Hid (rightS c l = false) := Lib.hid (sets_bad2 Hs.out (of_decide_eq_true hin))
          clear hin
          go_wp2
          go_ret2
          exact ⟨.inl ⟨Hz.out, rfl⟩, hr.out.b⟩
        | false =>
          have Hnin : Hid (maskL s ∉ (l.take k).map maskL) := Lib.hid (of_decide_eq_false hin)
          clear hin
          go_wp2_with (at_builtin; refine wpList_append_own _ rfl (.tmp 41) (.tmp 43) 44 rfl w.heap.size 54 i0 _ 1 8 Try.underlying44 hi hz0 hz1 hz2 rfl (by decide) mv k _ rfl (HOW.out.alloc _) _ 1 1 [.int .u64 (maskL s : Int)] rfl rfl (news_new _ _ _ _ rfl) (one_u64 _) HS1.out HS2.out (by have := HBs.out; simp; omega) ?_; intro v' w3 hown' hgrow _; have HG3 := Lib.hid (grown_viaC hgrow); have HO3 := Lib.hid hown'; clear hgrow hown')
          have HN : Hid (AsI c l (k + 1) w w3 v') := Lib.hid (by
            have e : (l.take (k + 1)).map maskL = (l.take k).map maskL ++ [maskL s] := by rw [List.take_add_one, Hs.out]; simp
            refine ⟨setsTo_step hr.out.ok Hs.out Hok.out Hnin.out, fun m hm => ?_, ?_, hr.out.b.grown HG3.out hr.out.b.size (fun j hj => (HOW.out.lt j hj).1)⟩
            · rw [e] at hm
              rcases List.mem_append.1 hm with hm | hm
              · exact hr.out.lt m hm
              · rw [List.mem_singleton] at hm
                rw [hm]; exact H256.out
            · rw [e, mvL_snoc]
              exact HO3.out)
          go_roundw
          case rel => exact ⟨k + 1, v', hlt, by go_num, rfl, HN⟩
          case measure => simp [intOf]; omega
    · have hlt' : ¬ (k : Int) < (l.length : Int) := by omega
      obtain rfl : k = l.length := by omega
      have Hz : Hid (rightS c l = true) := Lib.hid (rightS_iff.2 ⟨⟨hc1, hc8', by omega⟩, hr.out.ok⟩)
      go_wp2
      go_ret2
      exact ⟨.inr ⟨_, Hz.out, rfl, by have := hr.out.own; rw [List.take_length] at this; exact this, by have := hr.out.lt; rw [List.take_length] at this; exact this⟩, hr.out.b⟩
end Go.Proofs.Ytiljpacmkmmlcaa

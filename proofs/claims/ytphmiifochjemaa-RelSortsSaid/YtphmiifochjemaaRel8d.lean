/- soritesref08.Sort, Add, Has, Union, Minus. -/
import Derived.Test.YtphmiifochjemaaRel8c
namespace Go.Proofs.Ytphmiifochjemaa
open Go.RowKit

theorem put_len1 (l : List Rw) (t : Rw) : (putL rwC l t).length ≤ l.length + 1 := by
  rw [put_len]
  split <;> omega
theorem fold_step {l : List Rw} {k : Nat} {x : Rw} (a : List Rw) (h : l[k]? = some x) : (l.take (k + 1)).foldl (putL rwC) a = putL rwC ((l.take k).foldl (putL rwC) a) x := by
  rw [take_snoc h, List.foldl_append]
  rfl
theorem minus_step {a b : List Rw} {k : Nat} {x : Rw} (h : a[k]? = some x) : minusL rwC (a.take (k + 1)) b = minusL rwC (a.take k) b ++ (if inL rwC b x = true then [] else [x]) := by
  unfold minusL
  rw [take_snoc h, List.filter_append, List.filter_cons, List.filter_nil]
  cases inL rwC b x <;> rfl

set_option maxRecDepth 100000 in
set_option maxHeartbeats 4000000 in
theorem rsort_c (l : List Rw) (v : Value) (w : World) (hl : l.length ≤ 1000000) (h1 : RwsS w w.heap.size l v) :
    Calls Try.prog 13 #[v] w fun e w' => ∃ r, e = .returned r ∧ RwsS w' w'.heap.size (sortL rwC l) r ∧ Below w.heap.size w w' := by
  obtain ⟨o1, cap1, rfl, hc1, hm1, S1⟩ := SlOf.open h1
  have HL := Lib.hid hl
  clear h1 hl
  go_enter Try.func13, Try.ntmps13
  go_wp2
  go_loopw [3, 4] (fun ov i wr => ∃ (k : Nat) (L : List Rw), k ≤ l.length ∧ i = .int .i64 k ∧ RwsS wr wr.heap.size L ov ∧ L = (l.take k).foldl (putL rwC) [] ∧ L.length ≤ k ∧ Below w.heap.size w wr) (fun _ i _ => l.length - (intOf i).toNat)
  case atStart => exact ⟨0, [], Nat.zero_le _, rfl, .inl ⟨rfl, rfl⟩, rfl, Nat.le_refl _, Below.refl _ _⟩
  case round =>
    obtain ⟨k, L, hk, rfl, hS, hL, hLn, hB⟩ := hrel
    have HS := Lib.hid hS
    have HLE := Lib.hid hL
    clear hS hL
    by_cases hlt : k < l.length
    · have hlt' : (k : Int) < (l.length : Int) := by omega
      obtain ⟨x, hx⟩ : ∃ x, l[k]? = some x := ⟨l[k], List.getElem?_eq_getElem hlt⟩
      obtain ⟨a, p3, q3, rfl, ha, Hx, c0, _⟩ := rw_at S1 hB hx
      have hBs := hB.size
      have hal : (a.add k).block < wr.heap.size := by rw [addBlock]; omega
      have HP := Lib.hid (rput_c L x _ _ wr (by have := HL.out; omega) HS.out Hx.out)
      have HL2 := Lib.hid (fold_step [] hx)
      clear hx
      go_wp2_with fail
      refine HP.out.mono ?_
      rintro e w1 ⟨r, rfl, hS1, b1⟩
      have HS1 := Lib.hid hS1
      have hB3 := hB.trans (b1.mono hBs)
      clear hS1
      go_wp2
      go_roundw
      case rel => exact ⟨k + 1, putL rwC L x, hlt, by go_num, HS1.out, by rw [HL2.out, HLE.out], by have := put_len1 L x; omega, hB3⟩
      case measure => simp [intOf]; omega
    · have hlt' : ¬ (k : Int) < (l.length : Int) := by omega
      have He : Hid (L = sortL rwC l) := Lib.hid (by rw [HLE.out, List.take_of_length_le (by omega)]; rfl)
      go_wp2
      go_ret
      exact ⟨_, rfl, by rw [← He.out]; exact HS.out, hB⟩

set_option maxRecDepth 100000 in
set_option maxHeartbeats 4000000 in
theorem radd_c (l : List Rw) (t : Rw) (v u : Value) (w : World) (hl : l.length ≤ 1000000) (h1 : RwsS w w.heap.size l v) (h2 : SlOf w w.heap.size 3 VlC t u) :
    Calls Try.prog 8 #[v, u] w fun e w' => ∃ r, e = .returned (.tuple #[r, .bool (riseL rwC l && newL rwC l t), .int .i64 (if riseL rwC l = true then 0 else 80)]) ∧ RwsS w' w'.heap.size (if riseL rwC l = true then putL rwC l t else []) r ∧ Below w.heap.size w w' := by
  have HR := Lib.hid (rrise_c l v w h1)
  have HP := Lib.hid (fun (W : World) (hb : Below w.heap.size w W) => rput_c l t v u W hl (RwsS.past h1 hb) (VlS.past h2 hb))
  clear h1 h2 hl
  obtain ⟨ra, hra⟩ : ∃ x, riseL rwC l = x := ⟨_, rfl⟩
  rw [hra] at HR ⊢
  clear hra
  go_enter Try.func8, Try.ntmps8
  go_wp2_with fail
  refine HR.out.mono ?_
  rintro e w1 ⟨rfl, b1⟩
  cases ra with
  | false =>
    go_wp2
    go_ret3
    exact ⟨_, rfl, .inl ⟨rfl, rfl⟩, b1⟩
  | true =>
    go_wp2_with fail
    refine (HP.out _ b1).mono ?_
    rintro e w2 ⟨r, rfl, hS, b2⟩
    have HS := Lib.hid hS
    have hB := b1.trans (b2.mono b1.size)
    clear hS
    go_wp2
    go_ret3
    exact ⟨_, rfl, HS.out, hB⟩

set_option maxRecDepth 100000 in
set_option maxHeartbeats 4000000 in
theorem rhas_c (l : List Rw) (t : Rw) (v u : Value) (w : World) (h1 : RwsS w w.heap.size l v) (h2 : SlOf w w.heap.size 3 VlC t u) :
    Calls Try.prog 10 #[v, u] w fun e w' => e = .returned (.tuple #[.bool (riseL rwC l && inL rwC l t), .int .i64 (if riseL rwC l = true then 0 else 80)]) ∧ Below w.heap.size w w' := by
  have HR := Lib.hid (rrise_c l v w h1)
  have HI := Lib.hid (fun (W : World) (hb : Below w.heap.size w W) => rin_c l t v u W (RwsS.past h1 hb) (VlS.past h2 hb))
  clear h1 h2
  obtain ⟨ra, hra⟩ : ∃ x, riseL rwC l = x := ⟨_, rfl⟩
  rw [hra] at HR ⊢
  clear hra
  go_enter Try.func10, Try.ntmps10
  go_wp2_with fail
  refine HR.out.mono ?_
  rintro e w1 ⟨rfl, b1⟩
  cases ra with
  | false =>
    go_wp2
    go_ret2
    exact ⟨rfl, b1⟩
  | true =>
    go_wp2_with fail
    refine (HI.out _ b1).mono ?_
    rintro e w2 ⟨rfl, b2⟩
    go_wp2
    go_ret2
    exact ⟨rfl, b1.trans (b2.mono b1.size)⟩

end Go.Proofs.Ytphmiifochjemaa

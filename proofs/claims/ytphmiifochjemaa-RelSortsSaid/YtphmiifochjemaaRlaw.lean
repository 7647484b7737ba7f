/- soriteslaw08: n, s, cut, clean. -/
import Derived.Test.YtphmiifochjemaaRel8e
namespace Go.Proofs.Ytphmiifochjemaa
open Go.RowKit

/-- The first of a slice's elements. -/
theorem SlOf.take {α : Type} {w : World} {B z m : Nat} {R : α → List Value → Prop} {l : List α} {o : Option Addr} {cap : Nat} (h : SlOf w B z R l (.slice o l.length cap)) (hm : m ≤ l.length) : SlOf w B z R (l.take m) (.slice o m cap) := by
  have hlen : (l.take m).length = m := by rw [List.length_take]; omega
  rcases h with ⟨he, rfl⟩ | ⟨a, c, he, h2, h3, h4, h5⟩
  · simp only [Value.slice.injEq] at he
    have hm0 : m = 0 := by simpa using hm
    subst hm0
    obtain ⟨rfl, _, rfl⟩ := he
    exact .inl ⟨rfl, rfl⟩
  · simp only [Value.slice.injEq] at he
    obtain ⟨rfl, _, rfl⟩ := he
    refine .inr ⟨a, cap, by rw [hlen], by omega, h3, fun hne => h4 (by rintro rfl; simp at hne), fun i x hx => ?_⟩
    have : l[i]? = some x := by
      rw [List.getElem?_take] at hx
      split at hx
      · exact hx
      · cases hx
    exact h5 i x this
theorem cell_new (w : World) (T : TypeId) (cs : Array Value) (j : Nat) (c : Value) (hj : cs[j]? = some c) : (w.alloc (.cells cs T)).cell? ⟨w.heap.size, j, none⟩ = some c := by
  have h : (w.alloc (.cells cs T)).heap[w.heap.size]? = some (.cells cs T) := by unfold World.alloc; simp
  unfold World.cell?
  rw [h]
  simpa using hj
theorem n_c (x : Int) (w : World) : Calls Try.prog 14 #[.int .i64 x] w fun e w' => e = .returned (.agg #[.bool false, .int .i64 x, .string ⟨#[]⟩]) ∧ Below w.heap.size w w' := by
  go_enter Try.func14, Try.ntmps14
  go_wp2
  have h0 := cell_new w 35 #[.bool false, .int .i64 x, .string ⟨#[]⟩] 0 _ rfl
  have h1 := cell_new w 35 #[.bool false, .int .i64 x, .string ⟨#[]⟩] 1 _ rfl
  have h2 := cell_new w 35 #[.bool false, .int .i64 x, .string ⟨#[]⟩] 2 _ rfl
  refine bodyPost_ret (v := .agg #[.bool false, .int .i64 x, .string ⟨#[]⟩]) (by simp [results, Try.results14, go_sem, h0, h1, h2]) rfl ?_
  exact ⟨rfl, (Below.refl _ _).alloc (Nat.le_refl _) _⟩
theorem s_c (x : ByteArray) (w : World) : Calls Try.prog 16 #[.string x] w fun e w' => e = .returned (.agg #[.bool true, .int .i64 0, .string x]) ∧ Below w.heap.size w w' := by
  go_enter Try.func16, Try.ntmps16
  go_wp2
  have h0 := cell_new w 35 #[.bool true, .int .i64 0, .string x] 0 _ rfl
  have h1 := cell_new w 35 #[.bool true, .int .i64 0, .string x] 1 _ rfl
  have h2 := cell_new w 35 #[.bool true, .int .i64 0, .string x] 2 _ rfl
  refine bodyPost_ret (v := .agg #[.bool true, .int .i64 0, .string x]) (by simp [results, Try.results16, go_sem, h0, h1, h2]) rfl ?_
  exact ⟨rfl, (Below.refl _ _).alloc (Nat.le_refl _) _⟩

set_option maxRecDepth 100000 in
set_option maxHeartbeats 4000000 in
theorem cut_c (l : List Rw) (v : Value) (w : World) (h1 : RwsS w w.heap.size l v) :
    Calls Try.prog 5 #[v] w fun e w' => (∃ r, e = .returned r ∧ RwsS w' w'.heap.size (l.take 100) r) ∧ w = w' := by
  have H1 := Lib.hid h1
  obtain ⟨o1, cap1, rfl, hc1, hm1, S1⟩ := SlOf.open h1
  clear h1
  by_cases hl : l.length ≤ 100
  · have hl' : (l.length : Int) ≤ 100 := by omega
    have hmin : min (l.length : Int) 100 = (l.length : Int) := by omega
    have HT : Hid (l.take 100 = l) := Lib.hid (List.take_of_length_le hl)
    go_enter Try.func5, Try.ntmps5
    go_wp2
    go_ret
    refine ⟨⟨_, rfl, ?_⟩, rfl⟩
    rw [HT.out]
    first | exact H1.out | simpa using H1.out
  · have hl' : (100 : Int) ≤ (l.length : Int) := by omega
    have hmin : min (l.length : Int) 100 = 100 := by omega
    have HT := Lib.hid (SlOf.take (m := 100) H1.out (by omega))
    go_enter Try.func5, Try.ntmps5
    go_wp2
    go_ret
    refine ⟨⟨_, rfl, ?_⟩, rfl⟩
    first | exact HT.out | simpa using HT.out

theorem all_drop {α : Type} {f : α → Bool} {l : List α} {k : Nat} {x : α} (h : l[k]? = some x) : (l.drop k).all f = (f x && (l.drop (k + 1)).all f) := by
  rw [drop_cons' h, List.all_cons]
theorem all_end {α : Type} {f : α → Bool} {l : List α} {k : Nat} (h : l.length ≤ k) : (l.drop k).all f = true := by
  rw [List.drop_of_length_le h]; rfl

theorem empty_nil : (ByteArray.toList ⟨#[]⟩).isEmpty = true := by rw [Lib.toList_data]; rfl
theorem clean_empty (n : Int) : cleanV ⟨false, n, ⟨#[]⟩⟩ = true := by simp [cleanV, Lib.toList_data]

set_option maxRecDepth 100000 in
set_option maxHeartbeats 8000000 in
theorem clean_c (l : List Rw) (v : Value) (w : World) (h1 : RwsS w w.heap.size l v) :
    Calls Try.prog 6 #[v] w fun e w' => e = .returned (.bool (l.all cleanR)) ∧ Below w.heap.size w w' := by
  obtain ⟨o1, cap1, rfl, hc1, hm1, S1⟩ := SlOf.open h1
  clear h1
  have HA : Hid (l.all cleanR = (l.drop 0).all cleanR) := Lib.hid rfl
  obtain ⟨ans, ha⟩ : ∃ ans, l.all cleanR = ans := ⟨_, rfl⟩
  rw [ha] at HA ⊢
  clear ha
  go_enter Try.func6, Try.ntmps6
  go_wp2
  go_loopw [3] (fun i wr => ∃ k : Nat, k ≤ l.length ∧ i = .int .i64 k ∧ ans = (l.drop k).all cleanR ∧ Below w.heap.size w wr) (fun i _ => l.length - (intOf i).toNat)
  case atStart => exact ⟨0, Nat.zero_le _, rfl, HA.out, Below.refl _ _⟩
  case round =>
    obtain ⟨k, hk, rfl, hr, hB⟩ := hrel
    have Hr := Lib.hid hr
    clear hr HA
    have hBs := hB.size
    by_cases hlt : k < l.length
    · have hlt' : (k : Int) < (l.length : Int) := by omega
      obtain ⟨x, hx⟩ : ∃ x, l[k]? = some x := ⟨l[k], List.getElem?_eq_getElem hlt⟩
      obtain ⟨p, p3, q3, rfl, ha, Hx, c0, _⟩ := rw_at S1 hB hx
      have hal : (p.add k).block < wr.heap.size := by rw [addBlock]; omega
      have HM := Lib.hid (Hr.out.trans (all_drop (f := cleanR) hx))
      clear hx Hr
      obtain ⟨ox, cx, ex, hcx, hmx, SX⟩ := SlOf.open Hx.out
      cases ex
      obtain ⟨W1, rfl⟩ : ∃ W1, W1 = wr := ⟨_, rfl⟩
      have HF : Hid (ans = ((x.drop 0).all cleanV && (l.drop (k + 1)).all cleanR)) := HM
      go_wp2
      go_loopw [4] (fun i wx => ∃ j : Nat, j ≤ x.length ∧ i = .int .i64 j ∧ ans = ((x.drop j).all cleanV && (l.drop (k + 1)).all cleanR) ∧ Below W1.heap.size W1 wx) (fun i _ => x.length - (intOf i).toNat)
      case atStart => exact ⟨0, Nat.zero_le _, rfl, HF.out, Below.refl _ _⟩
      case round =>
        obtain ⟨j, hj1, rfl, hf, hB2⟩ := hrel
        have Hf := Lib.hid hf
        clear hf HF HM
        have hB2s := hB2.size
        have cc0 := (hB2.cell hal).trans c0
        have hBw : Below w.heap.size w wr := hB.trans (hB2.mono hBs)
        by_cases ht1 : j < x.length
        · have ht1' : (j : Int) < (x.length : Int) := by omega
          have hk0 : (0 : Int) ≤ (k : Int) := by omega
          have hj0 : (0 : Int) ≤ (j : Int) := by omega
          obtain ⟨y, hy⟩ : ∃ y, x[j]? = some y := ⟨x[j], List.getElem?_eq_getElem ht1⟩
          obtain ⟨py, rfl, hpy, _, hys, y0, y1, y2⟩ := vl_at SX hB2 hy
          have Hst := Lib.hid (Hf.out.trans (by rw [all_drop (f := cleanV) hy, Bool.and_assoc] : _ = (cleanV y && ((x.drop (j + 1)).all cleanV && (l.drop (k + 1)).all cleanR))))
          clear hy Hf
          obtain ⟨ys, yn, yt⟩ := y
          cases ys with
          | true =>
            by_cases hn : yn = 0
            · subst hn
              have Hs2 := Lib.hid (Hst.out.trans (by rfl : _ = ((x.drop (j + 1)).all cleanV && (l.drop (k + 1)).all cleanR)))
              go_wp2
              go_roundw
              case rel => exact ⟨j + 1, ht1, by go_num, Hs2.out, hB2⟩
              case measure => simp [intOf]; omega
            · have Hs2 : Hid (ans = false) := Lib.hid (Hst.out.trans (by rw [show cleanV ⟨true, yn, yt⟩ = false by simp [cleanV, hn]]; rfl))
              go_wp2
              go_ret
              exact ⟨by rw [Hs2.out]; rfl, hBw⟩
          | false =>
            by_cases hn : yt = ⟨#[]⟩
            · subst hn
              have Hs2 := Lib.hid (Hst.out.trans (by rw [clean_empty]; rfl : _ = ((x.drop (j + 1)).all cleanV && (l.drop (k + 1)).all cleanR)))
              go_wp2
              all_goals
                go_roundw
                case rel => exact ⟨j + 1, ht1, by go_num, Hs2.out, hB2⟩
                case measure => simp [intOf]; omega
            · have Hs2 : Hid (ans = false) := Lib.hid (Hst.out.trans (by rw [show cleanV ⟨false, yn, yt⟩ = false by cases hc : cleanV ⟨false, yn, yt⟩ with | false => rfl | true => exact absurd (empty_eq (a := yt) (b := ⟨#[]⟩) (by simpa only [cleanV, Bool.false_eq_true, if_false] using hc) empty_nil) hn]; rfl))
              go_wp2
              · go_ret
                exact ⟨by rw [Hs2.out]; rfl, hBw⟩
              · rename_i hq
                exact absurd (empty_eq (a := yt) (b := ⟨#[]⟩) (by simpa using hq) empty_nil) hn
        · have ht1' : ¬ (j : Int) < (x.length : Int) := by omega
          have Hs2 := Lib.hid (Hf.out.trans (by rw [all_end (f := cleanV) (by omega : x.length ≤ j)]; rfl : _ = (l.drop (k + 1)).all cleanR))
          go_wp2
          go_roundw
          case rel => exact ⟨k + 1, hlt, by go_num, Hs2.out, hBw⟩
          case measure => simp [intOf]; omega
    · have hlt' : ¬ (k : Int) < (l.length : Int) := by omega
      have Hs2 := Lib.hid (Hr.out.trans (all_end (f := cleanR) (by omega : l.length ≤ k)))
      go_wp2
      go_ret
      exact ⟨by rw [Hs2.out]; rfl, hB⟩
end Go.Proofs.Ytphmiifochjemaa

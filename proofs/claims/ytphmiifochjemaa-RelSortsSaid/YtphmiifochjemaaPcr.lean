/- rel.copyRow, copyRows: rows of one's own, with the values of others. -/
import Derived.Test.YtphmiifochjemaaPld
import Derived.Test.YtphmiifochjemaaRel8c
namespace Go.Proofs.Ytphmiifochjemaa
open Go.RowKit

theorem infoVal : (Try.prog.info? 35).map (fun i => (i.zero, i.size, i.bytes)) = some (some (.agg #[.bool false, .int .i64 0, .string ⟨#[]⟩]), 3, 32) := by kernel_rfl
/-- A row that may be copied. -/
def FitW (r : Rw) : Prop := r.length * 32 ≤ 140737488355328
theorem FitW.max {r : Rw} (h : FitW r) : r.length ≤ maxLen := by unfold FitW at h; unfold maxLen; omega

set_option maxRecDepth 100000 in
set_option maxHeartbeats 4000000 in
theorem copyRow_c (r : Rw) (v : Value) (w : World) (hv : SlOf w w.heap.size 3 VlC r v) (hf : FitW r) :
    Calls Try.prog 19 #[v] w fun e w' => (∃ u xs, e = .returned u ∧ w'.ownsRow w.heap.size 35 3 u r.length xs ∧ Laid 3 VlC r xs) ∧ Below w.heap.size w w' := by
  obtain ⟨i0, hi, hz0, hz1, hz2⟩ := info_parts infoVal
  obtain ⟨xs, hl, hs⟩ := sl_laid hv vl_one
  obtain ⟨o1, cap1, rfl, hc1, hm1, _⟩ := SlOf.open hv
  have HL := Lib.hid hl
  have HS := Lib.hid hs
  have HM : Hid (0 + r.length ≤ maxLen) := Lib.hid (by rw [Nat.zero_add]; exact hf.max)
  have HF : Hid ((0 + r.length) * 32 ≤ 140737488355328) := Lib.hid (by rw [Nat.zero_add]; exact hf)
  clear hv hf hl hs
  go_enter Try.func19, Try.ntmps19
  go_wp2_with (at_builtin; refine wpList_append_any _ rfl (.const (.slice none 0 0)) (.tmp 3) 23 rfl w.heap.size 35 i0 _ 3 32 Try.underlying23 hi hz0 hz1 hz2 rfl (by decide) (.slice none 0 0) 0 [] rfl (World.ownsRow_nil _ _ _ _) _ r.length xs rfl HS.out HM.out HF.out (Nat.le_refl _) ?_; intro v' w3 hown' hgrow _; rw [Nat.zero_add, List.nil_append] at hown'; have HO := Lib.hid hown'; have HG := Lib.hid hgrow; clear hown' hgrow; obtain ⟨o3, c3, hv3⟩ : ∃ o c, v' = .slice o r.length c := (by rcases HO.out.2 with ⟨e, h0⟩ | ⟨g, cap, _, e, _⟩; (exact ⟨none, 0, by rw [e, h0]⟩); (exact ⟨_, _, e⟩)); subst hv3)
  go_wp2
  go_ret
  exact ⟨⟨_, xs, rfl, HO.out, HL.out⟩, (Below.refl _ _).grown HG.out (Nat.le_refl _) (fun k hk => by simp [Value.ownBlock] at hk)⟩
theorem copy_see {W W' : World} {v u : Value} {r : Rw} {xs : List Value} (ho : W'.ownsRow W.heap.size 35 3 u r.length xs) (hl : Laid 3 VlC r xs) (hv : ∀ g, v.ownBlock = some g → g < W.heap.size) : SlOf (hideV v W') W'.heap.size 3 VlC r u := by
  have := sl_own0 (own_hide ho hv) hl
  rwa [hideV_size] at this

set_option linter.unusedSimpArgs false in
set_option maxRecDepth 100000 in
set_option maxHeartbeats 8000000 in
theorem copyRows_c (l : List Rw) (v : Value) (w : World) (hv : RwsS w w.heap.size l v) (hn : l.length ≤ 1000000) (hf : ∀ r ∈ l, FitW r) :
    Calls Try.prog 24 #[v] w fun e w' => ∃ hs g c, e = .returned (.slice (some ⟨g, 0, none⟩) l.length c) ∧ hs.map Prod.fst = l ∧ w.heap.size ≤ g ∧ RoR w w.heap.size (.slice (some ⟨g, 0, none⟩) l.length c) hs w' := by
  obtain ⟨i0, hi, hz0, hz1, hz2⟩ := info_parts infoRow
  obtain ⟨o1, cap1, rfl, hc1, hm1, S1⟩ := SlOf.open hv
  have HF := Lib.hid hf
  have HN := Lib.hid hn
  have hb2 : i0.bytes * l.length ≤ 281474976710656 := by rw [hz2]; omega
  have hb3 : l.length ≤ maxLen := by unfold maxLen; omega
  have HB2 := Lib.hid hb2
  have HB3 := Lib.hid hb3
  clear hv hf hn hb2 hb3
  go_enter Try.func24, Try.ntmps24
  go_wp2_with (at_make; refine wpList_make_own _ rfl _ _ 22 rfl w.heap.size 23 i0 _ 1 Try.underlying22 hi hz0 hz1 .i64 .i64 _ l.length rfl rfl (by first | omega | rfl) HB2.out HB3.out (Nat.le_refl _) ?_; intro w1 hown1 hg1; have O1 : Hid (RoR w w.heap.size (.slice (some ⟨w.heap.size, 0, none⟩) 0 l.length) [] w1) := Lib.hid ⟨hown1, (fun x hx => by cases hx), (Below.refl _ _).grown hg1 (Nat.le_refl _) (fun k hk => by cases hk)⟩; clear hown1 hg1)
  go_wp2
  go_loopw [3, 11] (fun ov i wr => ∃ (k g c : Nat) (hs : List (Rw × Value)), k ≤ l.length ∧ i = .int .i64 k ∧ ov = .slice (some ⟨g, 0, none⟩) k c ∧ w.heap.size ≤ g ∧ hs.map Prod.fst = l.take k ∧ RoR w w.heap.size ov hs wr) (fun _ i _ => l.length - (intOf i).toNat)
  case atStart => exact ⟨0, w.heap.size, l.length, [], Nat.zero_le _, rfl, rfl, Nat.le_refl _, rfl, O1.out⟩
  case round =>
    obtain ⟨k, g, c, hs, hk, rfl, rfl, hg0, hm, hO⟩ := hrel
    have hB := hO.b
    have hBs := hB.size
    have HO := Lib.hid hO
    have HMp := Lib.hid hm
    have hlen : hs.length = k := by have := congrArg List.length hm; rw [List.length_map, List.length_take] at this; omega
    have HLn := Lib.hid hlen
    clear hO hm hlen
    by_cases hlt : k < l.length
    · have hlt' : (k : Int) < (l.length : Int) := by omega
      have hk0 : (0 : Int) ≤ (k : Int) := by omega
      obtain ⟨x, hx⟩ : ∃ x, l[k]? = some x := ⟨l[k], List.getElem?_eq_getElem hlt⟩
      obtain ⟨a, p3, q3, rfl, ha, Hx, c0, _⟩ := rw_at S1 hB hx
      have hal : (a.add k).block < wr.heap.size := by rw [addBlock]; omega
      have HC := Lib.hid (copyRow_c x _ wr Hx.out (HF.out x (List.mem_of_getElem? hx)))
      have HTK := Lib.hid (take_snoc hx)
      have hgl : g < wr.heap.size := (HO.out.own.lt g rfl).2
      have hgl' := Lib.hid hgl
      clear hx Hx hgl
      go_wp2_with fail
      refine HC.out.mono ?_
      rintro e w2 ⟨⟨u, xs, rfl, ho, hl⟩, b2⟩
      have HSee := Lib.hid (copy_see (v := .slice (some ⟨g, 0, none⟩) k c) ho hl (fun g' h => by have := hgl'.out; simp only [Value.ownBlock, Option.some.injEq] at h; omega))
      have HO2 := Lib.hid (HO.out.below b2 hBs)
      obtain ⟨ou, cu, hu⟩ : ∃ o c, u = .slice o x.length c := by
        rcases ho.2 with ⟨e, h0⟩ | ⟨g, cap, _, e, _⟩
        · exact ⟨none, 0, by rw [e, h0]⟩
        · exact ⟨_, _, e⟩
      subst hu
      have hb2s := b2.size
      have HOwn : Hid (w2.ownsRow w.heap.size 23 1 (.slice (some ⟨g, 0, none⟩) k c) k (hs.map Prod.snd)) := Lib.hid (by have := HO2.out.own; rwa [HLn.out] at this)
      have HS1 : Hid (k + 1 ≤ maxLen) := Lib.hid (by have := HN.out; unfold maxLen; omega)
      have HS2 : Hid ((k + 1) * 24 ≤ 140737488355328) := Lib.hid (by have := HN.out; omega)
      clear ho hl b2 HC
      go_wp2_with (at_builtin; refine wpList_append_own_at _ rfl (.tmp 15) (.tmp 18) 22 rfl w.heap.size 23 i0 _ 1 24 Try.underlying22 hi hz0 hz1 hz2 rfl (by decide) (.slice (some ⟨g, 0, none⟩) k c) k _ rfl (HOwn.out.alloc _) ⟨w2.heap.size, 0, none⟩ 1 1 [.slice ou x.length cu] rfl rfl (World.news_of_block (World.alloc_heap_new _ _)) (one_row _ rfl) HS1.out HS2.out (by simp; omega) ?_; intro v' w3 hown' hgrow _ hv'; obtain ⟨g', cap', rfl, hgb⟩ := own_form hown' (Nat.succ_pos _); have hb3 : Below w2.heap.size w2 (w2.alloc (.cells #[.slice ou x.length cu] 23)) := (Below.refl _ _).alloc (Nat.le_refl _) _; have HO4 := Lib.hid ((HO2.out.below hb3 (by omega)).snoc hgrow hv' (see_below HSee.out hb3 hb3.size) (by rw [HLn.out]; exact hown') (by simp; omega)); clear hb3 hown' hgrow hv')
      go_wp2
      go_roundw
      case rel => exact ⟨k + 1, g', cap', hs ++ [(x, .slice ou x.length cu)], hlt, by go_num, rfl, hgb, by rw [List.map_append, HMp.out, HTK.out]; rfl, HO4.out⟩
      case measure => simp [intOf]; omega
    · have hlt' : ¬ (k : Int) < (l.length : Int) := by omega
      have hkl : k = l.length := by omega
      subst hkl
      have HMp2 : Hid (hs.map Prod.fst = l) := Lib.hid (by rw [HMp.out, List.take_length])
      go_wp2
      go_ret
      exact ⟨hs, g, c, rfl, HMp2.out, hg0, HO.out⟩
end Go.Proofs.Ytphmiifochjemaa

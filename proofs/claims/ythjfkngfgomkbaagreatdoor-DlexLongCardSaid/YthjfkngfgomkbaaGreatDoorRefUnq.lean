/- Facts for soritesref01.Unquote: a symbol's text taken apart sign by sign, and a slice of bytes of one's own turned into a text. soritesref01.Unquote answers the symbol that a text says, for texts of at most five thousand bytes. -/
import Derived.Test.YthjfkngfgomkbaaGreatDoorNext
import Derived.Laws.BytesArg
import Derived.OwnWalk
import Derived.WalkSpells
namespace Go.Proofs.YthjfkngfgomkbaaGreatDoor
open Go.RowKit

def unqU (l : List UInt8) : Option (List UInt8) := unqS (seqS l.length l)
theorem seqS_fuel : ∀ (f g : Nat) (l : List UInt8), l.length ≤ f → l.length ≤ g → seqS f l = seqS g l
  | 0, g, l, hf, _ => by
    have : l = [] := List.eq_nil_of_length_eq_zero (by omega)
    subst this
    rw [seqS_nil, seqS_nil]
  | f + 1, g, l, hf, hg => by
    by_cases hne : l = []
    · subst hne; rw [seqS_nil, seqS_nil]
    have hpos : 1 ≤ l.length := by cases l with | nil => exact absurd rfl hne | cons => simp
    obtain ⟨g', rfl⟩ : ∃ g', g = g' + 1 := ⟨g - 1, by omega⟩
    cases hr : firstS l with
    | none => rw [seqS_none f l hne hr, seqS_none g' l hne hr]
    | some x =>
      obtain ⟨c, n⟩ := x
      have hn := firstS_len l c n hne hr
      rw [seqS_some f l c n hne hr, seqS_some g' l c n hne hr, seqS_fuel f g' (l.drop n) (by simp; omega) (by simp; omega)]
theorem unqU_nil : unqU [] = some [] := rfl
theorem unqU_none (l : List UInt8) (hne : l ≠ []) (h : firstS l = none) : unqU l = none := by
  unfold unqU
  have hpos : 1 ≤ l.length := by cases l with | nil => exact absurd rfl hne | cons => simp
  obtain ⟨g, hg⟩ : ∃ g, l.length = g + 1 := ⟨l.length - 1, by omega⟩
  rw [hg, seqS_none g l hne h]
  rfl
theorem unqU_some (l : List UInt8) (c : UInt8) (n : Nat) (hne : l ≠ []) (h : firstS l = some (c, n)) : unqU l = (unqU (l.drop n)).map (c :: ·) := by
  unfold unqU
  have hn := firstS_len l c n hne h
  obtain ⟨g, hg⟩ : ∃ g, l.length = g + 1 := ⟨l.length - 1, by omega⟩
  rw [hg, seqS_some g l c n hne h, seqS_fuel g (l.drop n).length (l.drop n) (by simp; omega) (Nat.le_refl _)]
  unfold unqS
  simp only [List.all_cons, Bool.not_false, Bool.true_and, List.map_cons]
  split <;> rfl

theorem unqL_short {l : List UInt8} (h : l.length < 2) : unqL l = none := by
  cases hq : unqL l with
  | none => rfl
  | some t =>
    have e := unqL_back hq
    have : (quoteL t).length = l.length := by rw [e]
    unfold quoteL at this
    simp only [List.length_cons, List.length_append, List.length_nil] at this
    omega
theorem unqL_first {l : List UInt8} (h : l.getD 0 0 ≠ 34) : unqL l = none := by
  cases hq : unqL l with
  | none => rfl
  | some t =>
    have e := unqL_back hq
    exact absurd (by rw [← e]; rfl) h
theorem unqL_last {l : List UInt8} (h : l.getD (l.length - 1) 0 ≠ 34) : unqL l = none := by
  cases hq : unqL l with
  | none => rfl
  | some t =>
    have e := unqL_back hq
    refine absurd ?_ h
    rw [← e]
    unfold quoteL
    rw [show (34 :: (t.flatMap sign ++ [34])).length - 1 = (34 :: t.flatMap sign).length by simp, ← List.cons_append]
    simp [List.getD_eq_getElem?_getD]
theorem unqL_mid {l : List UInt8} (h2 : 2 ≤ l.length) (h0 : l.getD 0 0 = 34) (h1 : l.getD (l.length - 1) 0 = 34) : unqL l = unqU ((l.drop 1).take (l.length - 2)) := by
  have e : l = 34 :: ((l.drop 1).take (l.length - 2) ++ [34]) := by
    cases l with
    | nil => simp at h2
    | cons x r =>
      simp only [List.getD_cons_zero] at h0
      subst h0
      simp only [List.drop_succ_cons, List.drop_zero, List.length_cons] at h2 h1 ⊢
      congr 1
      have hr : 1 ≤ r.length := by omega
      have h3 : r.drop (r.length - 1) = [34] := by
        rw [List.drop_eq_getElem_cons (by omega)]
        have h4 : r[r.length - 1]'(by omega) = 34 := by
          rw [List.getD_eq_getElem?_getD, show r.length + 1 - 1 = (r.length - 1) + 1 by omega, List.getElem?_cons_succ, List.getElem?_eq_getElem (by omega)] at h1
          simpa using h1
        rw [h4, List.drop_of_length_le (by omega)]
      rw [show r.length + 1 - 2 = r.length - 1 by omega, ← h3, List.take_append_drop]
  obtain ⟨m, hm⟩ : ∃ m, (l.drop 1).take (l.length - 2) = m := ⟨_, rfl⟩
  rw [hm] at e ⊢
  unfold unqL
  rw [e, betw_quote]
  rfl

theorem conv_own {W : World} {B : Nat} {v : Value} {n : Nat} {bs : List UInt8} (h : W.ownsRow B 5 1 v n (Lib.byteCells bs)) : (convert 30 9 v).run Tryz.prog W = .ok (.string ⟨bs.toArray⟩) W := by
  have h0 := h
  obtain ⟨hl, h⟩ := h
  rcases h with ⟨rfl, rfl⟩ | ⟨g, cap, cur, rfl, _, hg, hn, _, hc, ht⟩
  · have : bs = [] := by
      cases bs with
      | nil => rfl
      | cons => simp [Lib.byteCells] at hl
    subst this
    rw [run_convert_bytes_string _ 30 9 5 _ _ _ Tryz.underlying30 Tryz.underlying5 Tryz.underlying9]
    simp [Conv.bytesToString, Sem.run_pure]
    rfl
  · have hl2 : (loadCells ⟨g, 0, none⟩ n).run Tryz.prog W = .ok ((bs.map fun b => (b.toNat : Int)).map (Value.int .u8)).toArray W := by
      have := run_loadCells_list (P := Tryz.prog) W ⟨g, 0, none⟩ (Lib.byteCells bs) (h0.cells rfl)
      rw [hl, Nat.mul_one] at this
      simpa [Lib.byteCells, Function.comp_def] using this
    rw [run_convert_bytes_string _ 30 9 5 _ _ _ Tryz.underlying30 Tryz.underlying5 Tryz.underlying9, run_bytesToString W _ n cap _ hl2, foldl_push_bytes]
    simp [ByteArray.empty, ByteArray.emptyWithCapacity, Function.comp_def]
    rfl
end Go.Proofs.YthjfkngfgomkbaaGreatDoor
namespace Go.Proofs.YthjfkngfgomkbaaGreatDoor
open Go.RowKit

theorem Tryz.info5b : (Tryz.prog.info? 5).map (fun i => (i.zero, i.size, i.bytes)) = some (some (.int .u8 0), 1, 1) := by kernel_rfl

theorem row_past {W W' : World} {B e size n : Nat} {v : Value} {xs : List Value} (h : W.ownsRow B e size v n xs) (b : Below W.heap.size W W') : W'.ownsRow B e size v n xs :=
  h.kept (row := none) ⟨b.os, b.tape, b.output, b.size, fun k hk _ => b.block k hk⟩ (by cases v.ownBlock <;> simp)

set_option maxRecDepth 100000 in
set_option maxHeartbeats 4000000 in
theorem refUnquote_c (s : ByteArray) (hs : s.size ≤ 5000) (w : World) :
    Calls Tryz.prog 57 #[.string s] w fun e w' => e = .returned (unqV (unqL s.data.toList)) ∧ Below w.heap.size w w' := by
  obtain ⟨i0, hi, hz0, hz1, hz2⟩ := info_parts Tryz.info5b
  have hlen : s.data.toList.length = s.size := by simp
  by_cases h2 : s.size < 2
  · have Hr := Lib.hid (unqL_short (l := s.data.toList) (by omega))
    have h2' : (s.size : Int) < 2 := by omega
    clear hlen
    go_enter Tryz.func57, Tryz.ntmps57
    go_wp2
    go_ret2
    rw [Hr.out]
    exact ⟨rfl, Below.refl _ _⟩
  have h2' : ¬ (s.size : Int) < 2 := by omega
  have hp0 : 0 < s.size := by omega
  have hp1 : s.size - 1 < s.size := by omega
  have g0 : s.data.toList.getD 0 0 = s[0] := by rw [List.getD_eq_getElem?_getD, List.getElem?_eq_getElem (by omega)]; rfl
  have g1 : s.data.toList.getD (s.data.toList.length - 1) 0 = s[s.size - 1] := by rw [List.getD_eq_getElem?_getD, List.getElem?_eq_getElem (by omega)]; simp only [hlen]; rfl
  have ne : ∀ c : UInt8, c ≠ 34 → ((c.toNat : Int) != 34) = true := by
    intro c hd
    rw [bne_iff_ne]
    intro e
    exact hd (UInt8.toNat_inj.1 (show c.toNat = 34 by omega))
  have gw : IntKind.i64.wrap ((s.size : Int) - 1) = (s.size : Int) - 1 := IntWalk.i64_in _ (by omega)
  by_cases c0 : s[0] = 34
  · have e0 : ((s[0].toNat : Int) != 34) = false := by rw [c0]; rfl
    by_cases c1 : s[s.size - 1] = 34
    · have e1 : ((s[s.size - 1].toNat : Int) != 34) = false := by rw [c1]; rfl
      have HM := Lib.hid (unqL_mid (l := s.data.toList) (by omega) (g0.trans c0) (g1.trans c1))
      have gs : ∀ w : World, (Instr.slice 9 (.string s) (some (.int .i64 1)) (some (.int .i64 ((s.size : Int) - 1))) none).run Tryz.prog w = .ok (.string (s.extract 1 (s.size - 1))) w := fun w => by
        have h := run_slice_string (P := Tryz.prog) (w := w) 9 s .i64 .i64 1 ((s.size : Int) - 1) Tryz.underlying9 (by omega) (by omega) (by omega)
        rwa [show ((s.size : Int) - 1).toNat = s.size - 1 by omega] at h
      obtain ⟨t, ht⟩ : ∃ t, s.extract 1 (s.size - 1) = t := ⟨_, rfl⟩
      have htl : (s.data.toList.drop 1).take (s.data.toList.length - 2) = t.data.toList := by
        rw [← ht, Lib.extract_data, hlen]
        rfl
      have hts : t.size ≤ 5000 := by rw [← ht, ByteArray.size_extract]; omega
      rw [htl] at HM
      rw [ht] at gs
      clear htl ht hlen g0 g1 ne c0 c1
      go_enter Tryz.func57, Tryz.ntmps57
      go_wp2
      go_loopw [5, 6] (fun o i wr => ∃ (pos : Nat) (acc : List UInt8), pos ≤ t.size ∧ i = .int .i64 pos ∧ acc.length ≤ pos ∧ wr.ownsRow w.heap.size 5 1 o acc.length (Lib.byteCells acc) ∧
          unqU t.data.toList = (unqU (t.data.toList.drop pos)).map (acc ++ ·) ∧ Below w.heap.size w wr) (fun _ i _ => t.size - (intOf i).toNat)
      case atStart => exact ⟨0, [], Nat.zero_le _, rfl, Nat.le_refl _, World.ownsRow_nil _ _ _ _, by simp, Below.refl _ _⟩
      case round =>
        obtain ⟨pos, acc, hp, rfl, hal, hown, hacc, hb⟩ := hrel
        have Hacc := Lib.hid hacc
        clear hacc
        have htl : t.data.toList.length = t.size := by simp
        by_cases hlt : pos < t.size
        · have hlt' : (pos : Int) < (t.size : Int) := by omega
          have hne : t.data.toList.drop pos ≠ [] := by
            intro h
            have := congrArg List.length h
            simp at this
            omega
          obtain ⟨r, hr⟩ : ∃ r, firstS (t.data.toList.drop pos) = r := ⟨_, rfl⟩
          have hn := next_c t pos hts hp wr
          rw [hr] at hn
          have Hn := Lib.hid hn
          clear hn
          cases r with
          | none =>
            have Hu := Lib.hid (unqU_none _ hne hr)
            clear hne hr htl
            go_wp2_with fail
            refine Hn.out.mono ?_
            rintro e w1 ⟨rfl, b1⟩
            simp only [nextV]
            go_wp2
            go_ret2
            rw [HM.out, Hacc.out, Hu.out]
            exact ⟨rfl, chain2 hb b1⟩
          | some x =>
            obtain ⟨c, n⟩ := x
            have hfl := firstS_len _ c n hne hr
            have hn1 : 1 ≤ n := hfl.1
            have hpn : pos + n ≤ t.size := by have := hfl.2; simp at this; omega
            have Hu := Lib.hid (unqU_some _ c n hne hr)
            have n0 : ((n : Int) == 0) = false := by rw [beq_eq_false_iff_ne]; omega
            have gw2 : IntKind.i64.wrap ((pos : Int) + (n : Int)) = (pos : Int) + (n : Int) := IntWalk.i64_in _ (by omega)
            clear hne hr htl hfl
            go_wp2_with fail
            refine Hn.out.mono ?_
            rintro e w1 ⟨rfl, b1⟩
            simp only [nextV]
            have hown1 := row_past hown b1
            have hsz := hb.size
            have hsz1 := b1.size
            go_wp2_with (at_builtin; refine wpList_append_own _ rfl (.tmp 42) (.tmp 44) 30 rfl w.heap.size 5 i0 (.int .u8 0) 1 1 Tryz.underlying30 hi hz0 hz1 hz2 rfl (by decide) _ _ _ rfl (hown1.alloc _) ⟨w1.heap.size, 0, none⟩ 1 1 [.int .u8 (c.toNat : Int)] rfl rfl (cell_one_new _ _ _) ?c2 ?c3 ?c4 ?c5 ?_)
            case c2 => first | rfl | (intro u hu; simp at hu; subst hu; rfl)
            case c3 => unfold maxLen; omega
            case c4 => omega
            case c5 => simp; omega
            intro v' w2 hown' hgrow' _
            go_wp2
            go_roundw
            case rel =>
              refine ⟨pos + n, acc ++ [c], hpn, by go_num, by simp; omega, ?_, ?_, ((chain2 hb b1).alloc (by omega) _).grown hgrow' (by simp; omega) (fun j hj => (hown.lt j hj).1)⟩
              · rw [byteCells_snoc, List.length_append]
                exact hown'
              · rw [Hacc.out, Hu.out, List.drop_drop]
                cases unqU (t.data.toList.drop (pos + n)) with
                | none => rfl
                | some m => simp
            case measure => simp [intOf]; omega
        · obtain rfl : pos = t.size := by omega
          have hd : t.data.toList.drop t.size = [] := List.drop_of_length_le (by simp)
          rw [hd, unqU_nil] at Hacc
          have hcv := conv_own hown
          clear htl hd
          go_wp2
          go_ret2
          rw [HM.out, Hacc.out]
          exact ⟨by simp [unqV], hb⟩
    · have e1 := ne _ c1
      have Hr := Lib.hid (unqL_last (l := s.data.toList) (by rw [g1]; exact c1))
      clear hlen g0 g1 ne c0 c1
      go_enter Tryz.func57, Tryz.ntmps57
      go_wp2
      go_ret2
      rw [Hr.out]
      exact ⟨rfl, Below.refl _ _⟩
  · have e0 := ne _ c0
    have Hr := Lib.hid (unqL_first (l := s.data.toList) (by rw [g0]; exact c0))
    clear hlen g0 g1 ne c0
    go_enter Tryz.func57, Tryz.ntmps57
    go_wp2
    go_ret2
    rw [Hr.out]
    exact ⟨rfl, Below.refl _ _⟩
end Go.Proofs.YthjfkngfgomkbaaGreatDoor

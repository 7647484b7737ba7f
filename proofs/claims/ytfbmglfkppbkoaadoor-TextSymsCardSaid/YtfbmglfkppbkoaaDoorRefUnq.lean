/- soritesref01.Unquote answers the symbol that a text says, for texts of at most five thousand bytes. -/
import Derived.Test.YtfbmglfkppbkoaaDoorRefUnqF
import Derived.OwnWalk
import Derived.WalkSpells
namespace Go.Proofs.YtfbmglfkppbkoaaDoor
open Go.RowKit

theorem Tryd.info5b : (Tryd.prog.info? 5).map (fun i => (i.zero, i.size, i.bytes)) = some (some (.int .u8 0), 1, 1) := by kernel_rfl

theorem row_past {W W' : World} {B e size n : Nat} {v : Value} {xs : List Value} (h : W.ownsRow B e size v n xs) (b : Below W.heap.size W W') : W'.ownsRow B e size v n xs :=
  h.kept (row := none) ⟨b.os, b.tape, b.output, b.size, fun k hk _ => b.block k hk⟩ (by cases v.ownBlock <;> simp)

set_option maxRecDepth 100000 in
set_option maxHeartbeats 4000000 in
theorem refUnquote_c (s : ByteArray) (hs : s.size ≤ 5000) (w : World) :
    Calls Tryd.prog 15 #[.string s] w fun e w' => e = .returned (unqV (unqL s.data.toList)) ∧ Below w.heap.size w w' := by
  obtain ⟨i0, hi, hz0, hz1, hz2⟩ := info_parts Tryd.info5b
  have hlen : s.data.toList.length = s.size := by simp
  by_cases h2 : s.size < 2
  · have Hr := Lib.hid (unqL_short (l := s.data.toList) (by omega))
    have h2' : (s.size : Int) < 2 := by omega
    clear hlen
    go_enter Tryd.func15, Tryd.ntmps15
    go_wp2
    go_ret2
    rw [Hr.out]
    exact ⟨rfl, Below.refl _ _⟩
  have h2' : ¬ (s.size : Int) < 2 := by omega
  have hp0 : 0 < s.size := by omega
  have hp1 : s.size - 1 < s.size := by omega
  have g0 : s.data.toList.getD 0 0 = s[0] := by rw [List.getD_eq_getElem?_getD, List.getElem?_eq_getElem (by omega)]; rfl
  have g1 : s.data.toList.getD (s.data.toList.length - 1) 0 = s[s.size - 1] := by rw [List.getD_eq_getElem?_getD, List.getElem?_eq_getElem (by omega)]; simp only [hlen]; rfl
  have ne : ∀ c : UInt8, c ≠ 34 → ((c.toNat : Int) != 34) = true := by
    intro c hd
    rw [bne_iff_ne]
    intro e
    exact hd (UInt8.toNat_inj.1 (show c.toNat = 34 by omega))
  have gw : IntKind.i64.wrap ((s.size : Int) - 1) = (s.size : Int) - 1 := IntWalk.i64_in _ (by omega)
  by_cases c0 : s[0] = 34
  · have e0 : ((s[0].toNat : Int) != 34) = false := by rw [c0]; rfl
    by_cases c1 : s[s.size - 1] = 34
    · have e1 : ((s[s.size - 1].toNat : Int) != 34) = false := by rw [c1]; rfl
      have HM := Lib.hid (unqL_mid (l := s.data.toList) (by omega) (g0.trans c0) (g1.trans c1))
      have gs : ∀ w : World, (Instr.slice 9 (.string s) (some (.int .i64 1)) (some (.int .i64 ((s.size : Int) - 1))) none).run Tryd.prog w = .ok (.string (s.extract 1 (s.size - 1))) w := fun w => by
        have h := run_slice_string (P := Tryd.prog) (w := w) 9 s .i64 .i64 1 ((s.size : Int) - 1) Tryd.underlying9 (by omega) (by omega) (by omega)
        rwa [show ((s.size : Int) - 1).toNat = s.size - 1 by omega] at h
      obtain ⟨t, ht⟩ : ∃ t, s.extract 1 (s.size - 1) = t := ⟨_, rfl⟩
      have htl : (s.data.toList.drop 1).take (s.data.toList.length - 2) = t.data.toList := by
        rw [← ht, Lib.extract_data, hlen]
        rfl
      have hts : t.size ≤ 5000 := by rw [← ht, ByteArray.size_extract]; omega
      rw [htl] at HM
      rw [ht] at gs
      clear htl ht hlen g0 g1 ne c0 c1
      go_enter Tryd.func15, Tryd.ntmps15
      go_wp2
      go_loopw [5, 6] (fun o i wr => ∃ (pos : Nat) (acc : List UInt8), pos ≤ t.size ∧ i = .int .i64 pos ∧ acc.length ≤ pos ∧ wr.ownsRow w.heap.size 5 1 o acc.length (Lib.byteCells acc) ∧
          unqU t.data.toList = (unqU (t.data.toList.drop pos)).map (acc ++ ·) ∧ Below w.heap.size w wr) (fun _ i _ => t.size - (intOf i).toNat)
      case atStart => exact ⟨0, [], Nat.zero_le _, rfl, Nat.le_refl _, World.ownsRow_nil _ _ _ _, by simp, Below.refl _ _⟩
      case round =>
        obtain ⟨pos, acc, hp, rfl, hal, hown, hacc, hb⟩ := hrel
        have Hacc := Lib.hid hacc
        clear hacc
        have htl : t.data.toList.length = t.size := by simp
        by_cases hlt : pos < t.size
        · have hlt' : (pos : Int) < (t.size : Int) := by omega
          have hne : t.data.toList.drop pos ≠ [] := by
            intro h
            have := congrArg List.length h
            simp at this
            omega
          obtain ⟨r, hr⟩ : ∃ r, firstS (t.data.toList.drop pos) = r := ⟨_, rfl⟩
          have hn := next_c t pos hts hp wr
          rw [hr] at hn
          have Hn := Lib.hid hn
          clear hn
          cases r with
          | none =>
            have Hu := Lib.hid (unqU_none _ hne hr)
            clear hne hr htl
            go_wp2_with fail
            refine Hn.out.mono ?_
            rintro e w1 ⟨rfl, b1⟩
            simp only [nextV]
            go_wp2
            go_ret2
            rw [HM.out, Hacc.out, Hu.out]
            exact ⟨rfl, chain2 hb b1⟩
          | some x =>
            obtain ⟨c, n⟩ := x
            have hfl := firstS_len _ c n hne hr
            have hn1 : 1 ≤ n := hfl.1
            have hpn : pos + n ≤ t.size := by have := hfl.2; simp at this; omega
            have Hu := Lib.hid (unqU_some _ c n hne hr)
            have n0 : ((n : Int) == 0) = false := by rw [beq_eq_false_iff_ne]; omega
            have gw2 : IntKind.i64.wrap ((pos : Int) + (n : Int)) = (pos : Int) + (n : Int) := IntWalk.i64_in _ (by omega)
            clear hne hr htl hfl
            go_wp2_with fail
            refine Hn.out.mono ?_
            rintro e w1 ⟨rfl, b1⟩
            simp only [nextV]
            have hown1 := row_past hown b1
            have hsz := hb.size
            have hsz1 := b1.size
            go_wp2_with (at_builtin; refine wpList_append_own _ rfl (.tmp 42) (.tmp 44) 46 rfl w.heap.size 5 i0 (.int .u8 0) 1 1 Tryd.underlying46 hi hz0 hz1 hz2 rfl (by decide) _ _ _ rfl (hown1.alloc _) ⟨w1.heap.size, 0, none⟩ 1 1 [.int .u8 (c.toNat : Int)] rfl rfl (cell_one_new _ _ _) ?c2 ?c3 ?c4 ?c5 ?_)
            case c2 => first | rfl | (intro u hu; simp at hu; subst hu; rfl)
            case c3 => unfold maxLen; omega
            case c4 => omega
            case c5 => simp; omega
            intro v' w2 hown' hgrow' _
            go_wp2
            go_roundw
            case rel =>
              refine ⟨pos + n, acc ++ [c], hpn, by go_num, by simp; omega, ?_, ?_, ((chain2 hb b1).alloc (by omega) _).grown hgrow' (by simp; omega) (fun j hj => (hown.lt j hj).1)⟩
              · rw [byteCells_snoc, List.length_append]
                exact hown'
              · rw [Hacc.out, Hu.out, List.drop_drop]
                cases unqU (t.data.toList.drop (pos + n)) with
                | none => rfl
                | some m => simp
            case measure => simp [intOf]; omega
        · obtain rfl : pos = t.size := by omega
          have hd : t.data.toList.drop t.size = [] := List.drop_of_length_le (by simp)
          rw [hd, unqU_nil] at Hacc
          have hcv := conv_own hown
          clear htl hd
          go_wp2
          go_ret2
          rw [HM.out, Hacc.out]
          exact ⟨by simp [unqV], hb⟩
    · have e1 := ne _ c1
      have Hr := Lib.hid (unqL_last (l := s.data.toList) (by rw [g1]; exact c1))
      clear hlen g0 g1 ne c0 c1
      go_enter Tryd.func15, Tryd.ntmps15
      go_wp2
      go_ret2
      rw [Hr.out]
      exact ⟨rfl, Below.refl _ _⟩
  · have e0 := ne _ c0
    have Hr := Lib.hid (unqL_first (l := s.data.toList) (by rw [g0]; exact c0))
    clear hlen g0 g1 ne c0
    go_enter Tryd.func15, Tryd.ntmps15
    go_wp2
    go_ret2
    rw [Hr.out]
    exact ⟨rfl, Below.refl _ _⟩
end Go.Proofs.YtfbmglfkppbkoaaDoor

/- soritesref02.Lex answers the tokens of a text, or where something is wrong: what lexR says of its bytes; texts of at most seventy thousand bytes, of five thousand where a quote stands. -/
import Derived.Test.YthjfkngfgomkbaaGreatDoorRone
import Derived.Test.YthjfkngfgomkbaaGreatDoorRskip
import Derived.Test.YthjfkngfgomkbaaGreatDoorDslice
import Derived.Test.YthjfkngfgomkbaaGreatDoorToks
import Derived.Maps.AppendAt
import Derived.WalkSpells
namespace Go.Proofs.YthjfkngfgomkbaaGreatDoor
open Go.RowKit

/-- From a place on where no blank stands. -/
def lexN (f n : Nat) (l : List UInt8) : List Tk × Option Nat :=
  if l = [] then ([], none) else
    match tokL l with
    | none => ([], some n)
    | some (k, s, z) => (⟨k, s, n⟩ :: (lexF f n (l.drop z)).1, (lexF f n (l.drop z)).2)
theorem lexF_N (f n : Nat) (l : List UInt8) : lexF (f + 1) n l = lexN f (n + gapLn l) (l.drop (gap false l)) := rfl
theorem lexN_nil (f n : Nat) : lexN f n [] = ([], none) := rfl
theorem lexN_bad {f n : Nat} {l : List UInt8} (h : l ≠ []) (ht : tokL l = none) : lexN f n l = ([], some n) := by unfold lexN; rw [if_neg h, ht]
theorem lexN_tok {f n : Nat} {l : List UInt8} (h : l ≠ []) {k z : Nat} {s : List UInt8} (ht : tokL l = some (k, s, z)) : lexN f n l = (⟨k, s, n⟩ :: (lexF f n (l.drop z)).1, (lexF f n (l.drop z)).2) := by unfold lexN; rw [if_neg h, ht]
def andThen (acc : List Tk) (x : List Tk × Option Nat) : List Tk × Option Nat := (acc ++ x.1, x.2)
theorem step_tok {acc : List Tk} {f n : Nat} {l : List UInt8} (h : l ≠ []) {k z : Nat} {s : List UInt8} (ht : tokL l = some (k, s, z)) (hf : l.length ≤ f) :
    ∃ f', ((l.drop z).drop (gap false (l.drop z))).length ≤ f' ∧ andThen acc (lexN f n l) = andThen (acc ++ [⟨k, s, n⟩]) (lexN f' (n + gapLn (l.drop z)) ((l.drop z).drop (gap false (l.drop z)))) := by
  obtain ⟨hz, hz2, _⟩ := tok_pos h ht
  cases f with
  | zero => exact absurd (List.eq_nil_of_length_eq_zero (by omega)) h
  | succ f' =>
    refine ⟨f', by simp only [List.length_drop]; omega, ?_⟩
    rw [lexN_tok h ht, lexF_N]
    unfold andThen
    simp
theorem done_good {l : List UInt8} {acc : List Tk} (hl : ¬ 65536 < l.length) (h : lexL l = andThen acc ([], none)) (ha : acc.length ≤ 20000) : lexR l = (acc, 0, 0) := by
  unfold lexR
  have h1 : (lexL l).1 = acc := by rw [h]; simp [andThen]
  have h2 : (lexL l).2 = none := by rw [h]; rfl
  rw [if_neg hl, h1, if_neg (by omega), h2]
theorem done_bad {l : List UInt8} {acc : List Tk} {n : Nat} (hl : ¬ 65536 < l.length) (h : lexL l = andThen acc ([], some n)) (ha : acc.length ≤ 20000) : lexR l = ([], n, 20) := by
  unfold lexR
  have h1 : (lexL l).1 = acc := by rw [h]; simp [andThen]
  have h2 : (lexL l).2 = some n := by rw [h]; rfl
  rw [if_neg hl, h1, if_neg (by omega), h2]
theorem done_many {l : List UInt8} {acc ts : List Tk} {t : Tk} {e : Option Nat} (hl : ¬ 65536 < l.length) (h : lexL l = andThen acc (t :: ts, e)) (ha : acc.length = 20000) : lexR l = ([], t.line, 21) := by
  unfold lexR
  have h1 : (lexL l).1 = acc ++ t :: ts := by rw [h]; simp [andThen]
  rw [if_neg hl, h1, if_pos (by simp; omega)]
  have : (acc ++ t :: ts).getD 20000 ⟨0, [], 0⟩ = t := by
    rw [List.getD_eq_getElem?_getD, List.getElem?_append_right (by omega), ha]
    simp
  rw [this]
theorem gapLn_le (l : List UInt8) : gapLn l ≤ gap false l := by
  unfold gapLn lines
  have h1 := List.count_le_length (a := (10 : UInt8)) (l := l.take (gap false l))
  have h2 : (l.take (gap false l)).length ≤ gap false l := List.length_take_le _ _
  omega

theorem rlex_long (s : ByteArray) (w : World) (h : 65536 < s.size) (hs : s.size ≤ maxLen) :
    Calls Tryz.prog 10 #[.string s] w (LexPost w (lexR s.data.toList)) := by
  unfold maxLen at hs
  have Hr : Hid (lexR s.data.toList = ([], 0, 21)) := Lib.hid (lexR_long (by rw [data_len]; exact h))
  have h' : (65536 : Int) < (s.size : Int) := by omega
  go_enter Tryz.func10, Tryz.ntmps10
  go_wp2
  go_ret3
  unfold LexPost
  rw [Hr.out]
  exact ⟨_, rfl, World.ownsRow_nil _ _ _ _, Below.refl _ _⟩

theorem own_form {w : World} {B e z n : Nat} {v : Value} {xs : List Value} (h : w.ownsRow B e z v n xs) : ∃ o cap, v = .slice o n cap := by
  rcases h.2 with ⟨rfl, h0⟩ | ⟨g, cap, cur, rfl, _⟩
  · exact ⟨none, 0, by rw [h0]⟩
  · exact ⟨_, _, rfl⟩
theorem tok_new2 (W : World) (T : Obj) (t : Tk) : ∀ j u, (tokRow t)[j]? = some u → ((W.alloc T).alloc (.cells #[.int .i64 (t.kind : Int), .string ⟨t.s.toArray⟩, .int .i64 (t.line : Int)] 50)).cell? ((⟨W.heap.size + 1, 0, none⟩ : Addr).add j) = some u := by
  have := tok_new (W.alloc T) t
  rwa [World.size_alloc] at this
theorem rlex_nil {w : World} {r : List Tk × Nat × Nat} {wr : World} {n e : Nat} (h : r = ([], n, e)) (hB : Below w.heap.size w wr) : LexPost w r (.returned (.tuple #[.slice none 0 0, .int .i64 (n : Int), .int .i64 (e : Int)])) wr := by
  subst h
  exact ⟨_, rfl, World.ownsRow_nil _ _ _ _, hB⟩

set_option maxRecDepth 100000 in
set_option maxHeartbeats 8000000 in
theorem rlex_short (s : ByteArray) (w : World) (h : ¬ 65536 < s.size) (h5 : ∀ (i : Nat) (hi : i < s.size), s[i] = 34 → s.size ≤ 5000) :
    Calls Tryz.prog 10 #[.string s] w (LexPost w (lexR s.data.toList)) := by
  obtain ⟨i0, hi, hz0, hz1, hz2⟩ := info_parts infoTok
  have h' : ¬ (65536 : Int) < (s.size : Int) := by omega
  have hL : ¬ 65536 < s.data.toList.length := by rw [data_len]; exact h
  have Hsk := Lib.hid (fun (j : Nat) (hj : j ≤ s.size) (w : World) => rskip_c s j hj (by omega) w)
  have Hone := Lib.hid (fun (j : Nat) (hj : j < s.size) (w : World) => rone_c s j hj (by omega) (h5 j hj) w)
  have hg0 := gap_len false s.data.toList
  rw [data_len] at hg0
  have hgl0 := gapLn_le s.data.toList
  obtain ⟨g0, hg⟩ : ∃ g, gap false s.data.toList = g := ⟨_, rfl⟩
  obtain ⟨n0, hn⟩ : ∃ n, gapLn s.data.toList = n := ⟨_, rfl⟩
  have hstart : lexL s.data.toList = andThen [] (lexN s.data.toList.length (1 + n0) (s.data.toList.drop g0)) := by
    rw [← hg, ← hn]
    unfold lexL
    rw [lexF_N]
    simp [andThen]
  have Hs0 : Hid (∀ w, Calls Tryz.prog 24 #[.string s, .int .i64 0] w fun e w' => e = .returned (skipV g0 n0) ∧ w = w') := Lib.hid fun w => by
    have := Hsk.out 0 (Nat.zero_le _) w
    rw [List.drop_zero, hg, hn, Nat.zero_add] at this
    exact this
  rw [hg] at hg0 hgl0
  rw [hn] at hgl0
  have Hst := Lib.hid hstart
  have HL := Lib.hid hL
  have H5 := Lib.hid h5
  clear hstart hg hn h5 hL
  go_enter Tryz.func10, Tryz.ntmps10
  go_wp2_with fail
  refine (Hs0.out _).mono ?_
  rintro e w' ⟨rfl, rfl⟩
  simp only [skipV]
  go_wp2
  go_loopw [5, 6, 7] (fun o ln at' wr => ∃ (j L f : Nat) (acc : List Tk), j ≤ s.size ∧ L ≤ 1 + j ∧ s.size - j ≤ f ∧ acc.length ≤ 20000 ∧ at' = .int .i64 j ∧ ln = .int .i64 L ∧
      lexL s.data.toList = andThen acc (lexN f L (s.data.toList.drop j)) ∧ wr.ownsRow w.heap.size 50 3 o acc.length (tokCells acc) ∧ Below w.heap.size w wr) (fun _ _ a _ => s.size - (intOf a).toNat)
  case atStart => exact ⟨g0, 1 + n0, s.data.toList.length, [], hg0, by omega, by rw [data_len]; omega, by simp, rfl, by go_num, Hst.out, World.ownsRow_nil _ _ _ _, Below.refl _ _⟩
  case round =>
    obtain ⟨j, L, f, acc, hj, hL1, hf, ha, rfl, rfl, hrel, hown, hB⟩ := hrel
    obtain ⟨o, cap, rfl⟩ := own_form hown
    have Hr := Lib.hid hrel
    clear hrel
    by_cases hlt : j < s.size
    · have hlt' : (j : Int) < (s.size : Int) := by omega
      have hne : s.data.toList.drop j ≠ [] := by rw [drop_cons s j hlt]; simp
      have hlen : (s.data.toList.drop j).length = s.size - j := by simp
      have ho := fun w => Hone.out j hlt w
      cases ht : tokL (s.data.toList.drop j) with
      | none =>
        have Hz : Hid (lexR s.data.toList = ([], L, 20)) := Lib.hid (done_bad HL.out (by rw [Hr.out, lexN_bad hne ht]) ha)
        have Ho : Hid (∀ w, Calls Tryz.prog 25 #[.string s, .int .i64 (j : Int)] w fun e w' => e = .returned (.tuple #[.agg #[.int .i64 0, .string ⟨#[]⟩, .int .i64 0], .int .i64 0]) ∧ Below w.heap.size w w') := Lib.hid fun w => by
          have := ho w
          rw [ht] at this
          exact this
        clear ho ht hne hlen hown
        go_wp2_with fail
        refine (Ho.out _).mono ?_
        rintro e w1 ⟨rfl, b1⟩
        go_wp2
        go_ret3
        exact rlex_nil Hz.out ((hB.trans (b1.mono hB.size)).alloc (by have := hB.size; have := b1.size; omega) _)
      | some x =>
        obtain ⟨k, x, z⟩ := x
        obtain ⟨hz1', hz2', _⟩ := tok_pos hne ht
        have hjz : j + z ≤ s.size := by omega
        have Ho : Hid (∀ w, Calls Tryz.prog 25 #[.string s, .int .i64 (j : Int)] w fun e w' => e = .returned (.tuple #[.agg #[.int .i64 (k : Int), .string ⟨x.toArray⟩, .int .i64 0], .int .i64 ((j : Int) + (z : Int))]) ∧ Below w.heap.size w w') := Lib.hid fun w => by
          have := ho w
          rw [ht] at this
          rw [← Int.natCast_add]
          exact this
        have n0' : ¬ (j : Int) + (z : Int) = 0 := by omega
        by_cases hfull : acc.length = 20000
        · have Hz : Hid (lexR s.data.toList = ([], L, 21)) := Lib.hid (done_many HL.out (by rw [Hr.out, lexN_tok hne ht]) hfull)
          have hf' : ((acc.length : Int) == 20000) = true := by simp; omega
          clear ho ht hne hlen hown hfull hi hz0 hz1 hz2
          go_wp2_with fail
          refine (Ho.out _).mono ?_
          rintro e w1 ⟨rfl, b1⟩
          go_wp2
          go_ret3
          exact rlex_nil Hz.out ((hB.trans (b1.mono hB.size)).alloc (by have := hB.size; have := b1.size; omega) _)
        · have hf' : ((acc.length : Int) == 20000) = false := by simp; omega
          obtain ⟨f2, hf2, hst⟩ := step_tok (acc := acc) (n := L) hne ht (by rw [hlen]; exact hf)
          simp only [List.drop_drop] at hst hf2
          have hs2 := fun w => Hsk.out (j + z) hjz w
          have hgl := gap_len false (s.data.toList.drop (j + z))
          have hgn := gapLn_le (s.data.toList.drop (j + z))
          have hlen2 : (s.data.toList.drop (j + z)).length = s.size - (j + z) := by simp
          obtain ⟨g2, hg2⟩ : ∃ g, gap false (s.data.toList.drop (j + z)) = g := ⟨_, rfl⟩
          obtain ⟨m2, hm2⟩ : ∃ m, gapLn (s.data.toList.drop (j + z)) = m := ⟨_, rfl⟩
          rw [hlen2] at hgl
          rw [hg2] at hgl hst hf2 hgn
          rw [hm2] at hst hgn
          have Hst2 := Lib.hid (Hr.out.trans hst)
          have Hs2 : Hid (∀ w, Calls Tryz.prog 24 #[.string s, .int .i64 ((j : Int) + (z : Int))] w fun e w' => e = .returned (skipV (j + z + g2) m2) ∧ w = w') := Lib.hid fun w => by
            have := hs2 w
            rw [hg2, hm2] at this
            rw [← Int.natCast_add]
            exact this
          have HL1 : Hid (acc.length + 1 ≤ maxLen) := Lib.hid (by unfold maxLen; omega)
          have HL2 : Hid ((acc.length + 1) * 32 ≤ 140737488355328) := Lib.hid (by omega)
          have hfd : s.size - (j + z + g2) ≤ f2 := by simpa using hf2
          have ha' : acc.length + 1 ≤ 20000 := by omega
          clear ho ht hne hlen hfull hst hg2 hm2 hf2 hlen2 hs2
          have Hown := Lib.hid hown
          clear hown
          go_wp2_with fail
          refine (Ho.out _).mono ?_
          rintro e w1 ⟨rfl, b1⟩
          have hown1 := row_past Hown.out b1
          have hBs := hB.size
          have hbs := b1.size
          go_wp2_with (at_builtin; refine wpList_append_own _ rfl (.tmp 43) (.tmp 45) 24 rfl w.heap.size 50 i0 _ 3 32 Tryz.underlying24 hi hz0 hz1 hz2 rfl (by decide) _ acc.length _ rfl ((hown1.alloc _).alloc _) ⟨w1.heap.size + 1, 0, none⟩ 1 1 (tokRow ⟨k, x, L⟩) rfl rfl (tok_new2 _ _ ⟨k, x, L⟩) (tok_one ⟨k, x, L⟩) HL1.out HL2.out (by simp; omega) ?_)
          intro v' w2 hown' hgrow' _
          go_wp2_with fail
          refine (Hs2.out _).mono ?_
          rintro e w' ⟨rfl, rfl⟩
          simp only [skipV]
          go_wp2
          go_roundw
          case rel =>
            refine ⟨j + z + g2, L + m2, f2, acc ++ [⟨k, x, L⟩], by omega, by omega, hfd, by simp; omega, by go_num, by go_num, Hst2.out, ?_, ((((hB.trans (b1.mono hBs)).alloc (by omega) _).alloc (by simp; omega) _).grown hgrow' (by simp; omega) (fun j hj => (Hown.out.lt j hj).1))⟩
            rw [List.length_append]
            simpa [tokCells, tokRow] using hown'
          case measure => simp [intOf]; omega
    · have hlt' : ¬ (j : Int) < (s.size : Int) := by omega
      have hd : s.data.toList.drop j = [] := List.drop_of_length_le (by simp; omega)
      have Hz := Lib.hid (done_good (l := s.data.toList) (acc := acc) HL.out (by rw [Hr.out, hd, lexN_nil]) ha)
      clear hd
      go_wp2
      go_ret3
      unfold LexPost
      rw [Hz.out]
      exact ⟨_, rfl, hown, hB⟩

theorem rlex_c (s : ByteArray) (w : World) (hs : s.size ≤ maxLen) (h5 : ∀ (i : Nat) (hi : i < s.size), s[i] = 34 → s.size ≤ 5000) :
    Calls Tryz.prog 10 #[.string s] w (LexPost w (lexR s.data.toList)) := by
  by_cases h : 65536 < s.size
  · exact rlex_long s w h hs
  · exact rlex_short s w h h5
end Go.Proofs.YthjfkngfgomkbaaGreatDoor

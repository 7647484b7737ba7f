/- dlex.shape, isSign, symbol, meaning: which token the first bytes of a text are, and what it says; in every world that holds the listed variables. -/
import Derived.Test.YthjfkngfgomkbaaGreatDoorDgap
import Derived.Test.YthjfkngfgomkbaaGreatDoorLexA
import Derived.Test.YthjfkngfgomkbaaGreatDoorUnquote
namespace Go.Proofs.YthjfkngfgomkbaaGreatDoor
open Go.RowKit

/-- The listed variables, as they stand. -/
structure DEnv (a b c : Addr) (w : World) : Prop where
  env : Env a w
  noTok : w.cell? ⟨3, 0, none⟩ = some (.iface 214 (.pointer (some b)))
  many : w.cell? ⟨0, 0, none⟩ = some (.iface 214 (.pointer (some c)))
  typ : w.cell? ⟨2, 0, none⟩ = some (.iface 138 (.agg #[.pointer (some ⟨12, 52, none⟩)]))
  ne : b ≠ c
theorem DEnv.belowB {a b c : Addr} {w w' : World} {B : Nat} (hB : 8 ≤ B) (h : DEnv a b c w) (hb : Below B w w') : DEnv a b c w' :=
  ⟨h.env.belowB hB hb, (hb.cell (p := ⟨3, 0, none⟩) (by show 3 < _; omega)).trans h.noTok, (hb.cell (p := ⟨0, 0, none⟩) (by show 0 < _; omega)).trans h.many,
    (hb.cell (p := ⟨2, 0, none⟩) (by show 2 < _; omega)).trans h.typ, h.ne⟩
theorem DEnv.below {a b c : Addr} {w w' : World} (h : DEnv a b c w) (hb : Below w.heap.size w w') : DEnv a b c w' := h.belowB h.env.size hb

set_option maxHeartbeats 1000000 in
theorem shape_c (s : ByteArray) (w : World) (hpos : 1 ≤ s.size) (hs : s.size ≤ 1073741824) :
    Calls Tryz.prog 46 #[.string s] w fun e w' => e = .returned (.tuple #[.int .i64 ((shapeL s.data.toList).1 : Nat), .int .i64 ((shapeL s.data.toList).2 : Nat)]) ∧ w = w' := by
  have h0 : 0 < s.size := by omega
  obtain ⟨t, ht⟩ : ∃ t, s.data.toList.drop 1 = t := ⟨_, rfl⟩
  have hl : s.data.toList = s[0] :: t := by have := drop_cons s 0 h0; rw [List.drop_zero] at this; rw [this, ht]
  have hx : (s.extract 1 s.size).data.toList = t := (Lib.extract_to_end s 1).trans ht
  have htl : s.data.toList.tail = t := by rw [hl]; rfl
  have Hl := Lib.hid hl
  have Hx := Lib.hid hx
  have Htl := Lib.hid htl
  have hm : s.size ≤ maxLen := by unfold maxLen; omega
  have Hm := Lib.hid hm
  clear hl hx ht htl hm
  cases h1 : digB ((s[0]'h0).toNat : Int) with
  | true =>
    have Hr : Hid (shapeL s.data.toList = (2, runN partB s.data.toList)) := Lib.hid (by rw [Hl.out, shapeL_cons, if_pos h1])
    go_enter Tryz.func46, Tryz.ntmps46
    go_wp2_with (first | (go_at_call 83; refine (ddigit_c _ _).mono ?_; rintro e w' ⟨rfl, rfl⟩) | (go_at_call 84; refine (runSize_part _ _ Hm.out).mono ?_; rintro e w' ⟨rfl, rfl⟩))
    go_ret2
    exact ⟨by rw [Hr.out]; rfl, rfl⟩
  | false =>
    have n1 : ¬ digB ((s[0]'h0).toNat : Int) = true := by rw [h1]; decide
    cases h2 : partB (s[0]'h0) with
    | true =>
      have Hr : Hid (shapeL s.data.toList = (1, runN partB s.data.toList)) := Lib.hid (by rw [Hl.out, shapeL_cons, if_neg n1, if_pos h2])
      clear n1
      go_enter Tryz.func46, Tryz.ntmps46
      go_wp2_with (first | (go_at_call 83; refine (ddigit_c _ _).mono ?_; rintro e w' ⟨rfl, rfl⟩) | (go_at_call 85; refine (dpart_c _ _).mono ?_; rintro e w' ⟨rfl, rfl⟩) | (go_at_call 84; refine (runSize_part _ _ Hm.out).mono ?_; rintro e w' ⟨rfl, rfl⟩))
      go_ret2
      exact ⟨by rw [Hr.out]; rfl, rfl⟩
    | false =>
      have n2 : ¬ partB (s[0]'h0) = true := by rw [h2]; decide
      by_cases h3 : s[0]'h0 = 34
      · have Hr : Hid (shapeL s.data.toList = (3, 1 + symN false s.data.toList.tail)) := Lib.hid (by rw [Htl.out, Hl.out, shapeL_cons, if_neg n1, if_neg n2, if_pos h3])
        have e3 : (((s[0]'h0).toNat : Int) == 34) = true := by rw [h3]; rfl
        clear n1 n2 h3
        go_enter Tryz.func46, Tryz.ntmps46
        go_wp2_with (first | (go_at_call 83; refine (ddigit_c _ _).mono ?_; rintro e w' ⟨rfl, rfl⟩) | (go_at_call 85; refine (dpart_c _ _).mono ?_; rintro e w' ⟨rfl, rfl⟩) | (go_at_call 86; refine (symbolSize_c _ _ hpos Hm.out).mono ?_; rintro e w' ⟨rfl, rfl⟩))
        go_ret2
        exact ⟨by rw [Hr.out]; rfl, rfl⟩
      have e3 : (((s[0]'h0).toNat : Int) == 34) = false := by rw [beq_eq_false_iff_ne]; intro e; exact h3 ((u8_eq _ 34).2 e)
      by_cases h4 : s[0]'h0 = 46
      · have e4 : (((s[0]'h0).toNat : Int) == 46) = true := by rw [h4]; rfl
        have Hm1 : Hid ((s.extract 1 s.size).size ≤ maxLen) := Lib.hid (by unfold maxLen; simp; omega)
        obtain ⟨r, hr⟩ : ∃ r, runN smallB t = r := ⟨_, rfl⟩
        have Hrs : Hid (runN smallB (s.extract 1 s.size).data.toList = r) := Lib.hid (by rw [Hx.out, hr])
        have hrl : r ≤ s.size := by
          have h := runN_len smallB t
          have h5 : s.data.toList.length = s.size := by simp
          rw [Hl.out, List.length_cons] at h5
          omega
        by_cases h5 : 0 < r
        · have Hr : Hid (shapeL s.data.toList = (5, 1 + r)) := Lib.hid (by rw [Hl.out, shapeL_cons, if_neg n1, if_neg n2, if_neg h3, if_pos ⟨h4, by rw [hr]; exact h5⟩, hr])
          have h5' : (0 : Int) < (r : Int) := by omega
          clear n1 n2 h3 h4 hr
          go_enter Tryz.func46, Tryz.ntmps46
          go_wp2_with (first | (go_at_call 83; refine (ddigit_c _ _).mono ?_; rintro e w' ⟨rfl, rfl⟩) | (go_at_call 85; refine (dpart_c _ _).mono ?_; rintro e w' ⟨rfl, rfl⟩) | (go_at_call 84; refine (runSize_small _ _ Hm1.out).mono ?_; rw [Hrs.out]; rintro e w' ⟨rfl, rfl⟩))
          go_ret2
          exact ⟨by rw [Hr.out]; simp, rfl⟩
        · have Hr : Hid (shapeL s.data.toList = (4, signN s.data.toList)) := Lib.hid (by rw [Hl.out, shapeL_cons, if_neg n1, if_neg n2, if_neg h3, if_neg]; rintro ⟨_, h⟩; omega)
          have h5' : ¬ (0 : Int) < (r : Int) := by omega
          clear n1 n2 h3 h4 hr h5
          go_enter Tryz.func46, Tryz.ntmps46
          go_wp2_with (first | (go_at_call 83; refine (ddigit_c _ _).mono ?_; rintro e w' ⟨rfl, rfl⟩) | (go_at_call 85; refine (dpart_c _ _).mono ?_; rintro e w' ⟨rfl, rfl⟩) | (go_at_call 84; refine (runSize_small _ _ Hm1.out).mono ?_; rw [Hrs.out]; rintro e w' ⟨rfl, rfl⟩) | (go_at_call 88; refine (signSize_c _ _ Hm.out).mono ?_; rintro e w' ⟨rfl, rfl⟩))
          go_ret2
          exact ⟨by rw [Hr.out]; rfl, rfl⟩
      · have e4 : (((s[0]'h0).toNat : Int) == 46) = false := by rw [beq_eq_false_iff_ne]; intro e; exact h4 ((u8_eq _ 46).2 e)
        have Hr : Hid (shapeL s.data.toList = (4, signN s.data.toList)) := Lib.hid (by rw [Hl.out, shapeL_cons, if_neg n1, if_neg n2, if_neg h3, if_neg]; rintro ⟨h, _⟩; exact h4 h)
        clear n1 n2 h3 h4
        go_enter Tryz.func46, Tryz.ntmps46
        go_wp2_with (first | (go_at_call 83; refine (ddigit_c _ _).mono ?_; rintro e w' ⟨rfl, rfl⟩) | (go_at_call 85; refine (dpart_c _ _).mono ?_; rintro e w' ⟨rfl, rfl⟩) | (go_at_call 88; refine (signSize_c _ _ Hm.out).mono ?_; rintro e w' ⟨rfl, rfl⟩))
        go_ret2
        exact ⟨by rw [Hr.out]; rfl, rfl⟩

theorem short_fin : ∀ c : Fin 256, shortB (UInt8.ofNat c.1) = decide (0 ≤ Lib.indexByte shortL (UInt8.ofNat c.1)) := by decide +kernel
theorem short_ix (c : UInt8) : shortB c = decide (0 ≤ Lib.indexByte shortL c) := by
  have := short_fin ⟨c.toNat, c.toNat_lt⟩
  simpa only [ofNat_toNat] using this
theorem indexShort_c (c : UInt8) (n : Int) (h : Lib.indexByte shortL c = n) (w : World) :
    Calls Tryz.prog 112 #[.string ⟨#[40, 41, 123, 125, 44, 46, 58, 33, 61, 60, 62, 43, 45, 42]⟩, .int .u8 (c.toNat : Int)] w fun e w' => e = .returned (.int .i64 n) ∧ w = w' :=
  (Tryz.strings_IndexByte _ _ w).mono fun _ _ ⟨h1, h2⟩ => ⟨by
    have h3 : ((c.toNat : Int).toNat.toUInt8 : UInt8) = c := by simp
    rw [h1, h3, ← h]; rfl, h2.symm⟩
set_option maxHeartbeats 1000000 in
theorem isSign_c (s : ByteArray) (w : World) (hpos : 1 ≤ s.size) (hs : s.size ≤ 1073741824) :
    Calls Tryz.prog 92 #[.string s] w fun e w' => e = .returned (.bool (longB s.data.toList || shortB (s.data.toList.getD 0 0))) ∧ w = w' := by
  have h0 : 0 < s.size := by omega
  have hg : s.data.toList.getD 0 0 = s[0]'h0 := by rw [List.getD_eq_getElem?_getD, List.getElem?_eq_getElem (by simpa using h0)]; rfl
  have hsx := short_ix (s[0]'h0)
  obtain ⟨n, hn⟩ : ∃ n, Lib.indexByte shortL (s[0]'h0) = n := ⟨_, rfl⟩
  rw [hn] at hsx
  have Hn := Lib.hid hn
  have Hg := Lib.hid hg
  have Hs := Lib.hid hsx
  clear hn hg hsx
  go_enter Tryz.func92, Tryz.ntmps92
  go_wp2_with (first | (go_at_call 114; refine (dlong_c _ _).mono ?_; rintro e w' ⟨rfl, rfl⟩) | (go_at_call 112; refine (indexShort_c _ _ Hn.out _).mono ?_; rintro e w' ⟨rfl, rfl⟩))
  all_goals go_ret
  all_goals exact ⟨ret_bool (by rw [Hg.out, Hs.out]; simp [*]), rfl⟩

theorem dclone_c (s : ByteArray) (w : World) (hs : s.size ≤ 1073741824) :
    Calls Tryz.prog 93 #[.string s] w fun e w' => e = .returned (.string s) ∧ Below w.heap.size w w' := by
  have hl : s.size ≤ 281474976710656 := by omega
  go_enter Tryz.func93, Tryz.ntmps93
  go_wp2_with fail
  refine (Tryz.stringslite_Clone s _ hl).mono ?_
  rintro e w1 ⟨rfl, b1⟩
  go_wp2
  go_ret
  exact ⟨rfl, b1⟩

/-- What a token says, or the error that it is none. -/
def meanV (b : Addr) : Option (List UInt8) → Value
  | some t => .tuple #[.string ⟨t.toArray⟩, .nilIface]
  | none => .tuple #[.string ⟨#[]⟩, .iface 214 (.pointer (some b))]
theorem str_eta (s : ByteArray) : (⟨s.data.toList.toArray⟩ : ByteArray) = s := by cases s; simp

set_option maxHeartbeats 1000000 in
theorem symbol_c (s : ByteArray) (a b c : Addr) (w : World) (hs : s.size ≤ 1073741824) (E : DEnv a b c w) :
    Calls Tryz.prog 89 #[.string s] w fun e w' => e = .returned (meanV b (unqL s.data.toList)) ∧ Below w.heap.size w w' := by
  have hu := unquote_c s a w hs E.env
  have HE := Lib.hid E
  obtain ⟨r, hr⟩ : ∃ r, unqL s.data.toList = r := ⟨_, rfl⟩
  rw [hr] at hu ⊢
  have Hu := Lib.hid hu
  clear hu hr E
  cases r with
  | none =>
    go_enter Tryz.func89, Tryz.ntmps89
    go_wp2_with fail
    refine Hu.out.mono ?_
    rintro e w1 ⟨rfl, b1⟩
    have en := (HE.out.below b1).noTok
    simp only [unqV]
    go_wp2
    go_quiet (fail)
    go_wp2
    go_ret2
    exact ⟨rfl, b1.trans (below_drewN (Below.refl _ _) _)⟩
  | some t =>
    go_enter Tryz.func89, Tryz.ntmps89
    go_wp2_with fail
    refine Hu.out.mono ?_
    rintro e w1 ⟨rfl, b1⟩
    simp only [unqV]
    go_wp2
    go_ret2
    exact ⟨rfl, b1⟩

def rightB (k : Nat) (b : List UInt8) : Bool := if k = 1 then decide (b = [95]) || nameB b else if k = 2 then (numL b).isSome else if k = 5 then wordB b else longB b || shortB (b.getD 0 0)
theorem mean_right {k : Nat} {b : List UInt8} (hk : k ≠ 3) : meanL k b = if rightB k b = true then some b else none := by
  unfold meanL rightB
  rw [if_neg hk]
theorem meanV_some (b : Addr) (s : ByteArray) : meanV b (some s.data.toList) = .tuple #[.string s, .nilIface] := by rw [meanV, str_eta]

set_option maxHeartbeats 2000000 in
theorem meaning_4 (s : ByteArray) (a b c : Addr) (w : World) (hpos : 1 ≤ s.size) (hs : s.size ≤ 1073741824) (E : DEnv a b c w) :
    Calls Tryz.prog 47 #[.int .i64 4, .string s] w fun e w' => e = .returned (meanV b (meanL 4 s.data.toList)) ∧ Below w.heap.size w w' := by
  have hm : s.size ≤ maxLen := by unfold maxLen; omega
  have hr := mean_right (k := 4) (b := s.data.toList) (by decide)
  have Hr := Lib.hid hr
  have Hm := Lib.hid hm
  have HE := Lib.hid E
  obtain ⟨r, hrr⟩ : ∃ r, (longB s.data.toList || shortB (s.data.toList.getD 0 0)) = r := ⟨_, rfl⟩
  have Hb : Hid (rightB 4 s.data.toList = r) := Lib.hid hrr
  have hc := isSign_c s w hpos hs
  rw [hrr] at hc
  have Hc := Lib.hid hc
  clear hc hrr
  clear hr hm E
  cases r with
  | true =>
    go_enter Tryz.func47, Tryz.ntmps47
    go_wp2_with fail
    refine Hc.out.mono ?_
    rintro e w1 ⟨rfl, rfl⟩
    go_wp2_with fail
    refine (dclone_c s _ hs).mono ?_
    rintro e w1 ⟨rfl, b1⟩
    go_wp2
    go_ret2
    exact ⟨by rw [Hr.out, Hb.out, if_pos rfl, meanV_some]; rfl, b1⟩
  | false =>
    have en := HE.out.noTok
    go_enter Tryz.func47, Tryz.ntmps47
    go_wp2_with fail
    refine Hc.out.mono ?_
    rintro e w1 ⟨rfl, rfl⟩
    go_wp2
    go_quiet (fail)
    go_wp2
    go_ret2
    exact ⟨by rw [Hr.out, Hb.out, if_neg (by decide)]; rfl, below_drewN (Below.refl _ _) _⟩

set_option maxHeartbeats 2000000 in
theorem meaning_5 (s : ByteArray) (a b c : Addr) (w : World) (hpos : 1 ≤ s.size) (hs : s.size ≤ 1073741824) (E : DEnv a b c w) :
    Calls Tryz.prog 47 #[.int .i64 5, .string s] w fun e w' => e = .returned (meanV b (meanL 5 s.data.toList)) ∧ Below w.heap.size w w' := by
  have hm : s.size ≤ maxLen := by unfold maxLen; omega
  have hr := mean_right (k := 5) (b := s.data.toList) (by decide)
  have Hr := Lib.hid hr
  have Hm := Lib.hid hm
  have HE := Lib.hid E
  have Hl : Hid (s.toList = s.data.toList) := Lib.hid (Lib.toList_data s)
  clear hr hm E
  cases hb : wordB s.data.toList with
  | true =>
    have Hb : Hid (rightB 5 s.data.toList = true) := Lib.hid hb
    have hw : s.toList = [46, 100, 101, 99, 108] ∨ s.toList = [46, 105, 110, 112, 117, 116] ∨ s.toList = [46, 111, 117, 116, 112, 117, 116] := by rw [Hl.out]; unfold wordB at hb; simpa using hb
    clear hb
    have done : ∀ w1, Below w.heap.size w w1 → ((Ending.returned (.tuple #[.string s, .nilIface]) : Ending) = .returned (meanV b (meanL 5 s.data.toList)) ∧ Below w.heap.size w w1) := fun w1 b1 => ⟨by rw [Hr.out, Hb.out, if_pos rfl, meanV, str_eta], b1⟩
    rcases hw with hw | hw | hw
    · have t1 : (s.toList == [46, 100, 101, 99, 108]) = true := by simp [hw]
      clear hw
      go_enter Tryz.func47, Tryz.ntmps47
      go_wp2_with fail
      refine (dclone_c s _ hs).mono ?_
      rintro e w1 ⟨rfl, b1⟩
      go_wp2
      go_ret2
      exact done _ b1
    · have t1 : (s.toList == [46, 100, 101, 99, 108]) = false := by simp [hw]
      have t2 : (s.toList == [46, 105, 110, 112, 117, 116]) = true := by simp [hw]
      clear hw
      go_enter Tryz.func47, Tryz.ntmps47
      go_wp2_with fail
      refine (dclone_c s _ hs).mono ?_
      rintro e w1 ⟨rfl, b1⟩
      go_wp2
      go_ret2
      exact done _ b1
    · have t1 : (s.toList == [46, 100, 101, 99, 108]) = false := by simp [hw]
      have t2 : (s.toList == [46, 105, 110, 112, 117, 116]) = false := by simp [hw]
      have t3 : (s.toList == [46, 111, 117, 116, 112, 117, 116]) = true := by simp [hw]
      clear hw
      go_enter Tryz.func47, Tryz.ntmps47
      go_wp2_with fail
      refine (dclone_c s _ hs).mono ?_
      rintro e w1 ⟨rfl, b1⟩
      go_wp2
      go_ret2
      exact done _ b1
  | false =>
    have Hb : Hid (rightB 5 s.data.toList = false) := Lib.hid hb
    have hw : s.toList ≠ [46, 100, 101, 99, 108] ∧ s.toList ≠ [46, 105, 110, 112, 117, 116] ∧ s.toList ≠ [46, 111, 117, 116, 112, 117, 116] := by rw [Hl.out]; unfold wordB at hb; simpa using hb
    have t1 : (s.toList == [46, 100, 101, 99, 108]) = false := by simp [hw.1]
    have t2 : (s.toList == [46, 105, 110, 112, 117, 116]) = false := by simp [hw.2.1]
    have t3 : (s.toList == [46, 111, 117, 116, 112, 117, 116]) = false := by simp [hw.2.2]
    clear hb hw
    have en := HE.out.noTok
    go_enter Tryz.func47, Tryz.ntmps47
    go_wp2
    go_quiet (fail)
    go_wp2
    go_ret2
    exact ⟨by rw [Hr.out, Hb.out, if_neg (by decide)]; rfl, below_drewN (Below.refl _ _) _⟩

set_option maxHeartbeats 2000000 in
theorem meaning_2 (s : ByteArray) (a b c : Addr) (w : World) (hpos : 1 ≤ s.size) (hs : s.size ≤ 1073741824) (E : DEnv a b c w) :
    Calls Tryz.prog 47 #[.int .i64 2, .string s] w fun e w' => e = .returned (meanV b (meanL 2 s.data.toList)) ∧ Below w.heap.size w w' := by
  have hm : s.size ≤ maxLen := by unfold maxLen; omega
  have hr := mean_right (k := 2) (b := s.data.toList) (by decide)
  have Hr := Lib.hid hr
  have Hm := Lib.hid hm
  have HE := Lib.hid E
  have hc := parse_c s a w hm E.env
  obtain ⟨r, hrr⟩ : ∃ r, numL s.data.toList = r := ⟨_, rfl⟩
  have Hb : Hid (rightB 2 s.data.toList = r.isSome) := Lib.hid (by rw [← hrr]; rfl)
  rw [hrr] at hc
  have Hc := Lib.hid hc
  clear hc hrr
  clear hr hm E
  cases r with
  | some n =>
    go_enter Tryz.func47, Tryz.ntmps47
    go_wp2_with fail
    refine Hc.out.mono ?_
    rintro e w1 ⟨rfl, b1⟩
    simp only [parseV]
    go_wp2_with fail
    refine (dclone_c s _ hs).mono ?_
    rintro e w2 ⟨rfl, b2⟩
    go_wp2
    go_ret2
    exact ⟨by rw [Hr.out, Hb.out, Option.isSome_some, if_pos rfl, meanV_some]; rfl, chain2 b1 b2⟩
  | none =>
    go_enter Tryz.func47, Tryz.ntmps47
    go_wp2_with fail
    refine Hc.out.mono ?_
    rintro e w1 ⟨rfl, b1⟩
    have en := (HE.out.below b1).noTok
    simp only [parseV]
    go_wp2
    go_quiet (fail)
    go_wp2
    go_ret2
    exact ⟨by rw [Hr.out, Hb.out, Option.isSome_none, if_neg (by decide)]; rfl, b1.trans (below_drewN (Below.refl _ _) _)⟩

set_option maxHeartbeats 2000000 in
theorem meaning_1 (s : ByteArray) (a b c : Addr) (w : World) (hpos : 1 ≤ s.size) (hs : s.size ≤ 1073741824) (E : DEnv a b c w) :
    Calls Tryz.prog 47 #[.int .i64 1, .string s] w fun e w' => e = .returned (meanV b (meanL 1 s.data.toList)) ∧ Below w.heap.size w w' := by
  have hm : s.size ≤ maxLen := by unfold maxLen; omega
  have hr := mean_right (k := 1) (b := s.data.toList) (by decide)
  have Hr := Lib.hid hr
  have Hm := Lib.hid hm
  have HE := Lib.hid E
  have Hl : Hid (s.toList = s.data.toList) := Lib.hid (Lib.toList_data s)
  clear hr hm E
  by_cases h95 : s.toList = [95]
  · have Hb : Hid (rightB 1 s.data.toList = true) := Lib.hid (by rw [← Hl.out, h95]; decide)
    have t1 : (s.toList == [95]) = true := by simp [h95]
    clear h95
    go_enter Tryz.func47, Tryz.ntmps47
    go_wp2_with fail
    refine (dclone_c s _ hs).mono ?_
    rintro e w1 ⟨rfl, b1⟩
    go_wp2
    go_ret2
    exact ⟨by rw [Hr.out, Hb.out, if_pos rfl, meanV_some]; rfl, b1⟩
  have t1 : (s.toList == [95]) = false := by simp [h95]
  obtain ⟨r, hrr⟩ : ∃ r, nameB s.data.toList = r := ⟨_, rfl⟩
  have Hb : Hid (rightB 1 s.data.toList = r) := Lib.hid (by unfold rightB; rw [if_pos rfl, hrr, ← Hl.out, decide_eq_false h95, Bool.false_or])
  have hc := isName_any s w Hm.out
  rw [hrr] at hc
  have Hc := Lib.hid hc
  clear hc hrr h95
  cases r with
  | true =>
    go_enter Tryz.func47, Tryz.ntmps47
    go_wp2_with fail
    refine Hc.out.mono ?_
    rintro e w1 ⟨rfl, b1⟩
    go_wp2_with fail
    refine (dclone_c s _ hs).mono ?_
    rintro e w2 ⟨rfl, b2⟩
    go_wp2
    go_ret2
    exact ⟨by rw [Hr.out, Hb.out, if_pos rfl, meanV_some]; rfl, chain2 b1 b2⟩
  | false =>
    go_enter Tryz.func47, Tryz.ntmps47
    go_wp2_with fail
    refine Hc.out.mono ?_
    rintro e w1 ⟨rfl, b1⟩
    have en := (HE.out.below b1).noTok
    go_wp2
    go_quiet (fail)
    go_wp2
    go_ret2
    exact ⟨by rw [Hr.out, Hb.out, if_neg (by decide)]; rfl, b1.trans (below_drewN (Below.refl _ _) _)⟩

set_option maxHeartbeats 1000000 in
theorem meaning_3 (s : ByteArray) (a b c : Addr) (w : World) (hs : s.size ≤ 1073741824) (E : DEnv a b c w) :
    Calls Tryz.prog 47 #[.int .i64 3, .string s] w fun e w' => e = .returned (meanV b (meanL 3 s.data.toList)) ∧ Below w.heap.size w w' := by
  have hc := symbol_c s a b c w hs E
  have Hr : Hid (meanL 3 s.data.toList = unqL s.data.toList) := Lib.hid (by unfold meanL; rw [if_pos rfl])
  obtain ⟨r, hrr⟩ : ∃ r, unqL s.data.toList = r := ⟨_, rfl⟩
  have Hrr := Lib.hid hrr
  rw [hrr] at hc
  have Hc := Lib.hid hc
  clear hc hrr E
  cases r with
  | none =>
    go_enter Tryz.func47, Tryz.ntmps47
    go_wp2_with fail
    refine Hc.out.mono ?_
    rintro e w1 ⟨rfl, b1⟩
    simp only [meanV]
    go_wp2
    go_ret2
    exact ⟨by rw [Hr.out, Hrr.out]; rfl, b1⟩
  | some t =>
    go_enter Tryz.func47, Tryz.ntmps47
    go_wp2_with fail
    refine Hc.out.mono ?_
    rintro e w1 ⟨rfl, b1⟩
    simp only [meanV]
    go_wp2
    go_ret2
    exact ⟨by rw [Hr.out, Hrr.out]; rfl, b1⟩

theorem meaning_c (k : Nat) (hk : 1 ≤ k ∧ k ≤ 5) (s : ByteArray) (a b c : Addr) (w : World) (hpos : 1 ≤ s.size) (hs : s.size ≤ 1073741824) (E : DEnv a b c w) :
    Calls Tryz.prog 47 #[.int .i64 (k : Int), .string s] w fun e w' => e = .returned (meanV b (meanL k s.data.toList)) ∧ Below w.heap.size w w' := by
  have h : k = 1 ∨ k = 2 ∨ k = 3 ∨ k = 4 ∨ k = 5 := by omega
  rcases h with rfl | rfl | rfl | rfl | rfl
  · exact meaning_1 s a b c w hpos hs E
  · exact meaning_2 s a b c w hpos hs E
  · exact meaning_3 s a b c w hs E
  · exact meaning_4 s a b c w hpos hs E
  · exact meaning_5 s a b c w hpos hs E
end Go.Proofs.YthjfkngfgomkbaaGreatDoor

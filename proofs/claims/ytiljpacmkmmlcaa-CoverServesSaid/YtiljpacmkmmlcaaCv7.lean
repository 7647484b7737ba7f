/- soriteslaw12.apart. -/
import Derived.Test.YtiljpacmkmmlcaaCv4
import Derived.Test.YtiljpacmkmmlcaaKa
set_option linter.unusedSimpArgs false
set_option linter.unusedVariables false
namespace Go.Proofs.Ytiljpacmkmmlcaa
open Go.RowKit

theorem i64_and1 (n : Int) : bits .and .i64 n 1 = n % 2 := by
  have h1 : (BitVec.ofInt 64 1).toNat = 2 ^ 1 - 1 := by decide
  have key : (BitVec.ofInt 64 n &&& BitVec.ofInt 64 1).toNat = (n % ((2 ^ 64 : Nat) : Int)).toNat % 2 ^ 1 := by
    rw [BitVec.toNat_and, BitVec.toNat_ofInt, h1, Nat.and_two_pow_sub_one_eq_mod]
  show IntKind.i64.wrap ((BitVec.ofInt 64 n &&& BitVec.ofInt 64 1).toNat : Nat) = n % 2
  rw [key, IntKind.wrap_i64]
  omega
theorem bit_at (b i : Nat) : bits .and .i64 ((b : Int) / 2 ^ i) 1 = if b.testBit i = true then 1 else 0 := by
  rw [i64_and1]
  have e : (b : Int) / 2 ^ i % 2 = ((b / 2 ^ i % 2 : Nat) : Int) := by simp
  rw [e, Nat.testBit_eq_decide_div_mod_eq]
  by_cases h : b / 2 ^ i % 2 = 1
  · rw [if_pos (by simpa using h), h]; rfl
  · rw [if_neg (by simpa using h)]
    have : b / 2 ^ i % 2 = 0 := by omega
    rw [this]; rfl
theorem RS_at {sets : List (List Int)} {i k : Nat} {s t : List Int} (h1 : sets[i]? = some s) (h2 : sets[k]? = some t) : RS sets i k ↔ insideL s t = true := by
  unfold RS
  rw [List.getD_eq_getElem?_getD, List.getD_eq_getElem?_getD, h1, h2]
  rfl
def ApK (l : List (List Int)) (b i k : Nat) : Prop := ∀ y, y < k → b.testBit i = true → b.testBit y = true → ¬ RS l i y
def ApR (l : List (List Int)) (b : Nat) (e : Ending) : Prop := ∃ r : Bool, e = .returned (.bool r) ∧ (r = true ↔ apartB l.length (RS l) b)
set_option linter.unusedVariables false in
set_option maxRecDepth 100000 in
set_option maxHeartbeats 8000000 in
theorem apart12_c (l : List (List Int)) (b : Nat) (v : Value) (w : World) (hl : l.length ≤ 8) (hb : b < 256) (h : SetsS w w.heap.size l v) :
    Calls Try.prog 20 #[v, .int .i64 (b : Int)] w fun e w' => ApR l b e ∧ Below w.heap.size w w' := by
  obtain ⟨o1, cap1, rfl, hc1, hm1, S1⟩ := SlOf.open h
  clear h
  go_enter Try.func20, Try.ntmps20
  go_wp2
  go_loopw [5] (fun iv wr => ∃ i : Nat, i ≤ l.length ∧ iv = .int .i64 (i : Int) ∧ Hid (∀ x y, x < i → y < l.length → b.testBit x = true → b.testBit y = true → ¬ RS l x y) ∧ Hid (Below w.heap.size w wr)) (fun iv _ => l.length - (intOf iv).toNat)
  case atStart => exact ⟨0, Nat.zero_le _, rfl, Lib.hid (fun x y hx => by omega), Lib.hid (Below.refl _ _)⟩
  case round =>
    obtain ⟨i, hi, rfl, HA, HB⟩ := hrel
    by_cases hlt : i < l.length
    · have hlt' : (i : Int) < (l.length : Int) := by omega
      have hi0 : (0 : Int) ≤ (i : Int) := by omega
      go_wp2
      go_loopw [6] (fun kv wr => ∃ k : Nat, k ≤ l.length ∧ kv = .int .i64 (k : Int) ∧ Hid (ApK l b i k) ∧ Hid (Below w.heap.size w wr)) (fun kv _ => l.length - (intOf kv).toNat)
      case atStart => exact ⟨0, Nat.zero_le _, rfl, Lib.hid (fun y hy => by omega), HB⟩
      case round =>
        obtain ⟨k, hk, rfl, HK, HBk⟩ := hrel
        by_cases hkl : k < l.length
        · have hkl' : (k : Int) < (l.length : Int) := by omega
          have hk0 : (0 : Int) ≤ (k : Int) := by omega
          have hbi := bit_at b i
          have hbk := bit_at b k
          cases hti : b.testBit i with
          | false =>
            rw [hti, if_neg (by decide)] at hbi
            have HN : Hid (ApK l b i (k + 1)) := Lib.hid (fun y hy h1 => by rw [hti] at h1; cases h1)
            clear hti hbk
            go_wp2_with fail
            go_quiet (fail)
            go_wp2
            go_roundw
            case rel => exact ⟨k + 1, hkl, by go_num, HN, Lib.hid (below_drewNC HBk.out)⟩
            case measure => simp [intOf]; omega
          | true =>
            rw [hti, if_pos rfl] at hbi
            have Hti := Lib.hid hti
            clear hti
            cases htk : b.testBit k with
            | false =>
              rw [htk, if_neg (by decide)] at hbk
              have HN : Hid (ApK l b i (k + 1)) := Lib.hid (fun y hy h1 h2 => by
                by_cases e : y = k
                · subst e; rw [htk] at h2; cases h2
                · exact HK.out y (by omega) h1 h2)
              clear htk
              go_wp2_with fail
              go_quiet (fail)
              go_wp2
              go_roundw
              case rel => exact ⟨k + 1, hkl, by go_num, HN, Lib.hid (below_drewNC HBk.out)⟩
              case measure => simp [intOf]; omega
            | true =>
              rw [htk, if_pos rfl] at hbk
              have Htk := Lib.hid htk
              clear htk
              obtain ⟨s, hs⟩ : ∃ s, l[i]? = some s := ⟨l[i], List.getElem?_eq_getElem hlt⟩
              obtain ⟨t, ht⟩ : ∃ t, l[k]? = some t := ⟨l[k], List.getElem?_eq_getElem hkl⟩
              obtain ⟨a, o3, c3, rfl, ha, _, _, hS⟩ := set_all S1 hs
              obtain ⟨a', o4, c4, e4, _, _, _, hT⟩ := set_all S1 ht
              injection e4 with e4
              subst e4
              have hai : (a.add i).block < w.heap.size := by rw [addBlock]; exact ha
              have hak : (a.add k).block < w.heap.size := by rw [addBlock]; exact ha
              have cs := (hS wr HBk.out).2
              have ct := (hT wr HBk.out).2
              have HIn := Lib.hid (fun (n : Nat) => inside12_c s t _ _ (wr.drewN n) (hS _ (below_drewNC HBk.out)).1 (hT _ (below_drewNC HBk.out)).1)
              have HRS := Lib.hid (RS_at hs ht)
              have g1 : decide (0 ≤ (i : Int)) = true := by simp
              have g2 : decide ((i : Int) < (l.length : Int)) = true := by simpa using hlt
              have g3 : decide (0 ≤ (k : Int)) = true := by simp
              have g4 : decide ((k : Int) < (l.length : Int)) = true := by simpa using hkl
              obtain ⟨r, hr⟩ : ∃ r, insideL s t = r := ⟨_, rfl⟩
              rw [hr] at HIn
              have Hr := Lib.hid hr
              clear hs ht hS hT hr
              go_wp2_with fail
              go_quiet ((go_at_call 29; exact Calls.quiet_of_same ((HIn.out _).mono fun e w' h => ⟨h.1, h.2.symm⟩)))
              cases r with
              | true =>
                have Hno : Hid (¬ apartB l.length (RS l) b) := Lib.hid (fun h => h i k hlt hkl Hti.out Htk.out (HRS.out.2 Hr.out))
                go_wp2
                go_ret
                exact ⟨⟨false, rfl, ⟨(fun h => by cases h), fun h => absurd h Hno.out⟩⟩, below_drewNC HBk.out⟩
              | false =>
                have HN : Hid (ApK l b i (k + 1)) := Lib.hid (fun y hy h1 h2 => by
                  by_cases e : y = k
                  · subst e
                    intro h3
                    have h4 := HRS.out.1 h3
                    rw [Hr.out] at h4
                    cases h4
                  · exact HK.out y (by omega) h1 h2)
                go_wp2
                go_roundw
                case rel => exact ⟨k + 1, hkl, by go_num, HN, Lib.hid (below_drewNC HBk.out)⟩
                case measure => simp [intOf]; omega
        · have hkl' : ¬ (k : Int) < (l.length : Int) := by omega
          obtain rfl : k = l.length := by omega
          have HA2 : Hid (∀ x y, x < i + 1 → y < l.length → b.testBit x = true → b.testBit y = true → ¬ RS l x y) := Lib.hid (fun x y hx hy h1 h2 => by
            by_cases e : x = i
            · subst e; exact HK.out y hy h1 h2
            · exact HA.out x y (by omega) hy h1 h2)
          go_wp2
          go_roundw
          case rel => exact ⟨i + 1, hlt, by go_num, HA2, HBk⟩
          case measure => simp [intOf]; omega
    · have hlt' : ¬ (i : Int) < (l.length : Int) := by omega
      obtain rfl : i = l.length := by omega
      go_wp2
      go_ret
      exact ⟨⟨true, rfl, ⟨fun _ => HA.out, fun _ => rfl⟩⟩, HB.out⟩
end Go.Proofs.Ytiljpacmkmmlcaa

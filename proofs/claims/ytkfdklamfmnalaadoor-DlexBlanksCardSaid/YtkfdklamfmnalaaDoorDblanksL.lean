/- The law DlexBlanks answers true, in every world that holds the listed variables. -/
import Derived.Test.YtkfdklamfmnalaaDoorDblanksA
import Derived.Test.YtkfdklamfmnalaaDoorDblanksB
import Derived.Test.YtkfdklamfmnalaaDoorDblanksC
namespace Go.Proofs.YtkfdklamfmnalaaDoor
open Go.RowKit

theorem dlexBlanks_c (s0 t0 bl cm : ByteArray) (a b c : Addr) (w : World) (hs : s0.size ≤ maxLen) (ht : t0.size ≤ maxLen) (hbl : bl.size ≤ maxLen) (hcm : cm.size ≤ maxLen) (E : LEnv a b c w) :
    Calls Tryd.prog 10 #[.string s0, .string t0, .string bl, .string cm] w fun e w' => e = .returned (.bool true) ∧ Below w.heap.size w w' := by
  cases h1 : (lexL (cutS s0).data.toList).2 with
  | some n => exact dlexBlanks_a s0 t0 bl cm a b c w hs ht hbl hcm E h1
  | none =>
    cases h2 : (lexL (cutS t0).data.toList).2 with
    | some n => exact dlexBlanks_b s0 t0 bl cm a b c w hs ht hbl hcm E h1 h2
    | none => exact dlexBlanks_c' s0 t0 bl cm a b c w hs ht hbl hcm E h1 h2
end Go.Proofs.YtkfdklamfmnalaaDoor

/- A slice cut short: its first elements (for CoverGrows, CoverServes). -/
import Derived.Test.YtiljpacmkmmlcaaCv8
import Derived.Test.YtiljpacmkmmlcaaCv9
set_option linter.unusedSimpArgs false
set_option linter.unusedVariables false
namespace Go.Proofs.Ytiljpacmkmmlcaa
open Go.RowKit

theorem SlOf.cutR {α : Type} {w : World} {B n c : Nat} {R : α → List Value → Prop} {l : List α} {o : Option Addr} (h : SlOf w B 1 R l (.slice o l.length c)) : SlOf w B 1 R (l.take n) (.slice o (l.take n).length c) := by
  rcases h with ⟨hv, rfl⟩ | ⟨a, cap, hv, h2, h3, h4, h5⟩
  · injection hv with e1 e2 e3
    subst e1; subst e3
    exact .inl ⟨by simp, by simp⟩
  · injection hv with e1 e2 e3
    subst e1; subst e3
    refine .inr ⟨a, c, rfl, by rw [List.length_take]; omega, h3, fun hne => h4 fun e => hne (by rw [e]; simp), fun i x hx => ?_⟩
    rw [List.getElem?_take] at hx
    split at hx
    · exact h5 i x hx
    · cases hx
end Go.Proofs.Ytiljpacmkmmlcaa

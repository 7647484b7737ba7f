/- NameR@012 -/
import Derived.Test.YtfmldnbcjbflbaaGreatDoorQ1
set_option linter.unusedSimpArgs false
set_option linter.unusedVariables false
namespace Go.Proofs.YtfmldnbcjbflbaaGreatDoor
theorem letter_any (r:Int) (w:World):Calls Tryz.prog 132 #[.int .u8 r] w fun e w'=>e=.returned (.bool (letB r))∧w=w':=by
 go_enter Tryz.func132,Tryz.ntmps132
 go_wp2
 all_goals go_ret
 all_goals exact⟨ret_bool (by unfold letB;rw[Bool.eq_iff_iff];simp;omega),rfl⟩
theorem digit_any (r:Int) (w:World):Calls Tryz.prog 133 #[.int .u8 r] w fun e w'=>e=.returned (.bool (digB r))∧w=w':=by
 go_enter Tryz.func133,Tryz.ntmps133
 go_wp2
 all_goals go_ret
 all_goals exact⟨ret_bool (by unfold digB;rw[Bool.eq_iff_iff];simp;omega),rfl⟩
end Go.Proofs.YtfmldnbcjbflbaaGreatDoor

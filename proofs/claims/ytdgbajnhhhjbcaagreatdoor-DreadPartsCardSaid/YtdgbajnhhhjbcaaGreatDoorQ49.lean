/- Tamb@2, Dmath@2 -/
import Derived.Test.YtdgbajnhhhjbcaaGreatDoorQ31
set_option linter.unusedSimpArgs false
set_option linter.unusedVariables false
namespace Go.Proofs.YtdgbajnhhhjbcaaGreatDoor
open Go.RowKit
theorem sameP_refl (p:Pg):sameP p p=true:=by
 unfold sameP
 rw[allS_refl (fun x _=>sameD_refl x),allS_refl (fun x _=>sameR_refl x)];rfl
theorem lexL_len (l:List UInt8):(lexL l).1.length≤l.length:=by
 have h1:=lexU_len l
 have h2:=congrArg List.length (lexU_fst l)
 simp only[List.length_map] at h2
 omega
end Go.Proofs.YtdgbajnhhhjbcaaGreatDoor

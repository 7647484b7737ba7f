/- Rm18@02 -/
import Derived.Test.YtdgbajnhhhjbcaaGreatDoorQ31
import Derived.Test.YtdgbajnhhhjbcaaGreatDoorQ47
set_option linter.unusedSimpArgs false
set_option linter.unusedVariables false
namespace Go.Proofs.YtdgbajnhhhjbcaaGreatDoor
open Lib(hid)
open Go.RowKit
set_option maxRecDepth 100000 in
set_option maxHeartbeats 4000000 in
theorem lexed_c (s:ByteArray) (a b c d:Addr) (w:World) (E:VEnv a b c d w) :
  Calls Tryz.prog 14 #[.string s] w fun e w'=>∃ v,e=.returned v∧w'.ownsRow w.heap.size 89 3 v (lexR (cutS s).data.toList).1.length (tokCells (lexR (cutS s).data.toList).1)∧Below w.heap.size w w':=by
 have HL:=hid (lexE_c (cutS s) a b c w (by have:=cutS_size s;omega) E.lex)
 have m0:0≤min (s.size:Int) 3000:=by omega
 have m1:min (s.size:Int) 3000≤(s.size:Int):=by omega
 have hcut:s.extract 0 (min (s.size:Int) 3000).toNat=cutS s:=rfl
 clear E
 go_enter Tryz.func14,Tryz.ntmps14
 go_wp2_with fail
 refine HL.out.mono ?_
 rintro e w2 ⟨v,rfl,hown,b2⟩
 have Hown:=hid hown
 have Hb:=hid b2
 clear hown b2
 go_wp2
 go_ret
 exact⟨v,rfl,Hown.out,Hb.out⟩
end Go.Proofs.YtdgbajnhhhjbcaaGreatDoor

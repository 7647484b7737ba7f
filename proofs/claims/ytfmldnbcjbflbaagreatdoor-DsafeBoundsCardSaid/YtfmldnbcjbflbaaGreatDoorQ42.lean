/- Zlw@01 -/
import Derived.Test.YtfmldnbcjbflbaaGreatDoorQ41
set_option linter.unusedSimpArgs false
set_option linter.unusedVariables false
namespace Go.Proofs.YtfmldnbcjbflbaaGreatDoor
open Lib(hid)
open Go.RowKit
set_option maxRecDepth 100000 in
set_option maxHeartbeats 2000000 in
theorem small6_c (r:Ru) (cs:List Value) (w:World) (hc:RuC w w.heap.size r cs) :
  Calls Tryz.prog 12 #[.agg cs.toArray] w fun e w'=>e=.returned (.bool (smallP ⟨[],[r]⟩))∧Below w.heap.size w w':=by
 obtain⟨o0,k0,o1,k1,rfl,_⟩:=hc.look
 obtain⟨C,hC⟩:∃ C:Obj,.cells #[.string r.head.rel,.slice o0 r.head.l.length k0,.slice o1 r.body.length k1,.int .i64 r.line] 37=C:=⟨_,rfl⟩
 have b1:Below w.heap.size w (w.alloc C):=(Below.refl _ _).alloc (Nat.le_refl _) _
 have b2:Below w.heap.size w ((w.alloc C).alloc C):=b1.alloc (by simp) _
 have HSL:SlOf ((w.alloc C).alloc C) ((w.alloc C).alloc C).heap.size 4 (RuC ((w.alloc C).alloc C) ((w.alloc C).alloc C).heap.size) [r] (.slice (some ⟨w.heap.size+1,0,none⟩) 1 1):=by
  have:=rule_slice (w.alloc C) r ((hc.below b1).more b1.size)
  rw[hC] at this
  simpa using this
 have HR:=hid (small_c ⟨[],[r]⟩ _ [.slice none 0 0,.slice (some ⟨w.heap.size+1,0,none⟩) 1 1] ⟨_,_,rfl,.inl ⟨rfl,rfl⟩,HSL⟩)
 have B2:=hid b2
 subst hC
 clear hc b1 b2 HSL
 go_enter Tryz.func12,Tryz.ntmps12
 go_wp2_with fail
 refine HR.out.mono ?_
 rintro e3 w3 ⟨rfl,b3⟩
 have B3:=hid (B2.out.trans (b3.mono B2.out.size))
 unfold smallI
 obtain⟨q,hq⟩:∃ q,smallP ⟨[],[r]⟩=q:=⟨_,rfl⟩
 rw[hq]
 have Hq:=hid hq
 clear hq
 cases q with
 | true=>
  go_wp2
  go_ret
  exact⟨by first | rfl | (rw[Hq.out];rfl),B3.out⟩
 | false=>
  go_wp2
  go_ret
  exact⟨by first | rfl | (rw[Hq.out];rfl),B3.out⟩
end Go.Proofs.YtfmldnbcjbflbaaGreatDoor

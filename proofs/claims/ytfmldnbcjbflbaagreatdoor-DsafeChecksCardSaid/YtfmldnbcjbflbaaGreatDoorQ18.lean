/- Trlit@012, Trright3@012, Zc@012 -/
import Derived.Test.YtfmldnbcjbflbaaGreatDoorQ17
set_option linter.unusedSimpArgs false
set_option linter.unusedVariables false
namespace Go.Proofs.YtfmldnbcjbflbaaGreatDoor
open Lib(hid)
open Go.RowKit
theorem rightL_12 {l:Lt} (h:l.op=1∨l.op=2):rightL l=(rightA l.a && noT l.x && noT l.y):=by unfold rightL;rw[if_pos h]
theorem rightL_36 {l:Lt} (h:3≤l.op∧l.op≤6):rightL l=(noA l.a && rightT 20 l.x && rightT 20 l.y && (l.x.op != 4) && (l.y.op != 4)):=by unfold rightL;rw[if_neg (by omega),if_pos h]
theorem rightL_7 {l:Lt} (h:l.op=7):rightL l=(rightA l.a && rightT 20 l.x && ((l.x.op == 1) || (l.x.op == 2)) && noT l.y):=by unfold rightL;rw[if_neg (by omega),if_neg (by omega),if_pos h]
theorem rightL_8 {l:Lt} (h:8≤l.op∧l.op≤10):rightL l=(rightA l.a && rightT 20 l.x && ((l.x.op == 1) || (l.x.op == 2)) && rightT 20 l.y && (l.y.op == 1)):=by unfold rightL;rw[if_neg (by omega),if_neg (by omega),if_neg (by omega),if_pos h]
theorem rightL_no {l:Lt} (h:l.op < 1∨10 < l.op):rightL l=false:=by unfold rightL;rw[if_neg (by omega),if_neg (by omega),if_neg (by omega),if_neg (by omega)]
set_option maxRecDepth 100000 in
set_option maxHeartbeats 8000000 in
theorem rrightLit_c (t:Lt) (w:World) (cs:List Value) (hc:LtC w w.heap.size t cs) :
  Calls Tryz.prog 75 #[.agg cs.toArray] w fun e w'=>e=.returned (.bool (rightL t))∧Below w.heap.size w w':=by
 obtain⟨op,ta,tx,ty⟩:=t
 obtain⟨o0,k0,o1,k1,o2,k2,rfl,_,H0,H1,H2⟩:=hc.look
 simp only at H0 H1 H2 ⊢
 obtain⟨ba,hba⟩:∃ b,rightA ta=b:=⟨_,rfl⟩
 obtain⟨bx,hbx⟩:∃ b,rightT 20 tx=b:=⟨_,rfl⟩
 obtain⟨bY,hbY⟩:∃ b,rightT 20 ty=b:=⟨_,rfl⟩
 have HX:=hid (fun (W:World) (hb:Below w.heap.size w W)=>rrightTerm_c 20 20 tx W _ rfl (by omega) ((H1.under hb).more hb.size))
 have HY:=hid (fun (W:World) (hb:Below w.heap.size w W)=>rrightTerm_c 20 20 ty W _ rfl (by omega) ((H2.under hb).more hb.size))
 have HA:=hid (fun (W:World) (hb:Below w.heap.size w W)=>rrightAtom_c ta W _ ((H0.below hb).more hb.size))
 have HNX:=hid (fun (W:World) (hb:Below w.heap.size w W)=>rnoTerm_c tx W _ ((H1.under hb).more hb.size))
 have HNY:=hid (fun (W:World) (hb:Below w.heap.size w W)=>rnoTerm_c ty W _ ((H2.under hb).more hb.size))
 have HNA:=hid (fun (W:World) (hb:Below w.heap.size w W)=>rnoAtom_c ta W _ ((H0.below hb).more hb.size))
 rw[hba] at HA
 rw[hbx] at HX
 rw[hbY] at HY
 clear hc H0 H1 H2
 have HB0:Hid (∀ (x:Obj),Below w.heap.size w (w.alloc x)):=hid fun x=>(Below.refl _ _).alloc (Nat.le_refl _) _
 have Q12:Hid (op=1∨op=2→rightL ⟨op,ta,tx,ty⟩=(ba && noT tx && noT ty)):=hid fun h=>by rw[rightL_12 h];simp only;rw[hba]
 have Q36:Hid (3≤op∧op≤6→rightL ⟨op,ta,tx,ty⟩=(noA ta && bx && bY && (tx.op != 4) && (ty.op != 4))):=hid fun h=>by rw[rightL_36 h];simp only;rw[hbx,hbY]
 have Q7:Hid (op=7→rightL ⟨op,ta,tx,ty⟩=(ba && bx && ((tx.op == 1) || (tx.op == 2)) && noT ty)):=hid fun h=>by rw[rightL_7 h];simp only;rw[hba,hbx]
 have Q8:Hid (8≤op∧op≤10→rightL ⟨op,ta,tx,ty⟩=(ba && bx && ((tx.op == 1) || (tx.op == 2)) && bY && (ty.op == 1))):=hid fun h=>by rw[rightL_8 h];simp only;rw[hba,hbx,hbY]
 have Q0:Hid (op < 1∨10 < op→rightL ⟨op,ta,tx,ty⟩=false):=hid fun h=>rightL_no h
 clear hba hbx hbY
 go_enter Tryz.func75,Tryz.ntmps75
 go_wp2_with fail
 refine (HX.out _ (HB0.out _)).mono ?_
 rintro e w1 ⟨rfl,b1⟩
 have K1:=hid (b1.mono (show w.heap.size+1≤_ by simp))
 have B1:=(HB0.out _).trans (K1.out.mono (by omega))
 obtain⟨hc1,hf1⟩:=boxq w.heap.size b1 (by simp)
 have hz1:w.heap.size < w1.heap.size:=by have:=b1.size;simp at this;omega
 clear b1
 go_wp2_with fail
 refine (HY.out _ B1).mono ?_
 rintro e w2 ⟨rfl,b2⟩
 have K2:=hid (K1.out.trans (b2.mono (by omega)))
 have B2:=(HB0.out _).trans (K2.out.mono (by omega))
 have hz2:w.heap.size < w2.heap.size:=by have:=b2.size;omega
 clear hc1 hf1 B1 b2
 obtain⟨hc1,hf1⟩:=boxq w.heap.size K2.out (by omega)
 go_wp2_with fail
 refine (HA.out _ B2).mono ?_
 rintro e w3 ⟨rfl,b3⟩
 have K3:=hid (K2.out.trans (b3.mono (by omega)))
 have B3:=(HB0.out _).trans (K3.out.mono (by omega))
 have hz3:w.heap.size < w3.heap.size:=by have:=b3.size;omega
 clear hc1 hf1 B2 b3
 obtain⟨hc1,hf1⟩:=boxq w.heap.size K3.out (by omega)
 by_cases o1:op=1
 ·subst o1
  have Hz:=hid (Q12.out (by omega))
  clear Q12 Q36 Q7 Q8 Q0
  cases ba with
  | false=>
   have Hz1:=hid (Hz.out.trans (by rfl:_=false))
   go_wp2
   go_ret
   exact⟨by rw[Hz1.out];rfl,B3⟩
  | true=>
  go_wp2_with fail
  refine (HNX.out _ B3).mono ?_
  rintro e w4 ⟨rfl,b4⟩
  have K4:=hid (K3.out.trans (b4.mono (by omega)))
  have B4:=(HB0.out _).trans (K4.out.mono (by omega))
  have hz4:w.heap.size < w4.heap.size:=by have:=b4.size;omega
  clear hc1 hf1 b4
  obtain⟨hc1,hf1⟩:=boxq w.heap.size K4.out (by omega)
  cases hn:noT tx with
  | false=>
   have Hz1:=hid (Hz.out.trans (by rw[hn];rfl:_=false))
   clear hn
   go_wp2
   go_ret
   exact⟨by rw[Hz1.out];rfl,B4⟩
  | true=>
  have Hz1:=hid (Hz.out.trans (by rw[hn];rfl:_=noT ty))
  clear hn
  go_wp2_with fail
  refine (HNY.out _ B4).mono ?_
  rintro e w5 ⟨rfl,b5⟩
  have K5:=hid (K4.out.trans (b5.mono (by omega)))
  have B5:=(HB0.out _).trans (K5.out.mono (by omega))
  have hz5:w.heap.size < w5.heap.size:=by have:=b5.size;omega
  clear hc1 hf1 b5
  obtain⟨hc1,hf1⟩:=boxq w.heap.size K5.out (by omega)
  go_wp2
  go_ret
  exact⟨by rw[Hz1.out];rfl,B5⟩
 have e1:(op == 1)=false:=by simpa using o1
 by_cases o2:op=2
 ·subst o2
  have Hz:=hid (Q12.out (by omega))
  clear Q12 Q36 Q7 Q8 Q0
  cases ba with
  | false=>
   have Hz1:=hid (Hz.out.trans (by rfl:_=false))
   go_wp2
   go_ret
   exact⟨by rw[Hz1.out];rfl,B3⟩
  | true=>
  go_wp2_with fail
  refine (HNX.out _ B3).mono ?_
  rintro e w4 ⟨rfl,b4⟩
  have K4:=hid (K3.out.trans (b4.mono (by omega)))
  have B4:=(HB0.out _).trans (K4.out.mono (by omega))
  have hz4:w.heap.size < w4.heap.size:=by have:=b4.size;omega
  clear hc1 hf1 b4
  obtain⟨hc1,hf1⟩:=boxq w.heap.size K4.out (by omega)
  cases hn:noT tx with
  | false=>
   have Hz1:=hid (Hz.out.trans (by rw[hn];rfl:_=false))
   clear hn
   go_wp2
   go_ret
   exact⟨by rw[Hz1.out];rfl,B4⟩
  | true=>
  have Hz1:=hid (Hz.out.trans (by rw[hn];rfl:_=noT ty))
  clear hn
  go_wp2_with fail
  refine (HNY.out _ B4).mono ?_
  rintro e w5 ⟨rfl,b5⟩
  have K5:=hid (K4.out.trans (b5.mono (by omega)))
  have B5:=(HB0.out _).trans (K5.out.mono (by omega))
  have hz5:w.heap.size < w5.heap.size:=by have:=b5.size;omega
  clear hc1 hf1 b5
  obtain⟨hc1,hf1⟩:=boxq w.heap.size K5.out (by omega)
  go_wp2
  go_ret
  exact⟨by rw[Hz1.out];rfl,B5⟩
 have e2:(op == 2)=false:=by simpa using o2
 by_cases o3:op=3
 ·subst o3
  have Hz:=hid (Q36.out (by omega))
  clear Q12 Q36 Q7 Q8 Q0
  go_wp2_with fail
  refine (HNA.out _ B3).mono ?_
  rintro e w4 ⟨rfl,b4⟩
  have K4:=hid (K3.out.trans (b4.mono (by omega)))
  have B4:=(HB0.out _).trans (K4.out.mono (by omega))
  have hz4:w.heap.size < w4.heap.size:=by have:=b4.size;omega
  clear hc1 hf1 b4
  obtain⟨hc1,hf1⟩:=boxq w.heap.size K4.out (by omega)
  obtain⟨x4,hx4⟩:∃ b,(tx.op != 4)=b:=⟨_,rfl⟩
  obtain⟨y4,hy4⟩:∃ b,(ty.op != 4)=b:=⟨_,rfl⟩
  rw[hx4,hy4] at Hz
  obtain⟨na,hna⟩:∃ b,noA ta=b:=⟨_,rfl⟩
  rw[hna] at Hz ⊢
  clear hna
  cases na with
  | false=>
   have Hz1:=hid (Hz.out.trans (by simp:_=false))
   go_wp2
   go_ret
   exact⟨by rw[Hz1.out];rfl,B4⟩
  | true=>
  cases bx with
  | false=>
   have Hz1:=hid (Hz.out.trans (by simp:_=false))
   go_wp2
   go_ret
   exact⟨by rw[Hz1.out];rfl,B4⟩
  | true=>
  cases bY with
  | false=>
   have Hz1:=hid (Hz.out.trans (by simp:_=false))
   go_wp2
   go_ret
   exact⟨by rw[Hz1.out];rfl,B4⟩
  | true=>
  cases x4 with
  | false=>
   have Hz1:=hid (Hz.out.trans (by simp:_=false))
   go_wp2
   go_ret
   exact⟨by rw[Hz1.out];rfl,B4⟩
  | true=>
  cases y4 with
  | false=>
   have Hz1:=hid (Hz.out.trans (by simp:_=false))
   go_wp2
   go_ret
   exact⟨by rw[Hz1.out];rfl,B4⟩
  | true=>
  have Hz1:=hid (Hz.out.trans (by rfl:_=true))
  go_wp2
  go_ret
  exact⟨by rw[Hz1.out];rfl,B4⟩
 have e3:(op == 3)=false:=by simpa using o3
 by_cases o4:op=4
 ·subst o4
  have Hz:=hid (Q36.out (by omega))
  clear Q12 Q36 Q7 Q8 Q0
  go_wp2_with fail
  refine (HNA.out _ B3).mono ?_
  rintro e w4 ⟨rfl,b4⟩
  have K4:=hid (K3.out.trans (b4.mono (by omega)))
  have B4:=(HB0.out _).trans (K4.out.mono (by omega))
  have hz4:w.heap.size < w4.heap.size:=by have:=b4.size;omega
  clear hc1 hf1 b4
  obtain⟨hc1,hf1⟩:=boxq w.heap.size K4.out (by omega)
  obtain⟨x4,hx4⟩:∃ b,(tx.op != 4)=b:=⟨_,rfl⟩
  obtain⟨y4,hy4⟩:∃ b,(ty.op != 4)=b:=⟨_,rfl⟩
  rw[hx4,hy4] at Hz
  obtain⟨na,hna⟩:∃ b,noA ta=b:=⟨_,rfl⟩
  rw[hna] at Hz ⊢
  clear hna
  cases na with
  | false=>
   have Hz1:=hid (Hz.out.trans (by simp:_=false))
   go_wp2
   go_ret
   exact⟨by rw[Hz1.out];rfl,B4⟩
  | true=>
  cases bx with
  | false=>
   have Hz1:=hid (Hz.out.trans (by simp:_=false))
   go_wp2
   go_ret
   exact⟨by rw[Hz1.out];rfl,B4⟩
  | true=>
  cases bY with
  | false=>
   have Hz1:=hid (Hz.out.trans (by simp:_=false))
   go_wp2
   go_ret
   exact⟨by rw[Hz1.out];rfl,B4⟩
  | true=>
  cases x4 with
  | false=>
   have Hz1:=hid (Hz.out.trans (by simp:_=false))
   go_wp2
   go_ret
   exact⟨by rw[Hz1.out];rfl,B4⟩
  | true=>
  cases y4 with
  | false=>
   have Hz1:=hid (Hz.out.trans (by simp:_=false))
   go_wp2
   go_ret
   exact⟨by rw[Hz1.out];rfl,B4⟩
  | true=>
  have Hz1:=hid (Hz.out.trans (by rfl:_=true))
  go_wp2
  go_ret
  exact⟨by rw[Hz1.out];rfl,B4⟩
 have e4:(op == 4)=false:=by simpa using o4
 by_cases o5:op=5
 ·subst o5
  have Hz:=hid (Q36.out (by omega))
  clear Q12 Q36 Q7 Q8 Q0
  go_wp2_with fail
  refine (HNA.out _ B3).mono ?_
  rintro e w4 ⟨rfl,b4⟩
  have K4:=hid (K3.out.trans (b4.mono (by omega)))
  have B4:=(HB0.out _).trans (K4.out.mono (by omega))
  have hz4:w.heap.size < w4.heap.size:=by have:=b4.size;omega
  clear hc1 hf1 b4
  obtain⟨hc1,hf1⟩:=boxq w.heap.size K4.out (by omega)
  obtain⟨x4,hx4⟩:∃ b,(tx.op != 4)=b:=⟨_,rfl⟩
  obtain⟨y4,hy4⟩:∃ b,(ty.op != 4)=b:=⟨_,rfl⟩
  rw[hx4,hy4] at Hz
  obtain⟨na,hna⟩:∃ b,noA ta=b:=⟨_,rfl⟩
  rw[hna] at Hz ⊢
  clear hna
  cases na with
  | false=>
   have Hz1:=hid (Hz.out.trans (by simp:_=false))
   go_wp2
   go_ret
   exact⟨by rw[Hz1.out];rfl,B4⟩
  | true=>
  cases bx with
  | false=>
   have Hz1:=hid (Hz.out.trans (by simp:_=false))
   go_wp2
   go_ret
   exact⟨by rw[Hz1.out];rfl,B4⟩
  | true=>
  cases bY with
  | false=>
   have Hz1:=hid (Hz.out.trans (by simp:_=false))
   go_wp2
   go_ret
   exact⟨by rw[Hz1.out];rfl,B4⟩
  | true=>
  cases x4 with
  | false=>
   have Hz1:=hid (Hz.out.trans (by simp:_=false))
   go_wp2
   go_ret
   exact⟨by rw[Hz1.out];rfl,B4⟩
  | true=>
  cases y4 with
  | false=>
   have Hz1:=hid (Hz.out.trans (by simp:_=false))
   go_wp2
   go_ret
   exact⟨by rw[Hz1.out];rfl,B4⟩
  | true=>
  have Hz1:=hid (Hz.out.trans (by rfl:_=true))
  go_wp2
  go_ret
  exact⟨by rw[Hz1.out];rfl,B4⟩
 have e5:(op == 5)=false:=by simpa using o5
 by_cases o6:op=6
 ·subst o6
  have Hz:=hid (Q36.out (by omega))
  clear Q12 Q36 Q7 Q8 Q0
  go_wp2_with fail
  refine (HNA.out _ B3).mono ?_
  rintro e w4 ⟨rfl,b4⟩
  have K4:=hid (K3.out.trans (b4.mono (by omega)))
  have B4:=(HB0.out _).trans (K4.out.mono (by omega))
  have hz4:w.heap.size < w4.heap.size:=by have:=b4.size;omega
  clear hc1 hf1 b4
  obtain⟨hc1,hf1⟩:=boxq w.heap.size K4.out (by omega)
  obtain⟨x4,hx4⟩:∃ b,(tx.op != 4)=b:=⟨_,rfl⟩
  obtain⟨y4,hy4⟩:∃ b,(ty.op != 4)=b:=⟨_,rfl⟩
  rw[hx4,hy4] at Hz
  obtain⟨na,hna⟩:∃ b,noA ta=b:=⟨_,rfl⟩
  rw[hna] at Hz ⊢
  clear hna
  cases na with
  | false=>
   have Hz1:=hid (Hz.out.trans (by simp:_=false))
   go_wp2
   go_ret
   exact⟨by rw[Hz1.out];rfl,B4⟩
  | true=>
  cases bx with
  | false=>
   have Hz1:=hid (Hz.out.trans (by simp:_=false))
   go_wp2
   go_ret
   exact⟨by rw[Hz1.out];rfl,B4⟩
  | true=>
  cases bY with
  | false=>
   have Hz1:=hid (Hz.out.trans (by simp:_=false))
   go_wp2
   go_ret
   exact⟨by rw[Hz1.out];rfl,B4⟩
  | true=>
  cases x4 with
  | false=>
   have Hz1:=hid (Hz.out.trans (by simp:_=false))
   go_wp2
   go_ret
   exact⟨by rw[Hz1.out];rfl,B4⟩
  | true=>
  cases y4 with
  | false=>
   have Hz1:=hid (Hz.out.trans (by simp:_=false))
   go_wp2
   go_ret
   exact⟨by rw[Hz1.out];rfl,B4⟩
  | true=>
  have Hz1:=hid (Hz.out.trans (by rfl:_=true))
  go_wp2
  go_ret
  exact⟨by rw[Hz1.out];rfl,B4⟩
 have e6:(op == 6)=false:=by simpa using o6
 by_cases o7:op=7
 ·subst o7
  have Hz:=hid (Q7.out rfl)
  clear Q12 Q36 Q7 Q8 Q0
  obtain⟨x1,hx1⟩:∃ b,(tx.op == 1)=b:=⟨_,rfl⟩
  obtain⟨x2,hx2⟩:∃ b,(tx.op == 2)=b:=⟨_,rfl⟩
  rw[hx1,hx2] at Hz
  cases ba with
  | false=>
   have Hz1:=hid (Hz.out.trans (by simp:_=false))
   go_wp2
   go_ret
   exact⟨by rw[Hz1.out];rfl,B3⟩
  | true=>
  cases bx with
  | false=>
   have Hz1:=hid (Hz.out.trans (by simp:_=false))
   go_wp2
   go_ret
   exact⟨by rw[Hz1.out];rfl,B3⟩
  | true=>
  cases x1 <;> cases x2
  ·have Hz1:=hid (Hz.out.trans (by simp:_=false))
   go_wp2
   go_ret
   exact⟨by rw[Hz1.out];rfl,B3⟩
  all_goals
   have Hz1:=hid (Hz.out.trans (by rfl:_=noT ty))
   go_wp2_with fail
   refine (HNY.out _ B3).mono ?_
   rintro e w5 ⟨rfl,b5⟩
   have K5:=hid (K3.out.trans (b5.mono (by omega)))
   have B5:=(HB0.out _).trans (K5.out.mono (by omega))
   have hz5:w.heap.size < w5.heap.size:=by have:=b5.size;omega
   clear hc1 hf1 b5
   obtain⟨hc1,hf1⟩:=boxq w.heap.size K5.out (by omega)
   go_wp2
   go_ret
   exact⟨by rw[Hz1.out];rfl,B5⟩
 have e7:(op == 7)=false:=by simpa using o7
 by_cases o8:op=8
 ·subst o8
  have Hz:=hid (Q8.out (by omega))
  clear Q12 Q36 Q7 Q8 Q0
  obtain⟨x1,hx1⟩:∃ b,(tx.op == 1)=b:=⟨_,rfl⟩
  obtain⟨x2,hx2⟩:∃ b,(tx.op == 2)=b:=⟨_,rfl⟩
  obtain⟨y1,hy1⟩:∃ b,(ty.op == 1)=b:=⟨_,rfl⟩
  rw[hx1,hx2,hy1] at Hz
  cases ba with
  | false=>
   have Hz1:=hid (Hz.out.trans (by simp:_=false))
   go_wp2
   go_ret
   exact⟨by rw[Hz1.out];rfl,B3⟩
  | true=>
  cases bx with
  | false=>
   have Hz1:=hid (Hz.out.trans (by simp:_=false))
   go_wp2
   go_ret
   exact⟨by rw[Hz1.out];rfl,B3⟩
  | true=>
  cases x1 <;> cases x2
  ·have Hz1:=hid (Hz.out.trans (by simp:_=false))
   go_wp2
   go_ret
   exact⟨by rw[Hz1.out];rfl,B3⟩
  all_goals
   cases bY <;> cases y1
   all_goals
    go_wp2
    go_ret
    exact⟨by rw[Hz.out];rfl,B3⟩
 have e8:(op == 8)=false:=by simpa using o8
 by_cases o9:op=9
 ·subst o9
  have Hz:=hid (Q8.out (by omega))
  clear Q12 Q36 Q7 Q8 Q0
  obtain⟨x1,hx1⟩:∃ b,(tx.op == 1)=b:=⟨_,rfl⟩
  obtain⟨x2,hx2⟩:∃ b,(tx.op == 2)=b:=⟨_,rfl⟩
  obtain⟨y1,hy1⟩:∃ b,(ty.op == 1)=b:=⟨_,rfl⟩
  rw[hx1,hx2,hy1] at Hz
  cases ba with
  | false=>
   have Hz1:=hid (Hz.out.trans (by simp:_=false))
   go_wp2
   go_ret
   exact⟨by rw[Hz1.out];rfl,B3⟩
  | true=>
  cases bx with
  | false=>
   have Hz1:=hid (Hz.out.trans (by simp:_=false))
   go_wp2
   go_ret
   exact⟨by rw[Hz1.out];rfl,B3⟩
  | true=>
  cases x1 <;> cases x2
  ·have Hz1:=hid (Hz.out.trans (by simp:_=false))
   go_wp2
   go_ret
   exact⟨by rw[Hz1.out];rfl,B3⟩
  all_goals
   cases bY <;> cases y1
   all_goals
    go_wp2
    go_ret
    exact⟨by rw[Hz.out];rfl,B3⟩
 have e9:(op == 9)=false:=by simpa using o9
 by_cases o10:op=10
 ·subst o10
  have Hz:=hid (Q8.out (by omega))
  clear Q12 Q36 Q7 Q8 Q0
  obtain⟨x1,hx1⟩:∃ b,(tx.op == 1)=b:=⟨_,rfl⟩
  obtain⟨x2,hx2⟩:∃ b,(tx.op == 2)=b:=⟨_,rfl⟩
  obtain⟨y1,hy1⟩:∃ b,(ty.op == 1)=b:=⟨_,rfl⟩
  rw[hx1,hx2,hy1] at Hz
  cases ba with
  | false=>
   have Hz1:=hid (Hz.out.trans (by simp:_=false))
   go_wp2
   go_ret
   exact⟨by rw[Hz1.out];rfl,B3⟩
  | true=>
  cases bx with
  | false=>
   have Hz1:=hid (Hz.out.trans (by simp:_=false))
   go_wp2
   go_ret
   exact⟨by rw[Hz1.out];rfl,B3⟩
  | true=>
  cases x1 <;> cases x2
  ·have Hz1:=hid (Hz.out.trans (by simp:_=false))
   go_wp2
   go_ret
   exact⟨by rw[Hz1.out];rfl,B3⟩
  all_goals
   cases bY <;> cases y1
   all_goals
    go_wp2
    go_ret
    exact⟨by rw[Hz.out];rfl,B3⟩
 have e10:(op == 10)=false:=by simpa using o10
 have Hz:=hid (Q0.out (by omega))
 clear Q12 Q36 Q7 Q8 Q0 o1 o2 o3 o4 o5 o6 o7 o8 o9 o10
 go_wp2
 go_ret
 exact⟨by rw[Hz.out];rfl,B3⟩
set_option maxRecDepth 100000 in
set_option maxHeartbeats 4000000 in
theorem rrightRule_c (t:Ru) (w:World) (cs:List Value) (hc:RuC w w.heap.size t cs) :
  Calls Tryz.prog 40 #[.agg cs.toArray] w fun e w'=>e=.returned (.bool (rightR t))∧Below w.heap.size w w':=by
 obtain⟨o0,k0,o1,k1,rfl,_,H1,H2⟩:=hc.look
 have HA:=hid (fun (W:World) (hb:Below w.heap.size w W)=>rrightAtom_c t.head W _ ((H1.below hb).more hb.size))
 obtain⟨_,_,e1,_,T1⟩:=H1.look
 cases e1
 obtain⟨o1',cap1,e1,hc1,hm1,S1⟩:=SlOf.open T1
 cases e1
 obtain⟨o2,cap2,e2,hc2,hm2,SL⟩:=SlOf.open H2
 cases e2
 clear hc H1 H2 T1
 have HB0:Hid (∀ (x:Obj),Below w.heap.size w (w.alloc x)):=hid fun x=>(Below.refl _ _).alloc (Nat.le_refl _) _
 have Hz0:Hid (rightR t=(rightA t.head && decide (t.body.length≤20) && t.head.l.all (headT t.body.isEmpty) && t.body.all rightL)):=hid rfl
 obtain⟨be,hbe⟩:∃ b,((t.body.length:Int) == 0)=b:=⟨_,rfl⟩
 have hie:t.body.isEmpty=be:=by rw[← hbe];cases t.body <;> simp <;> omega
 rw[hie] at Hz0
 clear hie
 go_enter Tryz.func40,Tryz.ntmps40
 go_wp2_with fail
 refine (HA.out _ (HB0.out _)).mono ?_
 rintro e w1 ⟨rfl,b1⟩
 have K1:=hid (b1.mono (show w.heap.size+1≤_ by simp))
 have B1:=hid ((HB0.out _).trans (K1.out.mono (by omega)))
 obtain⟨hc1,hf1⟩:=boxq w.heap.size b1 (by simp)
 have hz1:w.heap.size < w1.heap.size:=by have:=b1.size;simp at this;omega
 clear b1
 cases ha:rightA t.head with
 | false=>
  have Hz:Hid (rightR t=false):=hid (by rw[Hz0.out,ha];rfl)
  clear ha
  go_wp2
  go_ret
  exact⟨by rw[Hz.out];rfl,B1.out⟩
 | true=>
 by_cases hbig:(20:Int) < (t.body.length:Int)
 ·have Hz:Hid (rightR t=false):=hid (by rw[Hz0.out,decide_eq_false (show ¬ t.body.length≤20 by omega)];simp)
  clear ha
  go_wp2
  go_ret
  exact⟨by rw[Hz.out];rfl,B1.out⟩
 have Hz1:Hid (rightR t=(t.head.l.all (headT be) && t.body.all rightL)):=hid (by rw[Hz0.out,ha,decide_eq_true (show t.body.length≤20 by omega)];rfl)
 clear ha Hz0
 go_wp2
 clear hc1 hf1
 go_loopw [4] (fun i wr=>∃ k:Nat,k≤t.head.l.length∧i=.int .i64 k∧t.head.l.all (headT be)=(t.head.l.drop k).all (headT be)∧Below (w.heap.size+1) (w.alloc (.cells #[.string t.head.rel,.slice o0 t.head.l.length k0,.slice o1 t.body.length k1,.int .i64 t.line] 37)) wr) (fun i _=>t.head.l.length - (intOf i).toNat)
 case atStart=>exact⟨0,Nat.zero_le _,rfl,rfl,K1.out⟩
 case round=>
  obtain⟨k,hk,rfl,hr,hB2⟩:=hrel
  have hB:Below w.heap.size w wr:=(HB0.out _).trans (hB2.mono (by omega))
  have Hr:=hid hr
  clear hr
  have hBs:=hB2.size
  simp only[World.size_alloc] at hBs
  have hz0:w.heap.size < wr.heap.size:=by omega
  have x1:wr.cell? ⟨w.heap.size,1,none⟩=some (.slice o0 t.head.l.length k0):=(hB2.cell (p:=⟨w.heap.size,1,none⟩) (by show w.heap.size < _;omega)).trans (by go_simp)
  have x2:wr.cell? ⟨w.heap.size,2,none⟩=some (.slice o1 t.body.length k1):=(hB2.cell (p:=⟨w.heap.size,2,none⟩) (by show w.heap.size < _;omega)).trans (by go_simp)
  by_cases hlt:k < t.head.l.length
  ·have hlt':(k:Int) < (t.head.l.length:Int):=by omega
   obtain⟨xe,ht⟩:∃ xe,t.head.l[k]?=some xe:=⟨t.head.l[k],List.getElem?_eq_getElem hlt⟩
   obtain⟨a,p3,q3,rfl,ha,Hc,c0,c1,c2,c3⟩:=tm_at S1 hB ht
   have hal:(a.add (k * 4)).block < wr.heap.size:=by rw[addBlock];omega
   have Hst:=hid (Hr.out.trans (all_drop' (f:=headT be) ht))
   have Hh:Hid (headT be xe=!((xe.op == 4) || twoB xe.op || ((xe.op == 1) && be))):=hid rfl
   clear ht
   have HI:=hid (fun (W:World)=>rtwo_c xe.op W)
   obtain⟨b4,hb4⟩:∃ b,(xe.op == 4)=b:=⟨_,rfl⟩
   obtain⟨b1,hb1⟩:∃ b,(xe.op == 1)=b:=⟨_,rfl⟩
   rw[hb4,hb1] at Hh
   cases b4 with
   | true=>
    have Hz:Hid (rightR t=false):=hid (by rw[Hz1.out,Hst.out,Hh.out];rfl)
    go_wp2
    go_ret
    exact⟨by rw[Hz.out];rfl,hB⟩
   | false=>
   go_wp2_with fail
   refine (HI.out _).mono ?_
   rintro e w2 ⟨rfl,rfl⟩
   obtain⟨bt,hbt⟩:∃ b,twoB xe.op=b:=⟨_,rfl⟩
   rw[hbt] at Hh ⊢
   clear hbt
   cases bt with
   | true=>
    have Hz:Hid (rightR t=false):=hid (by rw[Hz1.out,Hst.out,Hh.out];rfl)
    go_wp2
    go_ret
    exact⟨by rw[Hz.out];rfl,hB⟩
   | false=>
   cases b1 with
   | false=>
    have Hz2:=hid (Hst.out.trans (by rw[Hh.out];rfl:_=(t.head.l.drop (k+1)).all (headT be)))
    go_wp2
    go_roundw
    case rel=>exact⟨k+1,hlt,by go_num,Hz2.out,hB2⟩
    case measure=>simp[intOf];omega
   | true=>
   cases be with
   | true=>
    have Hz:Hid (rightR t=false):=hid (by rw[Hz1.out,Hst.out,Hh.out];rfl)
    go_wp2
    go_ret
    exact⟨by rw[Hz.out];rfl,hB⟩
   | false=>
    have Hz2:=hid (Hst.out.trans (by rw[Hh.out];rfl:_=(t.head.l.drop (k+1)).all (headT false)))
    go_wp2
    go_roundw
    case rel=>exact⟨k+1,hlt,by go_num,Hz2.out,hB2⟩
    case measure=>simp[intOf];omega
  ·have hlt':¬ (k:Int) < (t.head.l.length:Int):=by omega
   have Hall:Hid (t.head.l.all (headT be)=true):=hid (by rw[Hr.out,List.drop_of_length_le (by omega)];rfl)
   have Hz:Hid (rightR t=t.body.all rightL):=hid (by rw[Hz1.out,Hall.out];rfl)
   clear Hr Hz1 Hall
   go_wp2
   go_loopw [6] (fun i wr=>∃ k:Nat,k≤t.body.length∧i=.int .i64 k∧t.body.all rightL=(t.body.drop k).all rightL∧Below (w.heap.size+1) (w.alloc (.cells #[.string t.head.rel,.slice o0 t.head.l.length k0,.slice o1 t.body.length k1,.int .i64 t.line] 37)) wr) (fun i _=>t.body.length - (intOf i).toNat)
   case atStart=>exact⟨0,Nat.zero_le _,rfl,rfl,hB2⟩
   case round=>
    obtain⟨k,hk,rfl,hr,hB2⟩:=hrel
    have hB:Below w.heap.size w wr:=(HB0.out _).trans (hB2.mono (by omega))
    have Hr:=hid hr
    clear hr
    have hBs:=hB2.size
    simp only[World.size_alloc] at hBs
    have hz0:w.heap.size < wr.heap.size:=by omega
    have x2:wr.cell? ⟨w.heap.size,2,none⟩=some (.slice o1 t.body.length k1):=(hB2.cell (p:=⟨w.heap.size,2,none⟩) (by show w.heap.size < _;omega)).trans (by go_simp)
    by_cases hlt:k < t.body.length
    ·have hlt':(k:Int) < (t.body.length:Int):=by omega
     obtain⟨xe,ht⟩:∃ xe,t.body[k]?=some xe:=⟨t.body[k],List.getElem?_eq_getElem hlt⟩
     obtain⟨b,p3,q3,p4,q4,p5,q5,rfl,ha,Hc,c0,c1,c2,c3,c4,c5,c6,c7,c8,c9,c10⟩:=lt_at SL hB ht
     have hal:(b.add (k * 11)).block < wr.heap.size:=by rw[addBlock];omega
     have Hst:=hid (Hr.out.trans (all_drop' (f:=rightL) ht))
     clear ht
     have HI:=hid (fun (W:World) (hb:Below wr.heap.size wr W)=>rrightLit_c xe W _ ((Hc.out.below hb).more hb.size))
     go_wp2_with fail
     refine (HI.out _ (Below.refl _ _)).mono ?_
     rintro e w1 ⟨rfl,b1⟩
     have hB3:=hB2.trans (b1.mono (by omega))
     cases hs:rightL xe with
     | false=>
      have Hz2:=hid (Hz.out.trans (Hst.out.trans (by rw[hs,Bool.false_and])))
      clear hs
      go_wp2
      go_ret
      exact⟨by rw[Hz2.out];rfl,(HB0.out _).trans (hB3.mono (by omega))⟩
     | true=>
      have Hz2:=hid (Hst.out.trans (by rw[hs,Bool.true_and]))
      clear hs
      go_wp2
      go_roundw
      case rel=>exact⟨k+1,hlt,by go_num,Hz2.out,hB3⟩
      case measure=>simp[intOf];omega
    ·have hlt':¬ (k:Int) < (t.body.length:Int):=by omega
     have Hz2:=hid (Hz.out.trans (Hr.out.trans (by rw[List.drop_of_length_le (by omega)];rfl:_=true)))
     go_wp2
     go_ret
     exact⟨by rw[Hz2.out];rfl,hB⟩
def LlC (w:World) (B:Nat) (l:List ByteArray) (cs:List Value):Prop:=∃ v,cs=[v]∧SlOf w B 1 StrC l v
def catL (ls:List (List ByteArray)):List ByteArray:=ls.flatten
theorem flat_take {ls:List (List ByteArray)} {k:Nat} {l:List ByteArray} (h:ls[k]?=some l):catL (ls.take (k+1))=catL (ls.take k)++l:=by
 unfold catL
 rw[List.take_add_one,h];simp
theorem flat_len (ls:List (List ByteArray)) (k:Nat):(catL (ls.take k)).length≤(catL ls).length:=by
 unfold catL
 have:ls.flatten=(ls.take k).flatten++(ls.drop k).flatten:=by rw[← List.flatten_append,List.take_append_drop]
 rw[this,List.length_append];omega
set_option maxRecDepth 100000 in
set_option maxHeartbeats 8000000 in
theorem concat_c (ls:List (List ByteArray)) (v:Value) (w:World) (h:SlOf w w.heap.size 1 (LlC w w.heap.size) ls v) (hn:(catL ls).length≤1000000) :
  Calls Tryz.prog 137 #[v] w fun e w'=>∃ u,e=.returned u∧w'.ownsRow w.heap.size 9 1 u (catL ls).length ((catL ls).map Value.string)∧Below w.heap.size w w':=by
 obtain⟨o1,k1,rfl,_,_,S1⟩:=SlOf.open h
 have HN:=hid hn
 obtain⟨i0,hi,hz0,hz1,hz2⟩:=info_parts info_str
 clear h hn
 go_enter Tryz.func137,Tryz.ntmps137
 go_wp2
 go_loopw [3,11] (fun sz i wr=>∃ (k m:Nat),k≤ls.length∧i=.int .i64 k∧sz=.int .i64 m∧(catL (ls.take k)).length=m∧w=wr) (fun _ i _=>ls.length - (intOf i).toNat)
 case atStart=>exact⟨0,0,Nat.zero_le _,rfl,rfl,rfl,rfl⟩
 case round=>
  obtain⟨k,m,hk,rfl,rfl,hm,rfl⟩:=hrel
  by_cases hlt:k < ls.length
  ·have hlt':(k:Int) < (ls.length:Int):=by omega
   obtain⟨x,hx⟩:∃ x,ls[k]?=some x:=⟨ls[k],List.getElem?_eq_getElem hlt⟩
   obtain⟨p,cs,rfl,hp,_,⟨u,rfl,hu⟩,h2⟩:=S1.out k x hx
   obtain⟨o2,k2,rfl,_⟩:=SlOf.uni hu
   have c0:=h2.n1
   rw[Nat.mul_one] at c0
   have hpl:(p.add k).block < w.heap.size:=by rw[addBlock];exact hp
   have Hst:Hid ((catL (ls.take (k+1))).length=m+x.length):=hid (by rw[flat_take hx,List.length_append,hm])
   have hle:=flat_len ls (k+1)
   rw[Hst.out] at hle
   have hle2:m+x.length≤1000000:=Nat.le_trans hle HN.out
   have hw:IntKind.i64.wrap ((m:Int)+(x.length:Int))=(m:Int)+(x.length:Int):=IntWalk.i64_in _ (by omega)
   have hneg:¬ ((m:Int)+(x.length:Int) < 0):=by omega
   clear hle h2 hu hx hm
   go_wp2
   go_roundw
   case rel=>exact⟨k+1,m+x.length,hlt,by go_num,by go_num,Hst.out,by trivial⟩
   case measure=>simp[intOf];omega
  ·have hlt':¬ (k:Int) < (ls.length:Int):=by omega
   obtain rfl:(catL ls).length=m:=by rw[← hm,List.take_of_length_le (by omega)]
   have HG:=hid (grow_c (catL ls).length HN.out w)
   clear hlt hm
   go_wp2_with fail
   refine HG.out.mono ?_
   rintro e1 w1 ⟨v1,rfl,hO,b1⟩
   have HO:=hid hO
   have B1:=hid b1
   clear HG hO b1
   go_wp2_with fail
   go_loopw [6,27] (fun lv i wq=>∃ (k:Nat) (M:List ByteArray),k≤ls.length∧i=.int .i64 k∧catL (ls.take k)=M∧wq.ownsRow w.heap.size 9 1 lv M.length (M.map Value.string)∧Below w.heap.size w wq) (fun _ i _=>ls.length - (intOf i).toNat)
   case atStart=>exact⟨0,[],Nat.zero_le _,rfl,rfl,HO.out,B1.out⟩
   case round=>
    obtain⟨k,Mk,hk,rfl,hMk,hO,hB⟩:=hrel
    have HMk:=hid hMk
    have HO2:=hid hO
    have HB:=hid hB
    have hsz:=hB.size
    clear hMk hO hB
    by_cases hlt:k < ls.length
    ·have hlt2:(k:Int) < (ls.length:Int):=by omega
     obtain⟨x,hx⟩:∃ x,ls[k]?=some x:=⟨ls[k],List.getElem?_eq_getElem hlt⟩
     obtain⟨p,cs,rfl,hp,_,⟨u,rfl,hu⟩,h2⟩:=S1.out k x hx
     have hu2:=hu.str HB.out hsz
     obtain⟨xs,hlaid,hsp⟩:=sl_laid hu2 str_one
     have hxs:=laid_str hlaid
     subst hxs
     have HSp:=hid hsp
     have c0:=(h2.below hp HB.out).n1
     rw[Nat.mul_one] at c0
     have hpl:(p.add k).block < wr.heap.size:=by rw[addBlock];omega
     have Hst:Hid (catL (ls.take (k+1))=Mk++x):=hid (by rw[flat_take hx,HMk.out])
     have hle:=flat_len ls (k+1)
     rw[Hst.out,List.length_append] at hle
     have HS1:Hid (Mk.length+x.length≤maxLen):=hid (by have:=HN.out;unfold maxLen;omega)
     have HS2:Hid ((Mk.length+x.length) * 16≤140737488355328):=hid (by have:=HN.out;omega)
     clear hle h2 hu hu2 hx hlaid hsp
     go_wp2_with (at_builtin;refine wpList_append_any _ rfl (.tmp 31) (.tmp 32) 45 rfl w.heap.size 9 i0 _ 1 16 Tryz.underlying45 hi hz0 hz1 hz2 rfl (by decide) _ Mk.length _ rfl HO2.out _ x.length _ rfl HSp.out HS1.out HS2.out hsz ?_;intro v2 w2 hown2 hg2 _;have O2:=hid hown2;have G2:=hid hg2;clear hown2 hg2)
     go_roundw
     case rel=>
      refine⟨k+1,Mk++x,hlt,by go_num,Hst.out,?_,?_⟩
      ·rw[List.length_append,List.map_append];exact O2.out
      ·exact HB.out.grown G2.out hsz (fun q hq=>(HO2.out.lt q hq).1)
     case measure=>simp[intOf];omega
    ·have hlt2:¬ (k:Int) < (ls.length:Int):=by omega
     obtain rfl:Mk=catL ls:=by rw[← HMk.out,List.take_of_length_le (by omega)]
     obtain⟨oq,kq,rfl⟩:=own_shape HO2.out
     go_wp2
     go_ret
     exact⟨_,rfl,HO2.out,HB.out⟩
end Go.Proofs.YtfmldnbcjbflbaaGreatDoor

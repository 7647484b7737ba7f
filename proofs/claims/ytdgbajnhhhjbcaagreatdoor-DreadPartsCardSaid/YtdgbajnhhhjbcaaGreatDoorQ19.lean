/- Twlit@012 -/
import Derived.Test.YtdgbajnhhhjbcaaGreatDoorQ18
set_option linter.unusedSimpArgs false
namespace Go.Proofs.YtdgbajnhhhjbcaaGreatDoor
open Lib(hid)
open Go.RowKit
theorem w_term {T:Tm} {cs:List Value} {B b:Nat} {w:World} {a:Addr} (hr:rightT 20 T=true) (hc:TmC w B T cs) (E:TEnv a w) (hV:14≤B) (hB:B≤w.heap.size):∀ (W:World) (l:List UInt8),Bd B b l W→Kp B b w W→l.length+(showT 20 T).length≤1073741824→Calls Tryz.prog 114 #[.pointer (some ⟨b,0,none⟩),.agg cs.toArray] W (Wrote B b l (showT 20 T) W):=
 fun W l hb k hl=>writeTerm_c 20 T B b l W cs a hr hb (hc.under k.below) (E.belowB hV k.below) hV (k.size hB) hl
theorem w_atom {T:Am} {cs:List Value} {B b:Nat} {w:World} {a:Addr} (hr:rightA T=true) (hc:AmC w B T cs) (E:TEnv a w) (hV:14≤B) (hB:B≤w.heap.size):∀ (W:World) (l:List UInt8),Bd B b l W→Kp B b w W→l.length+(showA T).length≤1073741824→Calls Tryz.prog 73 #[.pointer (some ⟨b,0,none⟩),.agg cs.toArray] W (Wrote B b l (showA T) W):=
 fun W l hb k hl=>writeAtom_c T B b l W cs a hr hb (hc.below k.below) (E.belowB hV k.below) hV (k.size hB) hl
set_option maxRecDepth 100000 in
set_option maxHeartbeats 4000000 in
theorem wagg_7 (am:Am) (x y:Tm) (o0 o1 o2:Option Addr) (k0 k1 k2:Nat) (B b:Nat) (l:List UInt8) (w:World) (a:Addr) (hx:rightT 20 x=true) (cx:TmC w B x [.int .i64 x.op,.string x.s,.int .i64 x.n,.slice o1 x.l.length k1]) (ha:rightA am=true) (ca:AmC w B am [.string am.rel,.slice o0 am.l.length k0]) (hb:Bd B b l w) (E:TEnv a w) (hV:14≤B) (hB:B≤w.heap.size) (hl:l.length+(showT 20 x++[32,61,32,99,111,117,110,116]++[32,58,32,123,32]++showA am++[32,125]).length≤1073741824) :
  Calls Tryz.prog 115 #[.pointer (some ⟨b,0,none⟩),.agg #[.int .i64 7,.string am.rel,.slice o0 am.l.length k0,.int .i64 x.op,.string x.s,.int .i64 x.n,.slice o1 x.l.length k1,.int .i64 y.op,.string y.s,.int .i64 y.n,.slice o2 y.l.length k2]] w (Wrote B b l (showT 20 x++[32,61,32,99,111,117,110,116]++[32,58,32,123,32]++showA am++[32,125]) w):=by
 have hbl:=bdLt hb
 obtain⟨oc,hoc⟩:∃ o:Obj,o=.cells #[.int .i64 7,.string am.rel,.slice o0 am.l.length k0,.int .i64 x.op,.string x.s,.int .i64 x.n,.slice o1 x.l.length k1,.int .i64 y.op,.string y.s,.int .i64 y.n,.slice o2 y.l.length k2] 66:=⟨_,rfl⟩
 have R0:Row w.heap.size 66 [.int .i64 7,.string am.rel,.slice o0 am.l.length k0,.int .i64 x.op,.string x.s,.int .i64 x.n,.slice o1 x.l.length k1,.int .i64 y.op,.string y.s,.int .i64 y.n,.slice o2 y.l.length k2] (w.alloc oc):=by rw[hoc];exact Row.new w _ _
 have b0:=hb.alloc oc
 have k0':Kp B b w (w.alloc oc):=Kp.alloc hB _
 have E0:=E.belowB hV k0'.below
 have hB0:B≤(w.alloc oc).heap.size:=k0'.size hB
 have HR:Hid (∀ W,Kp B b (w.alloc oc) W→(W.cell? ⟨w.heap.size,0,none⟩=some (.int .i64 7)∧W.cell? ⟨w.heap.size,1,none⟩=some (.string am.rel)∧W.cell? ⟨w.heap.size,2,none⟩=some (.slice o0 am.l.length k0))∧(W.cell? ⟨w.heap.size,3,none⟩=some (.int .i64 x.op)∧W.cell? ⟨w.heap.size,4,none⟩=some (.string x.s)∧W.cell? ⟨w.heap.size,5,none⟩=some (.int .i64 x.n)∧W.cell? ⟨w.heap.size,6,none⟩=some (.slice o1 x.l.length k1))∧(W.cell? ⟨w.heap.size,7,none⟩=some (.int .i64 y.op)∧W.cell? ⟨w.heap.size,8,none⟩=some (.string y.s)∧W.cell? ⟨w.heap.size,9,none⟩=some (.int .i64 y.n)∧W.cell? ⟨w.heap.size,10,none⟩=some (.slice o2 y.l.length k2))∧w.heap.size < W.heap.size):=hid fun W K=>by
  have R:=R0.kp K (by omega) (by decide)
  have:=K.below.size
  simp only[World.size_alloc] at this
  exact⟨⟨R.at 0 _ rfl,R.at 1 _ rfl,R.at 2 _ rfl⟩,⟨R.at 3 _ rfl,R.at 4 _ rfl,R.at 5 _ rfl,R.at 6 _ rfl⟩,⟨R.at 7 _ rfl,R.at 8 _ rfl,R.at 9 _ rfl,R.at 10 _ rfl⟩,by omega⟩
 have HS:Hid (∀ W,Kp B b (w.alloc oc) W→W.cell? ⟨5,7,none⟩=some (.string ⟨#[99,111,117,110,116]⟩)):=hid fun W K=>(E0.belowB hV K.below).words 7 _ rfl
 have HX:=hid (w_term (b:=b) hx (cx.under k0'.below) E0 hV hB0)
 have HA:=hid (w_atom (b:=b) ha (ca.below k0'.below) E0 hV hB0)
 have HK0:=hid k0'
 have Hl:=hid hl
 have Hb0:=hid b0
 clear R0 k0' hb E E0 hB0 hl b0
 clear hx cx ha ca
 subst hoc
 go_enter Tryz.func115,Tryz.ntmps115
 have Hk0:=hid (Kp.refl B b (w.alloc (.cells #[.int .i64 7,.string am.rel,.slice o0 am.l.length k0,.int .i64 x.op,.string x.s,.int .i64 x.n,.slice o1 x.l.length k1,.int .i64 y.op,.string y.s,.int .i64 y.n,.slice o2 y.l.length k2] 66)))
 obtain⟨⟨x0,x1,x2⟩,⟨x3,x4,x5,x6⟩,⟨x7,x8,x9,x10⟩,hz0⟩:=HR.out _ Hk0.out
 go_wp2_with fail
 refine (HX.out _ _ Hb0.out Hk0.out (by have:=Hl.out;first | omega | (simp only[List.length_append,List.length_cons,List.length_nil] at this ⊢;omega))).mono ?_
 clear x0 x1 x2 x3 x4 x5 x6 x7 x8 x9 x10 hz0
 rintro e w1 ⟨rfl,b1,kk⟩
 have Hb1:Hid (Bd B b (l++showT 20 x) w1):=hid b1
 have Hk1:=hid (Hk0.out.trans kk)
 clear b1 kk Hb0
 obtain⟨⟨x0,x1,x2⟩,⟨x3,x4,x5,x6⟩,⟨x7,x8,x9,x10⟩,hz0⟩:=HR.out _ Hk1.out
 have sg:=HS.out _ Hk1.out
 go_wp2_with fail
 have es:((⟨#[32,61,32]⟩:ByteArray)++(⟨#[99,111,117,110,116]⟩:ByteArray)).size=8:=by simp[ByteArray.size]
 have ec:((⟨#[32,61,32]⟩:ByteArray)++(⟨#[99,111,117,110,116]⟩:ByteArray)).data.toList=[32,61,32,99,111,117,110,116]:=by simp
 refine (writeString_c B b _ _ _ Hb1.out (by rw[es];have:=Hl.out;simp only[List.length_append,List.length_cons,List.length_nil] at this ⊢;omega) (Hk1.out.size (by simp;omega))).mono ?_
 clear x0 x1 x2 x3 x4 x5 x6 x7 x8 x9 x10 hz0 sg
 rintro e w2 ⟨rfl,b2,kk⟩
 rw[ec] at b2
 clear es ec
 have Hb2:Hid (Bd B b (l++showT 20 x++[32,61,32,99,111,117,110,116]) w2):=hid b2
 have Hk2:=hid (Hk1.out.trans kk)
 clear b2 kk Hb1
 obtain⟨⟨x0,x1,x2⟩,⟨x3,x4,x5,x6⟩,⟨x7,x8,x9,x10⟩,hz0⟩:=HR.out _ Hk2.out
 go_wp2_with fail
 have es:(⟨#[32,58,32,123,32]⟩:ByteArray).size=5:=rfl
 have ec:(⟨#[32,58,32,123,32]⟩:ByteArray).data.toList=[32,58,32,123,32]:=rfl
 refine (writeString_c B b _ _ _ Hb2.out (by rw[es];have:=Hl.out;simp only[List.length_append,List.length_cons,List.length_nil] at this ⊢;omega) (Hk2.out.size (by simp;omega))).mono ?_
 clear x0 x1 x2 x3 x4 x5 x6 x7 x8 x9 x10 hz0
 rintro e w3 ⟨rfl,b3,kk⟩
 rw[ec] at b3
 clear es ec
 have Hb3:Hid (Bd B b (l++showT 20 x++[32,61,32,99,111,117,110,116]++[32,58,32,123,32]) w3):=hid b3
 have Hk3:=hid (Hk2.out.trans kk)
 clear b3 kk Hb2
 obtain⟨⟨x0,x1,x2⟩,⟨x3,x4,x5,x6⟩,⟨x7,x8,x9,x10⟩,hz0⟩:=HR.out _ Hk3.out
 go_wp2_with fail
 refine (HA.out _ _ Hb3.out Hk3.out (by have:=Hl.out;first | omega | (simp only[List.length_append,List.length_cons,List.length_nil] at this ⊢;omega))).mono ?_
 clear x0 x1 x2 x3 x4 x5 x6 x7 x8 x9 x10 hz0
 rintro e w4 ⟨rfl,b4,kk⟩
 have Hb4:Hid (Bd B b (l++showT 20 x++[32,61,32,99,111,117,110,116]++[32,58,32,123,32]++showA am) w4):=hid b4
 have Hk4:=hid (Hk3.out.trans kk)
 clear b4 kk Hb3
 obtain⟨⟨x0,x1,x2⟩,⟨x3,x4,x5,x6⟩,⟨x7,x8,x9,x10⟩,hz0⟩:=HR.out _ Hk4.out
 go_wp2_with fail
 have es:(⟨#[32,125]⟩:ByteArray).size=2:=rfl
 have ec:(⟨#[32,125]⟩:ByteArray).data.toList=[32,125]:=rfl
 refine (writeString_c B b _ _ _ Hb4.out (by rw[es];have:=Hl.out;simp only[List.length_append,List.length_cons,List.length_nil] at this ⊢;omega) (Hk4.out.size (by simp;omega))).mono ?_
 clear x0 x1 x2 x3 x4 x5 x6 x7 x8 x9 x10 hz0
 rintro e w5 ⟨rfl,b5,kk⟩
 rw[ec] at b5
 clear es ec
 have Hb5:Hid (Bd B b (l++showT 20 x++[32,61,32,99,111,117,110,116]++[32,58,32,123,32]++showA am++[32,125]) w5):=hid b5
 have Hk5:=hid (Hk4.out.trans kk)
 clear b5 kk Hb4
 have Hkz:=hid (HK0.out.trans Hk5.out)
 go_wp2
 go_end0
 exact⟨rfl,by simpa using Hb5.out,Hkz.out⟩
set_option maxRecDepth 100000 in
set_option maxHeartbeats 4000000 in
theorem wagg_8 (am:Am) (x y:Tm) (o0 o1 o2:Option Addr) (k0 k1 k2:Nat) (B b:Nat) (l:List UInt8) (w:World) (a:Addr) (hx:rightT 20 x=true) (cx:TmC w B x [.int .i64 x.op,.string x.s,.int .i64 x.n,.slice o1 x.l.length k1]) (hy:rightT 20 y=true) (cy:TmC w B y [.int .i64 y.op,.string y.s,.int .i64 y.n,.slice o2 y.l.length k2]) (ha:rightA am=true) (ca:AmC w B am [.string am.rel,.slice o0 am.l.length k0]) (hb:Bd B b l w) (E:TEnv a w) (hV:14≤B) (hB:B≤w.heap.size) (hl:l.length+(showT 20 x++[32,61,32,115,117,109]++[32]++showT 20 y++[32,58,32,123,32]++showA am++[32,125]).length≤1073741824) :
  Calls Tryz.prog 115 #[.pointer (some ⟨b,0,none⟩),.agg #[.int .i64 8,.string am.rel,.slice o0 am.l.length k0,.int .i64 x.op,.string x.s,.int .i64 x.n,.slice o1 x.l.length k1,.int .i64 y.op,.string y.s,.int .i64 y.n,.slice o2 y.l.length k2]] w (Wrote B b l (showT 20 x++[32,61,32,115,117,109]++[32]++showT 20 y++[32,58,32,123,32]++showA am++[32,125]) w):=by
 have hbl:=bdLt hb
 obtain⟨oc,hoc⟩:∃ o:Obj,o=.cells #[.int .i64 8,.string am.rel,.slice o0 am.l.length k0,.int .i64 x.op,.string x.s,.int .i64 x.n,.slice o1 x.l.length k1,.int .i64 y.op,.string y.s,.int .i64 y.n,.slice o2 y.l.length k2] 66:=⟨_,rfl⟩
 have R0:Row w.heap.size 66 [.int .i64 8,.string am.rel,.slice o0 am.l.length k0,.int .i64 x.op,.string x.s,.int .i64 x.n,.slice o1 x.l.length k1,.int .i64 y.op,.string y.s,.int .i64 y.n,.slice o2 y.l.length k2] (w.alloc oc):=by rw[hoc];exact Row.new w _ _
 have b0:=hb.alloc oc
 have k0':Kp B b w (w.alloc oc):=Kp.alloc hB _
 have E0:=E.belowB hV k0'.below
 have hB0:B≤(w.alloc oc).heap.size:=k0'.size hB
 have HR:Hid (∀ W,Kp B b (w.alloc oc) W→(W.cell? ⟨w.heap.size,0,none⟩=some (.int .i64 8)∧W.cell? ⟨w.heap.size,1,none⟩=some (.string am.rel)∧W.cell? ⟨w.heap.size,2,none⟩=some (.slice o0 am.l.length k0))∧(W.cell? ⟨w.heap.size,3,none⟩=some (.int .i64 x.op)∧W.cell? ⟨w.heap.size,4,none⟩=some (.string x.s)∧W.cell? ⟨w.heap.size,5,none⟩=some (.int .i64 x.n)∧W.cell? ⟨w.heap.size,6,none⟩=some (.slice o1 x.l.length k1))∧(W.cell? ⟨w.heap.size,7,none⟩=some (.int .i64 y.op)∧W.cell? ⟨w.heap.size,8,none⟩=some (.string y.s)∧W.cell? ⟨w.heap.size,9,none⟩=some (.int .i64 y.n)∧W.cell? ⟨w.heap.size,10,none⟩=some (.slice o2 y.l.length k2))∧w.heap.size < W.heap.size):=hid fun W K=>by
  have R:=R0.kp K (by omega) (by decide)
  have:=K.below.size
  simp only[World.size_alloc] at this
  exact⟨⟨R.at 0 _ rfl,R.at 1 _ rfl,R.at 2 _ rfl⟩,⟨R.at 3 _ rfl,R.at 4 _ rfl,R.at 5 _ rfl,R.at 6 _ rfl⟩,⟨R.at 7 _ rfl,R.at 8 _ rfl,R.at 9 _ rfl,R.at 10 _ rfl⟩,by omega⟩
 have HS:Hid (∀ W,Kp B b (w.alloc oc) W→W.cell? ⟨5,8,none⟩=some (.string ⟨#[115,117,109]⟩)):=hid fun W K=>(E0.belowB hV K.below).words 8 _ rfl
 have HX:=hid (w_term (b:=b) hx (cx.under k0'.below) E0 hV hB0)
 have HY:=hid (w_term (b:=b) hy (cy.under k0'.below) E0 hV hB0)
 have HA:=hid (w_atom (b:=b) ha (ca.below k0'.below) E0 hV hB0)
 have HK0:=hid k0'
 have Hl:=hid hl
 have Hb0:=hid b0
 clear R0 k0' hb E E0 hB0 hl b0
 clear hx cx hy cy ha ca
 subst hoc
 go_enter Tryz.func115,Tryz.ntmps115
 have Hk0:=hid (Kp.refl B b (w.alloc (.cells #[.int .i64 8,.string am.rel,.slice o0 am.l.length k0,.int .i64 x.op,.string x.s,.int .i64 x.n,.slice o1 x.l.length k1,.int .i64 y.op,.string y.s,.int .i64 y.n,.slice o2 y.l.length k2] 66)))
 obtain⟨⟨x0,x1,x2⟩,⟨x3,x4,x5,x6⟩,⟨x7,x8,x9,x10⟩,hz0⟩:=HR.out _ Hk0.out
 go_wp2_with fail
 refine (HX.out _ _ Hb0.out Hk0.out (by have:=Hl.out;first | omega | (simp only[List.length_append,List.length_cons,List.length_nil] at this ⊢;omega))).mono ?_
 clear x0 x1 x2 x3 x4 x5 x6 x7 x8 x9 x10 hz0
 rintro e w1 ⟨rfl,b1,kk⟩
 have Hb1:Hid (Bd B b (l++showT 20 x) w1):=hid b1
 have Hk1:=hid (Hk0.out.trans kk)
 clear b1 kk Hb0
 obtain⟨⟨x0,x1,x2⟩,⟨x3,x4,x5,x6⟩,⟨x7,x8,x9,x10⟩,hz0⟩:=HR.out _ Hk1.out
 have sg:=HS.out _ Hk1.out
 go_wp2_with fail
 have es:((⟨#[32,61,32]⟩:ByteArray)++(⟨#[115,117,109]⟩:ByteArray)).size=6:=by simp[ByteArray.size]
 have ec:((⟨#[32,61,32]⟩:ByteArray)++(⟨#[115,117,109]⟩:ByteArray)).data.toList=[32,61,32,115,117,109]:=by simp
 refine (writeString_c B b _ _ _ Hb1.out (by rw[es];have:=Hl.out;simp only[List.length_append,List.length_cons,List.length_nil] at this ⊢;omega) (Hk1.out.size (by simp;omega))).mono ?_
 clear x0 x1 x2 x3 x4 x5 x6 x7 x8 x9 x10 hz0 sg
 rintro e w2 ⟨rfl,b2,kk⟩
 rw[ec] at b2
 clear es ec
 have Hb2:Hid (Bd B b (l++showT 20 x++[32,61,32,115,117,109]) w2):=hid b2
 have Hk2:=hid (Hk1.out.trans kk)
 clear b2 kk Hb1
 obtain⟨⟨x0,x1,x2⟩,⟨x3,x4,x5,x6⟩,⟨x7,x8,x9,x10⟩,hz0⟩:=HR.out _ Hk2.out
 go_wp2_with fail
 refine (writeByte_c B b _ 32 32 rfl _ Hb2.out (by have:=Hl.out;first | omega | (simp only[List.length_append,List.length_cons,List.length_nil] at this ⊢;omega)) (Hk2.out.size (by simp;omega))).mono ?_
 clear x0 x1 x2 x3 x4 x5 x6 x7 x8 x9 x10 hz0
 rintro e w3 ⟨rfl,b3,kk⟩
 have Hb3:Hid (Bd B b (l++showT 20 x++[32,61,32,115,117,109]++[32]) w3):=hid b3
 have Hk3:=hid (Hk2.out.trans kk)
 clear b3 kk Hb2
 obtain⟨⟨x0,x1,x2⟩,⟨x3,x4,x5,x6⟩,⟨x7,x8,x9,x10⟩,hz0⟩:=HR.out _ Hk3.out
 go_wp2_with fail
 refine (HY.out _ _ Hb3.out Hk3.out (by have:=Hl.out;first | omega | (simp only[List.length_append,List.length_cons,List.length_nil] at this ⊢;omega))).mono ?_
 clear x0 x1 x2 x3 x4 x5 x6 x7 x8 x9 x10 hz0
 rintro e w4 ⟨rfl,b4,kk⟩
 have Hb4:Hid (Bd B b (l++showT 20 x++[32,61,32,115,117,109]++[32]++showT 20 y) w4):=hid b4
 have Hk4:=hid (Hk3.out.trans kk)
 clear b4 kk Hb3
 obtain⟨⟨x0,x1,x2⟩,⟨x3,x4,x5,x6⟩,⟨x7,x8,x9,x10⟩,hz0⟩:=HR.out _ Hk4.out
 go_wp2_with fail
 have es:(⟨#[32,58,32,123,32]⟩:ByteArray).size=5:=rfl
 have ec:(⟨#[32,58,32,123,32]⟩:ByteArray).data.toList=[32,58,32,123,32]:=rfl
 refine (writeString_c B b _ _ _ Hb4.out (by rw[es];have:=Hl.out;simp only[List.length_append,List.length_cons,List.length_nil] at this ⊢;omega) (Hk4.out.size (by simp;omega))).mono ?_
 clear x0 x1 x2 x3 x4 x5 x6 x7 x8 x9 x10 hz0
 rintro e w5 ⟨rfl,b5,kk⟩
 rw[ec] at b5
 clear es ec
 have Hb5:Hid (Bd B b (l++showT 20 x++[32,61,32,115,117,109]++[32]++showT 20 y++[32,58,32,123,32]) w5):=hid b5
 have Hk5:=hid (Hk4.out.trans kk)
 clear b5 kk Hb4
 obtain⟨⟨x0,x1,x2⟩,⟨x3,x4,x5,x6⟩,⟨x7,x8,x9,x10⟩,hz0⟩:=HR.out _ Hk5.out
 go_wp2_with fail
 refine (HA.out _ _ Hb5.out Hk5.out (by have:=Hl.out;first | omega | (simp only[List.length_append,List.length_cons,List.length_nil] at this ⊢;omega))).mono ?_
 clear x0 x1 x2 x3 x4 x5 x6 x7 x8 x9 x10 hz0
 rintro e w6 ⟨rfl,b6,kk⟩
 have Hb6:Hid (Bd B b (l++showT 20 x++[32,61,32,115,117,109]++[32]++showT 20 y++[32,58,32,123,32]++showA am) w6):=hid b6
 have Hk6:=hid (Hk5.out.trans kk)
 clear b6 kk Hb5
 obtain⟨⟨x0,x1,x2⟩,⟨x3,x4,x5,x6⟩,⟨x7,x8,x9,x10⟩,hz0⟩:=HR.out _ Hk6.out
 go_wp2_with fail
 have es:(⟨#[32,125]⟩:ByteArray).size=2:=rfl
 have ec:(⟨#[32,125]⟩:ByteArray).data.toList=[32,125]:=rfl
 refine (writeString_c B b _ _ _ Hb6.out (by rw[es];have:=Hl.out;simp only[List.length_append,List.length_cons,List.length_nil] at this ⊢;omega) (Hk6.out.size (by simp;omega))).mono ?_
 clear x0 x1 x2 x3 x4 x5 x6 x7 x8 x9 x10 hz0
 rintro e w7 ⟨rfl,b7,kk⟩
 rw[ec] at b7
 clear es ec
 have Hb7:Hid (Bd B b (l++showT 20 x++[32,61,32,115,117,109]++[32]++showT 20 y++[32,58,32,123,32]++showA am++[32,125]) w7):=hid b7
 have Hk7:=hid (Hk6.out.trans kk)
 clear b7 kk Hb6
 have Hkz:=hid (HK0.out.trans Hk7.out)
 go_wp2
 go_end0
 exact⟨rfl,by simpa using Hb7.out,Hkz.out⟩
set_option maxRecDepth 100000 in
set_option maxHeartbeats 4000000 in
theorem wagg_9 (am:Am) (x y:Tm) (o0 o1 o2:Option Addr) (k0 k1 k2:Nat) (B b:Nat) (l:List UInt8) (w:World) (a:Addr) (hx:rightT 20 x=true) (cx:TmC w B x [.int .i64 x.op,.string x.s,.int .i64 x.n,.slice o1 x.l.length k1]) (hy:rightT 20 y=true) (cy:TmC w B y [.int .i64 y.op,.string y.s,.int .i64 y.n,.slice o2 y.l.length k2]) (ha:rightA am=true) (ca:AmC w B am [.string am.rel,.slice o0 am.l.length k0]) (hb:Bd B b l w) (E:TEnv a w) (hV:14≤B) (hB:B≤w.heap.size) (hl:l.length+(showT 20 x++[32,61,32,109,105,110]++[32]++showT 20 y++[32,58,32,123,32]++showA am++[32,125]).length≤1073741824) :
  Calls Tryz.prog 115 #[.pointer (some ⟨b,0,none⟩),.agg #[.int .i64 9,.string am.rel,.slice o0 am.l.length k0,.int .i64 x.op,.string x.s,.int .i64 x.n,.slice o1 x.l.length k1,.int .i64 y.op,.string y.s,.int .i64 y.n,.slice o2 y.l.length k2]] w (Wrote B b l (showT 20 x++[32,61,32,109,105,110]++[32]++showT 20 y++[32,58,32,123,32]++showA am++[32,125]) w):=by
 have hbl:=bdLt hb
 obtain⟨oc,hoc⟩:∃ o:Obj,o=.cells #[.int .i64 9,.string am.rel,.slice o0 am.l.length k0,.int .i64 x.op,.string x.s,.int .i64 x.n,.slice o1 x.l.length k1,.int .i64 y.op,.string y.s,.int .i64 y.n,.slice o2 y.l.length k2] 66:=⟨_,rfl⟩
 have R0:Row w.heap.size 66 [.int .i64 9,.string am.rel,.slice o0 am.l.length k0,.int .i64 x.op,.string x.s,.int .i64 x.n,.slice o1 x.l.length k1,.int .i64 y.op,.string y.s,.int .i64 y.n,.slice o2 y.l.length k2] (w.alloc oc):=by rw[hoc];exact Row.new w _ _
 have b0:=hb.alloc oc
 have k0':Kp B b w (w.alloc oc):=Kp.alloc hB _
 have E0:=E.belowB hV k0'.below
 have hB0:B≤(w.alloc oc).heap.size:=k0'.size hB
 have HR:Hid (∀ W,Kp B b (w.alloc oc) W→(W.cell? ⟨w.heap.size,0,none⟩=some (.int .i64 9)∧W.cell? ⟨w.heap.size,1,none⟩=some (.string am.rel)∧W.cell? ⟨w.heap.size,2,none⟩=some (.slice o0 am.l.length k0))∧(W.cell? ⟨w.heap.size,3,none⟩=some (.int .i64 x.op)∧W.cell? ⟨w.heap.size,4,none⟩=some (.string x.s)∧W.cell? ⟨w.heap.size,5,none⟩=some (.int .i64 x.n)∧W.cell? ⟨w.heap.size,6,none⟩=some (.slice o1 x.l.length k1))∧(W.cell? ⟨w.heap.size,7,none⟩=some (.int .i64 y.op)∧W.cell? ⟨w.heap.size,8,none⟩=some (.string y.s)∧W.cell? ⟨w.heap.size,9,none⟩=some (.int .i64 y.n)∧W.cell? ⟨w.heap.size,10,none⟩=some (.slice o2 y.l.length k2))∧w.heap.size < W.heap.size):=hid fun W K=>by
  have R:=R0.kp K (by omega) (by decide)
  have:=K.below.size
  simp only[World.size_alloc] at this
  exact⟨⟨R.at 0 _ rfl,R.at 1 _ rfl,R.at 2 _ rfl⟩,⟨R.at 3 _ rfl,R.at 4 _ rfl,R.at 5 _ rfl,R.at 6 _ rfl⟩,⟨R.at 7 _ rfl,R.at 8 _ rfl,R.at 9 _ rfl,R.at 10 _ rfl⟩,by omega⟩
 have HS:Hid (∀ W,Kp B b (w.alloc oc) W→W.cell? ⟨5,9,none⟩=some (.string ⟨#[109,105,110]⟩)):=hid fun W K=>(E0.belowB hV K.below).words 9 _ rfl
 have HX:=hid (w_term (b:=b) hx (cx.under k0'.below) E0 hV hB0)
 have HY:=hid (w_term (b:=b) hy (cy.under k0'.below) E0 hV hB0)
 have HA:=hid (w_atom (b:=b) ha (ca.below k0'.below) E0 hV hB0)
 have HK0:=hid k0'
 have Hl:=hid hl
 have Hb0:=hid b0
 clear R0 k0' hb E E0 hB0 hl b0
 clear hx cx hy cy ha ca
 subst hoc
 go_enter Tryz.func115,Tryz.ntmps115
 have Hk0:=hid (Kp.refl B b (w.alloc (.cells #[.int .i64 9,.string am.rel,.slice o0 am.l.length k0,.int .i64 x.op,.string x.s,.int .i64 x.n,.slice o1 x.l.length k1,.int .i64 y.op,.string y.s,.int .i64 y.n,.slice o2 y.l.length k2] 66)))
 obtain⟨⟨x0,x1,x2⟩,⟨x3,x4,x5,x6⟩,⟨x7,x8,x9,x10⟩,hz0⟩:=HR.out _ Hk0.out
 go_wp2_with fail
 refine (HX.out _ _ Hb0.out Hk0.out (by have:=Hl.out;first | omega | (simp only[List.length_append,List.length_cons,List.length_nil] at this ⊢;omega))).mono ?_
 clear x0 x1 x2 x3 x4 x5 x6 x7 x8 x9 x10 hz0
 rintro e w1 ⟨rfl,b1,kk⟩
 have Hb1:Hid (Bd B b (l++showT 20 x) w1):=hid b1
 have Hk1:=hid (Hk0.out.trans kk)
 clear b1 kk Hb0
 obtain⟨⟨x0,x1,x2⟩,⟨x3,x4,x5,x6⟩,⟨x7,x8,x9,x10⟩,hz0⟩:=HR.out _ Hk1.out
 have sg:=HS.out _ Hk1.out
 go_wp2_with fail
 have es:((⟨#[32,61,32]⟩:ByteArray)++(⟨#[109,105,110]⟩:ByteArray)).size=6:=by simp[ByteArray.size]
 have ec:((⟨#[32,61,32]⟩:ByteArray)++(⟨#[109,105,110]⟩:ByteArray)).data.toList=[32,61,32,109,105,110]:=by simp
 refine (writeString_c B b _ _ _ Hb1.out (by rw[es];have:=Hl.out;simp only[List.length_append,List.length_cons,List.length_nil] at this ⊢;omega) (Hk1.out.size (by simp;omega))).mono ?_
 clear x0 x1 x2 x3 x4 x5 x6 x7 x8 x9 x10 hz0 sg
 rintro e w2 ⟨rfl,b2,kk⟩
 rw[ec] at b2
 clear es ec
 have Hb2:Hid (Bd B b (l++showT 20 x++[32,61,32,109,105,110]) w2):=hid b2
 have Hk2:=hid (Hk1.out.trans kk)
 clear b2 kk Hb1
 obtain⟨⟨x0,x1,x2⟩,⟨x3,x4,x5,x6⟩,⟨x7,x8,x9,x10⟩,hz0⟩:=HR.out _ Hk2.out
 go_wp2_with fail
 refine (writeByte_c B b _ 32 32 rfl _ Hb2.out (by have:=Hl.out;first | omega | (simp only[List.length_append,List.length_cons,List.length_nil] at this ⊢;omega)) (Hk2.out.size (by simp;omega))).mono ?_
 clear x0 x1 x2 x3 x4 x5 x6 x7 x8 x9 x10 hz0
 rintro e w3 ⟨rfl,b3,kk⟩
 have Hb3:Hid (Bd B b (l++showT 20 x++[32,61,32,109,105,110]++[32]) w3):=hid b3
 have Hk3:=hid (Hk2.out.trans kk)
 clear b3 kk Hb2
 obtain⟨⟨x0,x1,x2⟩,⟨x3,x4,x5,x6⟩,⟨x7,x8,x9,x10⟩,hz0⟩:=HR.out _ Hk3.out
 go_wp2_with fail
 refine (HY.out _ _ Hb3.out Hk3.out (by have:=Hl.out;first | omega | (simp only[List.length_append,List.length_cons,List.length_nil] at this ⊢;omega))).mono ?_
 clear x0 x1 x2 x3 x4 x5 x6 x7 x8 x9 x10 hz0
 rintro e w4 ⟨rfl,b4,kk⟩
 have Hb4:Hid (Bd B b (l++showT 20 x++[32,61,32,109,105,110]++[32]++showT 20 y) w4):=hid b4
 have Hk4:=hid (Hk3.out.trans kk)
 clear b4 kk Hb3
 obtain⟨⟨x0,x1,x2⟩,⟨x3,x4,x5,x6⟩,⟨x7,x8,x9,x10⟩,hz0⟩:=HR.out _ Hk4.out
 go_wp2_with fail
 have es:(⟨#[32,58,32,123,32]⟩:ByteArray).size=5:=rfl
 have ec:(⟨#[32,58,32,123,32]⟩:ByteArray).data.toList=[32,58,32,123,32]:=rfl
 refine (writeString_c B b _ _ _ Hb4.out (by rw[es];have:=Hl.out;simp only[List.length_append,List.length_cons,List.length_nil] at this ⊢;omega) (Hk4.out.size (by simp;omega))).mono ?_
 clear x0 x1 x2 x3 x4 x5 x6 x7 x8 x9 x10 hz0
 rintro e w5 ⟨rfl,b5,kk⟩
 rw[ec] at b5
 clear es ec
 have Hb5:Hid (Bd B b (l++showT 20 x++[32,61,32,109,105,110]++[32]++showT 20 y++[32,58,32,123,32]) w5):=hid b5
 have Hk5:=hid (Hk4.out.trans kk)
 clear b5 kk Hb4
 obtain⟨⟨x0,x1,x2⟩,⟨x3,x4,x5,x6⟩,⟨x7,x8,x9,x10⟩,hz0⟩:=HR.out _ Hk5.out
 go_wp2_with fail
 refine (HA.out _ _ Hb5.out Hk5.out (by have:=Hl.out;first | omega | (simp only[List.length_append,List.length_cons,List.length_nil] at this ⊢;omega))).mono ?_
 clear x0 x1 x2 x3 x4 x5 x6 x7 x8 x9 x10 hz0
 rintro e w6 ⟨rfl,b6,kk⟩
 have Hb6:Hid (Bd B b (l++showT 20 x++[32,61,32,109,105,110]++[32]++showT 20 y++[32,58,32,123,32]++showA am) w6):=hid b6
 have Hk6:=hid (Hk5.out.trans kk)
 clear b6 kk Hb5
 obtain⟨⟨x0,x1,x2⟩,⟨x3,x4,x5,x6⟩,⟨x7,x8,x9,x10⟩,hz0⟩:=HR.out _ Hk6.out
 go_wp2_with fail
 have es:(⟨#[32,125]⟩:ByteArray).size=2:=rfl
 have ec:(⟨#[32,125]⟩:ByteArray).data.toList=[32,125]:=rfl
 refine (writeString_c B b _ _ _ Hb6.out (by rw[es];have:=Hl.out;simp only[List.length_append,List.length_cons,List.length_nil] at this ⊢;omega) (Hk6.out.size (by simp;omega))).mono ?_
 clear x0 x1 x2 x3 x4 x5 x6 x7 x8 x9 x10 hz0
 rintro e w7 ⟨rfl,b7,kk⟩
 rw[ec] at b7
 clear es ec
 have Hb7:Hid (Bd B b (l++showT 20 x++[32,61,32,109,105,110]++[32]++showT 20 y++[32,58,32,123,32]++showA am++[32,125]) w7):=hid b7
 have Hk7:=hid (Hk6.out.trans kk)
 clear b7 kk Hb6
 have Hkz:=hid (HK0.out.trans Hk7.out)
 go_wp2
 go_end0
 exact⟨rfl,by simpa using Hb7.out,Hkz.out⟩
set_option maxRecDepth 100000 in
set_option maxHeartbeats 4000000 in
theorem wagg_10 (am:Am) (x y:Tm) (o0 o1 o2:Option Addr) (k0 k1 k2:Nat) (B b:Nat) (l:List UInt8) (w:World) (a:Addr) (hx:rightT 20 x=true) (cx:TmC w B x [.int .i64 x.op,.string x.s,.int .i64 x.n,.slice o1 x.l.length k1]) (hy:rightT 20 y=true) (cy:TmC w B y [.int .i64 y.op,.string y.s,.int .i64 y.n,.slice o2 y.l.length k2]) (ha:rightA am=true) (ca:AmC w B am [.string am.rel,.slice o0 am.l.length k0]) (hb:Bd B b l w) (E:TEnv a w) (hV:14≤B) (hB:B≤w.heap.size) (hl:l.length+(showT 20 x++[32,61,32,109,97,120]++[32]++showT 20 y++[32,58,32,123,32]++showA am++[32,125]).length≤1073741824) :
  Calls Tryz.prog 115 #[.pointer (some ⟨b,0,none⟩),.agg #[.int .i64 10,.string am.rel,.slice o0 am.l.length k0,.int .i64 x.op,.string x.s,.int .i64 x.n,.slice o1 x.l.length k1,.int .i64 y.op,.string y.s,.int .i64 y.n,.slice o2 y.l.length k2]] w (Wrote B b l (showT 20 x++[32,61,32,109,97,120]++[32]++showT 20 y++[32,58,32,123,32]++showA am++[32,125]) w):=by
 have hbl:=bdLt hb
 obtain⟨oc,hoc⟩:∃ o:Obj,o=.cells #[.int .i64 10,.string am.rel,.slice o0 am.l.length k0,.int .i64 x.op,.string x.s,.int .i64 x.n,.slice o1 x.l.length k1,.int .i64 y.op,.string y.s,.int .i64 y.n,.slice o2 y.l.length k2] 66:=⟨_,rfl⟩
 have R0:Row w.heap.size 66 [.int .i64 10,.string am.rel,.slice o0 am.l.length k0,.int .i64 x.op,.string x.s,.int .i64 x.n,.slice o1 x.l.length k1,.int .i64 y.op,.string y.s,.int .i64 y.n,.slice o2 y.l.length k2] (w.alloc oc):=by rw[hoc];exact Row.new w _ _
 have b0:=hb.alloc oc
 have k0':Kp B b w (w.alloc oc):=Kp.alloc hB _
 have E0:=E.belowB hV k0'.below
 have hB0:B≤(w.alloc oc).heap.size:=k0'.size hB
 have HR:Hid (∀ W,Kp B b (w.alloc oc) W→(W.cell? ⟨w.heap.size,0,none⟩=some (.int .i64 10)∧W.cell? ⟨w.heap.size,1,none⟩=some (.string am.rel)∧W.cell? ⟨w.heap.size,2,none⟩=some (.slice o0 am.l.length k0))∧(W.cell? ⟨w.heap.size,3,none⟩=some (.int .i64 x.op)∧W.cell? ⟨w.heap.size,4,none⟩=some (.string x.s)∧W.cell? ⟨w.heap.size,5,none⟩=some (.int .i64 x.n)∧W.cell? ⟨w.heap.size,6,none⟩=some (.slice o1 x.l.length k1))∧(W.cell? ⟨w.heap.size,7,none⟩=some (.int .i64 y.op)∧W.cell? ⟨w.heap.size,8,none⟩=some (.string y.s)∧W.cell? ⟨w.heap.size,9,none⟩=some (.int .i64 y.n)∧W.cell? ⟨w.heap.size,10,none⟩=some (.slice o2 y.l.length k2))∧w.heap.size < W.heap.size):=hid fun W K=>by
  have R:=R0.kp K (by omega) (by decide)
  have:=K.below.size
  simp only[World.size_alloc] at this
  exact⟨⟨R.at 0 _ rfl,R.at 1 _ rfl,R.at 2 _ rfl⟩,⟨R.at 3 _ rfl,R.at 4 _ rfl,R.at 5 _ rfl,R.at 6 _ rfl⟩,⟨R.at 7 _ rfl,R.at 8 _ rfl,R.at 9 _ rfl,R.at 10 _ rfl⟩,by omega⟩
 have HS:Hid (∀ W,Kp B b (w.alloc oc) W→W.cell? ⟨5,10,none⟩=some (.string ⟨#[109,97,120]⟩)):=hid fun W K=>(E0.belowB hV K.below).words 10 _ rfl
 have HX:=hid (w_term (b:=b) hx (cx.under k0'.below) E0 hV hB0)
 have HY:=hid (w_term (b:=b) hy (cy.under k0'.below) E0 hV hB0)
 have HA:=hid (w_atom (b:=b) ha (ca.below k0'.below) E0 hV hB0)
 have HK0:=hid k0'
 have Hl:=hid hl
 have Hb0:=hid b0
 clear R0 k0' hb E E0 hB0 hl b0
 clear hx cx hy cy ha ca
 subst hoc
 go_enter Tryz.func115,Tryz.ntmps115
 have Hk0:=hid (Kp.refl B b (w.alloc (.cells #[.int .i64 10,.string am.rel,.slice o0 am.l.length k0,.int .i64 x.op,.string x.s,.int .i64 x.n,.slice o1 x.l.length k1,.int .i64 y.op,.string y.s,.int .i64 y.n,.slice o2 y.l.length k2] 66)))
 obtain⟨⟨x0,x1,x2⟩,⟨x3,x4,x5,x6⟩,⟨x7,x8,x9,x10⟩,hz0⟩:=HR.out _ Hk0.out
 go_wp2_with fail
 refine (HX.out _ _ Hb0.out Hk0.out (by have:=Hl.out;first | omega | (simp only[List.length_append,List.length_cons,List.length_nil] at this ⊢;omega))).mono ?_
 clear x0 x1 x2 x3 x4 x5 x6 x7 x8 x9 x10 hz0
 rintro e w1 ⟨rfl,b1,kk⟩
 have Hb1:Hid (Bd B b (l++showT 20 x) w1):=hid b1
 have Hk1:=hid (Hk0.out.trans kk)
 clear b1 kk Hb0
 obtain⟨⟨x0,x1,x2⟩,⟨x3,x4,x5,x6⟩,⟨x7,x8,x9,x10⟩,hz0⟩:=HR.out _ Hk1.out
 have sg:=HS.out _ Hk1.out
 go_wp2_with fail
 have es:((⟨#[32,61,32]⟩:ByteArray)++(⟨#[109,97,120]⟩:ByteArray)).size=6:=by simp[ByteArray.size]
 have ec:((⟨#[32,61,32]⟩:ByteArray)++(⟨#[109,97,120]⟩:ByteArray)).data.toList=[32,61,32,109,97,120]:=by simp
 refine (writeString_c B b _ _ _ Hb1.out (by rw[es];have:=Hl.out;simp only[List.length_append,List.length_cons,List.length_nil] at this ⊢;omega) (Hk1.out.size (by simp;omega))).mono ?_
 clear x0 x1 x2 x3 x4 x5 x6 x7 x8 x9 x10 hz0 sg
 rintro e w2 ⟨rfl,b2,kk⟩
 rw[ec] at b2
 clear es ec
 have Hb2:Hid (Bd B b (l++showT 20 x++[32,61,32,109,97,120]) w2):=hid b2
 have Hk2:=hid (Hk1.out.trans kk)
 clear b2 kk Hb1
 obtain⟨⟨x0,x1,x2⟩,⟨x3,x4,x5,x6⟩,⟨x7,x8,x9,x10⟩,hz0⟩:=HR.out _ Hk2.out
 go_wp2_with fail
 refine (writeByte_c B b _ 32 32 rfl _ Hb2.out (by have:=Hl.out;first | omega | (simp only[List.length_append,List.length_cons,List.length_nil] at this ⊢;omega)) (Hk2.out.size (by simp;omega))).mono ?_
 clear x0 x1 x2 x3 x4 x5 x6 x7 x8 x9 x10 hz0
 rintro e w3 ⟨rfl,b3,kk⟩
 have Hb3:Hid (Bd B b (l++showT 20 x++[32,61,32,109,97,120]++[32]) w3):=hid b3
 have Hk3:=hid (Hk2.out.trans kk)
 clear b3 kk Hb2
 obtain⟨⟨x0,x1,x2⟩,⟨x3,x4,x5,x6⟩,⟨x7,x8,x9,x10⟩,hz0⟩:=HR.out _ Hk3.out
 go_wp2_with fail
 refine (HY.out _ _ Hb3.out Hk3.out (by have:=Hl.out;first | omega | (simp only[List.length_append,List.length_cons,List.length_nil] at this ⊢;omega))).mono ?_
 clear x0 x1 x2 x3 x4 x5 x6 x7 x8 x9 x10 hz0
 rintro e w4 ⟨rfl,b4,kk⟩
 have Hb4:Hid (Bd B b (l++showT 20 x++[32,61,32,109,97,120]++[32]++showT 20 y) w4):=hid b4
 have Hk4:=hid (Hk3.out.trans kk)
 clear b4 kk Hb3
 obtain⟨⟨x0,x1,x2⟩,⟨x3,x4,x5,x6⟩,⟨x7,x8,x9,x10⟩,hz0⟩:=HR.out _ Hk4.out
 go_wp2_with fail
 have es:(⟨#[32,58,32,123,32]⟩:ByteArray).size=5:=rfl
 have ec:(⟨#[32,58,32,123,32]⟩:ByteArray).data.toList=[32,58,32,123,32]:=rfl
 refine (writeString_c B b _ _ _ Hb4.out (by rw[es];have:=Hl.out;simp only[List.length_append,List.length_cons,List.length_nil] at this ⊢;omega) (Hk4.out.size (by simp;omega))).mono ?_
 clear x0 x1 x2 x3 x4 x5 x6 x7 x8 x9 x10 hz0
 rintro e w5 ⟨rfl,b5,kk⟩
 rw[ec] at b5
 clear es ec
 have Hb5:Hid (Bd B b (l++showT 20 x++[32,61,32,109,97,120]++[32]++showT 20 y++[32,58,32,123,32]) w5):=hid b5
 have Hk5:=hid (Hk4.out.trans kk)
 clear b5 kk Hb4
 obtain⟨⟨x0,x1,x2⟩,⟨x3,x4,x5,x6⟩,⟨x7,x8,x9,x10⟩,hz0⟩:=HR.out _ Hk5.out
 go_wp2_with fail
 refine (HA.out _ _ Hb5.out Hk5.out (by have:=Hl.out;first | omega | (simp only[List.length_append,List.length_cons,List.length_nil] at this ⊢;omega))).mono ?_
 clear x0 x1 x2 x3 x4 x5 x6 x7 x8 x9 x10 hz0
 rintro e w6 ⟨rfl,b6,kk⟩
 have Hb6:Hid (Bd B b (l++showT 20 x++[32,61,32,109,97,120]++[32]++showT 20 y++[32,58,32,123,32]++showA am) w6):=hid b6
 have Hk6:=hid (Hk5.out.trans kk)
 clear b6 kk Hb5
 obtain⟨⟨x0,x1,x2⟩,⟨x3,x4,x5,x6⟩,⟨x7,x8,x9,x10⟩,hz0⟩:=HR.out _ Hk6.out
 go_wp2_with fail
 have es:(⟨#[32,125]⟩:ByteArray).size=2:=rfl
 have ec:(⟨#[32,125]⟩:ByteArray).data.toList=[32,125]:=rfl
 refine (writeString_c B b _ _ _ Hb6.out (by rw[es];have:=Hl.out;simp only[List.length_append,List.length_cons,List.length_nil] at this ⊢;omega) (Hk6.out.size (by simp;omega))).mono ?_
 clear x0 x1 x2 x3 x4 x5 x6 x7 x8 x9 x10 hz0
 rintro e w7 ⟨rfl,b7,kk⟩
 rw[ec] at b7
 clear es ec
 have Hb7:Hid (Bd B b (l++showT 20 x++[32,61,32,109,97,120]++[32]++showT 20 y++[32,58,32,123,32]++showA am++[32,125]) w7):=hid b7
 have Hk7:=hid (Hk6.out.trans kk)
 clear b7 kk Hb6
 have Hkz:=hid (HK0.out.trans Hk7.out)
 go_wp2
 go_end0
 exact⟨rfl,by simpa using Hb7.out,Hkz.out⟩
set_option maxRecDepth 100000 in
set_option maxHeartbeats 4000000 in
theorem wlit_1 (am:Am) (x y:Tm) (o0 o1 o2:Option Addr) (k0 k1 k2:Nat) (B b:Nat) (l:List UInt8) (w:World) (a:Addr) (ha:rightA am=true) (ca:AmC w B am [.string am.rel,.slice o0 am.l.length k0]) (hb:Bd B b l w) (E:TEnv a w) (hV:14≤B) (hB:B≤w.heap.size) (hl:l.length+(showA am).length≤1073741824) :
  Calls Tryz.prog 75 #[.pointer (some ⟨b,0,none⟩),.agg #[.int .i64 1,.string am.rel,.slice o0 am.l.length k0,.int .i64 x.op,.string x.s,.int .i64 x.n,.slice o1 x.l.length k1,.int .i64 y.op,.string y.s,.int .i64 y.n,.slice o2 y.l.length k2]] w (Wrote B b l (showA am) w):=by
 have hbl:=bdLt hb
 obtain⟨oc,hoc⟩:∃ o:Obj,o=.cells #[.int .i64 1,.string am.rel,.slice o0 am.l.length k0,.int .i64 x.op,.string x.s,.int .i64 x.n,.slice o1 x.l.length k1,.int .i64 y.op,.string y.s,.int .i64 y.n,.slice o2 y.l.length k2] 66:=⟨_,rfl⟩
 have R0:Row w.heap.size 66 [.int .i64 1,.string am.rel,.slice o0 am.l.length k0,.int .i64 x.op,.string x.s,.int .i64 x.n,.slice o1 x.l.length k1,.int .i64 y.op,.string y.s,.int .i64 y.n,.slice o2 y.l.length k2] (w.alloc oc):=by rw[hoc];exact Row.new w _ _
 have b0:=hb.alloc oc
 have k0':Kp B b w (w.alloc oc):=Kp.alloc hB _
 have E0:=E.belowB hV k0'.below
 have hB0:B≤(w.alloc oc).heap.size:=k0'.size hB
 have HR:Hid (∀ W,Kp B b (w.alloc oc) W→(W.cell? ⟨w.heap.size,0,none⟩=some (.int .i64 1)∧W.cell? ⟨w.heap.size,1,none⟩=some (.string am.rel)∧W.cell? ⟨w.heap.size,2,none⟩=some (.slice o0 am.l.length k0))∧(W.cell? ⟨w.heap.size,3,none⟩=some (.int .i64 x.op)∧W.cell? ⟨w.heap.size,4,none⟩=some (.string x.s)∧W.cell? ⟨w.heap.size,5,none⟩=some (.int .i64 x.n)∧W.cell? ⟨w.heap.size,6,none⟩=some (.slice o1 x.l.length k1))∧(W.cell? ⟨w.heap.size,7,none⟩=some (.int .i64 y.op)∧W.cell? ⟨w.heap.size,8,none⟩=some (.string y.s)∧W.cell? ⟨w.heap.size,9,none⟩=some (.int .i64 y.n)∧W.cell? ⟨w.heap.size,10,none⟩=some (.slice o2 y.l.length k2))∧w.heap.size < W.heap.size):=hid fun W K=>by
  have R:=R0.kp K (by omega) (by decide)
  have:=K.below.size
  simp only[World.size_alloc] at this
  exact⟨⟨R.at 0 _ rfl,R.at 1 _ rfl,R.at 2 _ rfl⟩,⟨R.at 3 _ rfl,R.at 4 _ rfl,R.at 5 _ rfl,R.at 6 _ rfl⟩,⟨R.at 7 _ rfl,R.at 8 _ rfl,R.at 9 _ rfl,R.at 10 _ rfl⟩,by omega⟩
 have HA:=hid (w_atom (b:=b) ha (ca.below k0'.below) E0 hV hB0)
 have HK0:=hid k0'
 have Hl:=hid hl
 have Hb0:=hid b0
 clear R0 k0' hb E E0 hB0 hl b0
 clear ha ca
 subst hoc
 go_enter Tryz.func75,Tryz.ntmps75
 have Hk0:=hid (Kp.refl B b (w.alloc (.cells #[.int .i64 1,.string am.rel,.slice o0 am.l.length k0,.int .i64 x.op,.string x.s,.int .i64 x.n,.slice o1 x.l.length k1,.int .i64 y.op,.string y.s,.int .i64 y.n,.slice o2 y.l.length k2] 66)))
 obtain⟨⟨x0,x1,x2⟩,⟨x3,x4,x5,x6⟩,⟨x7,x8,x9,x10⟩,hz0⟩:=HR.out _ Hk0.out
 go_wp2_with fail
 refine (HA.out _ _ Hb0.out Hk0.out (by have:=Hl.out;first | omega | (simp only[List.length_append,List.length_cons,List.length_nil] at this ⊢;omega))).mono ?_
 clear x0 x1 x2 x3 x4 x5 x6 x7 x8 x9 x10 hz0
 rintro e w1 ⟨rfl,b1,kk⟩
 have Hb1:Hid (Bd B b (l++showA am) w1):=hid b1
 have Hk1:=hid (Hk0.out.trans kk)
 clear b1 kk Hb0
 have Hkz:=hid (HK0.out.trans Hk1.out)
 go_wp2
 go_end0
 exact⟨rfl,by simpa using Hb1.out,Hkz.out⟩
set_option maxRecDepth 100000 in
set_option maxHeartbeats 4000000 in
theorem wlit_2 (am:Am) (x y:Tm) (o0 o1 o2:Option Addr) (k0 k1 k2:Nat) (B b:Nat) (l:List UInt8) (w:World) (a:Addr) (ha:rightA am=true) (ca:AmC w B am [.string am.rel,.slice o0 am.l.length k0]) (hb:Bd B b l w) (E:TEnv a w) (hV:14≤B) (hB:B≤w.heap.size) (hl:l.length+([33]++showA am).length≤1073741824) :
  Calls Tryz.prog 75 #[.pointer (some ⟨b,0,none⟩),.agg #[.int .i64 2,.string am.rel,.slice o0 am.l.length k0,.int .i64 x.op,.string x.s,.int .i64 x.n,.slice o1 x.l.length k1,.int .i64 y.op,.string y.s,.int .i64 y.n,.slice o2 y.l.length k2]] w (Wrote B b l ([33]++showA am) w):=by
 have hbl:=bdLt hb
 obtain⟨oc,hoc⟩:∃ o:Obj,o=.cells #[.int .i64 2,.string am.rel,.slice o0 am.l.length k0,.int .i64 x.op,.string x.s,.int .i64 x.n,.slice o1 x.l.length k1,.int .i64 y.op,.string y.s,.int .i64 y.n,.slice o2 y.l.length k2] 66:=⟨_,rfl⟩
 have R0:Row w.heap.size 66 [.int .i64 2,.string am.rel,.slice o0 am.l.length k0,.int .i64 x.op,.string x.s,.int .i64 x.n,.slice o1 x.l.length k1,.int .i64 y.op,.string y.s,.int .i64 y.n,.slice o2 y.l.length k2] (w.alloc oc):=by rw[hoc];exact Row.new w _ _
 have b0:=hb.alloc oc
 have k0':Kp B b w (w.alloc oc):=Kp.alloc hB _
 have E0:=E.belowB hV k0'.below
 have hB0:B≤(w.alloc oc).heap.size:=k0'.size hB
 have HR:Hid (∀ W,Kp B b (w.alloc oc) W→(W.cell? ⟨w.heap.size,0,none⟩=some (.int .i64 2)∧W.cell? ⟨w.heap.size,1,none⟩=some (.string am.rel)∧W.cell? ⟨w.heap.size,2,none⟩=some (.slice o0 am.l.length k0))∧(W.cell? ⟨w.heap.size,3,none⟩=some (.int .i64 x.op)∧W.cell? ⟨w.heap.size,4,none⟩=some (.string x.s)∧W.cell? ⟨w.heap.size,5,none⟩=some (.int .i64 x.n)∧W.cell? ⟨w.heap.size,6,none⟩=some (.slice o1 x.l.length k1))∧(W.cell? ⟨w.heap.size,7,none⟩=some (.int .i64 y.op)∧W.cell? ⟨w.heap.size,8,none⟩=some (.string y.s)∧W.cell? ⟨w.heap.size,9,none⟩=some (.int .i64 y.n)∧W.cell? ⟨w.heap.size,10,none⟩=some (.slice o2 y.l.length k2))∧w.heap.size < W.heap.size):=hid fun W K=>by
  have R:=R0.kp K (by omega) (by decide)
  have:=K.below.size
  simp only[World.size_alloc] at this
  exact⟨⟨R.at 0 _ rfl,R.at 1 _ rfl,R.at 2 _ rfl⟩,⟨R.at 3 _ rfl,R.at 4 _ rfl,R.at 5 _ rfl,R.at 6 _ rfl⟩,⟨R.at 7 _ rfl,R.at 8 _ rfl,R.at 9 _ rfl,R.at 10 _ rfl⟩,by omega⟩
 have HA:=hid (w_atom (b:=b) ha (ca.below k0'.below) E0 hV hB0)
 have HK0:=hid k0'
 have Hl:=hid hl
 have Hb0:=hid b0
 clear R0 k0' hb E E0 hB0 hl b0
 clear ha ca
 subst hoc
 go_enter Tryz.func75,Tryz.ntmps75
 have Hk0:=hid (Kp.refl B b (w.alloc (.cells #[.int .i64 2,.string am.rel,.slice o0 am.l.length k0,.int .i64 x.op,.string x.s,.int .i64 x.n,.slice o1 x.l.length k1,.int .i64 y.op,.string y.s,.int .i64 y.n,.slice o2 y.l.length k2] 66)))
 obtain⟨⟨x0,x1,x2⟩,⟨x3,x4,x5,x6⟩,⟨x7,x8,x9,x10⟩,hz0⟩:=HR.out _ Hk0.out
 go_wp2_with fail
 refine (writeByte_c B b _ 33 33 rfl _ Hb0.out (by have:=Hl.out;first | omega | (simp only[List.length_append,List.length_cons,List.length_nil] at this ⊢;omega)) (Hk0.out.size (by simp;omega))).mono ?_
 clear x0 x1 x2 x3 x4 x5 x6 x7 x8 x9 x10 hz0
 rintro e w1 ⟨rfl,b1,kk⟩
 have Hb1:Hid (Bd B b (l++[33]) w1):=hid b1
 have Hk1:=hid (Hk0.out.trans kk)
 clear b1 kk Hb0
 obtain⟨⟨x0,x1,x2⟩,⟨x3,x4,x5,x6⟩,⟨x7,x8,x9,x10⟩,hz0⟩:=HR.out _ Hk1.out
 go_wp2_with fail
 refine (HA.out _ _ Hb1.out Hk1.out (by have:=Hl.out;first | omega | (simp only[List.length_append,List.length_cons,List.length_nil] at this ⊢;omega))).mono ?_
 clear x0 x1 x2 x3 x4 x5 x6 x7 x8 x9 x10 hz0
 rintro e w2 ⟨rfl,b2,kk⟩
 have Hb2:Hid (Bd B b (l++[33]++showA am) w2):=hid b2
 have Hk2:=hid (Hk1.out.trans kk)
 clear b2 kk Hb1
 have Hkz:=hid (HK0.out.trans Hk2.out)
 go_wp2
 go_end0
 exact⟨rfl,by simpa using Hb2.out,Hkz.out⟩
set_option maxRecDepth 100000 in
set_option maxHeartbeats 4000000 in
theorem wlit_3 (am:Am) (x y:Tm) (o0 o1 o2:Option Addr) (k0 k1 k2:Nat) (B b:Nat) (l:List UInt8) (w:World) (a:Addr) (hx:rightT 20 x=true) (cx:TmC w B x [.int .i64 x.op,.string x.s,.int .i64 x.n,.slice o1 x.l.length k1]) (hy:rightT 20 y=true) (cy:TmC w B y [.int .i64 y.op,.string y.s,.int .i64 y.n,.slice o2 y.l.length k2]) (hb:Bd B b l w) (E:TEnv a w) (hV:14≤B) (hB:B≤w.heap.size) (hl:l.length+(showT 20 x++[32,61,32]++showT 20 y).length≤1073741824) :
  Calls Tryz.prog 75 #[.pointer (some ⟨b,0,none⟩),.agg #[.int .i64 3,.string am.rel,.slice o0 am.l.length k0,.int .i64 x.op,.string x.s,.int .i64 x.n,.slice o1 x.l.length k1,.int .i64 y.op,.string y.s,.int .i64 y.n,.slice o2 y.l.length k2]] w (Wrote B b l (showT 20 x++[32,61,32]++showT 20 y) w):=by
 have hbl:=bdLt hb
 obtain⟨oc,hoc⟩:∃ o:Obj,o=.cells #[.int .i64 3,.string am.rel,.slice o0 am.l.length k0,.int .i64 x.op,.string x.s,.int .i64 x.n,.slice o1 x.l.length k1,.int .i64 y.op,.string y.s,.int .i64 y.n,.slice o2 y.l.length k2] 66:=⟨_,rfl⟩
 have R0:Row w.heap.size 66 [.int .i64 3,.string am.rel,.slice o0 am.l.length k0,.int .i64 x.op,.string x.s,.int .i64 x.n,.slice o1 x.l.length k1,.int .i64 y.op,.string y.s,.int .i64 y.n,.slice o2 y.l.length k2] (w.alloc oc):=by rw[hoc];exact Row.new w _ _
 have b0:=hb.alloc oc
 have k0':Kp B b w (w.alloc oc):=Kp.alloc hB _
 have E0:=E.belowB hV k0'.below
 have hB0:B≤(w.alloc oc).heap.size:=k0'.size hB
 have HR:Hid (∀ W,Kp B b (w.alloc oc) W→(W.cell? ⟨w.heap.size,0,none⟩=some (.int .i64 3)∧W.cell? ⟨w.heap.size,1,none⟩=some (.string am.rel)∧W.cell? ⟨w.heap.size,2,none⟩=some (.slice o0 am.l.length k0))∧(W.cell? ⟨w.heap.size,3,none⟩=some (.int .i64 x.op)∧W.cell? ⟨w.heap.size,4,none⟩=some (.string x.s)∧W.cell? ⟨w.heap.size,5,none⟩=some (.int .i64 x.n)∧W.cell? ⟨w.heap.size,6,none⟩=some (.slice o1 x.l.length k1))∧(W.cell? ⟨w.heap.size,7,none⟩=some (.int .i64 y.op)∧W.cell? ⟨w.heap.size,8,none⟩=some (.string y.s)∧W.cell? ⟨w.heap.size,9,none⟩=some (.int .i64 y.n)∧W.cell? ⟨w.heap.size,10,none⟩=some (.slice o2 y.l.length k2))∧w.heap.size < W.heap.size):=hid fun W K=>by
  have R:=R0.kp K (by omega) (by decide)
  have:=K.below.size
  simp only[World.size_alloc] at this
  exact⟨⟨R.at 0 _ rfl,R.at 1 _ rfl,R.at 2 _ rfl⟩,⟨R.at 3 _ rfl,R.at 4 _ rfl,R.at 5 _ rfl,R.at 6 _ rfl⟩,⟨R.at 7 _ rfl,R.at 8 _ rfl,R.at 9 _ rfl,R.at 10 _ rfl⟩,by omega⟩
 have HS:Hid (∀ W,Kp B b (w.alloc oc) W→W.cell? ⟨5,3,none⟩=some (.string ⟨#[61]⟩)):=hid fun W K=>(E0.belowB hV K.below).words 3 _ rfl
 have HX:=hid (w_term (b:=b) hx (cx.under k0'.below) E0 hV hB0)
 have HY:=hid (w_term (b:=b) hy (cy.under k0'.below) E0 hV hB0)
 have HK0:=hid k0'
 have Hl:=hid hl
 have Hb0:=hid b0
 clear R0 k0' hb E E0 hB0 hl b0
 clear hx cx hy cy
 subst hoc
 go_enter Tryz.func75,Tryz.ntmps75
 have Hk0:=hid (Kp.refl B b (w.alloc (.cells #[.int .i64 3,.string am.rel,.slice o0 am.l.length k0,.int .i64 x.op,.string x.s,.int .i64 x.n,.slice o1 x.l.length k1,.int .i64 y.op,.string y.s,.int .i64 y.n,.slice o2 y.l.length k2] 66)))
 obtain⟨⟨x0,x1,x2⟩,⟨x3,x4,x5,x6⟩,⟨x7,x8,x9,x10⟩,hz0⟩:=HR.out _ Hk0.out
 go_wp2_with fail
 refine (HX.out _ _ Hb0.out Hk0.out (by have:=Hl.out;first | omega | (simp only[List.length_append,List.length_cons,List.length_nil] at this ⊢;omega))).mono ?_
 clear x0 x1 x2 x3 x4 x5 x6 x7 x8 x9 x10 hz0
 rintro e w1 ⟨rfl,b1,kk⟩
 have Hb1:Hid (Bd B b (l++showT 20 x) w1):=hid b1
 have Hk1:=hid (Hk0.out.trans kk)
 clear b1 kk Hb0
 obtain⟨⟨x0,x1,x2⟩,⟨x3,x4,x5,x6⟩,⟨x7,x8,x9,x10⟩,hz0⟩:=HR.out _ Hk1.out
 have sg:=HS.out _ Hk1.out
 go_wp2_with fail
 have es:((⟨#[32]⟩:ByteArray)++(⟨#[61]⟩:ByteArray)++(⟨#[32]⟩:ByteArray)).size=3:=by simp[ByteArray.size]
 have ec:((⟨#[32]⟩:ByteArray)++(⟨#[61]⟩:ByteArray)++(⟨#[32]⟩:ByteArray)).data.toList=[32,61,32]:=by simp
 refine (writeString_c B b _ _ _ Hb1.out (by rw[es];have:=Hl.out;simp only[List.length_append,List.length_cons,List.length_nil] at this ⊢;omega) (Hk1.out.size (by simp;omega))).mono ?_
 clear x0 x1 x2 x3 x4 x5 x6 x7 x8 x9 x10 hz0 sg
 rintro e w2 ⟨rfl,b2,kk⟩
 rw[ec] at b2
 clear es ec
 have Hb2:Hid (Bd B b (l++showT 20 x++[32,61,32]) w2):=hid b2
 have Hk2:=hid (Hk1.out.trans kk)
 clear b2 kk Hb1
 obtain⟨⟨x0,x1,x2⟩,⟨x3,x4,x5,x6⟩,⟨x7,x8,x9,x10⟩,hz0⟩:=HR.out _ Hk2.out
 go_wp2_with fail
 refine (HY.out _ _ Hb2.out Hk2.out (by have:=Hl.out;first | omega | (simp only[List.length_append,List.length_cons,List.length_nil] at this ⊢;omega))).mono ?_
 clear x0 x1 x2 x3 x4 x5 x6 x7 x8 x9 x10 hz0
 rintro e w3 ⟨rfl,b3,kk⟩
 have Hb3:Hid (Bd B b (l++showT 20 x++[32,61,32]++showT 20 y) w3):=hid b3
 have Hk3:=hid (Hk2.out.trans kk)
 clear b3 kk Hb2
 have Hkz:=hid (HK0.out.trans Hk3.out)
 go_wp2
 go_end0
 exact⟨rfl,by simpa using Hb3.out,Hkz.out⟩
set_option maxRecDepth 100000 in
set_option maxHeartbeats 4000000 in
theorem wlit_4 (am:Am) (x y:Tm) (o0 o1 o2:Option Addr) (k0 k1 k2:Nat) (B b:Nat) (l:List UInt8) (w:World) (a:Addr) (hx:rightT 20 x=true) (cx:TmC w B x [.int .i64 x.op,.string x.s,.int .i64 x.n,.slice o1 x.l.length k1]) (hy:rightT 20 y=true) (cy:TmC w B y [.int .i64 y.op,.string y.s,.int .i64 y.n,.slice o2 y.l.length k2]) (hb:Bd B b l w) (E:TEnv a w) (hV:14≤B) (hB:B≤w.heap.size) (hl:l.length+(showT 20 x++[32,33,61,32]++showT 20 y).length≤1073741824) :
  Calls Tryz.prog 75 #[.pointer (some ⟨b,0,none⟩),.agg #[.int .i64 4,.string am.rel,.slice o0 am.l.length k0,.int .i64 x.op,.string x.s,.int .i64 x.n,.slice o1 x.l.length k1,.int .i64 y.op,.string y.s,.int .i64 y.n,.slice o2 y.l.length k2]] w (Wrote B b l (showT 20 x++[32,33,61,32]++showT 20 y) w):=by
 have hbl:=bdLt hb
 obtain⟨oc,hoc⟩:∃ o:Obj,o=.cells #[.int .i64 4,.string am.rel,.slice o0 am.l.length k0,.int .i64 x.op,.string x.s,.int .i64 x.n,.slice o1 x.l.length k1,.int .i64 y.op,.string y.s,.int .i64 y.n,.slice o2 y.l.length k2] 66:=⟨_,rfl⟩
 have R0:Row w.heap.size 66 [.int .i64 4,.string am.rel,.slice o0 am.l.length k0,.int .i64 x.op,.string x.s,.int .i64 x.n,.slice o1 x.l.length k1,.int .i64 y.op,.string y.s,.int .i64 y.n,.slice o2 y.l.length k2] (w.alloc oc):=by rw[hoc];exact Row.new w _ _
 have b0:=hb.alloc oc
 have k0':Kp B b w (w.alloc oc):=Kp.alloc hB _
 have E0:=E.belowB hV k0'.below
 have hB0:B≤(w.alloc oc).heap.size:=k0'.size hB
 have HR:Hid (∀ W,Kp B b (w.alloc oc) W→(W.cell? ⟨w.heap.size,0,none⟩=some (.int .i64 4)∧W.cell? ⟨w.heap.size,1,none⟩=some (.string am.rel)∧W.cell? ⟨w.heap.size,2,none⟩=some (.slice o0 am.l.length k0))∧(W.cell? ⟨w.heap.size,3,none⟩=some (.int .i64 x.op)∧W.cell? ⟨w.heap.size,4,none⟩=some (.string x.s)∧W.cell? ⟨w.heap.size,5,none⟩=some (.int .i64 x.n)∧W.cell? ⟨w.heap.size,6,none⟩=some (.slice o1 x.l.length k1))∧(W.cell? ⟨w.heap.size,7,none⟩=some (.int .i64 y.op)∧W.cell? ⟨w.heap.size,8,none⟩=some (.string y.s)∧W.cell? ⟨w.heap.size,9,none⟩=some (.int .i64 y.n)∧W.cell? ⟨w.heap.size,10,none⟩=some (.slice o2 y.l.length k2))∧w.heap.size < W.heap.size):=hid fun W K=>by
  have R:=R0.kp K (by omega) (by decide)
  have:=K.below.size
  simp only[World.size_alloc] at this
  exact⟨⟨R.at 0 _ rfl,R.at 1 _ rfl,R.at 2 _ rfl⟩,⟨R.at 3 _ rfl,R.at 4 _ rfl,R.at 5 _ rfl,R.at 6 _ rfl⟩,⟨R.at 7 _ rfl,R.at 8 _ rfl,R.at 9 _ rfl,R.at 10 _ rfl⟩,by omega⟩
 have HS:Hid (∀ W,Kp B b (w.alloc oc) W→W.cell? ⟨5,4,none⟩=some (.string ⟨#[33,61]⟩)):=hid fun W K=>(E0.belowB hV K.below).words 4 _ rfl
 have HX:=hid (w_term (b:=b) hx (cx.under k0'.below) E0 hV hB0)
 have HY:=hid (w_term (b:=b) hy (cy.under k0'.below) E0 hV hB0)
 have HK0:=hid k0'
 have Hl:=hid hl
 have Hb0:=hid b0
 clear R0 k0' hb E E0 hB0 hl b0
 clear hx cx hy cy
 subst hoc
 go_enter Tryz.func75,Tryz.ntmps75
 have Hk0:=hid (Kp.refl B b (w.alloc (.cells #[.int .i64 4,.string am.rel,.slice o0 am.l.length k0,.int .i64 x.op,.string x.s,.int .i64 x.n,.slice o1 x.l.length k1,.int .i64 y.op,.string y.s,.int .i64 y.n,.slice o2 y.l.length k2] 66)))
 obtain⟨⟨x0,x1,x2⟩,⟨x3,x4,x5,x6⟩,⟨x7,x8,x9,x10⟩,hz0⟩:=HR.out _ Hk0.out
 go_wp2_with fail
 refine (HX.out _ _ Hb0.out Hk0.out (by have:=Hl.out;first | omega | (simp only[List.length_append,List.length_cons,List.length_nil] at this ⊢;omega))).mono ?_
 clear x0 x1 x2 x3 x4 x5 x6 x7 x8 x9 x10 hz0
 rintro e w1 ⟨rfl,b1,kk⟩
 have Hb1:Hid (Bd B b (l++showT 20 x) w1):=hid b1
 have Hk1:=hid (Hk0.out.trans kk)
 clear b1 kk Hb0
 obtain⟨⟨x0,x1,x2⟩,⟨x3,x4,x5,x6⟩,⟨x7,x8,x9,x10⟩,hz0⟩:=HR.out _ Hk1.out
 have sg:=HS.out _ Hk1.out
 go_wp2_with fail
 have es:((⟨#[32]⟩:ByteArray)++(⟨#[33,61]⟩:ByteArray)++(⟨#[32]⟩:ByteArray)).size=4:=by simp[ByteArray.size]
 have ec:((⟨#[32]⟩:ByteArray)++(⟨#[33,61]⟩:ByteArray)++(⟨#[32]⟩:ByteArray)).data.toList=[32,33,61,32]:=by simp
 refine (writeString_c B b _ _ _ Hb1.out (by rw[es];have:=Hl.out;simp only[List.length_append,List.length_cons,List.length_nil] at this ⊢;omega) (Hk1.out.size (by simp;omega))).mono ?_
 clear x0 x1 x2 x3 x4 x5 x6 x7 x8 x9 x10 hz0 sg
 rintro e w2 ⟨rfl,b2,kk⟩
 rw[ec] at b2
 clear es ec
 have Hb2:Hid (Bd B b (l++showT 20 x++[32,33,61,32]) w2):=hid b2
 have Hk2:=hid (Hk1.out.trans kk)
 clear b2 kk Hb1
 obtain⟨⟨x0,x1,x2⟩,⟨x3,x4,x5,x6⟩,⟨x7,x8,x9,x10⟩,hz0⟩:=HR.out _ Hk2.out
 go_wp2_with fail
 refine (HY.out _ _ Hb2.out Hk2.out (by have:=Hl.out;first | omega | (simp only[List.length_append,List.length_cons,List.length_nil] at this ⊢;omega))).mono ?_
 clear x0 x1 x2 x3 x4 x5 x6 x7 x8 x9 x10 hz0
 rintro e w3 ⟨rfl,b3,kk⟩
 have Hb3:Hid (Bd B b (l++showT 20 x++[32,33,61,32]++showT 20 y) w3):=hid b3
 have Hk3:=hid (Hk2.out.trans kk)
 clear b3 kk Hb2
 have Hkz:=hid (HK0.out.trans Hk3.out)
 go_wp2
 go_end0
 exact⟨rfl,by simpa using Hb3.out,Hkz.out⟩
set_option maxRecDepth 100000 in
set_option maxHeartbeats 4000000 in
theorem wlit_5 (am:Am) (x y:Tm) (o0 o1 o2:Option Addr) (k0 k1 k2:Nat) (B b:Nat) (l:List UInt8) (w:World) (a:Addr) (hx:rightT 20 x=true) (cx:TmC w B x [.int .i64 x.op,.string x.s,.int .i64 x.n,.slice o1 x.l.length k1]) (hy:rightT 20 y=true) (cy:TmC w B y [.int .i64 y.op,.string y.s,.int .i64 y.n,.slice o2 y.l.length k2]) (hb:Bd B b l w) (E:TEnv a w) (hV:14≤B) (hB:B≤w.heap.size) (hl:l.length+(showT 20 x++[32,60,32]++showT 20 y).length≤1073741824) :
  Calls Tryz.prog 75 #[.pointer (some ⟨b,0,none⟩),.agg #[.int .i64 5,.string am.rel,.slice o0 am.l.length k0,.int .i64 x.op,.string x.s,.int .i64 x.n,.slice o1 x.l.length k1,.int .i64 y.op,.string y.s,.int .i64 y.n,.slice o2 y.l.length k2]] w (Wrote B b l (showT 20 x++[32,60,32]++showT 20 y) w):=by
 have hbl:=bdLt hb
 obtain⟨oc,hoc⟩:∃ o:Obj,o=.cells #[.int .i64 5,.string am.rel,.slice o0 am.l.length k0,.int .i64 x.op,.string x.s,.int .i64 x.n,.slice o1 x.l.length k1,.int .i64 y.op,.string y.s,.int .i64 y.n,.slice o2 y.l.length k2] 66:=⟨_,rfl⟩
 have R0:Row w.heap.size 66 [.int .i64 5,.string am.rel,.slice o0 am.l.length k0,.int .i64 x.op,.string x.s,.int .i64 x.n,.slice o1 x.l.length k1,.int .i64 y.op,.string y.s,.int .i64 y.n,.slice o2 y.l.length k2] (w.alloc oc):=by rw[hoc];exact Row.new w _ _
 have b0:=hb.alloc oc
 have k0':Kp B b w (w.alloc oc):=Kp.alloc hB _
 have E0:=E.belowB hV k0'.below
 have hB0:B≤(w.alloc oc).heap.size:=k0'.size hB
 have HR:Hid (∀ W,Kp B b (w.alloc oc) W→(W.cell? ⟨w.heap.size,0,none⟩=some (.int .i64 5)∧W.cell? ⟨w.heap.size,1,none⟩=some (.string am.rel)∧W.cell? ⟨w.heap.size,2,none⟩=some (.slice o0 am.l.length k0))∧(W.cell? ⟨w.heap.size,3,none⟩=some (.int .i64 x.op)∧W.cell? ⟨w.heap.size,4,none⟩=some (.string x.s)∧W.cell? ⟨w.heap.size,5,none⟩=some (.int .i64 x.n)∧W.cell? ⟨w.heap.size,6,none⟩=some (.slice o1 x.l.length k1))∧(W.cell? ⟨w.heap.size,7,none⟩=some (.int .i64 y.op)∧W.cell? ⟨w.heap.size,8,none⟩=some (.string y.s)∧W.cell? ⟨w.heap.size,9,none⟩=some (.int .i64 y.n)∧W.cell? ⟨w.heap.size,10,none⟩=some (.slice o2 y.l.length k2))∧w.heap.size < W.heap.size):=hid fun W K=>by
  have R:=R0.kp K (by omega) (by decide)
  have:=K.below.size
  simp only[World.size_alloc] at this
  exact⟨⟨R.at 0 _ rfl,R.at 1 _ rfl,R.at 2 _ rfl⟩,⟨R.at 3 _ rfl,R.at 4 _ rfl,R.at 5 _ rfl,R.at 6 _ rfl⟩,⟨R.at 7 _ rfl,R.at 8 _ rfl,R.at 9 _ rfl,R.at 10 _ rfl⟩,by omega⟩
 have HS:Hid (∀ W,Kp B b (w.alloc oc) W→W.cell? ⟨5,5,none⟩=some (.string ⟨#[60]⟩)):=hid fun W K=>(E0.belowB hV K.below).words 5 _ rfl
 have HX:=hid (w_term (b:=b) hx (cx.under k0'.below) E0 hV hB0)
 have HY:=hid (w_term (b:=b) hy (cy.under k0'.below) E0 hV hB0)
 have HK0:=hid k0'
 have Hl:=hid hl
 have Hb0:=hid b0
 clear R0 k0' hb E E0 hB0 hl b0
 clear hx cx hy cy
 subst hoc
 go_enter Tryz.func75,Tryz.ntmps75
 have Hk0:=hid (Kp.refl B b (w.alloc (.cells #[.int .i64 5,.string am.rel,.slice o0 am.l.length k0,.int .i64 x.op,.string x.s,.int .i64 x.n,.slice o1 x.l.length k1,.int .i64 y.op,.string y.s,.int .i64 y.n,.slice o2 y.l.length k2] 66)))
 obtain⟨⟨x0,x1,x2⟩,⟨x3,x4,x5,x6⟩,⟨x7,x8,x9,x10⟩,hz0⟩:=HR.out _ Hk0.out
 go_wp2_with fail
 refine (HX.out _ _ Hb0.out Hk0.out (by have:=Hl.out;first | omega | (simp only[List.length_append,List.length_cons,List.length_nil] at this ⊢;omega))).mono ?_
 clear x0 x1 x2 x3 x4 x5 x6 x7 x8 x9 x10 hz0
 rintro e w1 ⟨rfl,b1,kk⟩
 have Hb1:Hid (Bd B b (l++showT 20 x) w1):=hid b1
 have Hk1:=hid (Hk0.out.trans kk)
 clear b1 kk Hb0
 obtain⟨⟨x0,x1,x2⟩,⟨x3,x4,x5,x6⟩,⟨x7,x8,x9,x10⟩,hz0⟩:=HR.out _ Hk1.out
 have sg:=HS.out _ Hk1.out
 go_wp2_with fail
 have es:((⟨#[32]⟩:ByteArray)++(⟨#[60]⟩:ByteArray)++(⟨#[32]⟩:ByteArray)).size=3:=by simp[ByteArray.size]
 have ec:((⟨#[32]⟩:ByteArray)++(⟨#[60]⟩:ByteArray)++(⟨#[32]⟩:ByteArray)).data.toList=[32,60,32]:=by simp
 refine (writeString_c B b _ _ _ Hb1.out (by rw[es];have:=Hl.out;simp only[List.length_append,List.length_cons,List.length_nil] at this ⊢;omega) (Hk1.out.size (by simp;omega))).mono ?_
 clear x0 x1 x2 x3 x4 x5 x6 x7 x8 x9 x10 hz0 sg
 rintro e w2 ⟨rfl,b2,kk⟩
 rw[ec] at b2
 clear es ec
 have Hb2:Hid (Bd B b (l++showT 20 x++[32,60,32]) w2):=hid b2
 have Hk2:=hid (Hk1.out.trans kk)
 clear b2 kk Hb1
 obtain⟨⟨x0,x1,x2⟩,⟨x3,x4,x5,x6⟩,⟨x7,x8,x9,x10⟩,hz0⟩:=HR.out _ Hk2.out
 go_wp2_with fail
 refine (HY.out _ _ Hb2.out Hk2.out (by have:=Hl.out;first | omega | (simp only[List.length_append,List.length_cons,List.length_nil] at this ⊢;omega))).mono ?_
 clear x0 x1 x2 x3 x4 x5 x6 x7 x8 x9 x10 hz0
 rintro e w3 ⟨rfl,b3,kk⟩
 have Hb3:Hid (Bd B b (l++showT 20 x++[32,60,32]++showT 20 y) w3):=hid b3
 have Hk3:=hid (Hk2.out.trans kk)
 clear b3 kk Hb2
 have Hkz:=hid (HK0.out.trans Hk3.out)
 go_wp2
 go_end0
 exact⟨rfl,by simpa using Hb3.out,Hkz.out⟩
set_option maxRecDepth 100000 in
set_option maxHeartbeats 4000000 in
theorem wlit_6 (am:Am) (x y:Tm) (o0 o1 o2:Option Addr) (k0 k1 k2:Nat) (B b:Nat) (l:List UInt8) (w:World) (a:Addr) (hx:rightT 20 x=true) (cx:TmC w B x [.int .i64 x.op,.string x.s,.int .i64 x.n,.slice o1 x.l.length k1]) (hy:rightT 20 y=true) (cy:TmC w B y [.int .i64 y.op,.string y.s,.int .i64 y.n,.slice o2 y.l.length k2]) (hb:Bd B b l w) (E:TEnv a w) (hV:14≤B) (hB:B≤w.heap.size) (hl:l.length+(showT 20 x++[32,60,61,32]++showT 20 y).length≤1073741824) :
  Calls Tryz.prog 75 #[.pointer (some ⟨b,0,none⟩),.agg #[.int .i64 6,.string am.rel,.slice o0 am.l.length k0,.int .i64 x.op,.string x.s,.int .i64 x.n,.slice o1 x.l.length k1,.int .i64 y.op,.string y.s,.int .i64 y.n,.slice o2 y.l.length k2]] w (Wrote B b l (showT 20 x++[32,60,61,32]++showT 20 y) w):=by
 have hbl:=bdLt hb
 obtain⟨oc,hoc⟩:∃ o:Obj,o=.cells #[.int .i64 6,.string am.rel,.slice o0 am.l.length k0,.int .i64 x.op,.string x.s,.int .i64 x.n,.slice o1 x.l.length k1,.int .i64 y.op,.string y.s,.int .i64 y.n,.slice o2 y.l.length k2] 66:=⟨_,rfl⟩
 have R0:Row w.heap.size 66 [.int .i64 6,.string am.rel,.slice o0 am.l.length k0,.int .i64 x.op,.string x.s,.int .i64 x.n,.slice o1 x.l.length k1,.int .i64 y.op,.string y.s,.int .i64 y.n,.slice o2 y.l.length k2] (w.alloc oc):=by rw[hoc];exact Row.new w _ _
 have b0:=hb.alloc oc
 have k0':Kp B b w (w.alloc oc):=Kp.alloc hB _
 have E0:=E.belowB hV k0'.below
 have hB0:B≤(w.alloc oc).heap.size:=k0'.size hB
 have HR:Hid (∀ W,Kp B b (w.alloc oc) W→(W.cell? ⟨w.heap.size,0,none⟩=some (.int .i64 6)∧W.cell? ⟨w.heap.size,1,none⟩=some (.string am.rel)∧W.cell? ⟨w.heap.size,2,none⟩=some (.slice o0 am.l.length k0))∧(W.cell? ⟨w.heap.size,3,none⟩=some (.int .i64 x.op)∧W.cell? ⟨w.heap.size,4,none⟩=some (.string x.s)∧W.cell? ⟨w.heap.size,5,none⟩=some (.int .i64 x.n)∧W.cell? ⟨w.heap.size,6,none⟩=some (.slice o1 x.l.length k1))∧(W.cell? ⟨w.heap.size,7,none⟩=some (.int .i64 y.op)∧W.cell? ⟨w.heap.size,8,none⟩=some (.string y.s)∧W.cell? ⟨w.heap.size,9,none⟩=some (.int .i64 y.n)∧W.cell? ⟨w.heap.size,10,none⟩=some (.slice o2 y.l.length k2))∧w.heap.size < W.heap.size):=hid fun W K=>by
  have R:=R0.kp K (by omega) (by decide)
  have:=K.below.size
  simp only[World.size_alloc] at this
  exact⟨⟨R.at 0 _ rfl,R.at 1 _ rfl,R.at 2 _ rfl⟩,⟨R.at 3 _ rfl,R.at 4 _ rfl,R.at 5 _ rfl,R.at 6 _ rfl⟩,⟨R.at 7 _ rfl,R.at 8 _ rfl,R.at 9 _ rfl,R.at 10 _ rfl⟩,by omega⟩
 have HS:Hid (∀ W,Kp B b (w.alloc oc) W→W.cell? ⟨5,6,none⟩=some (.string ⟨#[60,61]⟩)):=hid fun W K=>(E0.belowB hV K.below).words 6 _ rfl
 have HX:=hid (w_term (b:=b) hx (cx.under k0'.below) E0 hV hB0)
 have HY:=hid (w_term (b:=b) hy (cy.under k0'.below) E0 hV hB0)
 have HK0:=hid k0'
 have Hl:=hid hl
 have Hb0:=hid b0
 clear R0 k0' hb E E0 hB0 hl b0
 clear hx cx hy cy
 subst hoc
 go_enter Tryz.func75,Tryz.ntmps75
 have Hk0:=hid (Kp.refl B b (w.alloc (.cells #[.int .i64 6,.string am.rel,.slice o0 am.l.length k0,.int .i64 x.op,.string x.s,.int .i64 x.n,.slice o1 x.l.length k1,.int .i64 y.op,.string y.s,.int .i64 y.n,.slice o2 y.l.length k2] 66)))
 obtain⟨⟨x0,x1,x2⟩,⟨x3,x4,x5,x6⟩,⟨x7,x8,x9,x10⟩,hz0⟩:=HR.out _ Hk0.out
 go_wp2_with fail
 refine (HX.out _ _ Hb0.out Hk0.out (by have:=Hl.out;first | omega | (simp only[List.length_append,List.length_cons,List.length_nil] at this ⊢;omega))).mono ?_
 clear x0 x1 x2 x3 x4 x5 x6 x7 x8 x9 x10 hz0
 rintro e w1 ⟨rfl,b1,kk⟩
 have Hb1:Hid (Bd B b (l++showT 20 x) w1):=hid b1
 have Hk1:=hid (Hk0.out.trans kk)
 clear b1 kk Hb0
 obtain⟨⟨x0,x1,x2⟩,⟨x3,x4,x5,x6⟩,⟨x7,x8,x9,x10⟩,hz0⟩:=HR.out _ Hk1.out
 have sg:=HS.out _ Hk1.out
 go_wp2_with fail
 have es:((⟨#[32]⟩:ByteArray)++(⟨#[60,61]⟩:ByteArray)++(⟨#[32]⟩:ByteArray)).size=4:=by simp[ByteArray.size]
 have ec:((⟨#[32]⟩:ByteArray)++(⟨#[60,61]⟩:ByteArray)++(⟨#[32]⟩:ByteArray)).data.toList=[32,60,61,32]:=by simp
 refine (writeString_c B b _ _ _ Hb1.out (by rw[es];have:=Hl.out;simp only[List.length_append,List.length_cons,List.length_nil] at this ⊢;omega) (Hk1.out.size (by simp;omega))).mono ?_
 clear x0 x1 x2 x3 x4 x5 x6 x7 x8 x9 x10 hz0 sg
 rintro e w2 ⟨rfl,b2,kk⟩
 rw[ec] at b2
 clear es ec
 have Hb2:Hid (Bd B b (l++showT 20 x++[32,60,61,32]) w2):=hid b2
 have Hk2:=hid (Hk1.out.trans kk)
 clear b2 kk Hb1
 obtain⟨⟨x0,x1,x2⟩,⟨x3,x4,x5,x6⟩,⟨x7,x8,x9,x10⟩,hz0⟩:=HR.out _ Hk2.out
 go_wp2_with fail
 refine (HY.out _ _ Hb2.out Hk2.out (by have:=Hl.out;first | omega | (simp only[List.length_append,List.length_cons,List.length_nil] at this ⊢;omega))).mono ?_
 clear x0 x1 x2 x3 x4 x5 x6 x7 x8 x9 x10 hz0
 rintro e w3 ⟨rfl,b3,kk⟩
 have Hb3:Hid (Bd B b (l++showT 20 x++[32,60,61,32]++showT 20 y) w3):=hid b3
 have Hk3:=hid (Hk2.out.trans kk)
 clear b3 kk Hb2
 have Hkz:=hid (HK0.out.trans Hk3.out)
 go_wp2
 go_end0
 exact⟨rfl,by simpa using Hb3.out,Hkz.out⟩
set_option maxRecDepth 100000 in
set_option maxHeartbeats 4000000 in
theorem wlit_7 (am:Am) (x y:Tm) (o0 o1 o2:Option Addr) (k0 k1 k2:Nat) (B b:Nat) (l:List UInt8) (w:World) (a:Addr) (ha:rightA am=true) (ca:AmC w B am [.string am.rel,.slice o0 am.l.length k0]) (hx:rightT 20 x=true) (cx:TmC w B x [.int .i64 x.op,.string x.s,.int .i64 x.n,.slice o1 x.l.length k1]) (hb:Bd B b l w) (E:TEnv a w) (hV:14≤B) (hB:B≤w.heap.size) (hl:l.length+((showT 20 x++[32,61,32,99,111,117,110,116]++[32,58,32,123,32]++showA am++[32,125])).length≤1073741824) :
  Calls Tryz.prog 75 #[.pointer (some ⟨b,0,none⟩),.agg #[.int .i64 7,.string am.rel,.slice o0 am.l.length k0,.int .i64 x.op,.string x.s,.int .i64 x.n,.slice o1 x.l.length k1,.int .i64 y.op,.string y.s,.int .i64 y.n,.slice o2 y.l.length k2]] w (Wrote B b l ((showT 20 x++[32,61,32,99,111,117,110,116]++[32,58,32,123,32]++showA am++[32,125])) w):=by
 have hbl:=bdLt hb
 obtain⟨oc,hoc⟩:∃ o:Obj,o=.cells #[.int .i64 7,.string am.rel,.slice o0 am.l.length k0,.int .i64 x.op,.string x.s,.int .i64 x.n,.slice o1 x.l.length k1,.int .i64 y.op,.string y.s,.int .i64 y.n,.slice o2 y.l.length k2] 66:=⟨_,rfl⟩
 have R0:Row w.heap.size 66 [.int .i64 7,.string am.rel,.slice o0 am.l.length k0,.int .i64 x.op,.string x.s,.int .i64 x.n,.slice o1 x.l.length k1,.int .i64 y.op,.string y.s,.int .i64 y.n,.slice o2 y.l.length k2] (w.alloc oc):=by rw[hoc];exact Row.new w _ _
 have b0:=hb.alloc oc
 have k0':Kp B b w (w.alloc oc):=Kp.alloc hB _
 have E0:=E.belowB hV k0'.below
 have hB0:B≤(w.alloc oc).heap.size:=k0'.size hB
 have HR:Hid (∀ W,Kp B b (w.alloc oc) W→(W.cell? ⟨w.heap.size,0,none⟩=some (.int .i64 7)∧W.cell? ⟨w.heap.size,1,none⟩=some (.string am.rel)∧W.cell? ⟨w.heap.size,2,none⟩=some (.slice o0 am.l.length k0))∧(W.cell? ⟨w.heap.size,3,none⟩=some (.int .i64 x.op)∧W.cell? ⟨w.heap.size,4,none⟩=some (.string x.s)∧W.cell? ⟨w.heap.size,5,none⟩=some (.int .i64 x.n)∧W.cell? ⟨w.heap.size,6,none⟩=some (.slice o1 x.l.length k1))∧(W.cell? ⟨w.heap.size,7,none⟩=some (.int .i64 y.op)∧W.cell? ⟨w.heap.size,8,none⟩=some (.string y.s)∧W.cell? ⟨w.heap.size,9,none⟩=some (.int .i64 y.n)∧W.cell? ⟨w.heap.size,10,none⟩=some (.slice o2 y.l.length k2))∧w.heap.size < W.heap.size):=hid fun W K=>by
  have R:=R0.kp K (by omega) (by decide)
  have:=K.below.size
  simp only[World.size_alloc] at this
  exact⟨⟨R.at 0 _ rfl,R.at 1 _ rfl,R.at 2 _ rfl⟩,⟨R.at 3 _ rfl,R.at 4 _ rfl,R.at 5 _ rfl,R.at 6 _ rfl⟩,⟨R.at 7 _ rfl,R.at 8 _ rfl,R.at 9 _ rfl,R.at 10 _ rfl⟩,by omega⟩
 have HG:=hid (fun (W:World) (hb:Bd B b l W) (K:Kp B b (w.alloc oc) W)=>wagg_7 am x y o0 o1 o2 k0 k1 k2 B b l W a hx (cx.under (k0'.below.trans K.below)) ha (ca.below (k0'.below.trans K.below)) hb (E0.belowB hV K.below) hV (K.size hB0) hl)
 have HK0:=hid k0'
 have Hl:=hid hl
 have Hb0:=hid b0
 clear R0 k0' hb E E0 hB0 hl b0
 clear ha ca hx cx
 subst hoc
 go_enter Tryz.func75,Tryz.ntmps75
 have Hk0:=hid (Kp.refl B b (w.alloc (.cells #[.int .i64 7,.string am.rel,.slice o0 am.l.length k0,.int .i64 x.op,.string x.s,.int .i64 x.n,.slice o1 x.l.length k1,.int .i64 y.op,.string y.s,.int .i64 y.n,.slice o2 y.l.length k2] 66)))
 obtain⟨⟨x0,x1,x2⟩,⟨x3,x4,x5,x6⟩,⟨x7,x8,x9,x10⟩,hz0⟩:=HR.out _ Hk0.out
 go_wp2_with fail
 refine (HG.out _ Hb0.out Hk0.out).mono ?_
 clear x0 x1 x2 x3 x4 x5 x6 x7 x8 x9 x10 hz0
 rintro e w1 ⟨rfl,b1,kk⟩
 have Hb1:Hid (Bd B b (l++(showT 20 x++[32,61,32,99,111,117,110,116]++[32,58,32,123,32]++showA am++[32,125])) w1):=hid b1
 have Hk1:=hid (Hk0.out.trans kk)
 clear b1 kk Hb0
 have Hkz:=hid (HK0.out.trans Hk1.out)
 go_wp2
 go_end0
 exact⟨rfl,by simpa using Hb1.out,Hkz.out⟩
set_option maxRecDepth 100000 in
set_option maxHeartbeats 4000000 in
theorem wlit_8 (am:Am) (x y:Tm) (o0 o1 o2:Option Addr) (k0 k1 k2:Nat) (B b:Nat) (l:List UInt8) (w:World) (a:Addr) (ha:rightA am=true) (ca:AmC w B am [.string am.rel,.slice o0 am.l.length k0]) (hx:rightT 20 x=true) (cx:TmC w B x [.int .i64 x.op,.string x.s,.int .i64 x.n,.slice o1 x.l.length k1]) (cy:TmC w B y [.int .i64 y.op,.string y.s,.int .i64 y.n,.slice o2 y.l.length k2]) (hy:rightT 20 y=true) (hb:Bd B b l w) (E:TEnv a w) (hV:14≤B) (hB:B≤w.heap.size) (hl:l.length+((showT 20 x++[32,61,32,115,117,109]++[32]++showT 20 y++[32,58,32,123,32]++showA am++[32,125])).length≤1073741824) :
  Calls Tryz.prog 75 #[.pointer (some ⟨b,0,none⟩),.agg #[.int .i64 8,.string am.rel,.slice o0 am.l.length k0,.int .i64 x.op,.string x.s,.int .i64 x.n,.slice o1 x.l.length k1,.int .i64 y.op,.string y.s,.int .i64 y.n,.slice o2 y.l.length k2]] w (Wrote B b l ((showT 20 x++[32,61,32,115,117,109]++[32]++showT 20 y++[32,58,32,123,32]++showA am++[32,125])) w):=by
 have hbl:=bdLt hb
 obtain⟨oc,hoc⟩:∃ o:Obj,o=.cells #[.int .i64 8,.string am.rel,.slice o0 am.l.length k0,.int .i64 x.op,.string x.s,.int .i64 x.n,.slice o1 x.l.length k1,.int .i64 y.op,.string y.s,.int .i64 y.n,.slice o2 y.l.length k2] 66:=⟨_,rfl⟩
 have R0:Row w.heap.size 66 [.int .i64 8,.string am.rel,.slice o0 am.l.length k0,.int .i64 x.op,.string x.s,.int .i64 x.n,.slice o1 x.l.length k1,.int .i64 y.op,.string y.s,.int .i64 y.n,.slice o2 y.l.length k2] (w.alloc oc):=by rw[hoc];exact Row.new w _ _
 have b0:=hb.alloc oc
 have k0':Kp B b w (w.alloc oc):=Kp.alloc hB _
 have E0:=E.belowB hV k0'.below
 have hB0:B≤(w.alloc oc).heap.size:=k0'.size hB
 have HR:Hid (∀ W,Kp B b (w.alloc oc) W→(W.cell? ⟨w.heap.size,0,none⟩=some (.int .i64 8)∧W.cell? ⟨w.heap.size,1,none⟩=some (.string am.rel)∧W.cell? ⟨w.heap.size,2,none⟩=some (.slice o0 am.l.length k0))∧(W.cell? ⟨w.heap.size,3,none⟩=some (.int .i64 x.op)∧W.cell? ⟨w.heap.size,4,none⟩=some (.string x.s)∧W.cell? ⟨w.heap.size,5,none⟩=some (.int .i64 x.n)∧W.cell? ⟨w.heap.size,6,none⟩=some (.slice o1 x.l.length k1))∧(W.cell? ⟨w.heap.size,7,none⟩=some (.int .i64 y.op)∧W.cell? ⟨w.heap.size,8,none⟩=some (.string y.s)∧W.cell? ⟨w.heap.size,9,none⟩=some (.int .i64 y.n)∧W.cell? ⟨w.heap.size,10,none⟩=some (.slice o2 y.l.length k2))∧w.heap.size < W.heap.size):=hid fun W K=>by
  have R:=R0.kp K (by omega) (by decide)
  have:=K.below.size
  simp only[World.size_alloc] at this
  exact⟨⟨R.at 0 _ rfl,R.at 1 _ rfl,R.at 2 _ rfl⟩,⟨R.at 3 _ rfl,R.at 4 _ rfl,R.at 5 _ rfl,R.at 6 _ rfl⟩,⟨R.at 7 _ rfl,R.at 8 _ rfl,R.at 9 _ rfl,R.at 10 _ rfl⟩,by omega⟩
 have HG:=hid (fun (W:World) (hb:Bd B b l W) (K:Kp B b (w.alloc oc) W)=>wagg_8 am x y o0 o1 o2 k0 k1 k2 B b l W a hx (cx.under (k0'.below.trans K.below)) hy (cy.under (k0'.below.trans K.below)) ha (ca.below (k0'.below.trans K.below)) hb (E0.belowB hV K.below) hV (K.size hB0) hl)
 have HK0:=hid k0'
 have Hl:=hid hl
 have Hb0:=hid b0
 clear R0 k0' hb E E0 hB0 hl b0
 clear ha ca hx cx cy hy
 subst hoc
 go_enter Tryz.func75,Tryz.ntmps75
 have Hk0:=hid (Kp.refl B b (w.alloc (.cells #[.int .i64 8,.string am.rel,.slice o0 am.l.length k0,.int .i64 x.op,.string x.s,.int .i64 x.n,.slice o1 x.l.length k1,.int .i64 y.op,.string y.s,.int .i64 y.n,.slice o2 y.l.length k2] 66)))
 obtain⟨⟨x0,x1,x2⟩,⟨x3,x4,x5,x6⟩,⟨x7,x8,x9,x10⟩,hz0⟩:=HR.out _ Hk0.out
 go_wp2_with fail
 refine (HG.out _ Hb0.out Hk0.out).mono ?_
 clear x0 x1 x2 x3 x4 x5 x6 x7 x8 x9 x10 hz0
 rintro e w1 ⟨rfl,b1,kk⟩
 have Hb1:Hid (Bd B b (l++(showT 20 x++[32,61,32,115,117,109]++[32]++showT 20 y++[32,58,32,123,32]++showA am++[32,125])) w1):=hid b1
 have Hk1:=hid (Hk0.out.trans kk)
 clear b1 kk Hb0
 have Hkz:=hid (HK0.out.trans Hk1.out)
 go_wp2
 go_end0
 exact⟨rfl,by simpa using Hb1.out,Hkz.out⟩
set_option maxRecDepth 100000 in
set_option maxHeartbeats 4000000 in
theorem wlit_9 (am:Am) (x y:Tm) (o0 o1 o2:Option Addr) (k0 k1 k2:Nat) (B b:Nat) (l:List UInt8) (w:World) (a:Addr) (ha:rightA am=true) (ca:AmC w B am [.string am.rel,.slice o0 am.l.length k0]) (hx:rightT 20 x=true) (cx:TmC w B x [.int .i64 x.op,.string x.s,.int .i64 x.n,.slice o1 x.l.length k1]) (cy:TmC w B y [.int .i64 y.op,.string y.s,.int .i64 y.n,.slice o2 y.l.length k2]) (hy:rightT 20 y=true) (hb:Bd B b l w) (E:TEnv a w) (hV:14≤B) (hB:B≤w.heap.size) (hl:l.length+((showT 20 x++[32,61,32,109,105,110]++[32]++showT 20 y++[32,58,32,123,32]++showA am++[32,125])).length≤1073741824) :
  Calls Tryz.prog 75 #[.pointer (some ⟨b,0,none⟩),.agg #[.int .i64 9,.string am.rel,.slice o0 am.l.length k0,.int .i64 x.op,.string x.s,.int .i64 x.n,.slice o1 x.l.length k1,.int .i64 y.op,.string y.s,.int .i64 y.n,.slice o2 y.l.length k2]] w (Wrote B b l ((showT 20 x++[32,61,32,109,105,110]++[32]++showT 20 y++[32,58,32,123,32]++showA am++[32,125])) w):=by
 have hbl:=bdLt hb
 obtain⟨oc,hoc⟩:∃ o:Obj,o=.cells #[.int .i64 9,.string am.rel,.slice o0 am.l.length k0,.int .i64 x.op,.string x.s,.int .i64 x.n,.slice o1 x.l.length k1,.int .i64 y.op,.string y.s,.int .i64 y.n,.slice o2 y.l.length k2] 66:=⟨_,rfl⟩
 have R0:Row w.heap.size 66 [.int .i64 9,.string am.rel,.slice o0 am.l.length k0,.int .i64 x.op,.string x.s,.int .i64 x.n,.slice o1 x.l.length k1,.int .i64 y.op,.string y.s,.int .i64 y.n,.slice o2 y.l.length k2] (w.alloc oc):=by rw[hoc];exact Row.new w _ _
 have b0:=hb.alloc oc
 have k0':Kp B b w (w.alloc oc):=Kp.alloc hB _
 have E0:=E.belowB hV k0'.below
 have hB0:B≤(w.alloc oc).heap.size:=k0'.size hB
 have HR:Hid (∀ W,Kp B b (w.alloc oc) W→(W.cell? ⟨w.heap.size,0,none⟩=some (.int .i64 9)∧W.cell? ⟨w.heap.size,1,none⟩=some (.string am.rel)∧W.cell? ⟨w.heap.size,2,none⟩=some (.slice o0 am.l.length k0))∧(W.cell? ⟨w.heap.size,3,none⟩=some (.int .i64 x.op)∧W.cell? ⟨w.heap.size,4,none⟩=some (.string x.s)∧W.cell? ⟨w.heap.size,5,none⟩=some (.int .i64 x.n)∧W.cell? ⟨w.heap.size,6,none⟩=some (.slice o1 x.l.length k1))∧(W.cell? ⟨w.heap.size,7,none⟩=some (.int .i64 y.op)∧W.cell? ⟨w.heap.size,8,none⟩=some (.string y.s)∧W.cell? ⟨w.heap.size,9,none⟩=some (.int .i64 y.n)∧W.cell? ⟨w.heap.size,10,none⟩=some (.slice o2 y.l.length k2))∧w.heap.size < W.heap.size):=hid fun W K=>by
  have R:=R0.kp K (by omega) (by decide)
  have:=K.below.size
  simp only[World.size_alloc] at this
  exact⟨⟨R.at 0 _ rfl,R.at 1 _ rfl,R.at 2 _ rfl⟩,⟨R.at 3 _ rfl,R.at 4 _ rfl,R.at 5 _ rfl,R.at 6 _ rfl⟩,⟨R.at 7 _ rfl,R.at 8 _ rfl,R.at 9 _ rfl,R.at 10 _ rfl⟩,by omega⟩
 have HG:=hid (fun (W:World) (hb:Bd B b l W) (K:Kp B b (w.alloc oc) W)=>wagg_9 am x y o0 o1 o2 k0 k1 k2 B b l W a hx (cx.under (k0'.below.trans K.below)) hy (cy.under (k0'.below.trans K.below)) ha (ca.below (k0'.below.trans K.below)) hb (E0.belowB hV K.below) hV (K.size hB0) hl)
 have HK0:=hid k0'
 have Hl:=hid hl
 have Hb0:=hid b0
 clear R0 k0' hb E E0 hB0 hl b0
 clear ha ca hx cx cy hy
 subst hoc
 go_enter Tryz.func75,Tryz.ntmps75
 have Hk0:=hid (Kp.refl B b (w.alloc (.cells #[.int .i64 9,.string am.rel,.slice o0 am.l.length k0,.int .i64 x.op,.string x.s,.int .i64 x.n,.slice o1 x.l.length k1,.int .i64 y.op,.string y.s,.int .i64 y.n,.slice o2 y.l.length k2] 66)))
 obtain⟨⟨x0,x1,x2⟩,⟨x3,x4,x5,x6⟩,⟨x7,x8,x9,x10⟩,hz0⟩:=HR.out _ Hk0.out
 go_wp2_with fail
 refine (HG.out _ Hb0.out Hk0.out).mono ?_
 clear x0 x1 x2 x3 x4 x5 x6 x7 x8 x9 x10 hz0
 rintro e w1 ⟨rfl,b1,kk⟩
 have Hb1:Hid (Bd B b (l++(showT 20 x++[32,61,32,109,105,110]++[32]++showT 20 y++[32,58,32,123,32]++showA am++[32,125])) w1):=hid b1
 have Hk1:=hid (Hk0.out.trans kk)
 clear b1 kk Hb0
 have Hkz:=hid (HK0.out.trans Hk1.out)
 go_wp2
 go_end0
 exact⟨rfl,by simpa using Hb1.out,Hkz.out⟩
set_option maxRecDepth 100000 in
set_option maxHeartbeats 4000000 in
theorem wlit_10 (am:Am) (x y:Tm) (o0 o1 o2:Option Addr) (k0 k1 k2:Nat) (B b:Nat) (l:List UInt8) (w:World) (a:Addr) (ha:rightA am=true) (ca:AmC w B am [.string am.rel,.slice o0 am.l.length k0]) (hx:rightT 20 x=true) (cx:TmC w B x [.int .i64 x.op,.string x.s,.int .i64 x.n,.slice o1 x.l.length k1]) (cy:TmC w B y [.int .i64 y.op,.string y.s,.int .i64 y.n,.slice o2 y.l.length k2]) (hy:rightT 20 y=true) (hb:Bd B b l w) (E:TEnv a w) (hV:14≤B) (hB:B≤w.heap.size) (hl:l.length+((showT 20 x++[32,61,32,109,97,120]++[32]++showT 20 y++[32,58,32,123,32]++showA am++[32,125])).length≤1073741824) :
  Calls Tryz.prog 75 #[.pointer (some ⟨b,0,none⟩),.agg #[.int .i64 10,.string am.rel,.slice o0 am.l.length k0,.int .i64 x.op,.string x.s,.int .i64 x.n,.slice o1 x.l.length k1,.int .i64 y.op,.string y.s,.int .i64 y.n,.slice o2 y.l.length k2]] w (Wrote B b l ((showT 20 x++[32,61,32,109,97,120]++[32]++showT 20 y++[32,58,32,123,32]++showA am++[32,125])) w):=by
 have hbl:=bdLt hb
 obtain⟨oc,hoc⟩:∃ o:Obj,o=.cells #[.int .i64 10,.string am.rel,.slice o0 am.l.length k0,.int .i64 x.op,.string x.s,.int .i64 x.n,.slice o1 x.l.length k1,.int .i64 y.op,.string y.s,.int .i64 y.n,.slice o2 y.l.length k2] 66:=⟨_,rfl⟩
 have R0:Row w.heap.size 66 [.int .i64 10,.string am.rel,.slice o0 am.l.length k0,.int .i64 x.op,.string x.s,.int .i64 x.n,.slice o1 x.l.length k1,.int .i64 y.op,.string y.s,.int .i64 y.n,.slice o2 y.l.length k2] (w.alloc oc):=by rw[hoc];exact Row.new w _ _
 have b0:=hb.alloc oc
 have k0':Kp B b w (w.alloc oc):=Kp.alloc hB _
 have E0:=E.belowB hV k0'.below
 have hB0:B≤(w.alloc oc).heap.size:=k0'.size hB
 have HR:Hid (∀ W,Kp B b (w.alloc oc) W→(W.cell? ⟨w.heap.size,0,none⟩=some (.int .i64 10)∧W.cell? ⟨w.heap.size,1,none⟩=some (.string am.rel)∧W.cell? ⟨w.heap.size,2,none⟩=some (.slice o0 am.l.length k0))∧(W.cell? ⟨w.heap.size,3,none⟩=some (.int .i64 x.op)∧W.cell? ⟨w.heap.size,4,none⟩=some (.string x.s)∧W.cell? ⟨w.heap.size,5,none⟩=some (.int .i64 x.n)∧W.cell? ⟨w.heap.size,6,none⟩=some (.slice o1 x.l.length k1))∧(W.cell? ⟨w.heap.size,7,none⟩=some (.int .i64 y.op)∧W.cell? ⟨w.heap.size,8,none⟩=some (.string y.s)∧W.cell? ⟨w.heap.size,9,none⟩=some (.int .i64 y.n)∧W.cell? ⟨w.heap.size,10,none⟩=some (.slice o2 y.l.length k2))∧w.heap.size < W.heap.size):=hid fun W K=>by
  have R:=R0.kp K (by omega) (by decide)
  have:=K.below.size
  simp only[World.size_alloc] at this
  exact⟨⟨R.at 0 _ rfl,R.at 1 _ rfl,R.at 2 _ rfl⟩,⟨R.at 3 _ rfl,R.at 4 _ rfl,R.at 5 _ rfl,R.at 6 _ rfl⟩,⟨R.at 7 _ rfl,R.at 8 _ rfl,R.at 9 _ rfl,R.at 10 _ rfl⟩,by omega⟩
 have HG:=hid (fun (W:World) (hb:Bd B b l W) (K:Kp B b (w.alloc oc) W)=>wagg_10 am x y o0 o1 o2 k0 k1 k2 B b l W a hx (cx.under (k0'.below.trans K.below)) hy (cy.under (k0'.below.trans K.below)) ha (ca.below (k0'.below.trans K.below)) hb (E0.belowB hV K.below) hV (K.size hB0) hl)
 have HK0:=hid k0'
 have Hl:=hid hl
 have Hb0:=hid b0
 clear R0 k0' hb E E0 hB0 hl b0
 clear ha ca hx cx cy hy
 subst hoc
 go_enter Tryz.func75,Tryz.ntmps75
 have Hk0:=hid (Kp.refl B b (w.alloc (.cells #[.int .i64 10,.string am.rel,.slice o0 am.l.length k0,.int .i64 x.op,.string x.s,.int .i64 x.n,.slice o1 x.l.length k1,.int .i64 y.op,.string y.s,.int .i64 y.n,.slice o2 y.l.length k2] 66)))
 obtain⟨⟨x0,x1,x2⟩,⟨x3,x4,x5,x6⟩,⟨x7,x8,x9,x10⟩,hz0⟩:=HR.out _ Hk0.out
 go_wp2_with fail
 refine (HG.out _ Hb0.out Hk0.out).mono ?_
 clear x0 x1 x2 x3 x4 x5 x6 x7 x8 x9 x10 hz0
 rintro e w1 ⟨rfl,b1,kk⟩
 have Hb1:Hid (Bd B b (l++(showT 20 x++[32,61,32,109,97,120]++[32]++showT 20 y++[32,58,32,123,32]++showA am++[32,125])) w1):=hid b1
 have Hk1:=hid (Hk0.out.trans kk)
 clear b1 kk Hb0
 have Hkz:=hid (HK0.out.trans Hk1.out)
 go_wp2
 go_end0
 exact⟨rfl,by simpa using Hb1.out,Hkz.out⟩
theorem writeLit_c (t:Lt) (B b:Nat) (l:List UInt8) (w:World) (cs:List Value) (a:Addr) (hr:rightL t=true) (hb:Bd B b l w) (hc:LtC w B t cs) (E:TEnv a w) (hV:14≤B) (hB:B≤w.heap.size) (hl:l.length+(showL t).length≤1073741824) :
  Calls Tryz.prog 75 #[.pointer (some ⟨b,0,none⟩),.agg cs.toArray] w (Wrote B b l (showL t) w):=by
 obtain⟨o0,k0,o1,k1,o2,k2,rfl,_,HA,HX,HY⟩:=hc.look
 clear hc
 obtain⟨op,am,x,y⟩:=t
 simp only at HA HX HY ⊢
 unfold rightL at hr
 simp only at hr
 by_cases h1:op=1∨op=2
 ·rw[if_pos h1] at hr
  simp only[Bool.and_eq_true] at hr
  rcases h1 with rfl | rfl
  ·exact wlit_1 am x y o0 o1 o2 k0 k1 k2 B b l w a hr.1.1 HA hb E hV hB hl
  ·exact wlit_2 am x y o0 o1 o2 k0 k1 k2 B b l w a hr.1.1 HA hb E hV hB hl
 rw[if_neg h1] at hr
 by_cases h3:3≤op∧op≤6
 ·rw[if_pos h3] at hr
  simp only[Bool.and_eq_true] at hr
  have ho:op=3∨op=4∨op=5∨op=6:=by omega
  rcases ho with rfl | rfl | rfl | rfl
  ·have hs:showL ⟨3,am,x,y⟩=showT 20 x++[32,61,32]++showT 20 y:=by show showT 20 x++[32]++wordL 3++[32]++showT 20 y=_;simp[show wordL 3=[61] from rfl]
   rw[hs] at hl ⊢
   exact wlit_3 am x y o0 o1 o2 k0 k1 k2 B b l w a hr.1.1.1.2 HX hr.1.1.2 HY hb E hV hB hl
  ·have hs:showL ⟨4,am,x,y⟩=showT 20 x++[32,33,61,32]++showT 20 y:=by show showT 20 x++[32]++wordL 4++[32]++showT 20 y=_;simp[show wordL 4=[33,61] from rfl]
   rw[hs] at hl ⊢
   exact wlit_4 am x y o0 o1 o2 k0 k1 k2 B b l w a hr.1.1.1.2 HX hr.1.1.2 HY hb E hV hB hl
  ·have hs:showL ⟨5,am,x,y⟩=showT 20 x++[32,60,32]++showT 20 y:=by show showT 20 x++[32]++wordL 5++[32]++showT 20 y=_;simp[show wordL 5=[60] from rfl]
   rw[hs] at hl ⊢
   exact wlit_5 am x y o0 o1 o2 k0 k1 k2 B b l w a hr.1.1.1.2 HX hr.1.1.2 HY hb E hV hB hl
  ·have hs:showL ⟨6,am,x,y⟩=showT 20 x++[32,60,61,32]++showT 20 y:=by show showT 20 x++[32]++wordL 6++[32]++showT 20 y=_;simp[show wordL 6=[60,61] from rfl]
   rw[hs] at hl ⊢
   exact wlit_6 am x y o0 o1 o2 k0 k1 k2 B b l w a hr.1.1.1.2 HX hr.1.1.2 HY hb E hV hB hl
 rw[if_neg h3] at hr
 by_cases h7:op=7
 ·subst h7
  rw[if_pos rfl] at hr
  simp only[Bool.and_eq_true] at hr
  have hs:showL ⟨7,am,x,y⟩=(showT 20 x++[32,61,32,99,111,117,110,116]++[32,58,32,123,32]++showA am++[32,125]):=by show showT 20 x++[32,61,32]++wordL 7++[]++[32,58,32,123,32]++showA am++[32,125]=_;simp[show wordL 7=[99,111,117,110,116] from rfl]
  rw[hs] at hl ⊢
  exact wlit_7 am x y o0 o1 o2 k0 k1 k2 B b l w a hr.1.1.1 HA hr.1.1.2 HX hb E hV hB hl
 rw[if_neg h7] at hr
 by_cases h8:8≤op∧op≤10
 ·rw[if_pos h8] at hr
  simp only[Bool.and_eq_true] at hr
  have ho:op=8∨op=9∨op=10:=by omega
  rcases ho with rfl | rfl | rfl
  ·have hs:showL ⟨8,am,x,y⟩=(showT 20 x++[32,61,32,115,117,109]++[32]++showT 20 y++[32,58,32,123,32]++showA am++[32,125]):=by show showT 20 x++[32,61,32]++wordL 8++([32]++showT 20 y)++[32,58,32,123,32]++showA am++[32,125]=_;simp[show wordL 8=[115,117,109] from rfl]
   rw[hs] at hl ⊢
   exact wlit_8 am x y o0 o1 o2 k0 k1 k2 B b l w a hr.1.1.1.1 HA hr.1.1.1.2 HX HY hr.1.2 hb E hV hB hl
  ·have hs:showL ⟨9,am,x,y⟩=(showT 20 x++[32,61,32,109,105,110]++[32]++showT 20 y++[32,58,32,123,32]++showA am++[32,125]):=by show showT 20 x++[32,61,32]++wordL 9++([32]++showT 20 y)++[32,58,32,123,32]++showA am++[32,125]=_;simp[show wordL 9=[109,105,110] from rfl]
   rw[hs] at hl ⊢
   exact wlit_9 am x y o0 o1 o2 k0 k1 k2 B b l w a hr.1.1.1.1 HA hr.1.1.1.2 HX HY hr.1.2 hb E hV hB hl
  ·have hs:showL ⟨10,am,x,y⟩=(showT 20 x++[32,61,32,109,97,120]++[32]++showT 20 y++[32,58,32,123,32]++showA am++[32,125]):=by show showT 20 x++[32,61,32]++wordL 10++([32]++showT 20 y)++[32,58,32,123,32]++showA am++[32,125]=_;simp[show wordL 10=[109,97,120] from rfl]
   rw[hs] at hl ⊢
   exact wlit_10 am x y o0 o1 o2 k0 k1 k2 B b l w a hr.1.1.1.1 HA hr.1.1.1.2 HX HY hr.1.2 hb E hV hB hl
 rw[if_neg h8] at hr
 cases hr
end Go.Proofs.YtdgbajnhhhjbcaaGreatDoor

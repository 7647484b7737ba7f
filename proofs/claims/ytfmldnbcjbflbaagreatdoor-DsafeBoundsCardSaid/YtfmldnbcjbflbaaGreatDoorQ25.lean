/- Zr@012 -/
import Derived.Test.YtfmldnbcjbflbaaGreatDoorQ17
set_option linter.unusedSimpArgs false
set_option linter.unusedVariables false
namespace Go.Proofs.YtfmldnbcjbflbaaGreatDoor
open Lib(hid)
open Go.RowKit
theorem row17 {W:World} {b:Nat} {T:TypeId} {c0 c1 c2 c3 c4 c5 c6 c7 c8 c9 c10 c11 c12 c13 c14 c15 c16:Value} (h:W.heap[b]?=some (.cells #[c0,c1,c2,c3,c4,c5,c6,c7,c8,c9,c10,c11,c12,c13,c14,c15,c16] T (0,0))) :
  W.cell? ⟨b,0,none⟩=some c0∧W.cell? ⟨b,1,none⟩=some c1∧W.cell? ⟨b,2,none⟩=some c2∧W.cell? ⟨b,3,none⟩=some c3∧W.cell? ⟨b,4,none⟩=some c4∧W.cell? ⟨b,5,none⟩=some c5∧W.cell? ⟨b,6,none⟩=some c6∧W.cell? ⟨b,7,none⟩=some c7∧W.cell? ⟨b,8,none⟩=some c8∧W.cell? ⟨b,9,none⟩=some c9∧W.cell? ⟨b,10,none⟩=some c10∧W.cell? ⟨b,11,none⟩=some c11∧W.cell? ⟨b,12,none⟩=some c12∧W.cell? ⟨b,13,none⟩=some c13∧W.cell? ⟨b,14,none⟩=some c14∧W.cell? ⟨b,15,none⟩=some c15∧W.cell? ⟨b,16,none⟩=some c16:=
 ⟨row_cells h 0,row_cells h 1,row_cells h 2,row_cells h 3,row_cells h 4,row_cells h 5,row_cells h 6,row_cells h 7,row_cells h 8,row_cells h 9,row_cells h 10,row_cells h 11,row_cells h 12,row_cells h 13,row_cells h 14,row_cells h 15,row_cells h 16⟩
structure Asked (B:Bd) (p:Pt) (blx bly bax bay baa bou brk bin:Bool):Prop where
 lx:lacksZ B p.lit.x=blx
 ly:lacksZ B p.lit.y=bly
 ax:allZ B p.x=bax
 ay:allZ B p.y=bay
 aa:allZ B p.a=baa
 ou:allZ B p.ou=bou
 rk:allZ B p.rk=brk
 inn:inZ p=bin
theorem asked (B:Bd) (p:Pt):∃ a b c d e f g h,Asked B p a b c d e f g h:=⟨_,_,_,_,_,_,_,_,rfl,rfl,rfl,rfl,rfl,rfl,rfl,rfl⟩
set_option maxRecDepth 100000 in
set_option maxHeartbeats 16000000 in
theorem ready3_c (p:Pt) (cs:List Value) (M n c:Nat) (B:Bd) (w:World) (hp:PtC w w.heap.size p cs) (hM:MapI Tryz.prog w 9 3 M n B c) (ho:p.lit.op=3) :
  Calls Tryz.prog 105 #[.agg cs.toArray,.map (some M)] w fun e w'=>e=.returned (.bool (readyZ B p))∧Below w.heap.size w w':=by
 have hMl:=hM.lt
 obtain⟨blx,bly,bax,bay,baa,bou,brk,bin,Q⟩:=asked B p
 obtain⟨o0,k0,o1,k1,o2,k2,o3,k3,o4,k4,o5,k5,o6,k6,o7,k7,rfl,hl,h1,h2,h3,h4,h5⟩:=hp.look
 obtain⟨q0,q1,q2,q3,q4,q5,qe,_,_,hx,hy⟩:=hl.look
 cases qe
 have HLX:=hid (fun (W:World) (hb:Below w.heap.size w W)=>lacks_c p.lit.x _ W.heap.size M n c B W ((hx.under hb).more hb.size) (hM.below hb hMl))
 rw[Q.lx] at HLX
 have HLY:=hid (fun (W:World) (hb:Below w.heap.size w W)=>lacks_c p.lit.y _ W.heap.size M n c B W ((hy.under hb).more hb.size) (hM.below hb hMl))
 rw[Q.ly] at HLY
 have HAX:=hid (fun (W:World) (hb:Below w.heap.size w W)=>hasAll_c p.x _ M n c B W (h1.str hb hb.size) (hM.below hb hMl))
 rw[Q.ax] at HAX
 have HAY:=hid (fun (W:World) (hb:Below w.heap.size w W)=>hasAll_c p.y _ M n c B W (h2.str hb hb.size) (hM.below hb hMl))
 rw[Q.ay] at HAY
 have HAA:=hid (fun (W:World) (hb:Below w.heap.size w W)=>hasAll_c p.a _ M n c B W (h3.str hb hb.size) (hM.below hb hMl))
 rw[Q.aa] at HAA
 have Hq:Hid (readyZ B p=((blx && bay || bly && bax) || (bax && bay && baa))):=hid (by unfold readyZ eqZ plainZ;rw[if_pos ho,Q.lx,Q.ly,Q.ax,Q.ay,Q.aa])
 have B0:Hid (Below w.heap.size w (w.alloc (.cells #[.int .i64 (p.place:Int),.int .i64 p.lit.op,.string p.lit.a.rel,.slice o0 p.lit.a.l.length k0,.int .i64 p.lit.x.op,.string p.lit.x.s,.int .i64 p.lit.x.n,.slice o1 p.lit.x.l.length k1,.int .i64 p.lit.y.op,.string p.lit.y.s,.int .i64 p.lit.y.n,.slice o2 p.lit.y.l.length k2,.slice o3 p.x.length k3,.slice o4 p.y.length k4,.slice o5 p.a.length k5,.slice o6 p.rk.length k6,.slice o7 p.ou.length k7] 105))):=hid ((Below.refl _ _).alloc (Nat.le_refl _) _)
 have R0:=hid (World.alloc_heap_new w (.cells #[.int .i64 (p.place:Int),.int .i64 p.lit.op,.string p.lit.a.rel,.slice o0 p.lit.a.l.length k0,.int .i64 p.lit.x.op,.string p.lit.x.s,.int .i64 p.lit.x.n,.slice o1 p.lit.x.l.length k1,.int .i64 p.lit.y.op,.string p.lit.y.s,.int .i64 p.lit.y.n,.slice o2 p.lit.y.l.length k2,.slice o3 p.x.length k3,.slice o4 p.y.length k4,.slice o5 p.a.length k5,.slice o6 p.rk.length k6,.slice o7 p.ou.length k7] 105))
 clear hp hM hl hx hy h1 h2 h3 h4 h5 Q
 have t3:=congrArg (fun o:Int=>o == 3) ho
 have t2:=congrArg (fun o:Int=>o == 2) ho
 have t4:=congrArg (fun o:Int=>o == 4) ho
 have t5:=congrArg (fun o:Int=>o == 5) ho
 have t6:=congrArg (fun o:Int=>o == 6) ho
 have t8:=congrArg (fun o:Int=>o == 8) ho
 have t9:=congrArg (fun o:Int=>o == 9) ho
 have t10:=congrArg (fun o:Int=>o == 10) ho
 have t7:=congrArg (fun o:Int=>o == 7) ho
 have t1:=congrArg (fun o:Int=>o == 1) ho
 simp only[Int.reduceBEq] at t3 t2 t4 t5 t6 t8 t9 t10 t7 t1
 clear ho
 go_enter Tryz.func105,Tryz.ntmps105
 go_wp2_with fail
 refine (HLX.out _ B0.out).mono ?_
 rintro e1 w1 ⟨rfl,b1⟩
 have R1:=hid ((b1.block w.heap.size (heap_lt R0.out)).trans R0.out)
 have B1:=hid (B0.out.trans (b1.mono B0.out.size))
 have hz1:w.heap.size < w1.heap.size:=heap_lt R1.out
 obtain⟨x0,x1,x2,x3,x4,x5,x6,x7,x8,x9,x10,x11,x12,x13,x14,x15,x16⟩:=row17 R1.out
 clear b1
 cases blx with
 | true=>
  go_wp2_with fail
  refine (HAY.out _ B1.out).mono ?_
  rintro e2 w2 ⟨rfl,rfl⟩
  cases bay with
  | true=>
   go_wp2
   go_ret
   exact⟨by rw[Hq.out];rfl,B1.out⟩
  | false=>
   go_wp2_with fail
   refine (HLY.out _ B1.out).mono ?_
   rintro e3 w3 ⟨rfl,b3⟩
   have R3:=hid ((b3.block w.heap.size (heap_lt R1.out)).trans R1.out)
   have B3:=hid (B1.out.trans (b3.mono B1.out.size))
   have hz3:w.heap.size < w3.heap.size:=heap_lt R3.out
   obtain⟨x0,x1,x2,x3,x4,x5,x6,x7,x8,x9,x10,x11,x12,x13,x14,x15,x16⟩:=row17 R3.out
   clear b3
   cases bly with
   | true=>
    go_wp2_with fail
    refine (HAX.out _ B3.out).mono ?_
    rintro e4 w4 ⟨rfl,rfl⟩
    cases bax with
    | true=>
     go_wp2
     go_ret
     exact⟨by rw[Hq.out];rfl,B3.out⟩
    | false=>
     go_wp2_with fail
     refine (HAX.out _ B3.out).mono ?_
     rintro e5 w5 ⟨rfl,rfl⟩
     go_wp2
     go_ret
     exact⟨by rw[Hq.out];rfl,B3.out⟩
   | false=>
    go_wp2_with fail
    refine (HAX.out _ B3.out).mono ?_
    rintro e4 w4 ⟨rfl,rfl⟩
    cases bax with
    | true=>
     go_wp2_with fail
     refine (HAY.out _ B3.out).mono ?_
     rintro e5 w5 ⟨rfl,rfl⟩
     go_wp2
     go_ret
     exact⟨by rw[Hq.out];rfl,B3.out⟩
    | false=>
     go_wp2
     go_ret
     exact⟨by rw[Hq.out];rfl,B3.out⟩
 | false=>
  go_wp2_with fail
  refine (HLY.out _ B1.out).mono ?_
  rintro e2 w2 ⟨rfl,b2⟩
  have R2:=hid ((b2.block w.heap.size (heap_lt R1.out)).trans R1.out)
  have B2:=hid (B1.out.trans (b2.mono B1.out.size))
  have hz2:w.heap.size < w2.heap.size:=heap_lt R2.out
  obtain⟨x0,x1,x2,x3,x4,x5,x6,x7,x8,x9,x10,x11,x12,x13,x14,x15,x16⟩:=row17 R2.out
  clear b2
  cases bly with
  | true=>
   go_wp2_with fail
   refine (HAX.out _ B2.out).mono ?_
   rintro e3 w3 ⟨rfl,rfl⟩
   cases bax with
   | true=>
    go_wp2
    go_ret
    exact⟨by rw[Hq.out];rfl,B2.out⟩
   | false=>
    go_wp2_with fail
    refine (HAX.out _ B2.out).mono ?_
    rintro e4 w4 ⟨rfl,rfl⟩
    go_wp2
    go_ret
    exact⟨by rw[Hq.out];rfl,B2.out⟩
  | false=>
   go_wp2_with fail
   refine (HAX.out _ B2.out).mono ?_
   rintro e3 w3 ⟨rfl,rfl⟩
   cases bax with
   | true=>
    go_wp2_with fail
    refine (HAY.out _ B2.out).mono ?_
    rintro e4 w4 ⟨rfl,rfl⟩
    cases bay with
    | true=>
     go_wp2_with fail
     refine (HAA.out _ B2.out).mono ?_
     rintro e5 w5 ⟨rfl,rfl⟩
     cases baa with
     | true=>
      go_wp2
      go_ret
      exact⟨by rw[Hq.out];rfl,B2.out⟩
     | false=>
      go_wp2
      go_ret
      exact⟨by rw[Hq.out];rfl,B2.out⟩
    | false=>
     go_wp2
     go_ret
     exact⟨by rw[Hq.out];rfl,B2.out⟩
   | false=>
    go_wp2
    go_ret
    exact⟨by rw[Hq.out];rfl,B2.out⟩
set_option maxRecDepth 100000 in
set_option maxHeartbeats 16000000 in
theorem ready2_c (p:Pt) (cs:List Value) (M n c:Nat) (B:Bd) (w:World) (hp:PtC w w.heap.size p cs) (hM:MapI Tryz.prog w 9 3 M n B c) (ho:p.lit.op=2∨p.lit.op=4∨p.lit.op=5∨p.lit.op=6) :
  Calls Tryz.prog 105 #[.agg cs.toArray,.map (some M)] w fun e w'=>e=.returned (.bool (readyZ B p))∧Below w.heap.size w w':=by
 have hMl:=hM.lt
 obtain⟨blx,bly,bax,bay,baa,bou,brk,bin,Q⟩:=asked B p
 obtain⟨o0,k0,o1,k1,o2,k2,o3,k3,o4,k4,o5,k5,o6,k6,o7,k7,rfl,hl,h1,h2,h3,h4,h5⟩:=hp.look
 obtain⟨q0,q1,q2,q3,q4,q5,qe,_,_,hx,hy⟩:=hl.look
 cases qe
 have HAX:=hid (fun (W:World) (hb:Below w.heap.size w W)=>hasAll_c p.x _ M n c B W (h1.str hb hb.size) (hM.below hb hMl))
 rw[Q.ax] at HAX
 have HAY:=hid (fun (W:World) (hb:Below w.heap.size w W)=>hasAll_c p.y _ M n c B W (h2.str hb hb.size) (hM.below hb hMl))
 rw[Q.ay] at HAY
 have HAA:=hid (fun (W:World) (hb:Below w.heap.size w W)=>hasAll_c p.a _ M n c B W (h3.str hb hb.size) (hM.below hb hMl))
 rw[Q.aa] at HAA
 have Hq:Hid (readyZ B p=(bax && bay && baa)):=hid (by unfold readyZ plainZ;rw[if_neg (by omega),if_pos ho,Q.ax,Q.ay,Q.aa])
 have B0:Hid (Below w.heap.size w (w.alloc (.cells #[.int .i64 (p.place:Int),.int .i64 p.lit.op,.string p.lit.a.rel,.slice o0 p.lit.a.l.length k0,.int .i64 p.lit.x.op,.string p.lit.x.s,.int .i64 p.lit.x.n,.slice o1 p.lit.x.l.length k1,.int .i64 p.lit.y.op,.string p.lit.y.s,.int .i64 p.lit.y.n,.slice o2 p.lit.y.l.length k2,.slice o3 p.x.length k3,.slice o4 p.y.length k4,.slice o5 p.a.length k5,.slice o6 p.rk.length k6,.slice o7 p.ou.length k7] 105))):=hid ((Below.refl _ _).alloc (Nat.le_refl _) _)
 have R0:=hid (World.alloc_heap_new w (.cells #[.int .i64 (p.place:Int),.int .i64 p.lit.op,.string p.lit.a.rel,.slice o0 p.lit.a.l.length k0,.int .i64 p.lit.x.op,.string p.lit.x.s,.int .i64 p.lit.x.n,.slice o1 p.lit.x.l.length k1,.int .i64 p.lit.y.op,.string p.lit.y.s,.int .i64 p.lit.y.n,.slice o2 p.lit.y.l.length k2,.slice o3 p.x.length k3,.slice o4 p.y.length k4,.slice o5 p.a.length k5,.slice o6 p.rk.length k6,.slice o7 p.ou.length k7] 105))
 clear hp hM hl hx hy h1 h2 h3 h4 h5 Q
 rcases ho with ho | ho | ho | ho
 all_goals
  have t3:=congrArg (fun o:Int=>o == 3) ho
  have t2:=congrArg (fun o:Int=>o == 2) ho
  have t4:=congrArg (fun o:Int=>o == 4) ho
  have t5:=congrArg (fun o:Int=>o == 5) ho
  have t6:=congrArg (fun o:Int=>o == 6) ho
  have t8:=congrArg (fun o:Int=>o == 8) ho
  have t9:=congrArg (fun o:Int=>o == 9) ho
  have t10:=congrArg (fun o:Int=>o == 10) ho
  have t7:=congrArg (fun o:Int=>o == 7) ho
  have t1:=congrArg (fun o:Int=>o == 1) ho
  simp only[Int.reduceBEq] at t3 t2 t4 t5 t6 t8 t9 t10 t7 t1
  clear ho
  go_enter Tryz.func105,Tryz.ntmps105
  go_wp2_with fail
  refine (HAX.out _ B0.out).mono ?_
  rintro e1 w1 ⟨rfl,rfl⟩
  cases bax with
  | true=>
   go_wp2_with fail
   refine (HAY.out _ B0.out).mono ?_
   rintro e2 w2 ⟨rfl,rfl⟩
   cases bay with
   | true=>
    go_wp2_with fail
    refine (HAA.out _ B0.out).mono ?_
    rintro e3 w3 ⟨rfl,rfl⟩
    cases baa with
    | true=>
     go_wp2
     go_ret
     exact⟨by rw[Hq.out];rfl,B0.out⟩
    | false=>
     go_wp2
     go_ret
     exact⟨by rw[Hq.out];rfl,B0.out⟩
   | false=>
    go_wp2
    go_ret
    exact⟨by rw[Hq.out];rfl,B0.out⟩
  | false=>
   go_wp2
   go_ret
   exact⟨by rw[Hq.out];rfl,B0.out⟩
set_option maxRecDepth 100000 in
set_option maxHeartbeats 16000000 in
theorem ready8_c (p:Pt) (cs:List Value) (M n c:Nat) (B:Bd) (w:World) (hp:PtC w w.heap.size p cs) (hM:MapI Tryz.prog w 9 3 M n B c) (ho:p.lit.op=8∨p.lit.op=9∨p.lit.op=10) :
  Calls Tryz.prog 105 #[.agg cs.toArray,.map (some M)] w fun e w'=>e=.returned (.bool (readyZ B p))∧Below w.heap.size w w':=by
 have hMl:=hM.lt
 obtain⟨blx,bly,bax,bay,baa,bou,brk,bin,Q⟩:=asked B p
 obtain⟨o0,k0,o1,k1,o2,k2,o3,k3,o4,k4,o5,k5,o6,k6,o7,k7,rfl,hl,h1,h2,h3,h4,h5⟩:=hp.look
 obtain⟨q0,q1,q2,q3,q4,q5,qe,_,_,hx,hy⟩:=hl.look
 cases qe
 have HIN:=hid (fun (W:World) (hb:Below w.heap.size w W)=>contains_c p.a p.lit.y.s _ W (h3.str hb hb.size))
 rw[show memB p.a p.lit.y.s=bin from Q.inn] at HIN
 have HAO:=hid (fun (W:World) (hb:Below w.heap.size w W)=>hasAll_c p.ou _ M n c B W (h5.str hb hb.size) (hM.below hb hMl))
 rw[Q.ou] at HAO
 have HAR:=hid (fun (W:World) (hb:Below w.heap.size w W)=>hasAll_c p.rk _ M n c B W (h4.str hb hb.size) (hM.below hb hMl))
 rw[Q.rk] at HAR
 have Hq:Hid (readyZ B p=(bin && (bou && brk))):=hid (by unfold readyZ;rw[if_neg (by omega),if_neg (by omega),if_pos ho,Q.inn,Q.ou,Q.rk])
 have B0:Hid (Below w.heap.size w (w.alloc (.cells #[.int .i64 (p.place:Int),.int .i64 p.lit.op,.string p.lit.a.rel,.slice o0 p.lit.a.l.length k0,.int .i64 p.lit.x.op,.string p.lit.x.s,.int .i64 p.lit.x.n,.slice o1 p.lit.x.l.length k1,.int .i64 p.lit.y.op,.string p.lit.y.s,.int .i64 p.lit.y.n,.slice o2 p.lit.y.l.length k2,.slice o3 p.x.length k3,.slice o4 p.y.length k4,.slice o5 p.a.length k5,.slice o6 p.rk.length k6,.slice o7 p.ou.length k7] 105))):=hid ((Below.refl _ _).alloc (Nat.le_refl _) _)
 have R0:=hid (World.alloc_heap_new w (.cells #[.int .i64 (p.place:Int),.int .i64 p.lit.op,.string p.lit.a.rel,.slice o0 p.lit.a.l.length k0,.int .i64 p.lit.x.op,.string p.lit.x.s,.int .i64 p.lit.x.n,.slice o1 p.lit.x.l.length k1,.int .i64 p.lit.y.op,.string p.lit.y.s,.int .i64 p.lit.y.n,.slice o2 p.lit.y.l.length k2,.slice o3 p.x.length k3,.slice o4 p.y.length k4,.slice o5 p.a.length k5,.slice o6 p.rk.length k6,.slice o7 p.ou.length k7] 105))
 clear hp hM hl hx hy h1 h2 h3 h4 h5 Q
 rcases ho with ho | ho | ho
 all_goals
  have t3:=congrArg (fun o:Int=>o == 3) ho
  have t2:=congrArg (fun o:Int=>o == 2) ho
  have t4:=congrArg (fun o:Int=>o == 4) ho
  have t5:=congrArg (fun o:Int=>o == 5) ho
  have t6:=congrArg (fun o:Int=>o == 6) ho
  have t8:=congrArg (fun o:Int=>o == 8) ho
  have t9:=congrArg (fun o:Int=>o == 9) ho
  have t10:=congrArg (fun o:Int=>o == 10) ho
  have t7:=congrArg (fun o:Int=>o == 7) ho
  have t1:=congrArg (fun o:Int=>o == 1) ho
  simp only[Int.reduceBEq] at t3 t2 t4 t5 t6 t8 t9 t10 t7 t1
  clear ho
  go_enter Tryz.func105,Tryz.ntmps105
  go_wp2_with fail
  refine (HIN.out _ B0.out).mono ?_
  rintro e1 w1 ⟨rfl,rfl⟩
  cases bin with
  | true=>
   go_wp2_with fail
   refine (HAO.out _ B0.out).mono ?_
   rintro e2 w2 ⟨rfl,rfl⟩
   cases bou with
   | true=>
    go_wp2_with fail
    refine (HAR.out _ B0.out).mono ?_
    rintro e3 w3 ⟨rfl,rfl⟩
    cases brk with
    | true=>
     go_wp2
     go_ret
     exact⟨by rw[Hq.out];rfl,B0.out⟩
    | false=>
     go_wp2
     go_ret
     exact⟨by rw[Hq.out];rfl,B0.out⟩
   | false=>
    go_wp2
    go_ret
    exact⟨by rw[Hq.out];rfl,B0.out⟩
  | false=>
   go_wp2
   go_ret
   exact⟨by rw[Hq.out];rfl,B0.out⟩
set_option maxRecDepth 100000 in
set_option maxHeartbeats 16000000 in
theorem ready7_c (p:Pt) (cs:List Value) (M n c:Nat) (B:Bd) (w:World) (hp:PtC w w.heap.size p cs) (hM:MapI Tryz.prog w 9 3 M n B c) (ho:p.lit.op=7) :
  Calls Tryz.prog 105 #[.agg cs.toArray,.map (some M)] w fun e w'=>e=.returned (.bool (readyZ B p))∧Below w.heap.size w w':=by
 have hMl:=hM.lt
 obtain⟨blx,bly,bax,bay,baa,bou,brk,bin,Q⟩:=asked B p
 obtain⟨o0,k0,o1,k1,o2,k2,o3,k3,o4,k4,o5,k5,o6,k6,o7,k7,rfl,hl,h1,h2,h3,h4,h5⟩:=hp.look
 obtain⟨q0,q1,q2,q3,q4,q5,qe,_,_,hx,hy⟩:=hl.look
 cases qe
 have HAO:=hid (fun (W:World) (hb:Below w.heap.size w W)=>hasAll_c p.ou _ M n c B W (h5.str hb hb.size) (hM.below hb hMl))
 rw[Q.ou] at HAO
 have HAR:=hid (fun (W:World) (hb:Below w.heap.size w W)=>hasAll_c p.rk _ M n c B W (h4.str hb hb.size) (hM.below hb hMl))
 rw[Q.rk] at HAR
 have Hq:Hid (readyZ B p=(bou && brk)):=hid (by unfold readyZ;rw[if_neg (by omega),if_neg (by omega),if_neg (by omega),if_pos ho,Q.ou,Q.rk])
 have B0:Hid (Below w.heap.size w (w.alloc (.cells #[.int .i64 (p.place:Int),.int .i64 p.lit.op,.string p.lit.a.rel,.slice o0 p.lit.a.l.length k0,.int .i64 p.lit.x.op,.string p.lit.x.s,.int .i64 p.lit.x.n,.slice o1 p.lit.x.l.length k1,.int .i64 p.lit.y.op,.string p.lit.y.s,.int .i64 p.lit.y.n,.slice o2 p.lit.y.l.length k2,.slice o3 p.x.length k3,.slice o4 p.y.length k4,.slice o5 p.a.length k5,.slice o6 p.rk.length k6,.slice o7 p.ou.length k7] 105))):=hid ((Below.refl _ _).alloc (Nat.le_refl _) _)
 have R0:=hid (World.alloc_heap_new w (.cells #[.int .i64 (p.place:Int),.int .i64 p.lit.op,.string p.lit.a.rel,.slice o0 p.lit.a.l.length k0,.int .i64 p.lit.x.op,.string p.lit.x.s,.int .i64 p.lit.x.n,.slice o1 p.lit.x.l.length k1,.int .i64 p.lit.y.op,.string p.lit.y.s,.int .i64 p.lit.y.n,.slice o2 p.lit.y.l.length k2,.slice o3 p.x.length k3,.slice o4 p.y.length k4,.slice o5 p.a.length k5,.slice o6 p.rk.length k6,.slice o7 p.ou.length k7] 105))
 clear hp hM hl hx hy h1 h2 h3 h4 h5 Q
 have t3:=congrArg (fun o:Int=>o == 3) ho
 have t2:=congrArg (fun o:Int=>o == 2) ho
 have t4:=congrArg (fun o:Int=>o == 4) ho
 have t5:=congrArg (fun o:Int=>o == 5) ho
 have t6:=congrArg (fun o:Int=>o == 6) ho
 have t8:=congrArg (fun o:Int=>o == 8) ho
 have t9:=congrArg (fun o:Int=>o == 9) ho
 have t10:=congrArg (fun o:Int=>o == 10) ho
 have t7:=congrArg (fun o:Int=>o == 7) ho
 have t1:=congrArg (fun o:Int=>o == 1) ho
 simp only[Int.reduceBEq] at t3 t2 t4 t5 t6 t8 t9 t10 t7 t1
 clear ho
 go_enter Tryz.func105,Tryz.ntmps105
 go_wp2_with fail
 refine (HAO.out _ B0.out).mono ?_
 rintro e1 w1 ⟨rfl,rfl⟩
 cases bou with
 | true=>
  go_wp2_with fail
  refine (HAR.out _ B0.out).mono ?_
  rintro e2 w2 ⟨rfl,rfl⟩
  cases brk with
  | true=>
   go_wp2
   go_ret
   exact⟨by rw[Hq.out];rfl,B0.out⟩
  | false=>
   go_wp2
   go_ret
   exact⟨by rw[Hq.out];rfl,B0.out⟩
 | false=>
  go_wp2
  go_ret
  exact⟨by rw[Hq.out];rfl,B0.out⟩
set_option maxRecDepth 100000 in
set_option maxHeartbeats 16000000 in
theorem ready1_c (p:Pt) (cs:List Value) (M n c:Nat) (B:Bd) (w:World) (hp:PtC w w.heap.size p cs) (hM:MapI Tryz.prog w 9 3 M n B c) (ho:p.lit.op=1) :
  Calls Tryz.prog 105 #[.agg cs.toArray,.map (some M)] w fun e w'=>e=.returned (.bool (readyZ B p))∧Below w.heap.size w w':=by
 have hMl:=hM.lt
 obtain⟨blx,bly,bax,bay,baa,bou,brk,bin,Q⟩:=asked B p
 obtain⟨o0,k0,o1,k1,o2,k2,o3,k3,o4,k4,o5,k5,o6,k6,o7,k7,rfl,hl,h1,h2,h3,h4,h5⟩:=hp.look
 obtain⟨q0,q1,q2,q3,q4,q5,qe,_,_,hx,hy⟩:=hl.look
 cases qe
 have HAR:=hid (fun (W:World) (hb:Below w.heap.size w W)=>hasAll_c p.rk _ M n c B W (h4.str hb hb.size) (hM.below hb hMl))
 rw[Q.rk] at HAR
 have Hq:Hid (readyZ B p=brk):=hid (by unfold readyZ;rw[if_neg (by omega),if_neg (by omega),if_neg (by omega),if_neg (by omega),if_pos ho,Q.rk])
 have B0:Hid (Below w.heap.size w (w.alloc (.cells #[.int .i64 (p.place:Int),.int .i64 p.lit.op,.string p.lit.a.rel,.slice o0 p.lit.a.l.length k0,.int .i64 p.lit.x.op,.string p.lit.x.s,.int .i64 p.lit.x.n,.slice o1 p.lit.x.l.length k1,.int .i64 p.lit.y.op,.string p.lit.y.s,.int .i64 p.lit.y.n,.slice o2 p.lit.y.l.length k2,.slice o3 p.x.length k3,.slice o4 p.y.length k4,.slice o5 p.a.length k5,.slice o6 p.rk.length k6,.slice o7 p.ou.length k7] 105))):=hid ((Below.refl _ _).alloc (Nat.le_refl _) _)
 have R0:=hid (World.alloc_heap_new w (.cells #[.int .i64 (p.place:Int),.int .i64 p.lit.op,.string p.lit.a.rel,.slice o0 p.lit.a.l.length k0,.int .i64 p.lit.x.op,.string p.lit.x.s,.int .i64 p.lit.x.n,.slice o1 p.lit.x.l.length k1,.int .i64 p.lit.y.op,.string p.lit.y.s,.int .i64 p.lit.y.n,.slice o2 p.lit.y.l.length k2,.slice o3 p.x.length k3,.slice o4 p.y.length k4,.slice o5 p.a.length k5,.slice o6 p.rk.length k6,.slice o7 p.ou.length k7] 105))
 clear hp hM hl hx hy h1 h2 h3 h4 h5 Q
 have t3:=congrArg (fun o:Int=>o == 3) ho
 have t2:=congrArg (fun o:Int=>o == 2) ho
 have t4:=congrArg (fun o:Int=>o == 4) ho
 have t5:=congrArg (fun o:Int=>o == 5) ho
 have t6:=congrArg (fun o:Int=>o == 6) ho
 have t8:=congrArg (fun o:Int=>o == 8) ho
 have t9:=congrArg (fun o:Int=>o == 9) ho
 have t10:=congrArg (fun o:Int=>o == 10) ho
 have t7:=congrArg (fun o:Int=>o == 7) ho
 have t1:=congrArg (fun o:Int=>o == 1) ho
 simp only[Int.reduceBEq] at t3 t2 t4 t5 t6 t8 t9 t10 t7 t1
 clear ho
 go_enter Tryz.func105,Tryz.ntmps105
 go_wp2_with fail
 refine (HAR.out _ B0.out).mono ?_
 rintro e1 w1 ⟨rfl,rfl⟩
 cases brk with
 | true=>
  go_wp2
  go_ret
  exact⟨by rw[Hq.out];rfl,B0.out⟩
 | false=>
  go_wp2
  go_ret
  exact⟨by rw[Hq.out];rfl,B0.out⟩
set_option maxRecDepth 100000 in
set_option maxHeartbeats 16000000 in
theorem ready0_c (p:Pt) (cs:List Value) (M n c:Nat) (B:Bd) (w:World) (hp:PtC w w.heap.size p cs) (hM:MapI Tryz.prog w 9 3 M n B c) (n1:p.lit.op≠1) (n2:p.lit.op≠2) (n3:p.lit.op≠3) (n4:p.lit.op≠4) (n5:p.lit.op≠5) (n6:p.lit.op≠6) (n7:p.lit.op≠7) (n8:p.lit.op≠8) (n9:p.lit.op≠9) (n10:p.lit.op≠10) :
  Calls Tryz.prog 105 #[.agg cs.toArray,.map (some M)] w fun e w'=>e=.returned (.bool (readyZ B p))∧Below w.heap.size w w':=by
 have hMl:=hM.lt
 obtain⟨blx,bly,bax,bay,baa,bou,brk,bin,Q⟩:=asked B p
 obtain⟨o0,k0,o1,k1,o2,k2,o3,k3,o4,k4,o5,k5,o6,k6,o7,k7,rfl,hl,h1,h2,h3,h4,h5⟩:=hp.look
 obtain⟨q0,q1,q2,q3,q4,q5,qe,_,_,hx,hy⟩:=hl.look
 cases qe
 have Hq:Hid (readyZ B p=false):=hid (by unfold readyZ;rw[if_neg (by omega),if_neg (by omega),if_neg (by omega),if_neg (by omega),if_neg (by omega)])
 have B0:Hid (Below w.heap.size w (w.alloc (.cells #[.int .i64 (p.place:Int),.int .i64 p.lit.op,.string p.lit.a.rel,.slice o0 p.lit.a.l.length k0,.int .i64 p.lit.x.op,.string p.lit.x.s,.int .i64 p.lit.x.n,.slice o1 p.lit.x.l.length k1,.int .i64 p.lit.y.op,.string p.lit.y.s,.int .i64 p.lit.y.n,.slice o2 p.lit.y.l.length k2,.slice o3 p.x.length k3,.slice o4 p.y.length k4,.slice o5 p.a.length k5,.slice o6 p.rk.length k6,.slice o7 p.ou.length k7] 105))):=hid ((Below.refl _ _).alloc (Nat.le_refl _) _)
 have R0:=hid (World.alloc_heap_new w (.cells #[.int .i64 (p.place:Int),.int .i64 p.lit.op,.string p.lit.a.rel,.slice o0 p.lit.a.l.length k0,.int .i64 p.lit.x.op,.string p.lit.x.s,.int .i64 p.lit.x.n,.slice o1 p.lit.x.l.length k1,.int .i64 p.lit.y.op,.string p.lit.y.s,.int .i64 p.lit.y.n,.slice o2 p.lit.y.l.length k2,.slice o3 p.x.length k3,.slice o4 p.y.length k4,.slice o5 p.a.length k5,.slice o6 p.rk.length k6,.slice o7 p.ou.length k7] 105))
 clear hp hM hl hx hy h1 h2 h3 h4 h5 Q
 have t3:(p.lit.op == 3)=false:=by simpa using n3
 have t2:(p.lit.op == 2)=false:=by simpa using n2
 have t4:(p.lit.op == 4)=false:=by simpa using n4
 have t5:(p.lit.op == 5)=false:=by simpa using n5
 have t6:(p.lit.op == 6)=false:=by simpa using n6
 have t8:(p.lit.op == 8)=false:=by simpa using n8
 have t9:(p.lit.op == 9)=false:=by simpa using n9
 have t10:(p.lit.op == 10)=false:=by simpa using n10
 have t7:(p.lit.op == 7)=false:=by simpa using n7
 have t1:(p.lit.op == 1)=false:=by simpa using n1
 clear n1 n2 n3 n4 n5 n6 n7 n8 n9 n10
 go_enter Tryz.func105,Tryz.ntmps105
 go_wp2
 go_ret
 exact⟨by rw[Hq.out];rfl,B0.out⟩
theorem isReady_c (p:Pt) (cs:List Value) (M n c:Nat) (B:Bd) (w:World) (hp:PtC w w.heap.size p cs) (hM:MapI Tryz.prog w 9 3 M n B c) :
  Calls Tryz.prog 105 #[.agg cs.toArray,.map (some M)] w fun e w'=>e=.returned (.bool (readyZ B p))∧Below w.heap.size w w':=by
 by_cases h3:p.lit.op=3
 ·exact ready3_c p cs M n c B w hp hM h3
 by_cases h2:p.lit.op=2∨p.lit.op=4∨p.lit.op=5∨p.lit.op=6
 ·exact ready2_c p cs M n c B w hp hM h2
 by_cases h8:p.lit.op=8∨p.lit.op=9∨p.lit.op=10
 ·exact ready8_c p cs M n c B w hp hM h8
 by_cases h7:p.lit.op=7
 ·exact ready7_c p cs M n c B w hp hM h7
 by_cases h1:p.lit.op=1
 ·exact ready1_c p cs M n c B w hp hM h1
 exact ready0_c p cs M n c B w hp hM h1 (fun h=>h2 (.inl h)) h3 (fun h=>h2 (.inr (.inl h))) (fun h=>h2 (.inr (.inr (.inl h)))) (fun h=>h2 (.inr (.inr (.inr h)))) h7 (fun h=>h8 (.inl h)) (fun h=>h8 (.inr (.inl h))) (fun h=>h8 (.inr (.inr h)))
end Go.Proofs.YtfmldnbcjbflbaaGreatDoor

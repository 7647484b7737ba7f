/- Zi@0123, Zk@0123, Zo@0123 -/
import Derived.Test.YtakpgcmfjlbcgaaGreatDoorQ23
import Derived.Test.YtakpgcmfjlbcgaaGreatDoorQ24
set_option linter.unusedSimpArgs false
set_option linter.unusedVariables false
namespace Go.Proofs.YtakpgcmfjlbcgaaGreatDoor
open Lib(hid)
open Go.RowKit
theorem row4 {W:World} {b:Nat} {T:TypeId} {c0 c1 c2 c3:Value} (h:W.heap[b]?=some (.cells #[c0,c1,c2,c3] T (0,0))) :
  W.cell? ⟨b,0,none⟩=some c0∧W.cell? ⟨b,1,none⟩=some c1∧W.cell? ⟨b,2,none⟩=some c2∧W.cell? ⟨b,3,none⟩=some c3:=
 ⟨row_cells h 0,row_cells h 1,row_cells h 2,row_cells h 3⟩
theorem three_b (w:World) (a b c:Obj):Below w.heap.size w (((w.alloc a).alloc b).alloc c).drew:=
 ((((Below.refl _ _).alloc (Nat.le_refl _) a).alloc (by simp) b).alloc (by simp;omega) c).drew
theorem three_1 (w:World) (a b c:Obj):(((w.alloc a).alloc b).alloc c).drew.heap[w.heap.size+1]?=some b:=by
 have:=World.alloc_heap_new (w.alloc a) b
 rw[World.size_alloc] at this
 exact row_more this c
theorem three_2 (w:World) (a b c:Obj):(((w.alloc a).alloc b).alloc c).drew.heap[w.heap.size+1+1]?=some c:=by
 have:=World.alloc_heap_new ((w.alloc a).alloc b) c
 rw[World.size_alloc,World.size_alloc] at this
 exact this
set_option maxRecDepth 100000 in
set_option maxHeartbeats 16000000 in
theorem invents_c (p:Pt) (cs:List Value) (M n c:Nat) (B:Bd) (w:World) (hp:PtC w w.heap.size p cs) (hM:MapI Tryz.prog w 9 3 M n B c) :
  Calls Tryz.prog 71 #[.agg cs.toArray,.map (some M)] w fun e w'=>e=.returned (.bool (inventsZ B p))∧Below w.heap.size w w':=by
 have hMl:=hM.lt
 obtain⟨o0,k0,o1,k1,o2,k2,o3,k3,o4,k4,o5,k5,o6,k6,o7,k7,rfl,hl,h1,h2,h3,h4,h5⟩:=hp.look
 obtain⟨q0,q1,q2,q3,q4,q5,qe,_,_,hx,hy⟩:=hl.look
 cases qe
 have HLX:=hid (fun (W:World) (hb:Below w.heap.size w W)=>lacks_c p.lit.x _ W.heap.size M n c B W ((hx.under hb).more hb.size) (hM.below hb hMl))
 have HLY:=hid (fun (W:World) (hb:Below w.heap.size w W)=>lacks_c p.lit.y _ W.heap.size M n c B W ((hy.under hb).more hb.size) (hM.below hb hMl))
 have HRX:=hid (fun (W:World) (hb:Below w.heap.size w W)=>isRck_c p.lit.x _ W.heap.size W ((hx.under hb).more hb.size))
 have HRY:=hid (fun (W:World) (hb:Below w.heap.size w W)=>isRck_c p.lit.y _ W.heap.size W ((hy.under hb).more hb.size))
 have HLT:=hid (fun (W:World) (hb:Below w.heap.size w W)=>isAgg_c p.lit _ W.heap.size W ((hl.below hb).more hb.size))
 clear hp hM hl hx hy h1 h2 h3 h4 h5
 unfold inventsZ
 by_cases ho:p.lit.op=3
 ·have t3:(p.lit.op == 3)=true:=by rw[ho];rfl
  rw[if_pos ho]
  obtain⟨blx,hlx⟩:∃ b,lacksZ B p.lit.x=b:=⟨_,rfl⟩
  obtain⟨bly,hly⟩:∃ b,lacksZ B p.lit.y=b:=⟨_,rfl⟩
  obtain⟨brx,hrx⟩:∃ b,rckT p.lit.x=b:=⟨_,rfl⟩
  obtain⟨bry,hry⟩:∃ b,rckT p.lit.y=b:=⟨_,rfl⟩
  rw[hlx] at HLX ⊢
  rw[hly] at HLY ⊢
  rw[hrx] at HRX ⊢
  rw[hry] at HRY ⊢
  clear ho hlx hly hrx hry HLT
  go_enter Tryz.func71,Tryz.ntmps71
  go_wp2_with fail
  go_region
  ·have B0:=hid (three_b w (.cells #[.int .i64 (p.place:Int),.int .i64 p.lit.op,.string p.lit.a.rel,.slice o0 p.lit.a.l.length k0,.int .i64 p.lit.x.op,.string p.lit.x.s,.int .i64 p.lit.x.n,.slice o1 p.lit.x.l.length k1,.int .i64 p.lit.y.op,.string p.lit.y.s,.int .i64 p.lit.y.n,.slice o2 p.lit.y.l.length k2,.slice o3 p.x.length k3,.slice o4 p.y.length k4,.slice o5 p.a.length k5,.slice o6 p.rk.length k6,.slice o7 p.ou.length k7] 126) (.cells #[.int .i64 p.lit.x.op,.string p.lit.x.s,.int .i64 p.lit.x.n,.slice o1 p.lit.x.l.length k1] 51) (.cells #[.int .i64 p.lit.y.op,.string p.lit.y.s,.int .i64 p.lit.y.n,.slice o2 p.lit.y.l.length k2] 51))
   have RX0:=hid (three_1 w (.cells #[.int .i64 (p.place:Int),.int .i64 p.lit.op,.string p.lit.a.rel,.slice o0 p.lit.a.l.length k0,.int .i64 p.lit.x.op,.string p.lit.x.s,.int .i64 p.lit.x.n,.slice o1 p.lit.x.l.length k1,.int .i64 p.lit.y.op,.string p.lit.y.s,.int .i64 p.lit.y.n,.slice o2 p.lit.y.l.length k2,.slice o3 p.x.length k3,.slice o4 p.y.length k4,.slice o5 p.a.length k5,.slice o6 p.rk.length k6,.slice o7 p.ou.length k7] 126) (.cells #[.int .i64 p.lit.x.op,.string p.lit.x.s,.int .i64 p.lit.x.n,.slice o1 p.lit.x.l.length k1] 51) (.cells #[.int .i64 p.lit.y.op,.string p.lit.y.s,.int .i64 p.lit.y.n,.slice o2 p.lit.y.l.length k2] 51))
   have RY0:=hid (three_2 w (.cells #[.int .i64 (p.place:Int),.int .i64 p.lit.op,.string p.lit.a.rel,.slice o0 p.lit.a.l.length k0,.int .i64 p.lit.x.op,.string p.lit.x.s,.int .i64 p.lit.x.n,.slice o1 p.lit.x.l.length k1,.int .i64 p.lit.y.op,.string p.lit.y.s,.int .i64 p.lit.y.n,.slice o2 p.lit.y.l.length k2,.slice o3 p.x.length k3,.slice o4 p.y.length k4,.slice o5 p.a.length k5,.slice o6 p.rk.length k6,.slice o7 p.ou.length k7] 126) (.cells #[.int .i64 p.lit.x.op,.string p.lit.x.s,.int .i64 p.lit.x.n,.slice o1 p.lit.x.l.length k1] 51) (.cells #[.int .i64 p.lit.y.op,.string p.lit.y.s,.int .i64 p.lit.y.n,.slice o2 p.lit.y.l.length k2] 51))
   go_wp2_with fail
   refine (HLX.out _ B0.out).mono ?_
   rintro e1 w1 ⟨rfl,b1⟩
   have RX1:=hid ((b1.block _ (heap_lt RX0.out)).trans RX0.out)
   have RY1:=hid ((b1.block _ (heap_lt RY0.out)).trans RY0.out)
   have B1:=hid (B0.out.trans (b1.mono B0.out.size))
   obtain⟨x0,x1,x2,x3⟩:=row4 RX1.out
   obtain⟨y0,y1,y2,y3⟩:=row4 RY1.out
   have lx1:=heap_lt RX1.out
   have ly1:=heap_lt RY1.out
   clear b1
   cases blx with
   | true=>
    go_wp2_with fail
    refine (HRY.out _ B1.out).mono ?_
    rintro e2 w2 ⟨rfl,b2⟩
    have RX2:=hid ((b2.block _ (heap_lt RX1.out)).trans RX1.out)
    have RY2:=hid ((b2.block _ (heap_lt RY1.out)).trans RY1.out)
    have B2:=hid (B1.out.trans (b2.mono B1.out.size))
    obtain⟨x0,x1,x2,x3⟩:=row4 RX2.out
    obtain⟨y0,y1,y2,y3⟩:=row4 RY2.out
    have lx2:=heap_lt RX2.out
    have ly2:=heap_lt RY2.out
    clear b2
    cases bry with
    | true=>
     go_wp2
     go_ret
     exact⟨rfl,B2.out⟩
    | false=>
     go_wp2_with fail
     refine (HLY.out _ B2.out).mono ?_
     rintro e3 w3 ⟨rfl,b3⟩
     have RX3:=hid ((b3.block _ (heap_lt RX2.out)).trans RX2.out)
     have RY3:=hid ((b3.block _ (heap_lt RY2.out)).trans RY2.out)
     have B3:=hid (B2.out.trans (b3.mono B2.out.size))
     obtain⟨x0,x1,x2,x3⟩:=row4 RX3.out
     obtain⟨y0,y1,y2,y3⟩:=row4 RY3.out
     have lx3:=heap_lt RX3.out
     have ly3:=heap_lt RY3.out
     clear b3
     cases bly with
     | true=>
      go_wp2_with fail
      refine (HRX.out _ B3.out).mono ?_
      rintro e4 w4 ⟨rfl,b4⟩
      have RX4:=hid ((b4.block _ (heap_lt RX3.out)).trans RX3.out)
      have RY4:=hid ((b4.block _ (heap_lt RY3.out)).trans RY3.out)
      have B4:=hid (B3.out.trans (b4.mono B3.out.size))
      obtain⟨x0,x1,x2,x3⟩:=row4 RX4.out
      obtain⟨y0,y1,y2,y3⟩:=row4 RY4.out
      have lx4:=heap_lt RX4.out
      have ly4:=heap_lt RY4.out
      clear b4
      cases brx with
      | true=>
       go_wp2
       go_ret
       exact⟨rfl,B4.out⟩
      | false=>
       go_wp2
       go_ret
       exact⟨rfl,B4.out⟩
     | false=>
      go_wp2
      go_ret
      exact⟨rfl,B3.out⟩
   | false=>
    go_wp2_with fail
    refine (HLY.out _ B1.out).mono ?_
    rintro e2 w2 ⟨rfl,b2⟩
    have RX2:=hid ((b2.block _ (heap_lt RX1.out)).trans RX1.out)
    have RY2:=hid ((b2.block _ (heap_lt RY1.out)).trans RY1.out)
    have B2:=hid (B1.out.trans (b2.mono B1.out.size))
    obtain⟨x0,x1,x2,x3⟩:=row4 RX2.out
    obtain⟨y0,y1,y2,y3⟩:=row4 RY2.out
    have lx2:=heap_lt RX2.out
    have ly2:=heap_lt RY2.out
    clear b2
    cases bly with
    | true=>
     go_wp2_with fail
     refine (HRX.out _ B2.out).mono ?_
     rintro e3 w3 ⟨rfl,b3⟩
     have RX3:=hid ((b3.block _ (heap_lt RX2.out)).trans RX2.out)
     have RY3:=hid ((b3.block _ (heap_lt RY2.out)).trans RY2.out)
     have B3:=hid (B2.out.trans (b3.mono B2.out.size))
     obtain⟨x0,x1,x2,x3⟩:=row4 RX3.out
     obtain⟨y0,y1,y2,y3⟩:=row4 RY3.out
     have lx3:=heap_lt RX3.out
     have ly3:=heap_lt RY3.out
     clear b3
     cases brx with
     | true=>
      go_wp2
      go_ret
      exact⟨rfl,B3.out⟩
     | false=>
      go_wp2
      go_ret
      exact⟨rfl,B3.out⟩
    | false=>
     go_wp2
     go_ret
     exact⟨rfl,B2.out⟩
  ·have B0:=hid (three_b w (.cells #[.int .i64 (p.place:Int),.int .i64 p.lit.op,.string p.lit.a.rel,.slice o0 p.lit.a.l.length k0,.int .i64 p.lit.x.op,.string p.lit.x.s,.int .i64 p.lit.x.n,.slice o1 p.lit.x.l.length k1,.int .i64 p.lit.y.op,.string p.lit.y.s,.int .i64 p.lit.y.n,.slice o2 p.lit.y.l.length k2,.slice o3 p.x.length k3,.slice o4 p.y.length k4,.slice o5 p.a.length k5,.slice o6 p.rk.length k6,.slice o7 p.ou.length k7] 126) (.cells #[.int .i64 p.lit.y.op,.string p.lit.y.s,.int .i64 p.lit.y.n,.slice o2 p.lit.y.l.length k2] 51) (.cells #[.int .i64 p.lit.x.op,.string p.lit.x.s,.int .i64 p.lit.x.n,.slice o1 p.lit.x.l.length k1] 51))
   have RY0:=hid (three_1 w (.cells #[.int .i64 (p.place:Int),.int .i64 p.lit.op,.string p.lit.a.rel,.slice o0 p.lit.a.l.length k0,.int .i64 p.lit.x.op,.string p.lit.x.s,.int .i64 p.lit.x.n,.slice o1 p.lit.x.l.length k1,.int .i64 p.lit.y.op,.string p.lit.y.s,.int .i64 p.lit.y.n,.slice o2 p.lit.y.l.length k2,.slice o3 p.x.length k3,.slice o4 p.y.length k4,.slice o5 p.a.length k5,.slice o6 p.rk.length k6,.slice o7 p.ou.length k7] 126) (.cells #[.int .i64 p.lit.y.op,.string p.lit.y.s,.int .i64 p.lit.y.n,.slice o2 p.lit.y.l.length k2] 51) (.cells #[.int .i64 p.lit.x.op,.string p.lit.x.s,.int .i64 p.lit.x.n,.slice o1 p.lit.x.l.length k1] 51))
   have RX0:=hid (three_2 w (.cells #[.int .i64 (p.place:Int),.int .i64 p.lit.op,.string p.lit.a.rel,.slice o0 p.lit.a.l.length k0,.int .i64 p.lit.x.op,.string p.lit.x.s,.int .i64 p.lit.x.n,.slice o1 p.lit.x.l.length k1,.int .i64 p.lit.y.op,.string p.lit.y.s,.int .i64 p.lit.y.n,.slice o2 p.lit.y.l.length k2,.slice o3 p.x.length k3,.slice o4 p.y.length k4,.slice o5 p.a.length k5,.slice o6 p.rk.length k6,.slice o7 p.ou.length k7] 126) (.cells #[.int .i64 p.lit.y.op,.string p.lit.y.s,.int .i64 p.lit.y.n,.slice o2 p.lit.y.l.length k2] 51) (.cells #[.int .i64 p.lit.x.op,.string p.lit.x.s,.int .i64 p.lit.x.n,.slice o1 p.lit.x.l.length k1] 51))
   go_wp2_with fail
   refine (HLX.out _ B0.out).mono ?_
   rintro e1 w1 ⟨rfl,b1⟩
   have RX1:=hid ((b1.block _ (heap_lt RX0.out)).trans RX0.out)
   have RY1:=hid ((b1.block _ (heap_lt RY0.out)).trans RY0.out)
   have B1:=hid (B0.out.trans (b1.mono B0.out.size))
   obtain⟨x0,x1,x2,x3⟩:=row4 RX1.out
   obtain⟨y0,y1,y2,y3⟩:=row4 RY1.out
   have lx1:=heap_lt RX1.out
   have ly1:=heap_lt RY1.out
   clear b1
   cases blx with
   | true=>
    go_wp2_with fail
    refine (HRY.out _ B1.out).mono ?_
    rintro e2 w2 ⟨rfl,b2⟩
    have RX2:=hid ((b2.block _ (heap_lt RX1.out)).trans RX1.out)
    have RY2:=hid ((b2.block _ (heap_lt RY1.out)).trans RY1.out)
    have B2:=hid (B1.out.trans (b2.mono B1.out.size))
    obtain⟨x0,x1,x2,x3⟩:=row4 RX2.out
    obtain⟨y0,y1,y2,y3⟩:=row4 RY2.out
    have lx2:=heap_lt RX2.out
    have ly2:=heap_lt RY2.out
    clear b2
    cases bry with
    | true=>
     go_wp2
     go_ret
     exact⟨rfl,B2.out⟩
    | false=>
     go_wp2_with fail
     refine (HLY.out _ B2.out).mono ?_
     rintro e3 w3 ⟨rfl,b3⟩
     have RX3:=hid ((b3.block _ (heap_lt RX2.out)).trans RX2.out)
     have RY3:=hid ((b3.block _ (heap_lt RY2.out)).trans RY2.out)
     have B3:=hid (B2.out.trans (b3.mono B2.out.size))
     obtain⟨x0,x1,x2,x3⟩:=row4 RX3.out
     obtain⟨y0,y1,y2,y3⟩:=row4 RY3.out
     have lx3:=heap_lt RX3.out
     have ly3:=heap_lt RY3.out
     clear b3
     cases bly with
     | true=>
      go_wp2_with fail
      refine (HRX.out _ B3.out).mono ?_
      rintro e4 w4 ⟨rfl,b4⟩
      have RX4:=hid ((b4.block _ (heap_lt RX3.out)).trans RX3.out)
      have RY4:=hid ((b4.block _ (heap_lt RY3.out)).trans RY3.out)
      have B4:=hid (B3.out.trans (b4.mono B3.out.size))
      obtain⟨x0,x1,x2,x3⟩:=row4 RX4.out
      obtain⟨y0,y1,y2,y3⟩:=row4 RY4.out
      have lx4:=heap_lt RX4.out
      have ly4:=heap_lt RY4.out
      clear b4
      cases brx with
      | true=>
       go_wp2
       go_ret
       exact⟨rfl,B4.out⟩
      | false=>
       go_wp2
       go_ret
       exact⟨rfl,B4.out⟩
     | false=>
      go_wp2
      go_ret
      exact⟨rfl,B3.out⟩
   | false=>
    go_wp2_with fail
    refine (HLY.out _ B1.out).mono ?_
    rintro e2 w2 ⟨rfl,b2⟩
    have RX2:=hid ((b2.block _ (heap_lt RX1.out)).trans RX1.out)
    have RY2:=hid ((b2.block _ (heap_lt RY1.out)).trans RY1.out)
    have B2:=hid (B1.out.trans (b2.mono B1.out.size))
    obtain⟨x0,x1,x2,x3⟩:=row4 RX2.out
    obtain⟨y0,y1,y2,y3⟩:=row4 RY2.out
    have lx2:=heap_lt RX2.out
    have ly2:=heap_lt RY2.out
    clear b2
    cases bly with
    | true=>
     go_wp2_with fail
     refine (HRX.out _ B2.out).mono ?_
     rintro e3 w3 ⟨rfl,b3⟩
     have RX3:=hid ((b3.block _ (heap_lt RX2.out)).trans RX2.out)
     have RY3:=hid ((b3.block _ (heap_lt RY2.out)).trans RY2.out)
     have B3:=hid (B2.out.trans (b3.mono B2.out.size))
     obtain⟨x0,x1,x2,x3⟩:=row4 RX3.out
     obtain⟨y0,y1,y2,y3⟩:=row4 RY3.out
     have lx3:=heap_lt RX3.out
     have ly3:=heap_lt RY3.out
     clear b3
     cases brx with
     | true=>
      go_wp2
      go_ret
      exact⟨rfl,B3.out⟩
     | false=>
      go_wp2
      go_ret
      exact⟨rfl,B3.out⟩
    | false=>
     go_wp2
     go_ret
     exact⟨rfl,B2.out⟩
 ·have t3:(p.lit.op == 3)=false:=by simp[ho]
  rw[if_neg ho]
  clear ho HLX HLY HRX HRY
  go_enter Tryz.func71,Tryz.ntmps71
  go_wp2_with fail
  go_region
  all_goals
   go_wp2_with fail
   refine (HLT.out _ (three_b w _ _ _)).mono ?_
   rintro e1 w1 ⟨rfl,b1⟩
   have B1:=hid ((three_b w _ _ _).trans (b1.mono (three_b w _ _ _).size))
   clear b1
   go_wp2
   go_ret
   exact⟨rfl,B1.out⟩
theorem info_tm:(Tryz.prog.info? 51).map (fun i=>(i.zero,i.size,i.bytes))=some (some (.agg #[.int .i64 0,.string ⟨#[]⟩,.int .i64 0,.slice none 0 0]),4,56):=by kernel_rfl
theorem filt_take {l:List Tm} {k:Nat} {t:Tm} (h:l[k]?=some t):(l.take (k+1)).filter rckT=(l.take k).filter rckT++(if rckT t=true then [t] else []):=by
 rw[List.take_add_one,h,List.filter_append]
 congr 1
 by_cases ht:rckT t=true
 ·rw[if_pos ht];simp[ht]
 ·rw[if_neg ht];simp[ht]
set_option maxRecDepth 100000 in
set_option maxHeartbeats 8000000 in
theorem rckOf_c (l:List Tm) (v:Value) (w:World) (h:TmS w w.heap.size l v) (hn:l.length≤1000000) :
  Calls Tryz.prog 103 #[v] w fun e w'=>∃ u,e=.returned u∧TmS w' w'.heap.size (l.filter rckT) u∧Below w.heap.size w w':=by
 obtain⟨o1,k1,rfl,_,_,S1⟩:=SlOf.open h
 obtain⟨i0,hi,hz0,hz1,hz2⟩:=info_parts info_tm
 have HN:=hid hn
 clear h hn
 go_enter Tryz.func103,Tryz.ntmps103
 go_wp2
 go_loopw [3,8] (fun lv i wr=>∃ (k:Nat) (acc:List Tm) (xs:List Value),k≤l.length∧i=.int .i64 k∧(l.take k).filter rckT=acc∧wr.ownsRow w.heap.size 51 4 lv acc.length xs∧Laid 4 (TmC w w.heap.size) acc xs∧Below w.heap.size w wr) (fun _ i _=>l.length - (intOf i).toNat)
 case atStart=>exact⟨0,[],[],Nat.zero_le _,rfl,rfl,World.ownsRow_nil _ _ _ _,Laid.nil,Below.refl _ _⟩
 case round=>
  obtain⟨k,acc,xs,hk,rfl,hacc,hO,hL,hB⟩:=hrel
  have Hacc:=hid hacc
  have HO:=hid hO
  have HL:=hid hL
  have HB:=hid hB
  have hsz:=hB.size
  clear hacc hO hL
  by_cases hlt:k < l.length
  ·have hlt':(k:Int) < (l.length:Int):=by omega
   obtain⟨t,ht⟩:∃ t,l[k]?=some t:=⟨l[k],List.getElem?_eq_getElem hlt⟩
   obtain⟨cs,hcs⟩:∃ cs,TmC w w.heap.size t cs:=by
    obtain⟨a,cs,_,_,_,h1,_⟩:=S1.out k t ht
    exact⟨cs,h1⟩
   obtain⟨a,p3,q3,rfl,ha,Hc,c0,c1,c2,c3⟩:=tm_at S1 hB ht
   have hal:(a.add (k * 4)).block < wr.heap.size:=by rw[addBlock];omega
   have hraw:Hid (TmC w w.heap.size t [.int .i64 t.op,.string t.s,.int .i64 t.n,.slice p3 t.l.length q3]):=by
    obtain⟨a',cs',e',_,_,h1,h2⟩:=S1.out k t ht
    cases e'
    obtain⟨p',q',rfl,_⟩:=h1.look
    have:=(h2.below ha hB).four.2.2.2
    rw[c3] at this
    cases this
    exact hid h1
   have HC:=hid (fun x:Obj=>isRck_c t _ (wr.alloc x).heap.size (wr.alloc x) ((Hc.out.under ((Below.refl _ _).alloc (Nat.le_refl _) x)).more (by simp)))
   have Hst:=hid (filt_take ht)
   have hle:acc.length≤k:=by
    rw[← Hacc.out]
    exact Nat.le_trans (List.length_filter_le _ _) (by rw[List.length_take];omega)
   have HR0:=hid (World.alloc_heap_new wr (.cells #[.int .i64 t.op,.string t.s,.int .i64 t.n,.slice p3 t.l.length q3] 51))
   have HB0:=hid (HB.out.alloc hsz (.cells #[.int .i64 t.op,.string t.s,.int .i64 t.n,.slice p3 t.l.length q3] 51))
   have HO0:=hid (HO.out.alloc (.cells #[.int .i64 t.op,.string t.s,.int .i64 t.n,.slice p3 t.l.length q3] 51))
   clear ht hB hcs
   go_wp2_with fail
   refine (HC.out _).mono ?_
   rintro e1 w1 ⟨rfl,b1⟩
   have HR1:=hid ((b1.block wr.heap.size (by simp)).trans HR0.out)
   have HB1:=hid (HB0.out.trans (b1.mono (by simp;omega)))
   have HO1:=hid (own_below HO0.out b1)
   have hz1':wr.heap.size < w1.heap.size:=heap_lt HR1.out
   obtain⟨y0,y1,y2,y3⟩:=row4 HR1.out
   clear b1 HC c0 c1 c2 c3
   cases hb:rckT t with
   | false=>
    have Hst2:Hid ((l.take (k+1)).filter rckT=acc):=hid (by rw[Hst.out,Hacc.out,hb];simp)
    clear hb
    go_wp2
    go_roundw
    case rel=>exact⟨k+1,acc,xs,hlt,by go_num,Hst2.out,HO1.out,HL.out,HB1.out⟩
    case measure=>simp[intOf];omega
   | true=>
    have Hst2:Hid ((l.take (k+1)).filter rckT=acc++[t]):=hid (by rw[Hst.out,Hacc.out,hb];simp)
    have HL2:=hid (HL.out.snoc rfl hraw.out)
    have HS1:Hid (acc.length+1≤maxLen):=hid (by have:=HN.out;unfold maxLen;omega)
    have HS2:Hid ((acc.length+1) * 56≤140737488355328):=hid (by have:=HN.out;omega)
    clear hb
    go_wp2_with (at_builtin;refine wpList_append_own _ rfl (.tmp 14) (.tmp 16) 42 rfl w.heap.size 51 i0 _ 4 56 Tryz.underlying42 hi hz0 hz1 hz2 rfl (by decide) _ acc.length _ rfl (HO1.out.alloc _) _ 1 1 [.int .i64 t.op,.string t.s,.int .i64 t.n,.slice p3 t.l.length q3] rfl rfl (World.news_of_block (World.alloc_heap_new _ _)) (by simp[Value.oneCell']) HS1.out HS2.out (by simp;omega) ?_;intro v' w6 hown' hgrow _;have HG:=hid (grown_past hgrow);have HO6:=hid hown';clear hgrow hown')
    go_roundw
    case rel=>
     refine⟨k+1,acc++[t],_,hlt,by go_num,Hst2.out,?_,HL2.out,?_⟩
     ·rw[List.length_append];exact HO6.out
     ·exact HB1.out.grown HG.out (by omega) (fun q hq=>(HO1.out.lt q hq).1)
    case measure=>simp[intOf];omega
  ·have hlt':¬ (k:Int) < (l.length:Int):=by omega
   have hS0:=SlOf.more (sl_own0 HO.out HL.out) (Nat.le_refl _) (R':=TmC wr wr.heap.size) (fun x _ cs hx=>(hx.under HB.out).more hsz)
   rw[← Hacc.out,List.take_of_length_le (by omega)] at hS0
   have HS:=hid hS0
   obtain⟨oq,kq,rfl⟩:=own_shape HO.out
   clear hS0
   go_wp2
   go_ret
   exact⟨_,rfl,HS.out,HB.out⟩
structure FewT (l:List Tm):Prop where
 s:∀ s ∈ occ (subTs l),s.size≤281474976710656
 n:(occ (subTs l)).length≤300000
theorem vz_len (l:List Tm):(vz l).length≤(occ (subTs l)).length:=onceN_len _
theorem vz_max {l:List Tm} (h:FewT l):∀ s ∈ vz l,s.size≤maxLen:=fun s hs=>Nat.le_trans (h.s s (vz_mem.1 hs)) (by decide)
theorem vz_c (l:List Tm) (v:Value) (w:World) (hc:TmS w w.heap.size l v) (hf:FewT l):Calls Tryz.prog 102 #[v] w (VarsR (vz l) w.heap.size w):=by
 refine (callsIn_wide.1 (zvarsOf_in l v w hc hf.s (by have:=hf.n;omega))).mono ?_
 rintro e w' ⟨v',rfl,h1,h2⟩
 exact⟨v',rfl,sl_row (R:=StrC) h1 (fun s hs=>⟨rfl,vz_max hf s hs⟩),h2⟩
def OwnR (l:List ByteArray) (n0:Nat) (w:World) (e:Ending) (w':World):Prop:=∃ v,e=.returned v∧w'.ownsRow n0 9 1 v l.length (l.map Value.string)∧Below n0 w w'
theorem own_base {w:World} {b b':Nat} {e:TypeId} {z:Nat} {v:Value} {n:Nat} {xs:List Value} (h:w.ownsRow b e z v n xs) (hb:b'≤b):w.ownsRow b' e z v n xs:=
 ⟨h.1,h.2.imp id fun ⟨g,cap,cur,h1,h2,h3⟩=>⟨g,cap,cur,h1,Nat.le_trans hb h2,h3⟩⟩
theorem vzO_c (l:List Tm) (v:Value) (w:World) (hc:TmS w w.heap.size l v) (hf:FewT l):Calls Tryz.prog 102 #[v] w (OwnR (vz l) w.heap.size w):=callsIn_wide.1 (zvarsOf_in l v w hc hf.s (by have:=hf.n;omega))
def outF (F:List UInt8→Int) (l:List Tm):List ByteArray:=(vz l).filter fun s=>decide (1 < F s.data.toList)
theorem fil_take {α:Type} {f:α→Bool} {l:List α} {k:Nat} {t:α} (h:l[k]?=some t):(l.take (k+1)).filter f=(l.take k).filter f++(if f t=true then [t] else []):=by
 rw[List.take_add_one,h,List.filter_append]
 congr 1
 by_cases ht:f t=true
 ·rw[if_pos ht];simp[ht]
 ·rw[if_neg ht];simp[ht]
set_option maxRecDepth 100000 in
set_option maxHeartbeats 8000000 in
theorem outerOf_c (l:Lt) (cs:List Value) (M n c:Nat) (F:List UInt8→Int) (w:World) (hc:LtC w w.heap.size l cs) (hM:MapI Tryz.prog w 9 3 M n F c) (hf:FewT l.a.l) :
  Calls Tryz.prog 105 #[.agg cs.toArray,.map (some M)] w (OwnR (outF F l.a.l) w.heap.size w):=by
 have hMl:=hM.lt
 have zE:∀ w:World,(zeroValue 3).run Tryz.prog w=.ok (.int .i64 0) w:=fun w=>by kernel_rfl
 obtain⟨i0,hi,hz0,hz1,hz2⟩:=info_parts info_str
 obtain⟨o0,k0,o1,k1,o2,k2,rfl,_,ha,_,_⟩:=hc.look
 have ha':TmS w w.heap.size l.a.l (.slice o0 l.a.l.length k0):=by obtain⟨v,e,_,h⟩:=ha;cases e;exact h
 have HV:=hid (fun x:Obj=>vz_c l.a.l _ (w.alloc x) ((ha'.below ((Below.refl _ _).alloc (Nat.le_refl _) x)).more (by simp)) hf)
 have HM:=hid (fun (W:World) (hb:Below w.heap.size w W)=>hM.below hb hMl)
 have HB0:=hid (fun x:Obj=>(Below.refl w.heap.size w).alloc (Nat.le_refl _) x)
 have HVm:=hid (vz_max hf)
 have HLn:Hid ((vz l.a.l).length≤300000):=hid (Nat.le_trans (vz_len _) hf.n)
 unfold outF
 obtain⟨N,hN⟩:∃ N,vz l.a.l=N:=⟨_,rfl⟩
 rw[hN] at HV HVm HLn ⊢
 clear hc hM ha ha' hf hN
 go_enter Tryz.func105,Tryz.ntmps105
 go_wp2_with fail
 refine (HV.out _).mono ?_
 rintro e1 w1 ⟨v1,rfl,hS1,b1⟩
 have HB1:=hid ((HB0.out _).trans (b1.mono (by simp)))
 have hz1':=HB1.out.size
 obtain⟨o3,k3,rfl,_,_,S3⟩:=SlOf.open hS1
 clear b1 hS1 HV
 go_wp2_with fail
 go_loopw [5,13] (fun lv i wr=>∃ (k:Nat) (acc:List ByteArray),k≤N.length∧i=.int .i64 k∧(N.take k).filter (fun s=>decide (1 < F s.data.toList))=acc∧wr.ownsRow w1.heap.size 9 1 lv acc.length (acc.map Value.string)∧Below w1.heap.size w1 wr) (fun _ i _=>N.length - (intOf i).toNat)
 case atStart=>exact⟨0,[],Nat.zero_le _,rfl,rfl,World.ownsRow_nil _ _ _ _,Below.refl _ _⟩
 case round=>
  obtain⟨k,acc,hk,rfl,hacc,hO,hB⟩:=hrel
  have Hacc:=hid hacc
  have HO:=hid hO
  have HB:=hid hB
  have hsz:=hB.size
  clear hacc hO
  by_cases hlt:k < N.length
  ·have hlt':(k:Int) < (N.length:Int):=by omega
   obtain⟨x,hx⟩:∃ x,N[k]?=some x:=⟨N[k],List.getElem?_eq_getElem hlt⟩
   obtain⟨p,rfl,hp,hxs,c0⟩:=str_at S3 hB hx
   have hpl:(p.add k).block < wr.heap.size:=by rw[addBlock];omega
   have Hst:=hid (fil_take (f:=fun s:ByteArray=>decide (1 < F s.data.toList)) hx)
   have hle:acc.length≤k:=by
    rw[← Hacc.out]
    exact Nat.le_trans (List.length_filter_le _ _) (by rw[List.length_take];omega)
   have HMr:=hid (HM.out wr (HB1.out.trans (hB.mono hz1')))
   clear hx hB
   by_cases hb:1 < F x.data.toList
   ·have hb':decide (1 < F x.data.toList)=true:=by simp[hb]
    have Hst2:Hid ((N.take (k+1)).filter (fun s=>decide (1 < F s.data.toList))=acc++[x]):=hid (by rw[Hst.out,Hacc.out,if_pos hb'])
    have HS1:Hid (acc.length+1≤maxLen):=hid (by have:=HLn.out;unfold maxLen;omega)
    have HS2:Hid ((acc.length+1) * 16≤140737488355328):=hid (by have:=HLn.out;omega)
    go_wp2_with (first
     | (at_lookup;refine wpList_mapI_get _ rfl _ _ 90 rfl 9 3 Tryz.underlying90 Tryz.underlying9 Tryz.underlying3 (zE _) M n F c rfl HMr.out x rfl hxs ?_;intro _)
     | (at_builtin;refine wpList_append_own _ rfl (.tmp 21) (.tmp 23) 55 rfl w1.heap.size 9 i0 _ 1 16 Tryz.underlying55 hi hz0 hz1 hz2 rfl (by decide) _ acc.length _ rfl (HO.out.alloc _) _ 1 1 [.string x] rfl rfl (news_one _ _ _) (one_str _) HS1.out HS2.out (by simp;omega) ?_;intro v' w6 hown' hgrow _;have HG:=hid (grown_past hgrow);have HO6:=hid hown';clear hgrow hown'))
    go_roundw
    case rel=>
     refine⟨k+1,acc++[x],hlt,by go_num,Hst2.out,?_,?_⟩
     ·rw[List.length_append,List.map_append];exact HO6.out
     ·exact HB.out.grown HG.out hsz (fun q hq=>(HO.out.lt q hq).1)
    case measure=>simp[intOf];omega
   ·have hb':decide (1 < F x.data.toList)=false:=by simp[hb]
    have Hst2:Hid ((N.take (k+1)).filter (fun s=>decide (1 < F s.data.toList))=acc):=hid (by rw[Hst.out,Hacc.out,hb'];simp)
    go_wp2_with (at_lookup;refine wpList_mapI_get _ rfl _ _ 90 rfl 9 3 Tryz.underlying90 Tryz.underlying9 Tryz.underlying3 (zE _) M n F c rfl HMr.out x rfl hxs ?_;intro _)
    go_roundw
    case rel=>exact⟨k+1,acc,hlt,by go_num,Hst2.out,HO.out,HB.out⟩
    case measure=>simp[intOf];omega
  ·have hlt':¬ (k:Int) < (N.length:Int):=by omega
   have hN2:N.filter (fun s=>decide (1 < F s.data.toList))=acc:=by rw[← Hacc.out,List.take_of_length_le (by omega)]
   have hS:=own_base HO.out hz1'
   rw[← hN2] at hS
   have HS:=hid hS
   have HBz:=hid (HB1.out.trans (HB.out.mono hz1'))
   obtain⟨oq,kq,rfl⟩:=own_shape HO.out
   clear hS hN2 hB
   go_wp2
   go_ret
   exact⟨_,rfl,HS.out,HBz.out⟩
end Go.Proofs.YtakpgcmfjlbcgaaGreatDoor

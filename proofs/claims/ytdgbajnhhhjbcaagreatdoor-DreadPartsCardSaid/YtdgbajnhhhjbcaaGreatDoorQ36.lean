/- Rl2@012 -/
import Derived.Test.YtdgbajnhhhjbcaaGreatDoorQ35
set_option linter.unusedSimpArgs false
namespace Go.Proofs.YtdgbajnhhhjbcaaGreatDoor
open Lib(hid)
open Go.RowKit
attribute [local go_sem] Oper.semAt_some
theorem infoTm:(Tryz.prog.info? 64).map (fun i=>(i.zero,i.size,i.bytes))=some (some (.agg #[.int .i64 0,.string ⟨#[]⟩,.int .i64 0,.slice none 0 0]),4,56):=by kernel_rfl
def ListR {α:Type} (z:Nat) (L:World→Nat→α→List Value→Prop) (C:RC) (du ru:Value) (r:Res (List α)) (w:World) (e:Ending) (w':World):Prop:=
 (match r with
  | .ok (xs,q')=>∃ v,e=.returned (.tuple #[v,.nilIface])∧SlOf (past w.heap.size w') w'.heap.size z (L (past w.heap.size w') w'.heap.size) xs v∧Rd C du ru q' w'
  | .error x=>e=.returned (.tuple #[.slice none 0 0,flawV x.1 x.2]))∧Gr C.R w w'
abbrev fnV (f R:Nat):Value:=.func (.func f) #[.pointer (some ⟨R,0,none⟩)] #[]
set_option maxRecDepth 100000 in
set_option maxHeartbeats 16000000 in
theorem listT_in (C:RC) (du ru:Value) (q0:List TokI) (w:World) (h:Rd C du ru q0 w) :
  CallsIn Fence.wide 6 Tryz.prog 182 #[.pointer (some ⟨C.R,0,none⟩),.int .i64 8,.func (.func 159) #[.pointer (some ⟨C.R,0,none⟩)] #[]] w (ListR 4 TmC C du ru (argsP [] q0) w):=by
 have hltR:=h.lt
 obtain⟨n0,hn0⟩:∃ n0,w.heap.size=n0:=⟨_,rfl⟩
 obtain⟨WL,hWL⟩:∃ WL,(((((w.alloc (.cells #[.pointer (some ⟨C.R,0,none⟩)] 109)).alloc (.cells #[.int .i64 8] 3)).alloc (.cells #[(fnV 159 C.R)] 225)).alloc (.cells #[.slice none 0 0] 36)).alloc (.cells #[.nilIface] 75))=WL:=⟨_,rfl⟩
 have hs:WL.heap.size=n0+5:=by rw[← hWL];simp[hn0]
 have hbL:Below n0 w WL:=by
  rw[← hWL]
  exact (((((Below.refl _ w).alloc (by omega) _).alloc (by simp;omega) _).alloc (by simp;omega) _).alloc (by simp;omega) _).alloc (by simp;omega) _
 have rows:Row n0 109 [.pointer (some ⟨C.R,0,none⟩)] WL∧Row (n0+1) 3 [.int .i64 8] WL∧Row (n0+2) 225 [(fnV 159 C.R)] WL∧Row (n0+3) 36 [.slice none 0 0] WL∧Row (n0+4) 75 [.nilIface] WL:=by
  rw[← hWL]
  refine⟨?_,?_,?_,?_,?_⟩
  ·have:=((((Row.new w 109 [.pointer (some ⟨C.R,0,none⟩)]).al (.cells #[.int .i64 8] 3)).al (.cells #[(fnV 159 C.R)] 225)).al (.cells #[.slice none 0 0] 36)).al (.cells #[.nilIface] 75)
   rw[hn0] at this
   exact this
  ·have:=(((Row.new (w.alloc (.cells #[.pointer (some ⟨C.R,0,none⟩)] 109)) 3 [.int .i64 8]).al (.cells #[(fnV 159 C.R)] 225)).al (.cells #[.slice none 0 0] 36)).al (.cells #[.nilIface] 75)
   simp only[World.size_alloc] at this
   rw[hn0] at this
   exact this
  ·have:=((Row.new ((w.alloc (.cells #[.pointer (some ⟨C.R,0,none⟩)] 109)).alloc (.cells #[.int .i64 8] 3)) 225 [(fnV 159 C.R)]).al (.cells #[.slice none 0 0] 36)).al (.cells #[.nilIface] 75)
   simp only[World.size_alloc] at this
   rw[hn0] at this
   exact this
  ·have:=(Row.new (((w.alloc (.cells #[.pointer (some ⟨C.R,0,none⟩)] 109)).alloc (.cells #[.int .i64 8] 3)).alloc (.cells #[(fnV 159 C.R)] 225)) 36 [.slice none 0 0]).al (.cells #[.nilIface] 75)
   simp only[World.size_alloc] at this
   rw[hn0] at this
   exact this
  ·have:=Row.new ((((w.alloc (.cells #[.pointer (some ⟨C.R,0,none⟩)] 109)).alloc (.cells #[.int .i64 8] 3)).alloc (.cells #[(fnV 159 C.R)] 225)).alloc (.cells #[.slice none 0 0] 36)) 75 [.nilIface]
   simp only[World.size_alloc] at this
   rw[hn0] at this
   exact this
 have hI0:LsI C du ru n0 8 (fnV 159 C.R) 225 36 64 4 TmC w [] q0 WL:=
  ⟨rows.1,rows.2.1,rows.2.2.1,rows.2.2.2.2,⟨_,[],rows.2.2.2.1,World.ownsRow_nil _ _ _ _,Laid.nil⟩,h.below (by rw[hn0];exact hbL),Gr.of_below (by rw[hn0];exact hbL)⟩
 have HI0:=hid hI0
 have Hn0:=hid hn0
 have HWL:=hid hWL
 have Hs:=hid hs
 have hRn:C.R < n0:=by omega
 clear h hI0 hWL hs hbL rows
 refine callsIn_of_wp_marks Tryz.func182 rfl trivial ?_ rfl
 simp only[Tryz.ntmps182,List.size_toArray,List.length_cons,List.length_nil,Nat.reduceAdd,Nat.reduceSub,Array.replicate_succ,Array.replicate_zero,List.push_toArray,List.append_toArray,List.nil_append,List.cons_append]
 gi_wp2_with fail
 refine scopeWide ?_
 gi_wp2_with fail
 refine wpIn_label ?_
 gi_wp2_with fail
 rw[HWL.out]
 refine range_moves rfl (by omega) (gf:=162) (bd:=#[.pointer (some ⟨C.R,0,none⟩)]) (lb:=#[]) rfl trivial (enters_of Tryz.func162 (by kernel_rfl) rfl)
  (eachPlace_moves 5 (by omega) C du ru 8 (by omega)) (fun _=>rfl)
  (fun k W=>∃ acc q,acc.length=k∧LsI C du ru n0 8 (fnV 159 C.R) 225 36 64 4 TmC w acc q W∧argsP [] q0=argsP acc q∧k≤8)
  (fun k W=>∃ acc q,acc.length=k+1∧LsI C du ru n0 8 (fnV 159 C.R) 225 36 64 4 TmC w acc q W∧argsP [] q0=(if nextB 4 [44] q=true then argsP acc q.tail else .ok (acc,q))∧k < 8)
  (fun c W=>c=.exit 0∧∃ x,argsP [] q0=.error x∧Row (n0+4) 75 [flawV x.1 x.2] W∧Gr C.R w W)
  (fun W=>∃ acc q,LsI C du ru n0 8 (fnV 159 C.R) 225 36 64 4 TmC w acc q W∧argsP [] q0=.ok (acc,q))
  (fun k a' W=>(∃ acc q,acc.length=k∧LsI C du ru n0 8 (fnV 159 C.R) 225 36 64 4 TmC w acc q W∧argsP [] q0=argsP acc q∧k≤8)∧a'={ tmps:=#[.pointer (some ⟨C.R,0,none⟩),.int .i64 8,(fnV 159 C.R),.pointer (some ⟨n0,0,none⟩),.pointer (some ⟨n0+1,0,none⟩),.pointer (some ⟨n0+1+1,0,none⟩),.slice none 0 0,.nilIface,.pointer (some ⟨n0+1+1+1,0,none⟩),.pointer (some ⟨n0+1+1+1+1,0,none⟩),.int .i64 (k:Int),undef,undef,.pointer (some ⟨C.R,0,none⟩),.func (.func 162) #[.pointer (some ⟨C.R,0,none⟩)] #[],.int .i64 (k:Int),undef,undef,undef,undef,undef,undef,undef,undef,undef,undef,undef,undef,undef,undef,undef,undef,undef,undef,undef,undef,undef,undef,undef],defers:=[] })
  ?fB ?fX ?fZ ?fM ?h0 ?hB ?assign ?body ?done ?stop
 case fB=>
  rintro k W W' hp ⟨acc,q,hl,hI,hq,hk⟩
  exact⟨acc,q,hl,LsI.put lays_tm (by rw[Hs.out];omega) (by rw[Hs.out,Hn0.out];omega) hp hI,hq,hk⟩
 case fX=>
  rintro c W W' hp ⟨hc,x,h1,h2,h3⟩
  exact⟨hc,x,h1,put_row hp h2,put_gr hp h3 (by rw[Hs.out,Hn0.out];omega)⟩
 case fZ=>
  rintro W W' hp ⟨acc,q,hI,hq⟩
  exact⟨acc,q,LsI.put lays_tm (by rw[Hs.out];omega) (by rw[Hs.out,Hn0.out];omega) hp hI,hq⟩
 case fM=>
  rintro k a' W W' hp ⟨⟨acc,q,hl,hI,hq,hk⟩,ha⟩
  exact⟨⟨acc,q,hl,LsI.put lays_tm (by rw[Hs.out];omega) (by rw[Hs.out,Hn0.out];omega) hp hI,hq,hk⟩,ha⟩
 case h0=>
  intro o o'
  have hb:Below WL.heap.size WL ((WL.alloc o).alloc o'):=((Below.refl _ _).alloc (Nat.le_refl _) _).alloc (by simp) _
  exact⟨[],q0,rfl,HI0.out.move lays_tm (Gr.of_below hb) hRn (HI0.out.rd.below hb),rfl,by omega⟩
 case hB=>
  rintro k W1 ⟨acc,q,hl,hI,hq,hk⟩
  refine⟨⟨hk,q,hI.rd⟩,?_,?_⟩
  ·rintro k' W2 ⟨rfl,q',r1,hc,r2,g2⟩
   obtain rfl:=Rd.uniq hI.rd r1
   exact⟨(hI.rd.keeps g2).from _,acc,q.tail,hl,hI.move lays_tm g2 hRn r2,by rw[hq,if_pos hc],by omega⟩
  ·rintro W2 ⟨q',r1,hc,r2,g2⟩
   obtain rfl:=Rd.uniq hI.rd r1
   exact⟨(hI.rd.keeps g2).from _,acc,q,hI.move lays_tm g2 hRn r2,by rw[hq,if_neg (by simp[hc])]⟩
 case assign=>
  rintro l k W hA
  gi_wp2
  exact⟨KeepsFrom.refl _ _,hA,trivial⟩
 case body=>
  rintro l k a' W ⟨⟨acc,q,hl,hI,hq,hk⟩,rfl⟩
  dsimp only
  obtain⟨v,xs,hv,hown,hlaid⟩:=hI.l
  have c3:W.cell? ⟨n0,0,none⟩=some (.pointer (some ⟨C.R,0,none⟩)):=hI.r.at 0 _ rfl
  have c4:W.cell? ⟨n0+1,0,none⟩=some (.int .i64 8):=hI.m.at 0 _ rfl
  have c5:W.cell? ⟨n0+1+1,0,none⟩=some (fnV 159 C.R):=hI.f.at 0 _ rfl
  have c8:W.cell? ⟨n0+1+1+1,0,none⟩=some v:=hv.at 0 _ rfl
  have c9:W.cell? ⟨n0+1+1+1+1,0,none⟩=some .nilIface:=hI.e.at 0 _ rfl
  have f9:W.frozen? ⟨n0+1+1+1+1,0,none⟩=false:=hI.e.frz 0
  have hI':=hid hI
  have Hv:=hid hv
  have Hown:=hid hown
  have Hlaid:=hid hlaid
  have Hq:=hid hq
  have Hl:=hid hl
  clear hI hv hown hlaid hq hl
  by_cases hk8:k=8
  ·have hk8':((k:Int) == 8)=true:=by simp;omega
   have He:Hid (argsP [] q0=.error (21,lineL q)):=hid (by rw[Hq.out,argsP_eq,if_pos (by rw[Hl.out,hk8])])
   have Hk8:=hid hk8
   clear hk8
   gi_wp2_with fail
   refine⟨trivial,(CallsIn.inRound l (callsIn_wide.2 (fail_c C du ru q 21 W hI'.out.rd))).mono ?_⟩
   rintro e w1 ⟨rfl,b1⟩
   have c9':w1.cell? ⟨n0+1+1+1+1,0,none⟩=some .nilIface:=(hI'.out.e.below b1 hI'.out.e.lt).at 0 _ rfl
   have f9':w1.frozen? ⟨n0+1+1+1+1,0,none⟩=false:=(hI'.out.e.below b1 hI'.out.e.lt).frz 0
   have Fin:Hid (KeepsFrom WL.heap.size W (w1.setCell ⟨n0+1+1+1+1,0,none⟩ (flawV 21 (lineL q)))∧(argsP [] q0=.error (21,lineL q)∧Row (n0+4) 75 [flawV 21 (lineL q)] (w1.setCell ⟨n0+1+1+1+1,0,none⟩ (flawV 21 (lineL q)))∧Gr C.R w (w1.setCell ⟨n0+1+1+1+1,0,none⟩ (flawV 21 (lineL q))))):=hid
    ⟨((keeps_below b1).trans (KeepsOthers.setCell _ _ _)).from _,He.out,row_set (hI'.out.e.below b1 hI'.out.e.lt) 0 _,(hI'.out.g.trans (Gr.of_below b1)).box (by omega) 0 [_]⟩
   clear b1 c3 c4 c5 c8 c9 f9
   gi_wp2
   exact⟨Fin.out.1,rfl,(21,lineL q),Fin.out.2⟩
  ·have hk8':((k:Int) == 8)=false:=by simp;omega
   have Hk8:=hid hk8
   have hk7:k < 8:=by omega
   clear hk8
   gi_wp2_with fail
   refine⟨trivial,(CallsIn.inRound l (callsIn_wide.2 (argument_c q C du ru W hI'.out.rd))).mono ?_⟩
   rintro e w1 ⟨hm,g1⟩
   have Hst:Hid (argsP [] q0=match argP q with | .error e=>.error e | .ok (x,q)=>if nextB 4 [44] q=true then argsP (acc++[x]) q.tail else .ok (acc++[x],q)):=hid (by rw[Hq.out,argsP_eq,if_neg (by rw[Hl.out];exact Hk8.out)];rfl)
   have he1:=hI'.out.e.gr g1 (by omega)
   have c9':w1.cell? ⟨n0+1+1+1+1,0,none⟩=some .nilIface:=he1.at 0 _ rfl
   have f9':w1.frozen? ⟨n0+1+1+1+1,0,none⟩=false:=he1.frz 0
   have hlt9:n0+1+1+1+1 < w1.heap.size:=he1.lt
   have He1:=hid he1
   have G1:=hid g1
   clear c3 c4 c5 c8 c9 f9 he1 g1
   cases hp:argP q with
   | error z=>
    rw[hp] at hm
    obtain rfl:=hm
    have He:Hid (argsP [] q0=.error (z.1,z.2)):=hid (by rw[Hst.out,hp])
    have K1:=hid (hI'.out.rd.keeps G1.out)
    have Fin:∀ o:Obj,KeepsFrom WL.heap.size W ((w1.setCell ⟨n0+1+1+1+1,0,none⟩ (flawV z.1 z.2)).alloc o)∧(argsP [] q0=.error (z.1,z.2)∧Row (n0+4) 75 [flawV z.1 z.2] ((w1.setCell ⟨n0+1+1+1+1,0,none⟩ (flawV z.1 z.2)).alloc o)∧Gr C.R w ((w1.setCell ⟨n0+1+1+1+1,0,none⟩ (flawV z.1 z.2)).alloc o)):=fun o=>
     ⟨((K1.out.trans (KeepsOthers.setCell _ _ _)).trans (KeepsOthers.alloc _ _)).from _,He.out,Row.al (row_set He1.out 0 _) o,((hI'.out.g.trans G1.out).box (by omega) 0 [_]).alloc o⟩
    have Fin':=hid Fin
    clear hp Fin
    gi_wp2
    exact⟨(Fin'.out _).1,rfl,(z.1,z.2),(Fin'.out _).2⟩
   | ok y=>
    obtain⟨x,p⟩:=y
    rw[hp] at hm
    obtain⟨o,cap,rfl,tx,rx⟩:=hm
    have Hst2:Hid (argsP [] q0=if nextB 4 [44] p=true then argsP (acc++[x]) p.tail else .ok (acc++[x],p)):=hid (by rw[Hst.out,hp])
    obtain⟨W2,hW2⟩:∃ W2,w1.alloc (.cells #[.int .i64 x.op,.string x.s,.int .i64 x.n,.slice o x.l.length cap] 64)=W2:=⟨_,rfl⟩
    have Hx2:Hid (Row w1.heap.size 64 (tmCells x o cap) W2):=hid (by rw[← hW2];exact Row.new w1 _ _)
    have hb2:Below w1.heap.size w1 W2:=by rw[← hW2];exact (Below.refl _ _).alloc (Nat.le_refl _) _
    have hs2:W2.heap.size=w1.heap.size+1:=by rw[← hW2];simp
    have HI2:=hid ((hI'.out.move lays_tm G1.out hRn rx).move lays_tm (Gr.of_below hb2) hRn (rx.below hb2))
    have Tx2:=hid (tx.gr (Gr.of_below (R:=C.R) hb2) hI'.out.rd.lt)
    have HW2:=hid hW2
    have K2:=hid ((hI'.out.rd.keeps G1.out).trans (keeps_below hb2))
    obtain⟨v2,xs2,hv2,hown2,hlaid2⟩:=HI2.out.l
    have hlen2:∃ ov cv,v2=.slice ov acc.length cv:=by
     rcases hown2.2 with ⟨rfl,h0⟩ | ⟨g,cv,cur,rfl,_⟩
     ·exact⟨none,0,by rw[h0]⟩
     ·exact⟨_,cv,rfl⟩
    obtain⟨ov,cv,rfl⟩:=hlen2
    have d8:W2.cell? ⟨n0+1+1+1,0,none⟩=some (.slice ov acc.length cv):=hv2.at 0 _ rfl
    have g8:W2.frozen? ⟨n0+1+1+1,0,none⟩=false:=hv2.frz 0
    obtain⟨e0,e1,e2,e3,_⟩:=Hx2.out.r4
    have Hv2:=hid hv2
    have Hown2:=hid hown2
    have Hlaid2:=hid hlaid2
    have Hs2:=hid hs2
    have hlt8:n0+1+1+1 < W2.heap.size:=hv2.lt
    have hltx:w1.heap.size < W2.heap.size:=by omega
    clear hp tx rx hW2 hb2 hs2 hv2 hown2 hlaid2
    have Hold:Hid (∀ g,(Value.slice ov acc.length cv).ownBlock=some g→g < W.heap.size):=hid (by
     have h1:Row (n0+3) 36 [v] W2:=by rw[← HW2.out];exact Row.al (Hv.out.gr G1.out (by omega)) _
     have h2:=Row.uniq h1 Hv2.out
     simp only[List.cons.injEq,and_true] at h2
     intro g hg
     rw[← h2] at hg
     exact (ownsRow_lt Hown.out g hg).2)
    have Leaf:Hid (∀ (g cp:Nat) (w3:World),w3.ownsRow (n0+5) 64 4 (.slice (some ⟨g,0,none⟩) (acc.length+1) cp) (acc.length+1) (xs2++zeroCells)→((W2.alloc (.cells #[.int .i64 0,.string ⟨#[]⟩,.int .i64 0,.slice none 0 0] 64)).drew).grownBy w3 (Value.slice ov acc.length cv).ownBlock→((Value.slice ov acc.length cv).ownBlock=some g∨g=W2.heap.size+1) →
      ((0:Int)≤(acc.length:Int))∧((acc.length:Int) < (acc.length:Int)+1) ∧
      w3.cell? ⟨g,acc.length * 4,none⟩=some (.int .i64 0)∧w3.cell? ⟨g,acc.length * 4+1,none⟩=some (.string ⟨#[]⟩)∧w3.cell? ⟨g,acc.length * 4+2,none⟩=some (.int .i64 0)∧w3.cell? ⟨g,acc.length * 4+3,none⟩=some (.slice none 0 0) ∧
      w3.frozen? ⟨g,acc.length * 4,none⟩=false∧w3.frozen? ⟨g,acc.length * 4+1,none⟩=false∧w3.frozen? ⟨g,acc.length * 4+2,none⟩=false∧w3.frozen? ⟨g,acc.length * 4+3,none⟩=false ∧
      w3.cell? ⟨n0+1+1+1,0,none⟩=some (.slice ov acc.length cv)∧w3.frozen? ⟨n0+1+1+1,0,none⟩=false∧n0+1+1+1 < g∧g < w3.heap.size ∧
      Hid (KeepsFrom WL.heap.size W (((((w3.setCell ⟨g,acc.length * 4,none⟩ (.int .i64 x.op)).setCell ⟨g,acc.length * 4+1,none⟩ (.string x.s)).setCell ⟨g,acc.length * 4+2,none⟩ (.int .i64 x.n)).setCell ⟨g,acc.length * 4+3,none⟩ (.slice o x.l.length cap)).setCell ⟨n0+1+1+1,0,none⟩ (.slice (some ⟨g,0,none⟩) (acc.length+1) cp)) ∧
       ∃ acc' q,acc'.length=k+1∧LsI C du ru n0 8 (fnV 159 C.R) 225 36 64 4 TmC w acc' q (((((w3.setCell ⟨g,acc.length * 4,none⟩ (.int .i64 x.op)).setCell ⟨g,acc.length * 4+1,none⟩ (.string x.s)).setCell ⟨g,acc.length * 4+2,none⟩ (.int .i64 x.n)).setCell ⟨g,acc.length * 4+3,none⟩ (.slice o x.l.length cap)).setCell ⟨n0+1+1+1,0,none⟩ (.slice (some ⟨g,0,none⟩) (acc.length+1) cp))∧argsP [] q0=(if nextB 4 [44] q=true then argsP acc' q.tail else .ok (acc',q))∧k < 8) ∧
      Hid (KeepsFrom WL.heap.size W (((((w3.setCell ⟨n0+1+1+1,0,none⟩ (.slice (some ⟨g,0,none⟩) (acc.length+1) cp)).setCell ⟨g,acc.length * 4,none⟩ (.int .i64 x.op)).setCell ⟨g,acc.length * 4+1,none⟩ (.string x.s)).setCell ⟨g,acc.length * 4+2,none⟩ (.int .i64 x.n)).setCell ⟨g,acc.length * 4+3,none⟩ (.slice o x.l.length cap)) ∧
       ∃ acc' q,acc'.length=k+1∧LsI C du ru n0 8 (fnV 159 C.R) 225 36 64 4 TmC w acc' q (((((w3.setCell ⟨n0+1+1+1,0,none⟩ (.slice (some ⟨g,0,none⟩) (acc.length+1) cp)).setCell ⟨g,acc.length * 4,none⟩ (.int .i64 x.op)).setCell ⟨g,acc.length * 4+1,none⟩ (.string x.s)).setCell ⟨g,acc.length * 4+2,none⟩ (.int .i64 x.n)).setCell ⟨g,acc.length * 4+3,none⟩ (.slice o x.l.length cap))∧argsP [] q0=(if nextB 4 [44] q=true then argsP acc' q.tail else .ok (acc',q))∧k < 8)):=hid (by
     intro g cp w3 hown3 hgrow hat
     obtain⟨z0,fz⟩:=ap_cells (k:=acc.length) (z:=4) hown3 Hlaid2.out.1
     obtain⟨q8,q9,q10⟩:=ap_slot Hv2.out Hown2.out hgrow hown3
     have O:=ap_orders (cs:=tmCells x o cap) Hv2.out Hown2.out Hlaid2.out.1 hgrow hown3 hat rfl
     have h5:n0+5≤W.heap.size:=by have:=hI'.out.e.lt;omega
     have A1:=ls_append lays_tm HI2.out Hn0.out hRn Hv2.out Hown2.out Hlaid2.out h5 Hold.out (cs:=tmCells x o cap) rfl Tx2.out O.1.1 O.1.2.1 O.1.2.2
     have A2:=ls_append lays_tm HI2.out Hn0.out hRn Hv2.out Hown2.out Hlaid2.out h5 Hold.out (cs:=tmCells x o cap) rfl Tx2.out O.2.1 O.2.2.1 O.2.2.2
     have hlen:(acc++[x]).length=k+1:=by rw[List.length_append,Hl.out];rfl
     exact⟨by omega,by omega,z0 0 _ rfl,z0 1 _ rfl,z0 2 _ rfl,z0 3 _ rfl,fz _,fz _,fz _,fz _,q8.at 0 _ rfl,q8.frz 0,q9,q10,
      hid ⟨(K2.out.trans O.1.1.keeps).from _,acc++[x],p,hlen,A1,Hst2.out,hk7⟩,hid ⟨(K2.out.trans O.2.1.keeps).from _,acc++[x],p,hlen,A2,Hst2.out,hk7⟩⟩)
    obtain⟨i0,hi,hz0,hz1,hz2⟩:=info_parts infoTm
    have HL1:Hid (acc.length+1≤maxLen):=hid (by have:=Hl.out;unfold maxLen;omega)
    have HL2:Hid ((acc.length+1) * 56≤140737488355328):=hid (by have:=Hl.out;omega)
    have HL3:Hid (n0+5≤W2.heap.size+1):=hid (by omega)
    gi_wp2_with fail
    rw[HW2.out]
    refine any_region (by kernel_rfl) (by kernel_rfl) (fun ⟨_,_,h⟩=>h) ?_
    (try (change wpAny _ _ _ _ _ _ _ (World.drew _)))
    refine wpAny_ready (rs:=[0,1,3]) (by kernel_rfl) (by simp) ?_
    refine (AllReady.cons rfl (fun K hK=>?_) (AllReady.cons rfl (fun K hK=>?_) (AllReady.cons rfl (fun K hK=>?_) AllReady.nil)))
    ·go_simp
     refine hK _ _ ?_
     clear hK K
     refine wpAny_take (i:=2) (v:=.int .i64 (acc.length:Int)) rfl (by kernel_rfl) (by kernel_rfl) (by kernel_rfl) (fun _ _ _ h=>h) (Or.inl ⟨by rfl,fun w=>?_⟩) ?_
     ·go_simp
     (try simp only[Act.put,List.setIfInBounds_toArray,List.set_cons_zero,List.set_cons_succ])
     refine wpAny_ready (rs:=[1,3]) (by kernel_rfl) (by simp) ?_
     refine (AllReady.cons rfl (fun K hK=>?_) (AllReady.cons rfl (fun K hK=>?_) AllReady.nil))
     ·go_simp
      refine hK _ _ ?_
      clear hK K
      refine wpAny_ready (rs:=[3]) (by kernel_rfl) (by simp) ?_
      refine (AllReady.cons rfl (fun K hK=>?_) AllReady.nil)
      ·go_simp
       refine hK _ _ ?_
       clear hK K
       refine wpAny_ready (rs:=[4]) (by kernel_rfl) (by simp) ?_
       refine AllReady.cons rfl (fun K hK=>?_) AllReady.nil
       refine step_append_lies _ (by rfl) _ _ _ (by rfl) (n0+5) 64 i0 _ 4 56 Tryz.underlying36 hi hz0 hz1 hz2 rfl (by decide) (.slice ov acc.length cv) acc.length xs2 (by rfl) ((Hown2.out.drew).alloc _) ⟨W2.heap.size,0,none⟩ 1 1 zeroCells (by rfl) (by rfl) (World.news_of_block (cs:=#[.int .i64 0,.string ⟨#[]⟩,.int .i64 0,.slice none 0 0]) (fr:=(0,0)) (World.alloc_heap_new W2.drew _)) (by simp[Value.oneCell']) (by omega) HL1.out HL2.out (by simp;have:=HL3.out;omega) (W2.heap.size+1) (by simp) ?_
       intro g cp w3 hown3 hgrow hat hlt3
       refine hK _ _ ?_
       clear hK K
       (try simp only[Act.put,List.setIfInBounds_toArray,List.set_cons_zero,List.set_cons_succ])
       obtain⟨b1,b2,p0,p1,p2,p3,r0,r1,r2,r3,s8,s9,hg3,hg4,Fin1,Fin2⟩:=Leaf.out g cp w3 hown3 hgrow hat
       clear hown3 hgrow hat
       refine wpAny_ready (rs:=[5,7]) (by kernel_rfl) (by simp) ?_
       refine (AllReady.cons rfl (fun K hK=>?_) (AllReady.cons rfl (fun K hK=>?_) AllReady.nil))
       ·go_simp
        refine hK _ _ ?_
        clear hK K
        refine wpAny_ready (rs:=[6,7]) (by kernel_rfl) (by simp) ?_
        refine (AllReady.cons rfl (fun K hK=>?_) (AllReady.cons rfl (fun K hK=>?_) AllReady.nil))
        ·go_simp
         refine hK _ _ ?_
         clear hK K
         refine wpAny_ready (rs:=[7]) (by kernel_rfl) (by simp) ?_
         refine (AllReady.cons rfl (fun K hK=>?_) AllReady.nil)
         go_simp
         refine hK _ _ ?_
         clear hK K
         refine (wpAny_done (by kernel_rfl) ?_) _
         gi_wp2
         exact Fin1.out
        ·go_simp
         refine hK _ _ ?_
         clear hK K
         refine wpAny_ready (rs:=[6]) (by kernel_rfl) (by simp) ?_
         refine (AllReady.cons rfl (fun K hK=>?_) AllReady.nil)
         go_simp
         refine hK _ _ ?_
         clear hK K
         refine (wpAny_done (by kernel_rfl) ?_) _
         gi_wp2
         exact Fin2.out
       ·go_simp
        refine hK _ _ ?_
        clear hK K
        refine wpAny_ready (rs:=[5]) (by kernel_rfl) (by simp) ?_
        refine (AllReady.cons rfl (fun K hK=>?_) AllReady.nil)
        go_simp
        refine hK _ _ ?_
        clear hK K
        refine wpAny_ready (rs:=[6]) (by kernel_rfl) (by simp) ?_
        refine (AllReady.cons rfl (fun K hK=>?_) AllReady.nil)
        go_simp
        refine hK _ _ ?_
        clear hK K
        refine (wpAny_done (by kernel_rfl) ?_) _
        gi_wp2
        exact Fin2.out
     ·go_simp
      refine hK _ _ ?_
      clear hK K
      refine wpAny_ready (rs:=[1]) (by kernel_rfl) (by simp) ?_
      refine (AllReady.cons rfl (fun K hK=>?_) AllReady.nil)
      ·go_simp
       refine hK _ _ ?_
       clear hK K
       refine wpAny_ready (rs:=[4]) (by kernel_rfl) (by simp) ?_
       refine AllReady.cons rfl (fun K hK=>?_) AllReady.nil
       refine step_append_lies _ (by rfl) _ _ _ (by rfl) (n0+5) 64 i0 _ 4 56 Tryz.underlying36 hi hz0 hz1 hz2 rfl (by decide) (.slice ov acc.length cv) acc.length xs2 (by rfl) ((Hown2.out.drew).alloc _) ⟨W2.heap.size,0,none⟩ 1 1 zeroCells (by rfl) (by rfl) (World.news_of_block (cs:=#[.int .i64 0,.string ⟨#[]⟩,.int .i64 0,.slice none 0 0]) (fr:=(0,0)) (World.alloc_heap_new W2.drew _)) (by simp[Value.oneCell']) (by omega) HL1.out HL2.out (by simp;have:=HL3.out;omega) (W2.heap.size+1) (by simp) ?_
       intro g cp w3 hown3 hgrow hat hlt3
       refine hK _ _ ?_
       clear hK K
       (try simp only[Act.put,List.setIfInBounds_toArray,List.set_cons_zero,List.set_cons_succ])
       obtain⟨b1,b2,p0,p1,p2,p3,r0,r1,r2,r3,s8,s9,hg3,hg4,Fin1,Fin2⟩:=Leaf.out g cp w3 hown3 hgrow hat
       clear hown3 hgrow hat
       refine wpAny_ready (rs:=[5,7]) (by kernel_rfl) (by simp) ?_
       refine (AllReady.cons rfl (fun K hK=>?_) (AllReady.cons rfl (fun K hK=>?_) AllReady.nil))
       ·go_simp
        refine hK _ _ ?_
        clear hK K
        refine wpAny_ready (rs:=[6,7]) (by kernel_rfl) (by simp) ?_
        refine (AllReady.cons rfl (fun K hK=>?_) (AllReady.cons rfl (fun K hK=>?_) AllReady.nil))
        ·go_simp
         refine hK _ _ ?_
         clear hK K
         refine wpAny_ready (rs:=[7]) (by kernel_rfl) (by simp) ?_
         refine (AllReady.cons rfl (fun K hK=>?_) AllReady.nil)
         go_simp
         refine hK _ _ ?_
         clear hK K
         refine (wpAny_done (by kernel_rfl) ?_) _
         gi_wp2
         exact Fin1.out
        ·go_simp
         refine hK _ _ ?_
         clear hK K
         refine wpAny_ready (rs:=[6]) (by kernel_rfl) (by simp) ?_
         refine (AllReady.cons rfl (fun K hK=>?_) AllReady.nil)
         go_simp
         refine hK _ _ ?_
         clear hK K
         refine (wpAny_done (by kernel_rfl) ?_) _
         gi_wp2
         exact Fin2.out
       ·go_simp
        refine hK _ _ ?_
        clear hK K
        refine wpAny_ready (rs:=[5]) (by kernel_rfl) (by simp) ?_
        refine (AllReady.cons rfl (fun K hK=>?_) AllReady.nil)
        go_simp
        refine hK _ _ ?_
        clear hK K
        refine wpAny_ready (rs:=[6]) (by kernel_rfl) (by simp) ?_
        refine (AllReady.cons rfl (fun K hK=>?_) AllReady.nil)
        go_simp
        refine hK _ _ ?_
        clear hK K
        refine (wpAny_done (by kernel_rfl) ?_) _
        gi_wp2
        exact Fin2.out
    ·go_simp
     refine hK _ _ ?_
     clear hK K
     refine wpAny_ready (rs:=[0,3]) (by kernel_rfl) (by simp) ?_
     refine (AllReady.cons rfl (fun K hK=>?_) (AllReady.cons rfl (fun K hK=>?_) AllReady.nil))
     ·go_simp
      refine hK _ _ ?_
      clear hK K
      refine wpAny_take (i:=2) (v:=.int .i64 (acc.length:Int)) rfl (by kernel_rfl) (by kernel_rfl) (by kernel_rfl) (fun _ _ _ h=>h) (Or.inl ⟨by rfl,fun w=>?_⟩) ?_
      ·go_simp
      (try simp only[Act.put,List.setIfInBounds_toArray,List.set_cons_zero,List.set_cons_succ])
      refine wpAny_ready (rs:=[3]) (by kernel_rfl) (by simp) ?_
      refine (AllReady.cons rfl (fun K hK=>?_) AllReady.nil)
      ·go_simp
       refine hK _ _ ?_
       clear hK K
       refine wpAny_ready (rs:=[4]) (by kernel_rfl) (by simp) ?_
       refine AllReady.cons rfl (fun K hK=>?_) AllReady.nil
       refine step_append_lies _ (by rfl) _ _ _ (by rfl) (n0+5) 64 i0 _ 4 56 Tryz.underlying36 hi hz0 hz1 hz2 rfl (by decide) (.slice ov acc.length cv) acc.length xs2 (by rfl) ((Hown2.out.drew).alloc _) ⟨W2.heap.size,0,none⟩ 1 1 zeroCells (by rfl) (by rfl) (World.news_of_block (cs:=#[.int .i64 0,.string ⟨#[]⟩,.int .i64 0,.slice none 0 0]) (fr:=(0,0)) (World.alloc_heap_new W2.drew _)) (by simp[Value.oneCell']) (by omega) HL1.out HL2.out (by simp;have:=HL3.out;omega) (W2.heap.size+1) (by simp) ?_
       intro g cp w3 hown3 hgrow hat hlt3
       refine hK _ _ ?_
       clear hK K
       (try simp only[Act.put,List.setIfInBounds_toArray,List.set_cons_zero,List.set_cons_succ])
       obtain⟨b1,b2,p0,p1,p2,p3,r0,r1,r2,r3,s8,s9,hg3,hg4,Fin1,Fin2⟩:=Leaf.out g cp w3 hown3 hgrow hat
       clear hown3 hgrow hat
       refine wpAny_ready (rs:=[5,7]) (by kernel_rfl) (by simp) ?_
       refine (AllReady.cons rfl (fun K hK=>?_) (AllReady.cons rfl (fun K hK=>?_) AllReady.nil))
       ·go_simp
        refine hK _ _ ?_
        clear hK K
        refine wpAny_ready (rs:=[6,7]) (by kernel_rfl) (by simp) ?_
        refine (AllReady.cons rfl (fun K hK=>?_) (AllReady.cons rfl (fun K hK=>?_) AllReady.nil))
        ·go_simp
         refine hK _ _ ?_
         clear hK K
         refine wpAny_ready (rs:=[7]) (by kernel_rfl) (by simp) ?_
         refine (AllReady.cons rfl (fun K hK=>?_) AllReady.nil)
         go_simp
         refine hK _ _ ?_
         clear hK K
         refine (wpAny_done (by kernel_rfl) ?_) _
         gi_wp2
         exact Fin1.out
        ·go_simp
         refine hK _ _ ?_
         clear hK K
         refine wpAny_ready (rs:=[6]) (by kernel_rfl) (by simp) ?_
         refine (AllReady.cons rfl (fun K hK=>?_) AllReady.nil)
         go_simp
         refine hK _ _ ?_
         clear hK K
         refine (wpAny_done (by kernel_rfl) ?_) _
         gi_wp2
         exact Fin2.out
       ·go_simp
        refine hK _ _ ?_
        clear hK K
        refine wpAny_ready (rs:=[5]) (by kernel_rfl) (by simp) ?_
        refine (AllReady.cons rfl (fun K hK=>?_) AllReady.nil)
        go_simp
        refine hK _ _ ?_
        clear hK K
        refine wpAny_ready (rs:=[6]) (by kernel_rfl) (by simp) ?_
        refine (AllReady.cons rfl (fun K hK=>?_) AllReady.nil)
        go_simp
        refine hK _ _ ?_
        clear hK K
        refine (wpAny_done (by kernel_rfl) ?_) _
        gi_wp2
        exact Fin2.out
     ·go_simp
      refine hK _ _ ?_
      clear hK K
      refine wpAny_ready (rs:=[0]) (by kernel_rfl) (by simp) ?_
      refine (AllReady.cons rfl (fun K hK=>?_) AllReady.nil)
      ·go_simp
       refine hK _ _ ?_
       clear hK K
       refine wpAny_take (i:=2) (v:=.int .i64 (acc.length:Int)) rfl (by kernel_rfl) (by kernel_rfl) (by kernel_rfl) (fun _ _ _ h=>h) (Or.inl ⟨by rfl,fun w=>?_⟩) ?_
       ·go_simp
       (try simp only[Act.put,List.setIfInBounds_toArray,List.set_cons_zero,List.set_cons_succ])
       refine wpAny_ready (rs:=[4]) (by kernel_rfl) (by simp) ?_
       refine AllReady.cons rfl (fun K hK=>?_) AllReady.nil
       refine step_append_lies _ (by rfl) _ _ _ (by rfl) (n0+5) 64 i0 _ 4 56 Tryz.underlying36 hi hz0 hz1 hz2 rfl (by decide) (.slice ov acc.length cv) acc.length xs2 (by rfl) ((Hown2.out.drew).alloc _) ⟨W2.heap.size,0,none⟩ 1 1 zeroCells (by rfl) (by rfl) (World.news_of_block (cs:=#[.int .i64 0,.string ⟨#[]⟩,.int .i64 0,.slice none 0 0]) (fr:=(0,0)) (World.alloc_heap_new W2.drew _)) (by simp[Value.oneCell']) (by omega) HL1.out HL2.out (by simp;have:=HL3.out;omega) (W2.heap.size+1) (by simp) ?_
       intro g cp w3 hown3 hgrow hat hlt3
       refine hK _ _ ?_
       clear hK K
       (try simp only[Act.put,List.setIfInBounds_toArray,List.set_cons_zero,List.set_cons_succ])
       obtain⟨b1,b2,p0,p1,p2,p3,r0,r1,r2,r3,s8,s9,hg3,hg4,Fin1,Fin2⟩:=Leaf.out g cp w3 hown3 hgrow hat
       clear hown3 hgrow hat
       refine wpAny_ready (rs:=[5,7]) (by kernel_rfl) (by simp) ?_
       refine (AllReady.cons rfl (fun K hK=>?_) (AllReady.cons rfl (fun K hK=>?_) AllReady.nil))
       ·go_simp
        refine hK _ _ ?_
        clear hK K
        refine wpAny_ready (rs:=[6,7]) (by kernel_rfl) (by simp) ?_
        refine (AllReady.cons rfl (fun K hK=>?_) (AllReady.cons rfl (fun K hK=>?_) AllReady.nil))
        ·go_simp
         refine hK _ _ ?_
         clear hK K
         refine wpAny_ready (rs:=[7]) (by kernel_rfl) (by simp) ?_
         refine (AllReady.cons rfl (fun K hK=>?_) AllReady.nil)
         go_simp
         refine hK _ _ ?_
         clear hK K
         refine (wpAny_done (by kernel_rfl) ?_) _
         gi_wp2
         exact Fin1.out
        ·go_simp
         refine hK _ _ ?_
         clear hK K
         refine wpAny_ready (rs:=[6]) (by kernel_rfl) (by simp) ?_
         refine (AllReady.cons rfl (fun K hK=>?_) AllReady.nil)
         go_simp
         refine hK _ _ ?_
         clear hK K
         refine (wpAny_done (by kernel_rfl) ?_) _
         gi_wp2
         exact Fin2.out
       ·go_simp
        refine hK _ _ ?_
        clear hK K
        refine wpAny_ready (rs:=[5]) (by kernel_rfl) (by simp) ?_
        refine (AllReady.cons rfl (fun K hK=>?_) AllReady.nil)
        go_simp
        refine hK _ _ ?_
        clear hK K
        refine wpAny_ready (rs:=[6]) (by kernel_rfl) (by simp) ?_
        refine (AllReady.cons rfl (fun K hK=>?_) AllReady.nil)
        go_simp
        refine hK _ _ ?_
        clear hK K
        refine (wpAny_done (by kernel_rfl) ?_) _
        gi_wp2
        exact Fin2.out
    ·go_simp
     refine hK _ _ ?_
     clear hK K
     refine wpAny_ready (rs:=[0,1]) (by kernel_rfl) (by simp) ?_
     refine (AllReady.cons rfl (fun K hK=>?_) (AllReady.cons rfl (fun K hK=>?_) AllReady.nil))
     ·go_simp
      refine hK _ _ ?_
      clear hK K
      refine wpAny_take (i:=2) (v:=.int .i64 (acc.length:Int)) rfl (by kernel_rfl) (by kernel_rfl) (by kernel_rfl) (fun _ _ _ h=>h) (Or.inl ⟨by rfl,fun w=>?_⟩) ?_
      ·go_simp
      (try simp only[Act.put,List.setIfInBounds_toArray,List.set_cons_zero,List.set_cons_succ])
      refine wpAny_ready (rs:=[1]) (by kernel_rfl) (by simp) ?_
      refine (AllReady.cons rfl (fun K hK=>?_) AllReady.nil)
      ·go_simp
       refine hK _ _ ?_
       clear hK K
       refine wpAny_ready (rs:=[4]) (by kernel_rfl) (by simp) ?_
       refine AllReady.cons rfl (fun K hK=>?_) AllReady.nil
       refine step_append_lies _ (by rfl) _ _ _ (by rfl) (n0+5) 64 i0 _ 4 56 Tryz.underlying36 hi hz0 hz1 hz2 rfl (by decide) (.slice ov acc.length cv) acc.length xs2 (by rfl) ((Hown2.out.drew).alloc _) ⟨W2.heap.size,0,none⟩ 1 1 zeroCells (by rfl) (by rfl) (World.news_of_block (cs:=#[.int .i64 0,.string ⟨#[]⟩,.int .i64 0,.slice none 0 0]) (fr:=(0,0)) (World.alloc_heap_new W2.drew _)) (by simp[Value.oneCell']) (by omega) HL1.out HL2.out (by simp;have:=HL3.out;omega) (W2.heap.size+1) (by simp) ?_
       intro g cp w3 hown3 hgrow hat hlt3
       refine hK _ _ ?_
       clear hK K
       (try simp only[Act.put,List.setIfInBounds_toArray,List.set_cons_zero,List.set_cons_succ])
       obtain⟨b1,b2,p0,p1,p2,p3,r0,r1,r2,r3,s8,s9,hg3,hg4,Fin1,Fin2⟩:=Leaf.out g cp w3 hown3 hgrow hat
       clear hown3 hgrow hat
       refine wpAny_ready (rs:=[5,7]) (by kernel_rfl) (by simp) ?_
       refine (AllReady.cons rfl (fun K hK=>?_) (AllReady.cons rfl (fun K hK=>?_) AllReady.nil))
       ·go_simp
        refine hK _ _ ?_
        clear hK K
        refine wpAny_ready (rs:=[6,7]) (by kernel_rfl) (by simp) ?_
        refine (AllReady.cons rfl (fun K hK=>?_) (AllReady.cons rfl (fun K hK=>?_) AllReady.nil))
        ·go_simp
         refine hK _ _ ?_
         clear hK K
         refine wpAny_ready (rs:=[7]) (by kernel_rfl) (by simp) ?_
         refine (AllReady.cons rfl (fun K hK=>?_) AllReady.nil)
         go_simp
         refine hK _ _ ?_
         clear hK K
         refine (wpAny_done (by kernel_rfl) ?_) _
         gi_wp2
         exact Fin1.out
        ·go_simp
         refine hK _ _ ?_
         clear hK K
         refine wpAny_ready (rs:=[6]) (by kernel_rfl) (by simp) ?_
         refine (AllReady.cons rfl (fun K hK=>?_) AllReady.nil)
         go_simp
         refine hK _ _ ?_
         clear hK K
         refine (wpAny_done (by kernel_rfl) ?_) _
         gi_wp2
         exact Fin2.out
       ·go_simp
        refine hK _ _ ?_
        clear hK K
        refine wpAny_ready (rs:=[5]) (by kernel_rfl) (by simp) ?_
        refine (AllReady.cons rfl (fun K hK=>?_) AllReady.nil)
        go_simp
        refine hK _ _ ?_
        clear hK K
        refine wpAny_ready (rs:=[6]) (by kernel_rfl) (by simp) ?_
        refine (AllReady.cons rfl (fun K hK=>?_) AllReady.nil)
        go_simp
        refine hK _ _ ?_
        clear hK K
        refine (wpAny_done (by kernel_rfl) ?_) _
        gi_wp2
        exact Fin2.out
     ·go_simp
      refine hK _ _ ?_
      clear hK K
      refine wpAny_ready (rs:=[0]) (by kernel_rfl) (by simp) ?_
      refine (AllReady.cons rfl (fun K hK=>?_) AllReady.nil)
      ·go_simp
       refine hK _ _ ?_
       clear hK K
       refine wpAny_take (i:=2) (v:=.int .i64 (acc.length:Int)) rfl (by kernel_rfl) (by kernel_rfl) (by kernel_rfl) (fun _ _ _ h=>h) (Or.inl ⟨by rfl,fun w=>?_⟩) ?_
       ·go_simp
       (try simp only[Act.put,List.setIfInBounds_toArray,List.set_cons_zero,List.set_cons_succ])
       refine wpAny_ready (rs:=[4]) (by kernel_rfl) (by simp) ?_
       refine AllReady.cons rfl (fun K hK=>?_) AllReady.nil
       refine step_append_lies _ (by rfl) _ _ _ (by rfl) (n0+5) 64 i0 _ 4 56 Tryz.underlying36 hi hz0 hz1 hz2 rfl (by decide) (.slice ov acc.length cv) acc.length xs2 (by rfl) ((Hown2.out.drew).alloc _) ⟨W2.heap.size,0,none⟩ 1 1 zeroCells (by rfl) (by rfl) (World.news_of_block (cs:=#[.int .i64 0,.string ⟨#[]⟩,.int .i64 0,.slice none 0 0]) (fr:=(0,0)) (World.alloc_heap_new W2.drew _)) (by simp[Value.oneCell']) (by omega) HL1.out HL2.out (by simp;have:=HL3.out;omega) (W2.heap.size+1) (by simp) ?_
       intro g cp w3 hown3 hgrow hat hlt3
       refine hK _ _ ?_
       clear hK K
       (try simp only[Act.put,List.setIfInBounds_toArray,List.set_cons_zero,List.set_cons_succ])
       obtain⟨b1,b2,p0,p1,p2,p3,r0,r1,r2,r3,s8,s9,hg3,hg4,Fin1,Fin2⟩:=Leaf.out g cp w3 hown3 hgrow hat
       clear hown3 hgrow hat
       refine wpAny_ready (rs:=[5,7]) (by kernel_rfl) (by simp) ?_
       refine (AllReady.cons rfl (fun K hK=>?_) (AllReady.cons rfl (fun K hK=>?_) AllReady.nil))
       ·go_simp
        refine hK _ _ ?_
        clear hK K
        refine wpAny_ready (rs:=[6,7]) (by kernel_rfl) (by simp) ?_
        refine (AllReady.cons rfl (fun K hK=>?_) (AllReady.cons rfl (fun K hK=>?_) AllReady.nil))
        ·go_simp
         refine hK _ _ ?_
         clear hK K
         refine wpAny_ready (rs:=[7]) (by kernel_rfl) (by simp) ?_
         refine (AllReady.cons rfl (fun K hK=>?_) AllReady.nil)
         go_simp
         refine hK _ _ ?_
         clear hK K
         refine (wpAny_done (by kernel_rfl) ?_) _
         gi_wp2
         exact Fin1.out
        ·go_simp
         refine hK _ _ ?_
         clear hK K
         refine wpAny_ready (rs:=[6]) (by kernel_rfl) (by simp) ?_
         refine (AllReady.cons rfl (fun K hK=>?_) AllReady.nil)
         go_simp
         refine hK _ _ ?_
         clear hK K
         refine (wpAny_done (by kernel_rfl) ?_) _
         gi_wp2
         exact Fin2.out
       ·go_simp
        refine hK _ _ ?_
        clear hK K
        refine wpAny_ready (rs:=[5]) (by kernel_rfl) (by simp) ?_
        refine (AllReady.cons rfl (fun K hK=>?_) AllReady.nil)
        go_simp
        refine hK _ _ ?_
        clear hK K
        refine wpAny_ready (rs:=[6]) (by kernel_rfl) (by simp) ?_
        refine (AllReady.cons rfl (fun K hK=>?_) AllReady.nil)
        go_simp
        refine hK _ _ ?_
        clear hK K
        refine (wpAny_done (by kernel_rfl) ?_) _
        gi_wp2
        exact Fin2.out
 case done=>
  rintro D W hD ⟨acc,q,hI,hq⟩ hd
  obtain⟨v,xs,hv,hown,hlaid⟩:=hI.l
  have c8:W.cell? ⟨n0+1+1+1,0,none⟩=some v:=hv.at 0 _ rfl
  have c9:W.cell? ⟨n0+1+1+1+1,0,none⟩=some .nilIface:=hI.e.at 0 _ rfl
  have hs9:n0+1+1+1+1 < W.heap.size:=hI.e.lt
  have Hd:=hid hd
  have HI:=hid hI
  have Hown:=hid hown
  have Hlaid:=hid hlaid
  have Hq:=hid hq
  clear hd hI hown hlaid hq hv
  gi_wp2
  rw[Exit.noGoto_ret]
  have Pt:Put (n0+5) W (W.putObj D (.deferred none)):=⟨D,_,_,by have:=Hs.out;omega,Hd.out,rfl,rfl,rfl⟩
  refine⟨by simp,.inl ⟨_,_,rfl,run_takeDeferred Hd.out,?_⟩⟩
  refine⟨_,results_tmp2 rfl _ _ _,?_⟩
  unfold ListR
  rw[Hq.out]
  refine⟨⟨v,rfl,sl_own (put_own Pt Hown.out) (Hlaid.out.mono fun x cs hx=>lays_tm _ _ _ _ _ _ (fun a c hc=>?_) (Nat.le_of_eq (put_size Pt).symm) hx) (by rw[Hn0.out];omega),put_rd Pt HI.out.rd (by omega)⟩,put_gr Pt HI.out.g (by rw[Hn0.out];omega)⟩
  obtain⟨h1,h2⟩:=past_cell.1 (visV_out _ _ _ a c (put_vis Pt a c hc))
  exact past_cell.2 ⟨by rw[Hn0.out];omega,h2⟩
 case stop=>
  rintro D c W hD ⟨rfl,x,h1,h2,h3⟩ hd
  have c9:W.cell? ⟨n0+1+1+1+1,0,none⟩=some (flawV x.1 x.2):=h2.at 0 _ rfl
  have hs9:n0+1+1+1+1 < W.heap.size:=h2.lt
  have Hd:=hid hd
  have H1:=hid h1
  have H3:=hid h3
  clear hd h1 h2 h3
  gi_wp2
  refine wpIn_wide.2 ?_
  go_quiet (fail)
  rename_i nq
  gi_wp2
  rw[Exit.noGoto_ret]
  have hdq:(W.drewN nq).heap[D]?=some (.deferred (some [])):=Hd.out
  have gq:Gr C.R w (W.drewN nq):=⟨H3.out.os,H3.out.tape,H3.out.output,H3.out.size,H3.out.block⟩
  have Pt:Put (n0+5) (W.drewN nq) ((W.drewN nq).putObj D (.deferred none)):=⟨D,_,_,by have:=Hs.out;omega,hdq,rfl,rfl,rfl⟩
  refine⟨by simp,.inl ⟨_,_,rfl,run_takeDeferred hdq,?_⟩⟩
  refine⟨_,results_tmp2 rfl _ _ _,?_⟩
  unfold ListR
  rw[H1.out]
  exact⟨rfl,put_gr Pt gq (by rw[Hn0.out];omega)⟩
end Go.Proofs.YtdgbajnhhhjbcaaGreatDoor

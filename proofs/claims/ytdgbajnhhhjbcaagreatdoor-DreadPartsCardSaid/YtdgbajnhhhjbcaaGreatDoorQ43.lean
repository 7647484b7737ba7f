/- Rm8@012 -/
import Derived.Test.YtdgbajnhhhjbcaaGreatDoorQ42
set_option linter.unusedSimpArgs false
set_option linter.unusedVariables false
namespace Go.Proofs.YtdgbajnhhhjbcaaGreatDoor
open Lib(hid)
open Go.RowKit
set_option maxRecDepth 100000 in
set_option maxHeartbeats 16000000 in
theorem relation_c (C:RC) (B:Nat) (p:Pg) (du ru:Value) (q:List TokI) (w:World) (h:PgI C B p du ru q w) (hq:q≠[]) (h60:p.decls.length≤60) :
  Calls Tryz.prog 80 #[.pointer (some ⟨C.R,0,none⟩)] w (ThR C B (relQ p q) w):=by
 have hltR:=h.rd.lt
 have hRB:=h.RB
 obtain⟨od,cd,hdu⟩:=h.formD
 obtain⟨c2,c3,f2,f3⟩:=h.row
 subst hdu
 have HG:=hid (good_hd h.rd.goodq)
 have HI:=hid h
 have Hq:=hid hq
 clear h hq c3 f2 f3
 by_cases h6:p.decls.length=60
 ·have h6':((p.decls.length:Int) == 60)=true:=by simp;omega
  have He:Hid (relQ p q=.error (21,lineL q)):=hid (by unfold relQ;rw[if_pos h6])
  clear h6
  go_enter Tryz.func80,Tryz.ntmps80
  go_wp2_with fail
  refine (fail_c C _ ru q 21 w HI.out.rd).mono ?_
  rintro e w1 ⟨rfl,b1⟩
  have B1:=hid b1
  clear b1
  go_wp2
  go_ret
  exact ThR.bad He.out (below_R B1.out HI.out.BW) (keeps_below B1.out)
 ·have h6':((p.decls.length:Int) == 60)=false:=by simp;omega
  have He:Hid (relQ p q=match colsQ q.tail with | .error e=>.error e | .ok (x,q')=>.ok (⟨p.decls++[⟨x.1,x.2.map (·.1),x.2.map (·.2),false,false,lineL q⟩],p.rules⟩,q')):=hid (by
   unfold relQ
   rw[if_neg h6,declQ]
   cases colsQ q.tail with
   | error e=>rfl
   | ok y=>rfl)
  have H6:=hid h6
  clear h6
  go_enter Tryz.func80,Tryz.ntmps80
  go_wp2_with fail
  refine (here_c C _ ru q w HI.out.rd).mono ?_
  rintro e w1 ⟨rfl,b1⟩
  obtain⟨T,hT⟩:∃ T,hdT q=T:=⟨_,rfl⟩
  rw[hT]
  obtain⟨tk,ts,line⟩:=T
  rw[show tokW ⟨tk,ts,line⟩=.agg #[.int .i64 tk,.string ts,.int .i64 line] from rfl]
  have hfd:∀ w:World,(Instr.field 89 (.agg #[.int .i64 tk,.string ts,.int .i64 line]) 2).run Tryz.prog w=.ok (.int .i64 line) w:=fun _=>by kernel_rfl
  have Hline:=hid (show I64 line by have:=HG.out.line;rw[hT] at this;exact this)
  have Hlq:=hid (show line=lineL q by rw[← line_hd,hT])
  obtain⟨W2,hW2⟩:∃ W2,w1.alloc (.cells #[.string ⟨#[]⟩,.slice none 0 0,.slice none 0 0,.bool false,.bool false,.int .i64 line] 34)=W2:=⟨_,rfl⟩
  have hb2:Below w1.heap.size w1 W2:=by rw[← hW2];exact (Below.refl _ _).alloc (Nat.le_refl _) _
  obtain⟨nb,hnb⟩:∃ nb,w1.heap.size=nb:=⟨_,rfl⟩
  have hr2:Row nb 34 [.string ⟨#[]⟩,.slice none 0 0,.slice none 0 0,.bool false,.bool false,.int .i64 line] W2:=by rw[← hW2,← hnb];exact Row.new w1 _ _
  have I2:=hid ((HI.out.below b1).below hb2)
  have G2:=hid (Gr.of_below (R:=C.R) (b1.trans (hb2.mono b1.size)))
  have K2:=hid ((keeps_below b1).trans (keeps_below hb2))
  have Hr2:=hid hr2
  have HW2:=hid hW2
  have Hnb:=hid hnb
  have hwnb:w.heap.size≤nb:=by rw[← hnb];exact b1.size
  clear b1 hb2 hr2 hW2 hT
  go_wp2_with fail
  rw[HW2.out]
  refine (step_c C _ ru q Hq.out W2 I2.out.rd).mono ?_
  rintro e w3 ⟨rfl,r3,g3⟩
  have I3:=hid (I2.out.gr g3 r3)
  have Hr3:=hid (Hr2.out.gr g3 (by omega))
  have G3:=hid (G2.out.trans g3)
  have K3:=hid (K2.out.trans (I2.out.rd.keeps g3))
  clear r3 g3
  go_wp2_with fail
  refine (namedC_c C _ ru q.tail w3 I3.out.rd).mono ?_
  rintro e w4 ⟨hm,g4⟩
  have Hr4:=hid (Hr3.out.gr g4 (by omega))
  have G4:=hid (G3.out.trans g4)
  have K4:=hid (K3.out.trans (I3.out.rd.keeps g4))
  cases hl:colsQ q.tail with
  | error z=>
   rw[hl] at hm
   obtain⟨a,b,rfl⟩:=hm
   have He2:Hid (relQ p q=.error (z.1,z.2)):=hid (by rw[He.out,hl])
   clear hl g4
   go_wp2
   go_ret
   exact ThR.bad He2.out (G4.out.R HI.out.BW) K4.out
  | ok y=>
   obtain⟨⟨s,cols⟩,q2⟩:=y
   rw[hl] at hm
   obtain⟨v,rfl,hs,hv,r4⟩:=hm
   dsimp only at hs hv
   have He2:Hid (relQ p q=.ok (⟨p.decls++[⟨s,cols.map (·.1),cols.map (·.2),false,false,line⟩],p.rules⟩,q2)):=hid (by rw[He.out,hl,Hlq.out])
   have I4:=hid (I3.out.gr g4 r4)
   obtain⟨ov,cv,rfl,hcv,hcm,S⟩:=SlOf.open hv
   have hlen8:cols.length≤8:=by
    have h9:∀ (n:Nat) (acc:List (ByteArray × Int)) (l q:List TokI) (x:List (ByteArray × Int)),l.length≤n→acc.length≤8→columnsP acc l=.ok (x,q)→x.length≤8:=by
     intro n
     induction n with
     | zero=>
      intro acc l q x hl ha h
      have:l=[]:=List.eq_nil_of_length_eq_zero (by omega)
      subst this
      rw[columnsP_eq] at h
      split at h
      ·cases h
      ·cases hs:columnP [] with
       | error e=>rw[hs] at h;cases h
       | ok p=>exact absurd (columnP_less hs) (Nat.not_lt_zero _)
     | succ n ih=>
      intro acc l q x hl ha h
      rw[columnsP_eq] at h
      split at h
      ·cases h
      next h8=>
       cases hs:columnP l with
       | error e=>rw[hs] at h;cases h
       | ok p=>
        rw[hs] at h
        have h:(if nextB 4 [44] p.2=true then columnsP (acc++[p.1]) p.2.tail else .ok (acc++[p.1],p.2))=Except.ok (x,q):=h
        have h1:=columnP_less hs
        split at h
        ·exact ih _ _ _ _ (by rw[List.length_tail];omega) (by rw[List.length_append,List.length_cons,List.length_nil];omega) h
        ·cases h
         rw[List.length_append,List.length_cons,List.length_nil];omega
    unfold colsQ at hl
    cases hn:nameP q.tail with
    | error e=>rw[hn] at hl;cases hl
    | ok y=>
     rw[hn] at hl
     simp only at hl
     cases h2:mustP 4 [40] () y.2 with
     | error e=>rw[h2] at hl;cases hl
     | ok y2=>
      rw[h2] at hl
      simp only at hl
      cases h3:columnsP [] y2.2 with
      | error e=>rw[h3] at hl;cases hl
      | ok y3=>
       rw[h3] at hl
       obtain⟨_,e,_⟩:=mustP_ok hl
       simp only[Prod.mk.injEq] at e
       rw[e.2]
       exact h9 _ [] _ _ _ (Nat.le_refl _) (by simp) h3
   have Hs:=hid hs
   have hs34:=g4.size
   have hs3:nb < w3.heap.size:=Hr3.out.lt
   obtain⟨n0,n1,n2,n3,n4,n5⟩:w4.cell? ⟨nb,0,none⟩=some (.string ⟨#[]⟩)∧w4.cell? ⟨nb,1,none⟩=some (.slice none 0 0)∧w4.cell? ⟨nb,2,none⟩=some (.slice none 0 0)∧w4.cell? ⟨nb,3,none⟩=some (.bool false)∧w4.cell? ⟨nb,4,none⟩=some (.bool false)∧w4.frozen? ⟨nb,0,none⟩=false:=⟨Hr4.out.at 0 _ rfl,Hr4.out.at 1 _ rfl,Hr4.out.at 2 _ rfl,Hr4.out.at 3 _ rfl,Hr4.out.at 4 _ rfl,Hr4.out.frz 0⟩
   obtain⟨W5,hW5⟩:∃ W5,w4.setCell ⟨nb,0,none⟩ (.string s)=W5:=⟨_,rfl⟩
   obtain⟨b5,hb5⟩:∃ b5,W5.heap.size=b5:=⟨_,rfl⟩
   have hb54:b5=w4.heap.size:=by rw[← hb5,← hW5];simp[World.setCell]
   have HN0:Hid (NtI nb b5 s line W5 cols 0 0 (.slice none 0 0) (.slice none 0 0) W5):=hid ⟨by rw[← hW5];exact row_set Hr4.out 0 _,World.ownsRow_nil _ _ _ _,World.ownsRow_nil _ _ _ _,(fun g e=>by cases e),Gr.refl _ _,by omega,hb5,KeepsOthers.refl _⟩
   have Hg45:Hid (Gr nb w4 W5):=hid (by rw[← hW5];exact gr_set w4 nb 0 _)
   have K5:Hid (KeepsOthers w W5):=hid (K4.out.trans (by rw[← hW5];exact KeepsOthers.setCell _ _ _))
   have HW5:=hid hW5
   have hlenI:cols.length≤9223372036854775807:=by omega
   obtain⟨i1,hi1,hy0,hy1,hy2⟩:=info_parts infoStr
   obtain⟨i2,hi2,hz0,hz1,hz2⟩:=info_parts infoInt
   clear hl g4 r4 hv hs hW5 n1 n2 n3 n4
   go_wp2_with (rw[HW5.out])
   (try rw[HW5.out])
   go_loopw [39] (fun i wr=>∃ (k:Nat) (v1 v2:Value),k≤cols.length∧i=.int .i64 (k:Int)∧NtI nb b5 s line W5 cols k k v1 v2 wr) (fun i _=>cols.length - (intOf i).toNat)
   case atStart=>exact⟨0,_,_,Nat.zero_le _,rfl,HN0.out⟩
   case round=>
    obtain⟨k,v1,v2,hk,rfl,hN⟩:=hrel
    by_cases hlt:k < cols.length
    ·have hlt':(k:Int) < (cols.length:Int):=by omega
     obtain⟨x,hx⟩:∃ x,cols[k]?=some x:=⟨cols[k],List.getElem?_eq_getElem hlt⟩
     obtain⟨a,rfl,a0,a1,ha,hx1,hx2⟩:=co_at S (Hg45.out.trans hN.g) hs3 hx
     obtain⟨WA,hWA⟩:∃ WA,wr.alloc (.cells #[.string x.1,.int .i64 x.2] 192)=WA:=⟨_,rfl⟩
     have hNA:NtI nb b5 s line W5 cols k k v1 v2 WA:=by rw[← hWA];exact hN.alloc _
     have hrA:Row wr.heap.size 192 [.string x.1,.int .i64 x.2] WA:=by rw[← hWA];exact Row.new wr _ _
     have hsA:WA.heap.size=wr.heap.size+1:=by rw[← hWA];simp
     have hbs:=hN.bs
     obtain⟨o1,cp1,rfl⟩:=own_form1 hN.n
     obtain⟨o2,cp2,rfl⟩:=own_form1 hN.t
     have d1:=hNA.row.at 1 _ rfl
     have e0:=hrA.at 0 _ rfl
     have fr1:=hNA.row.frz 1
     have HNA:=hid hNA
     have Hx:=hid hx
     have HsA:=hid hsA
     have hd1:wr.cell? ⟨nb,1,none⟩=some (.slice o1 k cp1):=hN.row.at 1 _ rfl
     have hfr1:=hN.row.frz 1
     have hnr:nb < wr.heap.size:=hN.row.lt
     have hnA:nb < WA.heap.size:=hNA.row.lt
     have hlA:wr.heap.size < WA.heap.size:=by omega
     have HL1:Hid (k+1≤maxLen):=hid (by unfold maxLen;omega)
     have HL2:Hid ((k+1) * 16≤140737488355328):=hid (by omega)
     have HL4:Hid ((k+1) * 8≤140737488355328):=hid (by omega)
     have HL3:Hid (∀ o:Obj,b5≤(WA.alloc o).heap.size):=hid (fun o=>by simp;omega)
     have HNew:Hid (∀ o:Obj,(WA.alloc o).heap[wr.heap.size+1]?=some o):=hid (fun o=>by have:=World.alloc_heap_new WA o;rwa [HsA.out] at this)
     have l1:=ownsRow_lt hN.n
     have Step1:Hid (∀ (o:Obj) (g cp:Nat) (w7:World),w7.ownsRow b5 9 1 (.slice (some ⟨g,0,none⟩) (k+1) cp) (k+1) (((cols.take k).map fun x=>.string x.1)++[.string x.1])→(WA.alloc o).grownBy w7 (Value.slice o1 k cp1).ownBlock→((Value.slice o1 k cp1).ownBlock=some g∨g=(WA.alloc o).heap.size) →
       w7.cell? ⟨nb,1,none⟩=some (.slice o1 k cp1)∧w7.frozen? ⟨nb,1,none⟩=false∧nb < w7.heap.size∧w7.cell? ⟨nb,2,none⟩=some (.slice o2 k cp2)∧w7.frozen? ⟨nb,2,none⟩=false∧w7.cell? ⟨wr.heap.size,1,none⟩=some (.int .i64 x.2)∧wr.heap.size < w7.heap.size ∧
       Hid (NtI nb b5 s line W5 cols (k+1) k (.slice (some ⟨g,0,none⟩) (k+1) cp) (.slice o2 k cp2) (w7.setCell ⟨nb,1,none⟩ (.slice (some ⟨g,0,none⟩) (k+1) cp)))):=hid (by
      intro o g cp w7 hown hgrow hat
      obtain⟨hrow7,hN7⟩:=(HNA.out.alloc o).name Hx.out hgrow hown hat
      have hcol:w7.heap[wr.heap.size]?=WA.heap[wr.heap.size]?:=(hgrow.block _ (by simp;omega) (fun e=>by have:=(l1 _ e.symm).2;omega)).trans (Below.heap_alloc _ _ _ (by omega))
      have hrc:Row wr.heap.size 192 [.string x.1,.int .i64 x.2] w7:=hcol.trans hrA
      exact⟨hrow7.at 1 _ rfl,hrow7.frz 1,hrow7.lt,hrow7.at 2 _ rfl,hrow7.frz 2,hrc.at 1 _ rfl,hrc.lt,hid hN7⟩)
     clear hN hNA hrA hx hsA d1 e0 fr1
     subst hWA
     go_wp2_with (first | (at_builtin;go_loud (refine wpList_append_lies _ rfl _ _ 31 rfl b5 9 i1 _ 1 16 Tryz.underlying31 hi1 hy0 hy1 hy2 rfl (by decide) (.slice o1 k cp1) k _ rfl (HNA.out.n.alloc _) ⟨wr.heap.size+1,0,none⟩ 1 1 [.string x.1] rfl rfl (World.news_of_block (HNew.out _)) (fun u hu=>by simp at hu;subst hu;rfl) (by omega) HL1.out HL2.out (HL3.out _) _ rfl ?_);intro g cp w7 hown7 hgrow7 hat7 hlt7;obtain⟨a71,a72,a73,a74,a75,a76,a77,HN7⟩:=Step1.out _ g cp w7 hown7 hgrow7 hat7;clear hown7 hgrow7 hat7 hlt7;have hb7:b5≤w7.heap.size:=(by have:=HN7.out.bs;simpa[World.setCell] using this)) | (at_builtin;go_loud (refine wpList_append_lies _ rfl _ _ 32 rfl b5 3 i2 _ 1 8 Tryz.underlying32 hi2 hz0 hz1 hz2 rfl (by decide) (.slice o2 k cp2) k _ rfl (HN7.out.t.alloc _) ⟨w7.heap.size,0,none⟩ 1 1 [.int .i64 x.2] rfl rfl (World.news_of_block (by have:=World.alloc_heap_new (w7.setCell ⟨nb,1,none⟩ (.slice (some ⟨g,0,none⟩) (k+1) cp)) (.cells #[.int .i64 x.2] 3);simpa[World.setCell] using this)) (fun u hu=>by simp at hu;subst hu;rfl) (by omega) HL1.out HL4.out (by simp[World.setCell];omega) _ rfl ?_);intro g2 cp2' w9 hown9 hgrow9 hat9 hlt9;obtain⟨hrow9,hN9⟩:=(HN7.out.alloc _).typ Hx.out hgrow9 hown9 hat9;have a91:=hrow9.at 2 _ rfl;have a92:=hrow9.frz 2;have a93:=hrow9.lt;have HN9:=hid hN9;clear hown9 hgrow9 hat9 hlt9 hrow9 hN9))
     go_roundw
     case rel=>exact⟨k+1,_,_,by omega,by go_num,HN9.out⟩
     case measure=>simp[intOf];omega
    ·have hlt':¬ (k:Int) < (cols.length:Int):=by omega
     obtain rfl:k=cols.length:=by omega
     have hbs:=hN.bs
     obtain⟨o1,cp1,rfl⟩:=own_form1 hN.n
     obtain⟨o2,cp2,rfl⟩:=own_form1 hN.t
     have hw4:w.heap.size≤w4.heap.size:=G4.out.size
     have G9:Gr C.R w wr:=by
      have g:=Hg45.out.trans hN.g
      exact⟨g.os.trans G4.out.os,g.tape.trans G4.out.tape,g.output.trans G4.out.output,Nat.le_trans hw4 g.size,fun i hi hr=>(g.block i (by omega) (fun e=>by have:=Option.some.inj e;omega)).trans (G4.out.block i hi hr)⟩
     have I9:=hid (HI.out.gr G9 (I4.out.rd.belowR ((Hg45.out.trans hN.g).below (B:=C.R+1) (by omega) (by omega))))
     have K9:=hid (K5.out.trans hN.k)
     have hcs:∀ x ∈ cols,x.1.size≤maxLen∧I64 x.2:=fun x hx=>by
      obtain⟨i,hi⟩:=List.mem_iff_getElem?.1 hx
      obtain⟨_,_,_,_,_,⟨_,h1,h2⟩,_⟩:=S.out i x hi
      exact⟨h1,h2⟩
     have HD:=hid (hN.laid (L0:=w.heap.size) (by omega) Hs.out Hline.out hcs)
     obtain⟨xs,hx,hlx⟩:=I9.out.d
     have y2:(wr.drew).cell? ⟨C.R,2,none⟩=some (.slice od p.decls.length cd):=I9.out.row.1
     have y2a:∀ o:Obj,((wr.drew).alloc o).cell? ⟨C.R,2,none⟩=some (.slice od p.decls.length cd):=fun o=>(World.cell?_alloc_lt _ o _ (show (⟨C.R,2,none⟩:Addr).block < (wr.drew).heap.size from I9.out.rd.lt)).trans y2
     have y2b:∀ o:Obj,(wr.alloc o).cell? ⟨C.R,2,none⟩=some (.slice od p.decls.length cd):=y2a
     have z0:(wr.drew).cell? ⟨nb,0,none⟩=some (.string s):=hN.row.at 0 _ rfl
     have z1:(wr.drew).cell? ⟨nb,1,none⟩=some (.slice o1 cols.length cp1):=hN.row.at 1 _ rfl
     have z2:(wr.drew).cell? ⟨nb,2,none⟩=some (.slice o2 cols.length cp2):=hN.row.at 2 _ rfl
     have z3:(wr.drew).cell? ⟨nb,3,none⟩=some (.bool false):=hN.row.at 3 _ rfl
     have z4:(wr.drew).cell? ⟨nb,4,none⟩=some (.bool false):=hN.row.at 4 _ rfl
     have z5:(wr.drew).cell? ⟨nb,5,none⟩=some (.int .i64 line):=hN.row.at 5 _ rfl
     have hnbz:nb < (wr.drew).heap.size:=hN.row.lt
     have hRz:C.R < (wr.drew).heap.size:=I9.out.rd.lt
     have Hx:=hid hx
     have Hlx:=hid hlx
     obtain⟨i0,hi,hw0,hw1,hw2⟩:=info_parts infoDe
     have HL1:Hid (p.decls.length+1≤maxLen):=hid (by unfold maxLen;omega)
     have HL2:Hid ((p.decls.length+1) * 80≤140737488355328):=hid (by omega)
     have HL3:Hid (∀ o:Obj,B≤((wr.drew).alloc o).heap.size):=hid (fun o=>by have:=I9.out.BW;have h2:(wr.drew).heap.size=wr.heap.size:=rfl;rw[World.size_alloc];omega)
     have Leaf:Hid (∀ (g cp:Nat) (w12:World),w12.ownsRow B 34 6 (.slice (some ⟨g,0,none⟩) (p.decls.length+1) cp) (p.decls.length+1) (xs++[.string s,.slice o1 cols.length cp1,.slice o2 cols.length cp2,.bool false,.bool false,.int .i64 line])→((wr.drew).alloc (.cells #[.string s,.slice o1 cols.length cp1,.slice o2 cols.length cp2,.bool false,.bool false,.int .i64 line] 34)).grownBy w12 (Value.slice od p.decls.length cd).ownBlock→((Value.slice od p.decls.length cd).ownBlock=some g∨g=((wr.drew).alloc (.cells #[.string s,.slice o1 cols.length cp1,.slice o2 cols.length cp2,.bool false,.bool false,.int .i64 line] 34)).heap.size) →
       w12.cell? ⟨C.R,2,none⟩=some (.slice od p.decls.length cd)∧w12.frozen? ⟨C.R,2,none⟩=false∧C.R < w12.heap.size∧Hid (ThR C B (relQ p q) w (.returned .nilIface) (w12.setCell ⟨C.R,2,none⟩ (.slice (some ⟨g,0,none⟩) (p.decls.length+1) cp)))):=hid (by
      intro g cp w12 hown hgrow hat
      obtain⟨k1,k2,k3,k4⟩:=add_decl I9.out Hx.out Hlx.out hltR hRB (L0:=w.heap.size) HI.out.BW (fun g hg=>hg.elim (fun h=>(HI.out.ownD g h).2) (fun h=>(HI.out.ownR g h).2)) (cs:=[.string s,.slice o1 cols.length cp1,.slice o2 cols.length cp2,.bool false,.bool false,.int .i64 line]) rfl HD.out hown hgrow hat
      exact⟨k1,k2,k3,hid (ThR.good He2.out k4.1 ((G9.R HI.out.BW).trans k4.2.1) (K9.out.trans k4.2.2))⟩)
     clear hN hx hlx G9 hcs
     go_wp2_with fail
     go_region_law (refine step_append_lies _ (by rfl) _ _ 22 (by rfl) B 34 i0 _ 6 80 Tryz.underlying22 hi hw0 hw1 hw2 rfl (by decide) (.slice od p.decls.length cd) p.decls.length xs (by rfl) ((Hx.out.drew).alloc _) ⟨(wr.drew).heap.size,0,none⟩ 1 1 [.string s,.slice o1 cols.length cp1,.slice o2 cols.length cp2,.bool false,.bool false,.int .i64 line] (by rfl) (by rfl) (World.news_of_block (World.alloc_heap_new (wr.drew) _)) (by simp[Value.oneCell']) (by omega) HL1.out HL2.out (HL3.out _) _ rfl ?_;intro g cp w12 hown12 hgrow12 hat12 hlt12;obtain⟨s3,s4,s5,Fin⟩:=Leaf.out g cp w12 hown12 hgrow12 hat12)
     all_goals
      go_wp2
      go_ret
      exact Fin.out
end Go.Proofs.YtdgbajnhhhjbcaaGreatDoor

/- Zvo@012 -/
import Derived.Test.YtfmldnbcjbflbaaGreatDoorQ17
set_option linter.unusedSimpArgs false
set_option linter.unusedVariables false
namespace Go.Proofs.YtfmldnbcjbflbaaGreatDoor
open Lib(hid)
open Go.RowKit Go.Shelf
attribute [local go_sem] Oper.semAt_some
set_option maxRecDepth 100000 in
set_option maxHeartbeats 8000000 in
theorem zvarsOf_in (l:List Tm) (v:Value) (w:World) (hc:TmS w w.heap.size l v) (hsm:∀ s ∈ occ (subTs l),s.size≤281474976710656) (hlen:(occ (subTs l)).length≤1000000) :
  CallsIn Fence.wide 6 Tryz.prog 85 #[v] w fun e w'=>∃ v,e=.returned v∧w'.ownsRow w.heap.size 9 1 v (onceN (occ (subTs l))).length ((onceN (occ (subTs l))).map Value.string)∧Below w.heap.size w w':=by
 have HC:=hid hc
 obtain⟨o1,k1,rfl,_,_,_⟩:=SlOf.open hc
 have hmm:=@run_makeMap Tryz.prog
 clear hc
 refine callsIn_of_wp_marks Tryz.func85 rfl trivial ?_ rfl
 simp only[Tryz.ntmps85,List.size_toArray,List.length_cons,List.length_nil,Nat.reduceAdd,Nat.reduceSub,Array.replicate_succ,Array.replicate_zero,List.push_toArray,List.append_toArray,List.nil_append,List.cons_append]
 obtain⟨n0,hn0⟩:∃ n0,w.heap.size=n0:=⟨_,rfl⟩
 obtain⟨i0,hi,hz0,hz1,hz2⟩:=info_parts info_str
 gi_wp2_with fail
 obtain⟨W4,hW4⟩:∃ W4,(((w.alloc (.map #[] 0)).alloc (.cells #[.map (some n0)] 69)).alloc (.cells #[.slice none 0 0] 45))=W4:=⟨_,rfl⟩
 have hs4:W4.heap.size=n0+3:=by rw[← hW4];simp;omega
 have hb4:Below n0 w W4:=by
  rw[← hW4]
  exact (((Below.refl n0 w).alloc (by omega) _).alloc (by simp;omega) _).alloc (by simp;omega) _
 have bl4:Boxed W4 (n0+1+1) 45 (.slice none 0 0):=by
  have:=Boxed.new ((w.alloc (.map #[] 0)).alloc (.cells #[.map (some n0)] 69)) 45 (.slice none 0 0)
  rw[hW4] at this
  simpa[hn0] using this
 have bm4:Boxed W4 (n0+1) 69 (.map (some n0)):=by
  have:=(Boxed.new (w.alloc (.map #[] 0)) 69 (.map (some n0))).alloc (.cells #[.slice none 0 0] 45)
  rw[show (w.alloc (.map #[] 0)).heap.size=n0+1 by simp[hn0],hW4] at this
  exact this
 have M4:MapI Tryz.prog W4 9 3 n0 0 (fun _=>0) 0:=by
  have:=((mapI_made Tryz.prog w 9 3).alloc (.cells #[.map (some n0)] 69)).alloc (.cells #[.slice none 0 0] 45)
  rw[hn0,hW4] at this
  exact this
 rw[hW4]
 have HE:=hid (zeach_in 5 o1 l.length k1 W4)
 refine⟨trivial,HE.out.mono ?_⟩
 rintro e W5 ⟨rfl,hW5⟩
 rw[hs4]
 clear hW4
 gi_wp2_with fail
 rw[← hW5]
 have hs5:W5.heap.size=n0+4:=by rw[hW5];simp;omega
 have hb45:Below W4.heap.size W4 W5:=by rw[hW5];exact (Below.refl _ _).alloc (Nat.le_refl _) _
 have hb5:Below n0 w W5:=hb4.trans (hb45.mono (by omega))
 have bl5:Boxed W5 (n0+1+1) 45 (.slice none 0 0):=(hb45.block _ bl4.lt).trans bl4
 have bm5:Boxed W5 (n0+1) 69 (.map (some n0)):=(hb45.block _ bm4.lt).trans bm4
 have M5:=M4.below hb45 M4.lt
 have mb5:∃ o:Obj,W5.heap[n0]?=some o∧o.isCells=false:=by
  obtain⟨D,⟨es,clock,h1,_⟩,_⟩:=M5
  exact⟨_,h1,rfl⟩
 have row5:W5.heap[n0+3]?=some (.cells #[.slice o1 l.length k1] 32 (0,0)):=by rw[hW5,← hs4];exact World.alloc_heap_new W4 _
 have safe:Safe (SV n0 (n0+1+1)) (veil (n0+1+1) W5) W5:=fun p c hp=>by
  obtain⟨h1,h2⟩:=veil_cell hp
  refine⟨h2,World.block_lt_of_cell? _ _ h2,?_⟩
  rintro (h3 | h3 | ⟨v,h3,h4⟩)
  ·obtain⟨o,ho,hc⟩:=cells_of_cell h2
   obtain⟨o',ho',hc'⟩:=mb5
   rw[h3,ho'] at ho
   cases ho
   rw[hc'] at hc
   cases hc
  ·exact h1 h3
  ·rw[bl5.cell] at h3
   cases h3
   cases h4
 have wf5:∀ i,SV n0 (n0+1+1) W5 i→i < W5.heap.size:=by
  rintro i (h3 | h3 | ⟨v,h3,h4⟩)
  ·omega
  ·omega
  ·rw[bl5.cell] at h3
   cases h3
   cases h4
 have hbv:Below n0 w (veil (n0+1+1) W5):=
  ⟨hb5.os,hb5.tape,hb5.output,by unfold veil;simpa using hb5.size,fun i hi=>(World.putObj_heap_other (by omega)).trans (hb5.block i hi)⟩
 have hcv:TmS (veil (n0+1+1) W5) n0 l (.slice o1 l.length k1):=by have:=HC.out;rw[hn0] at this;exact TmS.below this hbv
 have hBv:(veil (n0+1+1) W5).cell? ⟨n0+3,0,none⟩=some (.slice o1 l.length k1):=by
  refine cell_veil ?_ (by show n0+3≠_;omega)
  unfold World.cell?
  simp only[row5]
  rfl
 clear hW5 hmm mb5 M4 bl4 bm4 hb45 HE
 refine wpIn_rangeFunc_ownH rfl (by omega) (gf:=113) (lb:=#[.pointer (some ⟨n0+3,0,none⟩)]) rfl trivial (enters_of Tryz.func113 (by kernel_rfl) rfl)
  (zeach_stops 5 (n0+3) n0 l (.slice o1 l.length k1) (veil (n0+1+1) W5) W5 (SV n0 (n0+1+1)) (sv_grow _ _) safe wf5 hBv hcv (G:=fun s=>s.size≤281474976710656) hsm) (fun h k=>h.trans k) ?hKb (Below.refl _ _) (fun _=>rfl)
  (fun pre W=>(∃ v,Boxed W (n0+1+1) 45 v∧W.ownsRow n0 9 1 v (onceN (pre.map Ns.s)).length ((onceN (pre.map Ns.s)).map Value.string)∧True)∧Boxed W (n0+1) 69 (.map (some n0))∧(∃ c,MapI Tryz.prog W 9 3 n0 pre.length (fun s=>(cntN (pre.map Ns.s) s:Int)) c)∧KO (SV n0 (n0+1+1)) W5 W∧Below n0 w W)
  (fun _ _ _=>False) ?hI (fun _=>fun _ _ _ _ h=>h.elim) ⟨⟨_,bl5,World.ownsRow_nil _ _ _ _,trivial⟩,bm5,⟨0,M5⟩,KO.refl _ _,hb5⟩
  (fun x a' W=>a'={ tmps:=#[.slice o1 l.length k1,undef,.slice none 0 0,.pointer (some ⟨n0+1,0,none⟩),.pointer (some ⟨n0+1+1,0,none⟩),.string x.s,.map (some n0),.slice o1 l.length k1,.func (.func 113) #[] #[.pointer (some ⟨n0+3,0,none⟩)],.string x.s,undef,undef,undef,undef,undef,undef,undef,undef,undef,undef,undef,undef,undef],defers:=[] })
  ?hAx ?assign ?body ?done ?stop
 case hKb=>exact fun W l o o' hl ho hc _=>sv_put W l o o' (by omega) ho hc
 case hI=>
  refine OwnFrom.and (Own.from (holdsRow_own n0 (n0+1+1) 45 9 1 (fun (pre:List (Ns (fun s=>s.size≤281474976710656)))=>(onceN (pre.map Ns.s)).length) (fun pre=>(onceN (pre.map Ns.s)).map Value.string) (fun _ _=>True)) _) (OwnFrom.and (Own.from (boxed_own (n0+1) 69 (fun _=>.map (some n0))) _) ?_)
  rintro pre A B row ⟨⟨c,h1⟩,h2,h3⟩ hg hr
  refine⟨⟨c,h1.kept hg (fun e=>by have:=(hr _ e.symm).1;omega)⟩,h2.trans ?_,ownFrom_below (β:=Unit) (by rw[hn0];exact Nat.le_refl _) (by omega) () A B row h3 hg hr⟩
  have hL:n0+1+1 < A.heap.size:=by have:=h2.size;omega
  have hcell:B.cell? ⟨n0+1+1,0,none⟩=A.cell? ⟨n0+1+1,0,none⟩:=World.cell?_of_block (hg.block _ hL (fun e=>by have h:=(hr _ e.symm).1;change W5.heap.size≤n0+1+1 at h;omega))
  refine⟨hg.size,fun i o ho hc _=>(hg.block i (Array.getElem?_eq_some_iff.1 ho).1 (fun e=>?_)).trans ho,fun i h=>.inl (sv_cell hcell i h),fun hw i hi=>Nat.lt_of_lt_of_le (hw i (sv_cell hcell i hi)) hg.size⟩
  obtain⟨_,o',ho',hc'⟩:=hr _ e.symm
  rw[ho] at ho'
  cases ho'
  rw[hc] at hc'
  cases hc'
 case hAx=>exact fun x a' _ A B row h _ _=>h
 case assign=>
  rintro lp pre ⟨s,gd'⟩ W K hI hK
  have HK:=hid (hK _ W (KeepsFrom.refl _ _) (KO.refl _ _) hI rfl)
  clear hK hI
  simp only[Ns.enc]
  gi_wp2
  exact HK.out
 case body=>
  rintro lp pre ⟨s,gd'⟩ a' W hlp hrec ⟨⟨v,h1,h2,_⟩,h3,⟨c,h4⟩,h5,h6⟩ rfl hlen2
  have hsz:s.size≤maxLen:=Nat.le_trans gd' (by decide)
  have hm3:=h3.cell
  have hl3:=h3.lt
  have hlc:=h1.cell
  have hll:=h1.lt
  have Hm:=hid h4
  have hcl:cntN (pre.map Ns.s) s.data.toList≤pre.length:=by have:=cntN_le (pre.map Ns.s) s.data.toList;rwa [List.length_map] at this
  have hct0:(0:Int)≤(cntN (pre.map Ns.s) s.data.toList:Int):=by omega
  have hct1:(cntN (pre.map Ns.s) s.data.toList:Int)≤1000000:=by omega
  have hvM:v.ownBlock≠some n0:=by
   intro e
   rcases h2.2 with ⟨rfl,_⟩ | ⟨g,cap,cur,rfl,_,hg,_⟩
   ·cases e
   ·obtain rfl:g=n0:=by simpa[Value.ownBlock] using e
    obtain⟨D,⟨es,clock,hm,_⟩,_⟩:=h4
    rw[hm] at hg
    cases hg
  have hf:updF (fun s=>(cntN (pre.map Ns.s) s:Int)) s.data.toList ((cntN (pre.map Ns.s) s.data.toList:Int)+1)=fun n=>(cntN (pre.map Ns.s++[s]) n:Int):=by
   funext n
   rw[cntN_snoc]
   by_cases e:n=s.data.toList
   ·subst e;rw[updF_same,if_pos rfl];omega
   ·rw[updF_other _ _ e,if_neg (fun h=>e h.symm)];omega
  have zE:∀ w:World,(zeroValue 3).run Tryz.prog w=.ok (.int .i64 0) w:=fun w=>by kernel_rfl
  have H1:=hid h1
  have H2:=hid h2
  have H3:=hid h3
  have H5:=hid h5
  have H6:=hid h6
  have HvM:=hid hvM
  have Hf:=hid hf
  clear h1 h2 h3 h4 h5 h6 hvM hf
  by_cases hz0:cntN (pre.map Ns.s) s.data.toList=0
  ·have hq:(((cntN (pre.map Ns.s) s.data.toList:Nat):Int)+1 == 1)=true:=by rw[hz0];rfl
   have hst:onceN (pre.map Ns.s++[s])=onceN (pre.map Ns.s)++[s]:=by rw[onceN_snoc,if_pos hz0]
   have Hst:=hid hst
   have hL1:(onceN (pre.map Ns.s)).length≤1000000:=by have:=onceN_len (pre.map Ns.s);rw[List.length_map] at this;omega
   have HS1:Hid ((onceN (pre.map Ns.s)).length+1≤maxLen):=hid (by unfold maxLen;omega)
   have HS2:Hid (((onceN (pre.map Ns.s)).length+1) * 16≤140737488355328):=hid (by omega)
   have hn0w:n0≤W.heap.size:=by omega
   clear hz0 hst hL1
   gi_wp2_with (first
    | (gi_at_mapUpdate;refine wpListIn_mapI_put _ rfl _ _ _ 69 rfl 9 3 Tryz.underlying69 Tryz.underlying9 Tryz.underlying3 n0 pre.length (fun s=>(cntN (pre.map Ns.s) s:Int)) c rfl Hm.out (by unfold maxLen;omega) s ((cntN (pre.map Ns.s) s.data.toList:Int)+1) rfl rfl hsz (by omega) (WalkArith.wf_i64 (by omega)) ?_;intro w1 hM hg;rw[Hf.out] at hM;have hM1:=hid hM;have hg1:=hid hg;have m3':w1.cell? ⟨n0+1,0,none⟩=some (.map (some n0)):=(H3.out.kept hg (fun e=>by have:=Option.some.inj e;omega)).cell;have lc':w1.cell? ⟨n0+1+1,0,none⟩=some v:=(H1.out.kept hg (fun e=>by have:=Option.some.inj e;omega)).cell;have hl3':n0+1 < w1.heap.size:=Nat.lt_of_lt_of_le hl3 hg.size;have hll':n0+1+1 < w1.heap.size:=Nat.lt_of_lt_of_le hll hg.size;have O1:=hid (H2.out.kept hg (.inr HvM.out));clear hM hg)
    | (gi_at_lookup;refine wpListIn_mapI_get _ rfl _ _ 69 rfl 9 3 Tryz.underlying69 Tryz.underlying9 Tryz.underlying3 (zE _) n0 pre.length (fun s=>(cntN (pre.map Ns.s) s:Int)) c rfl Hm.out s rfl hsz ?_;intro _)
    | (gi_at_lookup;refine wpListIn_mapI_get _ rfl _ _ 69 rfl 9 3 Tryz.underlying69 Tryz.underlying9 Tryz.underlying3 (zE _) n0 (pre.length+1) (fun n=>(cntN (pre.map Ns.s++[s]) n:Int)) _ rfl hM1.out s rfl hsz ?_;intro _;rw[show ((cntN (pre.map Ns.s++[s]) s.data.toList:Nat):Int)=(cntN (pre.map Ns.s) s.data.toList:Int)+1 from (congrFun Hf.out s.data.toList).symm.trans (updF_same _ _ _)])
    | (gi_at_builtin;refine wpListIn_append_own_at _ rfl _ _ 45 rfl n0 9 i0 _ 1 16 Tryz.underlying45 hi hz0 hz1 hz2 rfl (by decide) v (onceN (pre.map Ns.s)).length _ rfl (O1.out.alloc _) _ 1 1 [.string s] rfl rfl (news_one _ _ _) (one_str _) HS1.out HS2.out (by have:=hg1.out.size;simp;omega) ?_;intro v' w2 hown' hgrow _ hat;obtain⟨ov,cv,rfl⟩:=own_shape hown';have HAp:=hid ((H1.out.kept hg1.out (fun e=>by have:=Option.some.inj e;omega)).appended (by decide) O1.out (by have:=hg1.out.size;omega) (by omega) hown' hgrow);have G2:=hid (grown_past hgrow);have Hat:=hid hat;have lc2:=HAp.out.1.cell;have lf2:=HAp.out.1.frozen;have ll2:=HAp.out.1.lt;have O2:=hid hown';clear hown' hgrow hat))
   have W1:W.grownBy w1 (some n0):=hg1.out
   have B1:Boxed w1 (n0+1+1) 45 v:=H1.out.kept W1 (fun e=>by have:=Option.some.inj e;omega)
   have K1:KO (SV n0 (n0+1+1)) W w1:=sv_step (v:=v) (v':=v) W1.size (fun i hi h1 _ _=>W1.block i hi (fun e=>h1 (Option.some.inj e))) H1.out.cell B1.cell (.inl rfl)
   have D1:Below n0 w w1:=H6.out.grown W1 (by have:=H6.out.size;omega) (fun k e=>by have:=Option.some.inj e;omega)
   have F1:KeepsFrom (n0+4) W w1:=KeepsFrom.of_grownBy W1 (fun j e=>by have:=Option.some.inj e;omega)
   have M1:Boxed w1 (n0+1) 69 (.map (some n0)):=H3.out.kept W1 (fun e=>by have:=Option.some.inj e;omega)
   obtain⟨B2,B3,O3,K3,D3⟩:=HAp.out
   have hsz3:(w2.setCell ⟨n0+1+1,0,none⟩ (.slice ov ((onceN (pre.map Ns.s)).length+1) cv)).heap.size=w2.heap.size:=by simp
   have hsz2:w1.heap.size≤w2.heap.size:=G2.out.size
   have hbk:∀ i,i < w1.heap.size→i≠n0→i≠n0+1+1→some i≠v.ownBlock→(w2.setCell ⟨n0+1+1,0,none⟩ (.slice ov ((onceN (pre.map Ns.s)).length+1) cv)).heap[i]?=w1.heap[i]?:=fun i hi _ h2 h3=>(Below.heap_setCell _ _ _ i (fun e=>h2 e)).trans (G2.out.block i hi h3)
   have K2:KO (SV n0 (n0+1+1)) w1 (w2.setCell ⟨n0+1+1,0,none⟩ (.slice ov ((onceN (pre.map Ns.s)).length+1) cv)):=sv_step (by rw[hsz3];exact hsz2) hbk B1.cell B3.cell (Hat.out.imp id fun h=>⟨_,h,by simp,by
    have:=(O3.lt _ h).2
    exact this⟩)
   have N2:(w2.setCell ⟨n0+1+1,0,none⟩ (.slice ov ((onceN (pre.map Ns.s)).length+1) cv)).heap[n0]?=w1.heap[n0]?:=(Below.heap_setCell _ _ _ n0 (fun e=>by simp at e;omega)).trans (G2.out.block n0 (by have:=D1.size;omega) (fun e=>HvM.out e.symm))
   have M2:Boxed (w2.setCell ⟨n0+1+1,0,none⟩ (.slice ov ((onceN (pre.map Ns.s)).length+1) cv)) (n0+1) 69 (.map (some n0)):=(hbk (n0+1) (by omega) (by omega) (by omega) (M1.not_row (by decide) O1.out)).trans M1
   have F3:KeepsFrom W5.heap.size W (w2.setCell ⟨n0+1+1,0,none⟩ (.slice ov ((onceN (pre.map Ns.s)).length+1) cv)):=by rw[hs5];exact F1.trans (K3.from _)
   refine⟨F3,K1.trans K2,?_⟩
   simp only[List.map_append,List.map_cons,List.map_nil,List.length_append,List.length_cons,List.length_nil,Hst.out]
   exact⟨⟨_,B3,O3,trivial⟩,M2,⟨_,mapI_block hM1.out N2⟩,(H5.out.trans K1).trans K2,D1.trans D3⟩
  ·have hq:(((cntN (pre.map Ns.s) s.data.toList:Nat):Int)+1 == 1)=false:=by
    rw[beq_eq_false_iff_ne]
    omega
   have hst:onceN (pre.map Ns.s++[s])=onceN (pre.map Ns.s):=by rw[onceN_snoc,if_neg hz0]
   have Hst:=hid hst
   clear hst
   gi_wp2_with (first
    | (gi_at_mapUpdate;refine wpListIn_mapI_put _ rfl _ _ _ 69 rfl 9 3 Tryz.underlying69 Tryz.underlying9 Tryz.underlying3 n0 pre.length (fun s=>(cntN (pre.map Ns.s) s:Int)) c rfl Hm.out (by unfold maxLen;omega) s ((cntN (pre.map Ns.s) s.data.toList:Int)+1) rfl rfl hsz (by omega) (WalkArith.wf_i64 (by omega)) ?_;intro w1 hM hg;rw[Hf.out] at hM;have hM1:=hid hM;have hg1:=hid hg;have m3':w1.cell? ⟨n0+1,0,none⟩=some (.map (some n0)):=(H3.out.kept hg (fun e=>by have:=Option.some.inj e;omega)).cell;have hl3':n0+1 < w1.heap.size:=Nat.lt_of_lt_of_le hl3 hg.size;clear hM hg)
    | (gi_at_lookup;refine wpListIn_mapI_get _ rfl _ _ 69 rfl 9 3 Tryz.underlying69 Tryz.underlying9 Tryz.underlying3 (zE _) n0 pre.length (fun s=>(cntN (pre.map Ns.s) s:Int)) c rfl Hm.out s rfl hsz ?_;intro _)
    | (gi_at_lookup;refine wpListIn_mapI_get _ rfl _ _ 69 rfl 9 3 Tryz.underlying69 Tryz.underlying9 Tryz.underlying3 (zE _) n0 (pre.length+1) (fun n=>(cntN (pre.map Ns.s++[s]) n:Int)) _ rfl hM1.out s rfl hsz ?_;intro _;rw[show ((cntN (pre.map Ns.s++[s]) s.data.toList:Nat):Int)=(cntN (pre.map Ns.s) s.data.toList:Int)+1 from (congrFun Hf.out s.data.toList).symm.trans (updF_same _ _ _)]))
   have W1:W.grownBy w1 (some n0):=hg1.out
   have B1:Boxed w1 (n0+1+1) 45 v:=H1.out.kept W1 (fun e=>by have:=Option.some.inj e;omega)
   have O1:=H2.out.kept W1 (.inr HvM.out)
   have K1:KO (SV n0 (n0+1+1)) W w1:=sv_step (v:=v) (v':=v) W1.size (fun i hi h1 _ _=>W1.block i hi (fun e=>h1 (Option.some.inj e))) H1.out.cell B1.cell (.inl rfl)
   have D1:Below n0 w w1:=H6.out.grown W1 (by have:=H6.out.size;omega) (fun k e=>by have:=Option.some.inj e;omega)
   have F1:KeepsFrom W5.heap.size W w1:=by rw[hs5];exact KeepsFrom.of_grownBy W1 (fun j e=>by have:=Option.some.inj e;omega)
   have M1:Boxed w1 (n0+1) 69 (.map (some n0)):=H3.out.kept W1 (fun e=>by have:=Option.some.inj e;omega)
   refine⟨F1,K1,?_⟩
   simp only[List.map_append,List.map_cons,List.map_nil,List.length_append,Hst.out]
   exact⟨⟨v,B1,O1,trivial⟩,M1,⟨_,hM1.out⟩,H5.out.trans K1,D1⟩
 case done=>
  rintro D ys W hD hys ⟨⟨v,h1,h2,_⟩,h3,⟨c,h4⟩,h5,h6⟩ hK
  rw[hys] at h2
  have hDl:D < W.heap.size:=(Array.getElem?_eq_some_iff.1 hK).1
  have hm3:=h1.cell
  have hll:=h1.lt
  have hne:n0+1+1≠D:=by omega
  have Hd:=hid hK
  have H2:=hid h2
  have H6:=hid h6
  obtain⟨ov,cv,rfl⟩:=own_shape h2
  clear h1 h2 h3 h4 h5 h6 hK
  gi_wp2
  refine⟨by simp,.inl ⟨_,_,rfl,run_takeDeferred Hd.out,?_⟩⟩
  refine⟨_,results_tmp rfl _ _ _,_,rfl,?_,?_⟩
  ·rw[hn0]
   refine H2.out.kept (⟨rfl,rfl,rfl,by simp,fun i hi he=>World.putObj_heap_other (fun e=>he (by rw[e]))⟩:W.grownBy (W.putObj D (.deferred none)) (some D)) (.inr fun e=>?_)
   rcases H2.out.2 with ⟨h0,_⟩ | ⟨g,cap,cur,h0,_,hg,_⟩
   ·rw[h0] at e;cases e
   ·rw[h0] at e
    obtain rfl:g=D:=by simpa[Value.ownBlock] using e
    have h:=Hd.out
    rw[hg] at h
    cases h
  ·rw[hn0]
   have D6:=H6.out
   exact⟨D6.os,D6.tape,D6.output,by simpa using D6.size,fun i hi=>(World.putObj_heap_other (by omega)).trans (D6.block i hi)⟩
 case stop=>exact fun _ _ _ _ _ _ h=>h.elim
end Go.Proofs.YtfmldnbcjbflbaaGreatDoor

/- Yrv@0123, Zw@0123, Zvo@0123, Zw2@0123, Zii@0123, Gm2@0123 -/
import Derived.Test.YtakpgcmfjlbcgaaGreatDoorQ21
import Derived.Test.YtakpgcmfjlbcgaaGreatDoorQ22
set_option linter.unusedSimpArgs false
set_option linter.unusedVariables false
namespace Go.Proofs.YtakpgcmfjlbcgaaGreatDoor
open Lib(hid)
open Go.RowKit
theorem info_str:(Tryz.prog.info? 9).map (fun i=>(i.zero,i.size,i.bytes))=some (some (.string ⟨#[]⟩),1,16):=by kernel_rfl
theorem one_str (s:ByteArray):∀ u ∈ [Value.string s],u.oneCell'=true:=by
 intro u hu
 rw[List.mem_singleton.1 hu]
 rfl
theorem str_one (s:ByteArray) (cs:List Value) (h:StrC s cs):∀ u ∈ cs,u.oneCell'=true:=by
 rw[h.1]
 exact one_str s
theorem laid_str {l:List ByteArray} {xs:List Value} (h:Laid 1 StrC l xs):xs=l.map Value.string:=by
 refine List.ext_getElem? fun i=>?_
 rw[List.getElem?_map]
 by_cases hi:i < l.length
 ·obtain⟨s,hs⟩:∃ s,l[i]?=some s:=⟨_,List.getElem?_eq_getElem hi⟩
  obtain⟨cs,_,h1,h2⟩:=h.2 i s hs
  have:=h2 0 (.string s) (by rw[h1.1];rfl)
  rw[hs]
  simpa using this
 ·have hl:=h.1
  rw[List.getElem?_eq_none (by omega),List.getElem?_eq_none (by omega)]
  rfl
theorem str_sizes {w:World} {B:Nat} {l:List ByteArray} {v:Value} (h:SlOf w B 1 StrC l v):∀ s ∈ l,s.size≤maxLen:=fun s hs=>by
 obtain⟨i,hi⟩:=List.mem_iff_getElem?.1 hs
 obtain⟨_,_,_,_,_,h2⟩:=SlOf.uni h
 obtain⟨_,_,_,_,_,h3,_⟩:=h2 i s hi
 exact h3.2
def VarsR (l:List ByteArray) (n0:Nat) (w:World) (e:Ending) (w':World):Prop:=∃ v,e=.returned v∧SlOf w' w'.heap.size 1 StrC l v∧Below n0 w w'
end Go.Proofs.YtakpgcmfjlbcgaaGreatDoor
namespace Go.Proofs.YtakpgcmfjlbcgaaGreatDoor
open Lib(hid)
open Go.RowKit
theorem goZ_left {s u:ZS} {p:Pt} (h:goZ s=some (p,u)):∃ i,nextZ s=some i∧s.left[i]?=some p∧u=s.step i p:=by
 unfold goZ at h
 cases hn:nextZ s with
 | none=>rw[hn] at h;cases h
 | some i=>
  rw[hn] at h
  simp only[Option.bind_some,Option.map_eq_some_iff] at h
  obtain⟨q,hq,e⟩:=h
  cases e
  exact⟨i,rfl,hq,rfl⟩
theorem erase_perm {α:Type}:∀ {l:List α} {i:Nat} {p:α},l[i]?=some p→(p::l.eraseIdx i).Perm l
 | x::l,0,p,h=>by
  have:x=p:=by simpa using h
  subst this
  exact List.Perm.refl _
 | x::l,i+1,p,h=>by
  have:=(erase_perm (l:=l) (i:=i) (p:=p) (by simpa using h)).cons x
  exact (List.Perm.swap x p (l.eraseIdx i)).trans this
theorem seqZ_perm:∀ (k:Nat) (s:ZS),((seqZ k s).1.map (·.1)++(seqZ k s).2.left).Perm s.left
 | 0,s=>by simp[seqZ]
 | k+1,s=>by
  rw[seqZ]
  cases hs:goZ s with
  | none=>simp
  | some q=>
   obtain⟨p,u⟩:=q
   obtain⟨i,_,hp,rfl⟩:=goZ_left hs
   simp only[List.map_cons,List.cons_append]
   have h1:=(seqZ_perm k (s.step i p)).cons p
   refine h1.trans ?_
   exact erase_perm hp
theorem places_range (r:Ru):(partsZ r).map Pt.place=List.range r.body.length:=by
 refine List.ext_getElem? fun i=>?_
 unfold partsZ
 rw[List.getElem?_map,List.getElem?_mapIdx]
 by_cases hi:i < r.body.length
 ·rw[List.getElem?_eq_getElem hi,List.getElem?_eq_getElem (by simpa using hi)]
  simp[ptZ]
 ·rw[List.getElem?_eq_none (by omega),List.getElem?_eq_none (by simpa using hi)]
  rfl
def ordN (r:Ru):List Nat:=(walkZ r).1.map fun x=>x.1.place
theorem orderZ_eq (r:Ru):orderZ r=(ordN r).map fun k:Nat=>(k:Int):=by unfold orderZ ordN;rw[List.map_map];rfl
theorem ord_perm (r:Ru):(ordN r++(walkZ r).2.left.map Pt.place).Perm (List.range r.body.length):=by
 have h:=(seqZ_perm r.body.length (zs0 r)).map Pt.place
 rw[List.map_append,List.map_map] at h
 have e:(zs0 r).left.map Pt.place=List.range r.body.length:=places_range r
 rw[e] at h
 exact h
theorem ord_lt {r:Ru} {k:Nat} (h:k ∈ ordN r):k < r.body.length:=List.mem_range.1 ((ord_perm r).subset (List.mem_append_left _ h))
theorem vz_mem {l:List Tm} {s:ByteArray}:s ∈ vz l ↔ s ∈ occ (subTs l):=onceN_mem _ _
theorem occ_mem {l:List Tm} {s:ByteArray}:s ∈ occ l ↔ ∃ t ∈ l,t.op=1∧t.s=s:=by
 unfold occ
 rw[List.mem_map]
 constructor
 ·rintro⟨t,ht,e⟩
  obtain⟨h1,h2⟩:=List.mem_filter.1 ht
  exact⟨t,h1,by simpa using h2,e⟩
 ·rintro⟨t,h1,h2,e⟩
  exact⟨t,List.mem_filter.2 ⟨h1,by simpa using h2⟩,e⟩
end Go.Proofs.YtakpgcmfjlbcgaaGreatDoor
namespace Go.Proofs.YtakpgcmfjlbcgaaGreatDoor
open Lib(hid)
open Go.RowKit Go.Shelf
attribute [local go_sem] Oper.semAt_some
set_option maxRecDepth 100000 in
set_option maxHeartbeats 8000000 in
theorem zvarsOf_in (l:List Tm) (v:Value) (w:World) (hc:TmS w w.heap.size l v) (hsm:∀ s ∈ occ (subTs l),s.size≤281474976710656) (hlen:(occ (subTs l)).length≤1000000) :
  CallsIn Fence.wide 6 Tryz.prog 102 #[v] w fun e w'=>∃ v,e=.returned v∧w'.ownsRow w.heap.size 9 1 v (onceN (occ (subTs l))).length ((onceN (occ (subTs l))).map Value.string)∧Below w.heap.size w w':=by
 have HC:=hid hc
 obtain⟨o1,k1,rfl,_,_,_⟩:=SlOf.open hc
 have hmm:=@run_makeMap Tryz.prog
 clear hc
 refine callsIn_of_wp_marks Tryz.func102 rfl trivial ?_ rfl
 simp only[Tryz.ntmps102,List.size_toArray,List.length_cons,List.length_nil,Nat.reduceAdd,Nat.reduceSub,Array.replicate_succ,Array.replicate_zero,List.push_toArray,List.append_toArray,List.nil_append,List.cons_append]
 obtain⟨n0,hn0⟩:∃ n0,w.heap.size=n0:=⟨_,rfl⟩
 obtain⟨i0,hi,hz0,hz1,hz2⟩:=info_parts info_str
 gi_wp2_with fail
 obtain⟨W4,hW4⟩:∃ W4,(((w.alloc (.map #[] 0)).alloc (.cells #[.map (some n0)] 90)).alloc (.cells #[.slice none 0 0] 55))=W4:=⟨_,rfl⟩
 have hs4:W4.heap.size=n0+3:=by rw[← hW4];simp;omega
 have hb4:Below n0 w W4:=by
  rw[← hW4]
  exact (((Below.refl n0 w).alloc (by omega) _).alloc (by simp;omega) _).alloc (by simp;omega) _
 have bl4:Boxed W4 (n0+1+1) 55 (.slice none 0 0):=by
  have:=Boxed.new ((w.alloc (.map #[] 0)).alloc (.cells #[.map (some n0)] 90)) 55 (.slice none 0 0)
  rw[hW4] at this
  simpa[hn0] using this
 have bm4:Boxed W4 (n0+1) 90 (.map (some n0)):=by
  have:=(Boxed.new (w.alloc (.map #[] 0)) 90 (.map (some n0))).alloc (.cells #[.slice none 0 0] 55)
  rw[show (w.alloc (.map #[] 0)).heap.size=n0+1 by simp[hn0],hW4] at this
  exact this
 have M4:MapI Tryz.prog W4 9 3 n0 0 (fun _=>0) 0:=by
  have:=((mapI_made Tryz.prog w 9 3).alloc (.cells #[.map (some n0)] 90)).alloc (.cells #[.slice none 0 0] 55)
  rw[hn0,hW4] at this
  exact this
 rw[hW4]
 have HE:=hid (zeach_in 5 o1 l.length k1 W4)
 refine⟨trivial,HE.out.mono ?_⟩
 rintro e W5 ⟨rfl,hW5⟩
 rw[hs4]
 clear hW4
 gi_wp2_with fail
 rw[← hW5]
 have hs5:W5.heap.size=n0+4:=by rw[hW5];simp;omega
 have hb45:Below W4.heap.size W4 W5:=by rw[hW5];exact (Below.refl _ _).alloc (Nat.le_refl _) _
 have hb5:Below n0 w W5:=hb4.trans (hb45.mono (by omega))
 have bl5:Boxed W5 (n0+1+1) 55 (.slice none 0 0):=(hb45.block _ bl4.lt).trans bl4
 have bm5:Boxed W5 (n0+1) 90 (.map (some n0)):=(hb45.block _ bm4.lt).trans bm4
 have M5:=M4.below hb45 M4.lt
 have mb5:∃ o:Obj,W5.heap[n0]?=some o∧o.isCells=false:=by
  obtain⟨D,⟨es,clock,h1,_⟩,_⟩:=M5
  exact⟨_,h1,rfl⟩
 have row5:W5.heap[n0+3]?=some (.cells #[.slice o1 l.length k1] 42 (0,0)):=by rw[hW5,← hs4];exact World.alloc_heap_new W4 _
 have safe:Safe (SV n0 (n0+1+1)) (veil (n0+1+1) W5) W5:=fun p c hp=>by
  obtain⟨h1,h2⟩:=veil_cell hp
  refine⟨h2,World.block_lt_of_cell? _ _ h2,?_⟩
  rintro (h3 | h3 | ⟨v,h3,h4⟩)
  ·obtain⟨o,ho,hc⟩:=cells_of_cell h2
   obtain⟨o',ho',hc'⟩:=mb5
   rw[h3,ho'] at ho
   cases ho
   rw[hc'] at hc
   cases hc
  ·exact h1 h3
  ·rw[bl5.cell] at h3
   cases h3
   cases h4
 have wf5:∀ i,SV n0 (n0+1+1) W5 i→i < W5.heap.size:=by
  rintro i (h3 | h3 | ⟨v,h3,h4⟩)
  ·omega
  ·omega
  ·rw[bl5.cell] at h3
   cases h3
   cases h4
 have hbv:Below n0 w (veil (n0+1+1) W5):=
  ⟨hb5.os,hb5.tape,hb5.output,by unfold veil;simpa using hb5.size,fun i hi=>(World.putObj_heap_other (by omega)).trans (hb5.block i hi)⟩
 have hcv:TmS (veil (n0+1+1) W5) n0 l (.slice o1 l.length k1):=by have:=HC.out;rw[hn0] at this;exact TmS.below this hbv
 have hBv:(veil (n0+1+1) W5).cell? ⟨n0+3,0,none⟩=some (.slice o1 l.length k1):=by
  refine cell_veil ?_ (by show n0+3≠_;omega)
  unfold World.cell?
  simp only[row5]
  rfl
 clear hW5 hmm mb5 M4 bl4 bm4 hb45 HE
 refine wpIn_rangeFunc_ownH rfl (by omega) (gf:=109) (lb:=#[.pointer (some ⟨n0+3,0,none⟩)]) rfl trivial (enters_of Tryz.func109 (by kernel_rfl) rfl)
  (zeach_stops 5 (n0+3) n0 l (.slice o1 l.length k1) (veil (n0+1+1) W5) W5 (SV n0 (n0+1+1)) (sv_grow _ _) safe wf5 hBv hcv (G:=fun s=>s.size≤281474976710656) hsm) (fun h k=>h.trans k) ?hKb (Below.refl _ _) (fun _=>rfl)
  (fun pre W=>(∃ v,Boxed W (n0+1+1) 55 v∧W.ownsRow n0 9 1 v (onceN (pre.map Ns.s)).length ((onceN (pre.map Ns.s)).map Value.string)∧True)∧Boxed W (n0+1) 90 (.map (some n0))∧(∃ c,MapI Tryz.prog W 9 3 n0 pre.length (fun s=>(cntN (pre.map Ns.s) s:Int)) c)∧KO (SV n0 (n0+1+1)) W5 W∧Below n0 w W)
  (fun _ _ _=>False) ?hI (fun _=>fun _ _ _ _ h=>h.elim) ⟨⟨_,bl5,World.ownsRow_nil _ _ _ _,trivial⟩,bm5,⟨0,M5⟩,KO.refl _ _,hb5⟩
  (fun x a' W=>a'={ tmps:=#[.slice o1 l.length k1,undef,.slice none 0 0,.pointer (some ⟨n0+1,0,none⟩),.pointer (some ⟨n0+1+1,0,none⟩),.string x.s,.map (some n0),.slice o1 l.length k1,.func (.func 109) #[] #[.pointer (some ⟨n0+3,0,none⟩)],.string x.s,undef,undef,undef,undef,undef,undef,undef,undef,undef,undef,undef,undef,undef],defers:=[] })
  ?hAx ?assign ?body ?done ?stop
 case hKb=>exact fun W l o o' hl ho hc _=>sv_put W l o o' (by omega) ho hc
 case hI=>
  refine OwnFrom.and (Own.from (holdsRow_own n0 (n0+1+1) 55 9 1 (fun (pre:List (Ns (fun s=>s.size≤281474976710656)))=>(onceN (pre.map Ns.s)).length) (fun pre=>(onceN (pre.map Ns.s)).map Value.string) (fun _ _=>True)) _) (OwnFrom.and (Own.from (boxed_own (n0+1) 90 (fun _=>.map (some n0))) _) ?_)
  rintro pre A B row ⟨⟨c,h1⟩,h2,h3⟩ hg hr
  refine⟨⟨c,h1.kept hg (fun e=>by have:=(hr _ e.symm).1;omega)⟩,h2.trans ?_,ownFrom_below (β:=Unit) (by rw[hn0];exact Nat.le_refl _) (by omega) () A B row h3 hg hr⟩
  have hL:n0+1+1 < A.heap.size:=by have:=h2.size;omega
  have hcell:B.cell? ⟨n0+1+1,0,none⟩=A.cell? ⟨n0+1+1,0,none⟩:=World.cell?_of_block (hg.block _ hL (fun e=>by have h:=(hr _ e.symm).1;change W5.heap.size≤n0+1+1 at h;omega))
  refine⟨hg.size,fun i o ho hc _=>(hg.block i (Array.getElem?_eq_some_iff.1 ho).1 (fun e=>?_)).trans ho,fun i h=>.inl (sv_cell hcell i h),fun hw i hi=>Nat.lt_of_lt_of_le (hw i (sv_cell hcell i hi)) hg.size⟩
  obtain⟨_,o',ho',hc'⟩:=hr _ e.symm
  rw[ho] at ho'
  cases ho'
  rw[hc] at hc'
  cases hc'
 case hAx=>exact fun x a' _ A B row h _ _=>h
 case assign=>
  rintro lp pre ⟨s,gd'⟩ W K hI hK
  have HK:=hid (hK _ W (KeepsFrom.refl _ _) (KO.refl _ _) hI rfl)
  clear hK hI
  simp only[Ns.enc]
  gi_wp2
  exact HK.out
 case body=>
  rintro lp pre ⟨s,gd'⟩ a' W hlp hrec ⟨⟨v,h1,h2,_⟩,h3,⟨c,h4⟩,h5,h6⟩ rfl hlen2
  have hsz:s.size≤maxLen:=Nat.le_trans gd' (by decide)
  have hm3:=h3.cell
  have hl3:=h3.lt
  have hlc:=h1.cell
  have hll:=h1.lt
  have Hm:=hid h4
  have hcl:cntN (pre.map Ns.s) s.data.toList≤pre.length:=by have:=cntN_le (pre.map Ns.s) s.data.toList;rwa [List.length_map] at this
  have hct0:(0:Int)≤(cntN (pre.map Ns.s) s.data.toList:Int):=by omega
  have hct1:(cntN (pre.map Ns.s) s.data.toList:Int)≤1000000:=by omega
  have hvM:v.ownBlock≠some n0:=by
   intro e
   rcases h2.2 with ⟨rfl,_⟩ | ⟨g,cap,cur,rfl,_,hg,_⟩
   ·cases e
   ·obtain rfl:g=n0:=by simpa[Value.ownBlock] using e
    obtain⟨D,⟨es,clock,hm,_⟩,_⟩:=h4
    rw[hm] at hg
    cases hg
  have hf:updF (fun s=>(cntN (pre.map Ns.s) s:Int)) s.data.toList ((cntN (pre.map Ns.s) s.data.toList:Int)+1)=fun n=>(cntN (pre.map Ns.s++[s]) n:Int):=by
   funext n
   rw[cntN_snoc]
   by_cases e:n=s.data.toList
   ·subst e;rw[updF_same,if_pos rfl];omega
   ·rw[updF_other _ _ e,if_neg (fun h=>e h.symm)];omega
  have zE:∀ w:World,(zeroValue 3).run Tryz.prog w=.ok (.int .i64 0) w:=fun w=>by kernel_rfl
  have H1:=hid h1
  have H2:=hid h2
  have H3:=hid h3
  have H5:=hid h5
  have H6:=hid h6
  have HvM:=hid hvM
  have Hf:=hid hf
  clear h1 h2 h3 h4 h5 h6 hvM hf
  by_cases hz0:cntN (pre.map Ns.s) s.data.toList=0
  ·have hq:(((cntN (pre.map Ns.s) s.data.toList:Nat):Int)+1 == 1)=true:=by rw[hz0];rfl
   have hst:onceN (pre.map Ns.s++[s])=onceN (pre.map Ns.s)++[s]:=by rw[onceN_snoc,if_pos hz0]
   have Hst:=hid hst
   have hL1:(onceN (pre.map Ns.s)).length≤1000000:=by have:=onceN_len (pre.map Ns.s);rw[List.length_map] at this;omega
   have HS1:Hid ((onceN (pre.map Ns.s)).length+1≤maxLen):=hid (by unfold maxLen;omega)
   have HS2:Hid (((onceN (pre.map Ns.s)).length+1) * 16≤140737488355328):=hid (by omega)
   have hn0w:n0≤W.heap.size:=by omega
   clear hz0 hst hL1
   gi_wp2_with (first
    | (gi_at_mapUpdate;refine wpListIn_mapI_put _ rfl _ _ _ 90 rfl 9 3 Tryz.underlying90 Tryz.underlying9 Tryz.underlying3 n0 pre.length (fun s=>(cntN (pre.map Ns.s) s:Int)) c rfl Hm.out (by unfold maxLen;omega) s ((cntN (pre.map Ns.s) s.data.toList:Int)+1) rfl rfl hsz (by omega) (WalkArith.wf_i64 (by omega)) ?_;intro w1 hM hg;rw[Hf.out] at hM;have hM1:=hid hM;have hg1:=hid hg;have m3':w1.cell? ⟨n0+1,0,none⟩=some (.map (some n0)):=(H3.out.kept hg (fun e=>by have:=Option.some.inj e;omega)).cell;have lc':w1.cell? ⟨n0+1+1,0,none⟩=some v:=(H1.out.kept hg (fun e=>by have:=Option.some.inj e;omega)).cell;have hl3':n0+1 < w1.heap.size:=Nat.lt_of_lt_of_le hl3 hg.size;have hll':n0+1+1 < w1.heap.size:=Nat.lt_of_lt_of_le hll hg.size;have O1:=hid (H2.out.kept hg (.inr HvM.out));clear hM hg)
    | (gi_at_lookup;refine wpListIn_mapI_get _ rfl _ _ 90 rfl 9 3 Tryz.underlying90 Tryz.underlying9 Tryz.underlying3 (zE _) n0 pre.length (fun s=>(cntN (pre.map Ns.s) s:Int)) c rfl Hm.out s rfl hsz ?_;intro _)
    | (gi_at_lookup;refine wpListIn_mapI_get _ rfl _ _ 90 rfl 9 3 Tryz.underlying90 Tryz.underlying9 Tryz.underlying3 (zE _) n0 (pre.length+1) (fun n=>(cntN (pre.map Ns.s++[s]) n:Int)) _ rfl hM1.out s rfl hsz ?_;intro _;rw[show ((cntN (pre.map Ns.s++[s]) s.data.toList:Nat):Int)=(cntN (pre.map Ns.s) s.data.toList:Int)+1 from (congrFun Hf.out s.data.toList).symm.trans (updF_same _ _ _)])
    | (gi_at_builtin;refine wpListIn_append_own_at _ rfl _ _ 55 rfl n0 9 i0 _ 1 16 Tryz.underlying55 hi hz0 hz1 hz2 rfl (by decide) v (onceN (pre.map Ns.s)).length _ rfl (O1.out.alloc _) _ 1 1 [.string s] rfl rfl (news_one _ _ _) (one_str _) HS1.out HS2.out (by have:=hg1.out.size;simp;omega) ?_;intro v' w2 hown' hgrow _ hat;obtain⟨ov,cv,rfl⟩:=own_shape hown';have HAp:=hid ((H1.out.kept hg1.out (fun e=>by have:=Option.some.inj e;omega)).appended (by decide) O1.out (by have:=hg1.out.size;omega) (by omega) hown' hgrow);have G2:=hid (grown_past hgrow);have Hat:=hid hat;have lc2:=HAp.out.1.cell;have lf2:=HAp.out.1.frozen;have ll2:=HAp.out.1.lt;have O2:=hid hown';clear hown' hgrow hat))
   have W1:W.grownBy w1 (some n0):=hg1.out
   have B1:Boxed w1 (n0+1+1) 55 v:=H1.out.kept W1 (fun e=>by have:=Option.some.inj e;omega)
   have K1:KO (SV n0 (n0+1+1)) W w1:=sv_step (v:=v) (v':=v) W1.size (fun i hi h1 _ _=>W1.block i hi (fun e=>h1 (Option.some.inj e))) H1.out.cell B1.cell (.inl rfl)
   have D1:Below n0 w w1:=H6.out.grown W1 (by have:=H6.out.size;omega) (fun k e=>by have:=Option.some.inj e;omega)
   have F1:KeepsFrom (n0+4) W w1:=KeepsFrom.of_grownBy W1 (fun j e=>by have:=Option.some.inj e;omega)
   have M1:Boxed w1 (n0+1) 90 (.map (some n0)):=H3.out.kept W1 (fun e=>by have:=Option.some.inj e;omega)
   obtain⟨B2,B3,O3,K3,D3⟩:=HAp.out
   have hsz3:(w2.setCell ⟨n0+1+1,0,none⟩ (.slice ov ((onceN (pre.map Ns.s)).length+1) cv)).heap.size=w2.heap.size:=by simp
   have hsz2:w1.heap.size≤w2.heap.size:=G2.out.size
   have hbk:∀ i,i < w1.heap.size→i≠n0→i≠n0+1+1→some i≠v.ownBlock→(w2.setCell ⟨n0+1+1,0,none⟩ (.slice ov ((onceN (pre.map Ns.s)).length+1) cv)).heap[i]?=w1.heap[i]?:=fun i hi _ h2 h3=>(Below.heap_setCell _ _ _ i (fun e=>h2 e)).trans (G2.out.block i hi h3)
   have K2:KO (SV n0 (n0+1+1)) w1 (w2.setCell ⟨n0+1+1,0,none⟩ (.slice ov ((onceN (pre.map Ns.s)).length+1) cv)):=sv_step (by rw[hsz3];exact hsz2) hbk B1.cell B3.cell (Hat.out.imp id fun h=>⟨_,h,by simp,by
    have:=(O3.lt _ h).2
    exact this⟩)
   have N2:(w2.setCell ⟨n0+1+1,0,none⟩ (.slice ov ((onceN (pre.map Ns.s)).length+1) cv)).heap[n0]?=w1.heap[n0]?:=(Below.heap_setCell _ _ _ n0 (fun e=>by simp at e;omega)).trans (G2.out.block n0 (by have:=D1.size;omega) (fun e=>HvM.out e.symm))
   have M2:Boxed (w2.setCell ⟨n0+1+1,0,none⟩ (.slice ov ((onceN (pre.map Ns.s)).length+1) cv)) (n0+1) 90 (.map (some n0)):=(hbk (n0+1) (by omega) (by omega) (by omega) (M1.not_row (by decide) O1.out)).trans M1
   have F3:KeepsFrom W5.heap.size W (w2.setCell ⟨n0+1+1,0,none⟩ (.slice ov ((onceN (pre.map Ns.s)).length+1) cv)):=by rw[hs5];exact F1.trans (K3.from _)
   refine⟨F3,K1.trans K2,?_⟩
   simp only[List.map_append,List.map_cons,List.map_nil,List.length_append,List.length_cons,List.length_nil,Hst.out]
   exact⟨⟨_,B3,O3,trivial⟩,M2,⟨_,mapI_block hM1.out N2⟩,(H5.out.trans K1).trans K2,D1.trans D3⟩
  ·have hq:(((cntN (pre.map Ns.s) s.data.toList:Nat):Int)+1 == 1)=false:=by
    rw[beq_eq_false_iff_ne]
    omega
   have hst:onceN (pre.map Ns.s++[s])=onceN (pre.map Ns.s):=by rw[onceN_snoc,if_neg hz0]
   have Hst:=hid hst
   clear hst
   gi_wp2_with (first
    | (gi_at_mapUpdate;refine wpListIn_mapI_put _ rfl _ _ _ 90 rfl 9 3 Tryz.underlying90 Tryz.underlying9 Tryz.underlying3 n0 pre.length (fun s=>(cntN (pre.map Ns.s) s:Int)) c rfl Hm.out (by unfold maxLen;omega) s ((cntN (pre.map Ns.s) s.data.toList:Int)+1) rfl rfl hsz (by omega) (WalkArith.wf_i64 (by omega)) ?_;intro w1 hM hg;rw[Hf.out] at hM;have hM1:=hid hM;have hg1:=hid hg;have m3':w1.cell? ⟨n0+1,0,none⟩=some (.map (some n0)):=(H3.out.kept hg (fun e=>by have:=Option.some.inj e;omega)).cell;have hl3':n0+1 < w1.heap.size:=Nat.lt_of_lt_of_le hl3 hg.size;clear hM hg)
    | (gi_at_lookup;refine wpListIn_mapI_get _ rfl _ _ 90 rfl 9 3 Tryz.underlying90 Tryz.underlying9 Tryz.underlying3 (zE _) n0 pre.length (fun s=>(cntN (pre.map Ns.s) s:Int)) c rfl Hm.out s rfl hsz ?_;intro _)
    | (gi_at_lookup;refine wpListIn_mapI_get _ rfl _ _ 90 rfl 9 3 Tryz.underlying90 Tryz.underlying9 Tryz.underlying3 (zE _) n0 (pre.length+1) (fun n=>(cntN (pre.map Ns.s++[s]) n:Int)) _ rfl hM1.out s rfl hsz ?_;intro _;rw[show ((cntN (pre.map Ns.s++[s]) s.data.toList:Nat):Int)=(cntN (pre.map Ns.s) s.data.toList:Int)+1 from (congrFun Hf.out s.data.toList).symm.trans (updF_same _ _ _)]))
   have W1:W.grownBy w1 (some n0):=hg1.out
   have B1:Boxed w1 (n0+1+1) 55 v:=H1.out.kept W1 (fun e=>by have:=Option.some.inj e;omega)
   have O1:=H2.out.kept W1 (.inr HvM.out)
   have K1:KO (SV n0 (n0+1+1)) W w1:=sv_step (v:=v) (v':=v) W1.size (fun i hi h1 _ _=>W1.block i hi (fun e=>h1 (Option.some.inj e))) H1.out.cell B1.cell (.inl rfl)
   have D1:Below n0 w w1:=H6.out.grown W1 (by have:=H6.out.size;omega) (fun k e=>by have:=Option.some.inj e;omega)
   have F1:KeepsFrom W5.heap.size W w1:=by rw[hs5];exact KeepsFrom.of_grownBy W1 (fun j e=>by have:=Option.some.inj e;omega)
   have M1:Boxed w1 (n0+1) 90 (.map (some n0)):=H3.out.kept W1 (fun e=>by have:=Option.some.inj e;omega)
   refine⟨F1,K1,?_⟩
   simp only[List.map_append,List.map_cons,List.map_nil,List.length_append,Hst.out]
   exact⟨⟨v,B1,O1,trivial⟩,M1,⟨_,hM1.out⟩,H5.out.trans K1,D1⟩
 case done=>
  rintro D ys W hD hys ⟨⟨v,h1,h2,_⟩,h3,⟨c,h4⟩,h5,h6⟩ hK
  rw[hys] at h2
  have hDl:D < W.heap.size:=(Array.getElem?_eq_some_iff.1 hK).1
  have hm3:=h1.cell
  have hll:=h1.lt
  have hne:n0+1+1≠D:=by omega
  have Hd:=hid hK
  have H2:=hid h2
  have H6:=hid h6
  obtain⟨ov,cv,rfl⟩:=own_shape h2
  clear h1 h2 h3 h4 h5 h6 hK
  gi_wp2
  refine⟨by simp,.inl ⟨_,_,rfl,run_takeDeferred Hd.out,?_⟩⟩
  refine⟨_,results_tmp rfl _ _ _,_,rfl,?_,?_⟩
  ·rw[hn0]
   refine H2.out.kept (⟨rfl,rfl,rfl,by simp,fun i hi he=>World.putObj_heap_other (fun e=>he (by rw[e]))⟩:W.grownBy (W.putObj D (.deferred none)) (some D)) (.inr fun e=>?_)
   rcases H2.out.2 with ⟨h0,_⟩ | ⟨g,cap,cur,h0,_,hg,_⟩
   ·rw[h0] at e;cases e
   ·rw[h0] at e
    obtain rfl:g=D:=by simpa[Value.ownBlock] using e
    have h:=Hd.out
    rw[hg] at h
    cases h
  ·rw[hn0]
   have D6:=H6.out
   exact⟨D6.os,D6.tape,D6.output,by simpa using D6.size,fun i hi=>(World.putObj_heap_other (by omega)).trans (D6.block i hi)⟩
 case stop=>exact fun _ _ _ _ _ _ h=>h.elim
end Go.Proofs.YtakpgcmfjlbcgaaGreatDoor
namespace Go.Proofs.YtakpgcmfjlbcgaaGreatDoor
open Lib(hid)
open Go.RowKit
theorem placesL_app:∀ (a b:List Lt),placesL (a++b)=placesL a++placesL b
 | [],_=>rfl
 | l::a,b=>by simp only[List.cons_append,placesL,placesL_app a b,List.append_assoc]
structure PlainAt (r:Ru) (L:Lt):Prop where
 op:L.op=1
 x:occ (subTs [L.x])=[]
 y:occ (subTs [L.y])=[]
 arg:∀ t ∈ L.a.l,t.l=[]∧((t.op=1∧hasZ (boundZ r) t.s=true)∨t.op=2)
theorem occ_plain:∀ {l:List Tm},(∀ t ∈ l,t.l=[])→subTs l=l
 | [],_=>by rw[subTs]
 | t::l,h=>by
  rw[subTs,subT_eq,h t (List.mem_cons_self ..),subTs,occ_plain fun u hu=>h u (List.mem_cons_of_mem _ hu)]
  rfl
theorem PlainAt.bound {r:Ru} {L:Lt} (h:PlainAt r L) {s:ByteArray} (hs:s ∈ occ (subTs L.a.l)):hasZ (boundZ r) s=true:=by
 rw[occ_plain fun t ht=>(h.arg t ht).1,occ_mem] at hs
 obtain⟨t,ht,h1,rfl⟩:=hs
 rcases (h.arg t ht).2 with h2 | h2
 ·exact h2.2
 ·omega
theorem PlainAt.place {r:Ru} {L:Lt} (h:PlainAt r L) {s:ByteArray} (hs:s ∈ vz ((L.y::L.a.l)++[L.x])):hasZ (boundZ r) s=true:=by
 rw[vz_mem,occ_mem] at hs
 obtain⟨t,ht,h1,rfl⟩:=hs
 obtain⟨u,hu,hk⟩:=mem_subTs.1 ht
 have no:∀ v,occ (subTs [v])=[]→t ∈ subT v→False:=fun v hv hh=>by
  have:t.s ∈ occ (subTs [v]):=occ_mem.2 ⟨t,mem_subTs.2 ⟨v,List.mem_cons_self ..,hh⟩,h1,rfl⟩
  rw[hv] at this
  cases this
 simp only[List.cons_append,List.mem_cons,List.mem_append,List.not_mem_nil,or_false] at hu
 rcases hu with rfl | hu | rfl
 ·exact (no _ h.y hk).elim
 ·exact h.bound (occ_mem.2 ⟨t,mem_subTs.2 ⟨u,hu,hk⟩,h1,rfl⟩)
 ·exact (no _ h.x hk).elim
def ZS.and (s:ZS) (n:Pt):ZS:=⟨s.left++[n],s.B,s.done⟩
end Go.Proofs.YtakpgcmfjlbcgaaGreatDoor
namespace Go.Proofs.YtakpgcmfjlbcgaaGreatDoor
open Lib(hid)
open Go.RowKit
def memI (l:List Int) (s:Int):Bool:=l.any fun x=>s == x
theorem memI_no {l:List Int} {s:Int} (h:∀ x ∈ l,(s == x)=false):memI l s=false:=by
 unfold memI
 rw[List.any_eq_false]
 exact fun x hx=>by rw[h x hx];decide
theorem memI_yes {l:List Int} {s x:Int} (hx:x ∈ l) (h:(s == x)=true):memI l s=true:=by
 unfold memI
 rw[List.any_eq_true]
 exact⟨x,hx,h⟩
set_option maxRecDepth 100000 in
set_option maxHeartbeats 4000000 in
theorem indexI_c (l:List Int) (s:Int) (v:Value) (w:World) (hv:SlOf w w.heap.size 1 IntC l v) :
  Calls Tryz.prog 108 #[v,.int .i64 s] w fun e w'=>(∃ k:Int,e=.returned (.int .i64 k)∧(0≤k ↔ memI l s=true))∧w'=w:=by
 obtain⟨o1,k1,rfl,_,hk1,S1⟩:=SlOf.open hv
 have hB0:Below w.heap.size w w:=Below.refl _ _
 clear hv
 go_enter Tryz.func108,Tryz.ntmps108
 go_wp2
 go_loopw [8] (fun i wr=>∃ k:Nat,k≤l.length∧i=.int .i64 k∧(∀ x ∈ l.take k,(s == x)=false)∧wr=w) (fun i _=>l.length - (intOf i).toNat)
 case atStart=>exact⟨0,Nat.zero_le _,rfl,fun x h=>by simp at h,rfl⟩
 case round=>
  obtain⟨k,hk,rfl,ha,rfl⟩:=hrel
  have Ha:=hid ha
  clear ha
  by_cases hlt:k < l.length
  ·have hlt':(k:Int) < (l.length:Int):=by omega
   have hk0:(0:Int)≤(k:Int):=by omega
   obtain⟨x,hx⟩:∃ x,l[k]?=some x:=⟨l[k],List.getElem?_eq_getElem hlt⟩
   obtain⟨p,rfl,hp,hsz,c0⟩:=int_at S1 hB0 hx
   cases hxy:(s == x) with
   | true=>
    have Hq:Hid (memI l s=true):=hid (memI_yes (List.mem_of_getElem? hx) hxy)
    clear hx
    go_wp2
    go_ret
    exact⟨⟨_,rfl,⟨fun _=>Hq.out,fun _=>hk0⟩⟩,rfl⟩
   | false=>
    have Hz:Hid (∀ y ∈ l.take (k+1),(s == y)=false):=hid fun y hy=>by
     rw[List.take_add_one,hx] at hy
     rcases List.mem_append.1 hy with hy | hy
     ·exact Ha.out y hy
     ·obtain rfl:y=x:=by simpa using hy
      exact hxy
    clear hx
    go_wp2
    go_roundw
    case rel=>exact⟨k+1,hlt,by go_num,Hz.out,by trivial⟩
    case measure=>simp[intOf];omega
  ·have hlt':¬ (k:Int) < (l.length:Int):=by omega
   have Hq:Hid (memI l s=false):=hid (by have h:=Ha.out;rw[List.take_of_length_le (by omega)] at h;exact memI_no h)
   go_wp2
   go_ret
   exact⟨⟨_,rfl,⟨fun h=>absurd h (by decide),fun h=>by rw[Hq.out] at h;cases h⟩⟩,rfl⟩
set_option maxRecDepth 100000 in
set_option maxHeartbeats 4000000 in
theorem containsI_c (l:List Int) (s:Int) (v:Value) (w:World) (hv:SlOf w w.heap.size 1 IntC l v) :
  Calls Tryz.prog 72 #[v,.int .i64 s] w fun e w'=>e=.returned (.bool (memI l s))∧w'=w:=by
 have HI:=hid (indexI_c l s v w hv)
 go_enter Tryz.func72,Tryz.ntmps72
 go_wp2_with fail
 refine HI.out.mono ?_
 rintro e w1 ⟨⟨k,rfl,hk⟩,rfl⟩
 by_cases h0:(0:Int)≤k
 ·have Hq:=hid (hk.1 h0)
  have h0':decide ((0:Int)≤k)=true:=by simp[h0]
  clear hk
  go_wp2
  go_ret
  exact⟨by rw[Hq.out];rfl,rfl⟩
 ·have Hq:Hid (memI l s=false):=hid (Bool.eq_false_iff.2 fun h=>h0 (hk.2 h))
  have h0':decide ((0:Int)≤k)=false:=by simp[h0]
  clear hk
  go_wp2
  go_ret
  exact⟨by rw[Hq.out];rfl,rfl⟩
end Go.Proofs.YtakpgcmfjlbcgaaGreatDoor
namespace Go.Proofs.YtakpgcmfjlbcgaaGreatDoor
open Lib(hid)
theorem filter_less {α:Type} {p q:α→Bool}:∀ {l:List α},(∀ x ∈ l,p x=true→q x=true)→(l.filter p).length≤(l.filter q).length
 | [],_=>Nat.le_refl _
 | x::l,h=>by
  have ih:=filter_less (l:=l) fun y hy=>h y (List.mem_cons_of_mem _ hy)
  have hx:=h x (List.mem_cons_self ..)
  rw[List.filter_cons,List.filter_cons]
  cases hp:p x with
  | true=>rw[if_pos rfl,if_pos (hx hp)];simp only[List.length_cons];omega
  | false=>
   rw[if_neg (by decide)]
   split
   ·simp only[List.length_cons];omega
   ·exact ih
theorem filter_lt {α:Type} {p q:α→Bool}:∀ {l:List α},(∀ x ∈ l,p x=true→q x=true)→(∃ y ∈ l,q y=true∧p y=false)→(l.filter p).length < (l.filter q).length
 | [],_,⟨_,hy,_⟩=>absurd hy List.not_mem_nil
 | x::l,h,⟨y,hy,h1,h2⟩=>by
  have hl:∀ z ∈ l,p z=true→q z=true:=fun z hz=>h z (List.mem_cons_of_mem _ hz)
  rw[List.filter_cons,List.filter_cons]
  rcases List.mem_cons.1 hy with e | hy
  ·subst e
   rw[if_neg (by rw[h2];decide),if_pos h1]
   have:=filter_less hl
   simp only[List.length_cons]
   omega
  ·have ih:=filter_lt hl ⟨y,hy,h1,h2⟩
   have hx:=h x (List.mem_cons_self ..)
   cases hp:p x with
   | true=>rw[if_pos rfl,if_pos (hx hp)];simp only[List.length_cons];omega
   | false=>
    rw[if_neg (by decide)]
    split
    ·simp only[List.length_cons];omega
    ·exact ih
open Classical in
noncomputable def rchB (E:Ed) (a b:Nat):Bool:=decide (Rch E a b)
theorem rchB_iff {E:Ed} {a b:Nat}:rchB E a b=true ↔ Rch E a b:=by unfold rchB;exact @decide_eq_true_iff _ (Classical.propDecidable _)
theorem pickG_all {E:Ed} {n:Nat} (hE:∀ x ∈ E,x.2 < n) {D:List Nat} (h:pickG E n D=none):∀ a,a < n→a ∈ D:=by
 have hno:∀ a,a < n→¬ NextG E D a:=fun a ha hn=>by
  unfold pickG at h
  rw[List.find?_eq_none] at h
  exact h a (List.mem_range.2 ha) (nextB_iff.2 hn)
 have key:∀ (m a:Nat),((List.range n).filter (rchB E a)).length≤m→a < n→a ∈ D:=by
  intro m
  induction m with
  | zero=>
   intro a hm ha
   have:a ∈ (List.range n).filter (rchB E a):=List.mem_filter.2 ⟨List.mem_range.2 ha,rchB_iff.2 (.refl a)⟩
   have:=List.length_pos_of_mem this
   omega
  | succ m ih=>
   intro a hm ha
   refine Classical.byContradiction fun hD=>?_
   refine hno a ha ⟨hD,fun b hb=>?_⟩
   by_cases hba:Rch E b a
   ·exact .inr ⟨hb,hba⟩
   ·refine .inl (ih b ?_ (rch_lt hE ha hb))
    have hbn:=rch_lt hE ha hb
    have:=filter_lt (l:=List.range n) (p:=rchB E b) (q:=rchB E a) (fun x _ hx=>rchB_iff.2 (hb.trans (rchB_iff.1 hx)))
     ⟨a,List.mem_range.2 ha,rchB_iff.2 (.refl a),by
      cases hh:rchB E b a with
      | false=>rfl
      | true=>exact absurd (rchB_iff.1 hh) hba⟩
    omega
 exact fun a ha=>key _ a (Nat.le_refl _) ha
theorem range_rise (n:Nat):(List.range n).Pairwise (· < ·):=List.pairwise_lt_range
theorem grp_rise (E:Ed) (n a:Nat):(grpG E n a).Pairwise (· < ·):=(range_rise n).filter _
theorem grp_nodup (E:Ed) (n a:Nat):(grpG E n a).Nodup:=(grp_rise E n a).imp fun h=>Nat.ne_of_lt h
structure Whole (E:Ed) (n:Nat) (D:List Nat):Prop where
 nd:D.Nodup
 lt:∀ a ∈ D,a < n
 mu:∀ a ∈ D,∀ b,b < n→Mut E a b→b ∈ D
theorem Whole.nil (E:Ed) (n:Nat):Whole E n []:=⟨List.nodup_nil,by simp,by simp⟩
theorem Whole.more {E:Ed} {n a:Nat} {D:List Nat} (h:Whole E n D) (hp:pickG E n D=some a):Whole E n (D++grpG E n a):=by
 obtain⟨ha,hn⟩:=pickG_spec hp
 refine⟨?_,fun b hb=>?_,fun b hb c hc hm=>?_⟩
 ·rw[List.nodup_append]
  refine⟨h.nd,grp_nodup E n a,fun x hx y hy e=>?_⟩
  subst e
  exact hn.1 (h.mu x hx a ha (grp_mem.1 hy).2.symm)
 ·rcases List.mem_append.1 hb with hb | hb
  ·exact h.lt b hb
  ·exact (grp_mem.1 hb).1
 ·rcases List.mem_append.1 hb with hb | hb
  ·exact List.mem_append_left _ (h.mu b hb c hc hm)
  ·exact List.mem_append_right _ (grp_mem.2 ⟨hc,(grp_mem.1 hb).2.trans hm⟩)
theorem grpR_flat {E:Ed} {n:Nat} (hE:∀ x ∈ E,x.2 < n) {D:List Nat} {L:List (List Nat)} (h:GrpR E n D L) (hw:Whole E n D):(D++L.flatten).Nodup∧(∀ a,a ∈ D++L.flatten ↔ a < n)∧∀ g ∈ L,g.Pairwise (· < ·)∧g≠[]:=by
 induction h with
 | stop h1=>
  refine⟨by simpa using hw.nd,fun a=>?_,by simp⟩
  simp only[List.flatten_nil,List.append_nil]
  exact⟨hw.lt a,pickG_all hE h1 a⟩
 | @more D a L h1 _ ih=>
  obtain⟨i1,i2,i3⟩:=ih (hw.more h1)
  rw[List.append_assoc] at i1 i2
  refine⟨by rw[List.flatten_cons];exact i1,fun b=>by rw[List.flatten_cons];exact i2 b,fun g hg=>?_⟩
  rcases List.mem_cons.1 hg with e | hg
  ·subst e
   exact⟨grp_rise E n a,List.ne_nil_of_mem (grp_mem.2 ⟨(pickG_spec h1).1,Mut.refl E a⟩)⟩
  ·exact i3 g hg
end Go.Proofs.YtakpgcmfjlbcgaaGreatDoor

/- Ggp@0123 -/
import Derived.Test.YtakpgcmfjlbcgaaGreatDoorQ37
import Derived.Test.YtakpgcmfjlbcgaaGreatDoorQ38
set_option linter.unusedSimpArgs false
set_option linter.unusedVariables false
namespace Go.Proofs.YtakpgcmfjlbcgaaGreatDoor
open Lib(hid)
open Go.RowKit Go.Maps
theorem infoHd:(Tryz.prog.info? 39).map (fun i=>(i.zero,i.size,i.bytes))=some (some (.slice none 0 0),1,24):=by kernel_rfl
def slotsP:List (Option Tmp):=[some 10,some 11,some 12,some 13,some 14,some 4,some 5]
def factM (b:Nat) (u:Value) (w:World):Prop:=∃ M,u=.map (some M)∧SetG w M 0 []∧b≤M
def factL (b n:Nat) (u:Value) (w:World):Prop:=∃ g,u=.slice (some ⟨g,0,none⟩) 0 n∧w.ownsRow b 3 1 u 0 []
def factsP (n0 b n:Nat) (v:Value):List (Value→World→Prop):=
 [factM b,fun u _=>u=.pointer (some ⟨n0,1,none⟩),fun u _=>u=v,fun u _=>u=.int .i64 (n:Int),factL b n,factM b,factL b n]
theorem factM_below {b:Nat} {u:Value} {w w':World} (h:factM b u w) (hb:Below w.heap.size w w'):factM b u w':=by
 obtain⟨M,h1,h2,h3⟩:=h
 exact⟨M,h1,h2.below hb h2.lt,h3⟩
theorem factL_below {b n:Nat} {u:Value} {w w':World} (h:factL b n u w) (hb:Below w.heap.size w w'):factL b n u w':=by
 obtain⟨M,h1,h2⟩:=h
 exact⟨M,h1,ownB h2 hb⟩
theorem lastsP (n0 b n:Nat) (v:Value):Lasts (factsP n0 b n v):=by
 intro p hp
 unfold factsP at hp
 simp only[List.mem_cons,List.not_mem_nil,or_false] at hp
 rcases hp with rfl | rfl | rfl | rfl | rfl | rfl | rfl <;> intro v w w' h hb <;> first | exact h | exact factM_below h hb | exact factL_below h hb
structure CurG (E:Ed) (n k:Nat) (F D vs cur:List Nat):Prop where
 mem:∀ x,x ∈ D ↔ x ∈ F++cur
 len:D.length=F.length+cur.length
 nd:cur.Nodup
 sub:∀ x ∈ cur,x ∈ vs∧x ∈ grpG E n k
 all:∀ x ∈ vs,x ∈ grpG E n k→x ∈ cur
theorem CurG.old {E:Ed} {n k y:Nat} {F D vs cur:List Nat} (h:CurG E n k F D vs cur) (hy:y ∉ grpG E n k):CurG E n k F D (vs++[y]) cur:=
 ⟨h.mem,h.len,h.nd,fun x hx=>⟨List.mem_append_left _ (h.sub x hx).1,(h.sub x hx).2⟩,fun x hx hg=>by
  rcases List.mem_append.1 hx with hx | hx
  ·exact h.all x hx hg
  ·rw[List.mem_singleton.1 hx] at hg;exact absurd hg hy⟩
theorem CurG.new {E:Ed} {n k y:Nat} {F D vs cur:List Nat} (h:CurG E n k F D vs cur) (hy:y ∈ grpG E n k) (hv:y ∉ vs):CurG E n k F (D++[y]) (vs++[y]) (cur++[y]):=by
 refine⟨fun x=>?_,by simp[h.len];omega,?_,fun x hx=>?_,fun x hx hg=>?_⟩
 ·rw[List.mem_append,h.mem,← List.append_assoc,List.mem_append (s:=F++cur)]
 ·rw[List.nodup_append]
  exact⟨h.nd,by simp,fun u hu x hx e=>by rw[List.mem_singleton.1 hx] at e;exact hv (e ▸ (h.sub u hu).1)⟩
 ·rcases List.mem_append.1 hx with hx | hx
  ·exact⟨List.mem_append_left _ (h.sub x hx).1,(h.sub x hx).2⟩
  ·rw[List.mem_singleton.1 hx];exact⟨by simp,hy⟩
 ·rcases List.mem_append.1 hx with hx | hx
  ·exact List.mem_append_left _ (h.all x hx hg)
  ·exact List.mem_append_right _ hx
theorem CurG.fits {E:Ed} {n k:Nat} {F D vs cur:List Nat} (h:CurG E n k F D vs cur) (hw:Whole E n (F++grpG E n k)):F.length+cur.length≤n:=by
 have h1:cur.length≤(grpG E n k).length:=h.nd.length_le_of_subset fun x hx=>(h.sub x hx).2
 have h2:=hw.nd.length_le_of_subset (l₂:=List.range n) fun x hx=>List.mem_range.2 (hw.lt x hx)
 rw[List.length_append,List.length_range] at h2
 omega
theorem nextB_same {E:Ed} {D D':List Nat} {k:Nat} (h:∀ x,x ∈ D ↔ x ∈ D'):nextB E D k=nextB E D' k:=
 Bool.eq_iff_iff.2 (by
  rw[nextB_iff,nextB_iff]
  unfold NextG
  simp only[h])
set_option maxRecDepth 100000 in
set_option maxHeartbeats 8000000 in
theorem groups_c (E:Ed) (n:Nat) (nv v:Value) (bs:List Nat) (w:World) (ho:∃ o l c,nv=.slice o l c) (h:GrN w v bs n (Rch E)) (hE:∀ x ∈ E,x.2 < n) :
  Calls Tryz.prog 38 #[.agg #[nv,v]] w fun e w'=>∃ L gv M g D,GrpR E n [] L∧e=.returned gv∧GpI w #[nv,v] M g n D L [] gv w':=by
 have hfew:=h.few
 have hmm:=@run_makeMap Tryz.prog
 obtain⟨i1,hi1,hy0,hy1,hy2⟩:=info_parts infoInt
 obtain⟨i2,hi2,hz0,hz1,hz2⟩:=info_parts infoHd
 have HG:=hid h
 obtain⟨o1,l1,c1,rfl⟩:=ho
 obtain⟨o2,c2,rfl,_⟩:=SlOf.uni h.sl
 rw[h.len] at HG ⊢
 obtain⟨W1,hW1⟩:∃ W1,w.alloc (.cells #[.slice o1 l1 c1,.slice o2 n c2] 62)=W1:=⟨_,rfl⟩
 have hB1:Below w.heap.size w W1:=by rw[← hW1];exact (Below.refl _ _).alloc (Nat.le_refl _) _
 have hG1:W1.heap[w.heap.size]?=some (.cells #[.slice o1 l1 c1,.slice o2 n c2] 62 (0,0)):=by rw[← hW1];exact World.alloc_heap_new w _
 have hz1':W1.heap.size=w.heap.size+1:=by rw[← hW1];simp
 have HB1:=hid hB1
 have HG1:=hid hG1
 have HZ1:=hid hz1'
 have HW1:=hid hW1
 clear h hB1 hG1 hz1' hW1
 go_enter Tryz.func38,Tryz.ntmps38
 go_wp2_with fail
 refine wp_scope_straight ?_
 go_wp2_with fail
 refine wp_region_any (by kernel_rfl) ?_
 (try (change wpAny _ _ _ _ _ _ _ (World.drew _)))
 rw[HW1.out]
 refine wpAny_say slotsP _ _ (FW [] (factsP w.heap.size (w.heap.size+1) n (.slice o2 n c2)) W1.drew) (by kernel_rfl) (by kernel_rfl) (by kernel_rfl) (by kernel_rfl) (by kernel_rfl) ⟨?R0,?R1,?R2,?R3,?R4,?R5,?R6,trivial⟩ FW.start ?Rfin
 case R0=>
  intro l' val A' w' K hl hn' hd hF hfar hdep hK
  have hb:Below W1.heap.size W1 w':=(Below.refl _ W1).drew.trans hF.b
  unfold Oper.wp
  simp[execOp,hmm,go_sem,Result.andThen]
  exact hK _ _ (hF.step (lastsP _ _ _ _) ((Below.refl _ _).alloc (Nat.le_refl _) _) (fun p hp=>by cases hp;exact⟨_,rfl,setG_made w',by have:=hb.size;have:=HZ1.out;omega⟩))
 case R1=>
  intro l' val A' w' K hl hn' hd hF hfar hdep hK
  have f1:A'.tmps[1]?.getD undef=.pointer (some ⟨w.heap.size,0,none⟩):=hfar 1 (by decide)
  have ea:(⟨w.heap.size,0,none⟩:Addr).add 1=⟨w.heap.size,1,none⟩:=addKG _ _
  unfold Oper.wp
  simp[execOp,f1,ea,go_sem,Result.andThen]
  exact hK _ _ (hF.step (lastsP _ _ _ _) (Below.refl _ _) (fun p hp=>by cases hp;rfl))
 case R2=>
  intro l' val A' w' K hl hn' hd hF hfar hdep hK
  have hb:Below W1.heap.size W1 w':=(Below.refl _ W1).drew.trans hF.b
  have f1:A'.tmps[11]?.getD undef=.pointer (some ⟨w.heap.size,1,none⟩):=(hdep 1 11 rfl (by kernel_rfl)).trans (hF.rd 1 _ (hd 1 (by kernel_rfl)) rfl)
  have c0:w'.cell? ⟨w.heap.size,1,none⟩=some (.slice o2 n c2):=row_cells ((hb.block _ (heap_lt HG1.out)).trans HG1.out) 1
  unfold Oper.wp
  simp[execOp,f1,c0,go_sem,Result.andThen]
  exact hK _ _ (hF.step (lastsP _ _ _ _) (Below.refl _ _) (fun p hp=>by cases hp;rfl))
 case R3=>
  intro l' val A' w' K hl hn' hd hF hfar hdep hK
  have f1:A'.tmps[12]?.getD undef=.slice o2 n c2:=(hdep 2 12 rfl (by kernel_rfl)).trans (hF.rd 2 _ (hd 2 (by kernel_rfl)) rfl)
  unfold Oper.wp
  simp[execOp,f1,go_sem,Result.andThen]
  exact hK _ _ (hF.step (lastsP _ _ _ _) (Below.refl _ _) (fun p hp=>by cases hp;rfl))
 case R4=>
  intro l' val A' w' K hl hn' hd hF hfar hdep hK
  have hb:Below W1.heap.size W1 w':=(Below.refl _ W1).drew.trans hF.b
  have f1:A'.tmps[13]?.getD undef=.int .i64 (n:Int):=(hdep 3 13 rfl (by kernel_rfl)).trans (hF.rd 3 _ (hd 3 (by kernel_rfl)) rfl)
  obtain⟨w5,hr,hown,hg⟩:=run_make_own (P:=Tryz.prog) w' (w.heap.size+1) 39 3 i1 _ 1 Tryz.underlying39 hi1 hy0 hy1 .i64 .i64 n (by rw[hy2];omega) (by unfold maxLen;omega) (by have:=hb.size;have:=HZ1.out;omega)
  unfold Oper.wp
  simp[execOp,f1,hr,go_sem,Result.andThen]
  exact hK _ _ (hF.step (lastsP _ _ _ _) (belowG hg (fun _ e=>by cases e) (Nat.le_refl _)) (fun p hp=>by cases hp;exact⟨_,rfl,hown⟩))
 case R5=>
  intro l' val A' w' K hl hn' hd hF hfar hdep hK
  have f0:=hF.rd 0 _ (hd 0 (by kernel_rfl)) rfl
  have f1:A'.tmps[10]?.getD undef=val 0:=hdep 0 10 rfl (by kernel_rfl)
  unfold Oper.wp
  simp[execOp,f1,go_sem,Result.andThen]
  exact hK _ _ (hF.step (lastsP _ _ _ _) (Below.refl _ _) (fun p hp=>by cases hp;exact f0))
 case R6=>
  intro l' val A' w' K hl hn' hd hF hfar hdep hK
  have f0:=hF.rd 4 _ (hd 4 (by kernel_rfl)) rfl
  have f1:A'.tmps[14]?.getD undef=val 4:=hdep 4 14 rfl (by kernel_rfl)
  unfold Oper.wp
  simp[execOp,f1,go_sem,Result.andThen]
  exact hK _ _ (hF.step (lastsP _ _ _ _) (Below.refl _ _) (fun p hp=>by cases hp;exact f0))
 case Rfin=>
  intro l' val w2 hall5 hF
  obtain⟨M,hvM,hsM,hMb⟩:=hF.rd 5 _ (hall5 5 (by decide)) rfl
  obtain⟨g,hvL,hown⟩:=hF.rd 6 _ (hall5 6 (by decide)) rfl
  have hb2:=(Below.refl _ W1).drew.trans hF.b
  rw[hvL] at hown
  have HI0:Hid (GpI w #[.slice o1 l1 c1,.slice o2 n c2] M g n [] [] [] (.slice none 0 0) w2):=hid ⟨HB1.out.trans (hb2.mono HB1.out.size),(hb2.block _ (heap_lt HG1.out)).trans HG1.out,hMb,hsM,hown,World.ownsRow_nil _ _ _ _⟩
  simp only[slotsP,putsA,Nat.zero_add,Nat.reduceAdd]
  rw[hvM,hvL]
  generalize val 0=u0
  generalize val 1=u1'
  generalize val 2=u2
  generalize val 3=u3
  generalize val 4=u4
  clear hF hall5 hvM hvL hsM hMb hown hb2 val
  go_simp
  go_wp2_with fail
  refine wp_label ?_
  go_wp2_with fail
  have HW0:Hid (Whole E n []):=hid (Whole.nil E n)
  go_loopw [3,5] (fun gv lv wr=>∃ (D:List Nat) (Ls:List (List Nat)),lv=.slice (some ⟨g,0,none⟩) Ls.flatten.length n∧Hid (GpI w #[.slice o1 l1 c1,.slice o2 n c2] M g n D Ls [] gv wr)∧Hid (∀ x,x ∈ D ↔ x ∈ Ls.flatten)∧Hid (∀ L',GrpR E n Ls.flatten L'→GrpR E n [] (Ls++L'))∧Hid (Whole E n Ls.flatten∧D.length=Ls.flatten.length∧Ls.length≤Ls.flatten.length)) (fun _ lv _=>n - lenG lv)
  case atStart=>exact⟨[],[],rfl,HI0,hid (fun x=>by simp),hid (fun L' h=>h),hid ⟨by simpa using HW0.out,rfl,Nat.le_refl _⟩⟩
  case round=>
   obtain⟨D,Ls,rfl,HI,HDm,HGr,HWh⟩:=hrel
   have x1:wr.cell? ⟨w.heap.size,1,none⟩=some (.slice o2 n c2):=row_cells HI.out.gr 1
   go_wp2_with fail
   obtain⟨gv,hgv⟩:∃ x,x=u3:=⟨_,rfl⟩
   subst hgv
   clear x1
   obtain⟨c,hc⟩:∃ c,Ls.flatten.length=c:=⟨_,rfl⟩
   have Hc:=hid hc
   rw[hc]
   clear hc
   have HNg0:Hid (∀ b,b < 0→¬ NextG E Ls.flatten b):=hid (fun b h=>absurd h (Nat.not_lt_zero b))
   go_loopw [3,5,18] (fun gv' lv iv wi=>∃ (k:Nat),k≤n∧gv'=gv∧lv=.slice (some ⟨g,0,none⟩) c n∧iv=.int .i64 (k:Int)∧Hid (∀ b,b < k→¬ NextG E Ls.flatten b)∧Hid (GpI w #[.slice o1 l1 c1,.slice o2 n c2] M g n D Ls [] gv wi)) (fun _ _ iv _=>n - (intOf iv).toNat)
   case atStart=>exact⟨0,Nat.zero_le _,rfl,rfl,rfl,HNg0,HI⟩
   case round=>
    obtain⟨k,hk,rfl,rfl,rfl,HNg,HI2⟩:=hrel
    by_cases hlt:k < n
    ·have hlt':(k:Int) < (n:Int):=by omega
     have x0:wr.cell? ⟨w.heap.size,0,none⟩=some (.slice o1 l1 c1):=row_cells HI2.out.gr 0
     have x1:wr.cell? ⟨w.heap.size,1,none⟩=some (.slice o2 n c2):=row_cells HI2.out.gr 1
     have lx:=heap_lt HI2.out.gr
     have HNx:=hid (isNext_c E n k M D.length D (.slice o1 l1 c1) (.slice o2 n c2) bs wr ⟨_,_,_,rfl⟩ (HG.out.below HI2.out.b) hlt HI2.out.dn)
     have Hnb:Hid (nextB E D k=nextB E Ls.flatten k):=hid (nextB_same HDm.out)
     go_wp2_with fail
     refine HNx.out.mono ?_
     rintro e3 w3 ⟨rfl,b3⟩
     rw[Hnb.out]
     have HI3:=hid (HI2.out.below b3)
     clear b3 HNx x0 x1 lx
     cases hx:nextB E Ls.flatten k with
     | false=>
      have HNg':Hid (∀ b,b < k+1→¬ NextG E Ls.flatten b):=hid (fun b hb hn=>by
       by_cases e:b=k
       ·subst e;rw[nextB_iff.2 hn] at hx;cases hx
       ·exact HNg.out b (by omega) hn)
      clear hx
      go_wp2
      go_roundw
      case rel=>exact⟨k+1,hlt,rfl,rfl,by go_num,HNg',HI3⟩
      case measure=>simp[intOf];omega
     | true=>
      have HPk:Hid (pickG E n Ls.flatten=some k):=hid (pickG_some hlt (nextB_iff.1 hx) HNg.out)
      clear hx
      obtain⟨aa,cc,Ma,ma,msa,hv,hal,ca,sa,hma,hla,hfa⟩:=(HG.out.below HI3.out.b).at_ hlt
      simp only[Value.slice.injEq,true_and] at hv
      obtain⟨hv1,hv2⟩:=hv
      subst hv1
      subst hv2
      have x0:w3.cell? ⟨w.heap.size,0,none⟩=some (.slice o1 l1 c1):=row_cells HI3.out.gr 0
      have x1:w3.cell? ⟨w.heap.size,1,none⟩=some (.slice (some aa) n c2):=row_cells HI3.out.gr 1
      have lx:=heap_lt HI3.out.gr
      have hba:(aa.add k).block < w3.heap.size:=by rw[addBlock];exact hal
      have hk0:(0:Int)≤(k:Int):=by omega
      have hMaw:Hid (Ma < w.heap.size):=hid (by
       obtain⟨aa',cc',Ma',ma',msa',hv',hal',ca',sa',_⟩:=HG.out.at_ hlt
       simp only[Value.slice.injEq,true_and,Option.some.injEq] at hv'
       have h1:=(HI3.out.b.cell (by rw[addBlock];exact hal')).trans ca'
       rw[← hv'.1,ca] at h1
       have h2:Ma=Ma':=by simpa using h1
       rw[h2]
       exact sa'.lt)
      have HSa:=hid sa
      have HFa:=hid hfa
      have HLa:=hid hla
      have HMa:=hid sa.lt
      have HWm:=hid (HWh.out.1.more HPk.out)
      have HN3:Hid (M < w3.heap.size∧g < w3.heap.size∧(∀ j,u3.ownBlock=some j→j < w3.heap.size)∧w.heap.size < w3.heap.size):=hid ⟨HI3.out.dn.lt,heap_lt HI3.out.gb.choose_spec.1,fun j hj=>(HI3.out.own.lt j hj).2,lx⟩
      clear sa hfa hla hma hal
      go_wp2_with (first
       | (at_range;refine wpList_rangeG _ rfl _ 66 rfl Tryz.underlying66 Ma ma msa rfl HSa.out ?_;intro w4 cnt0 hrg0 hg0 hs0;have HRG0:=hid hrg0;have HG0:=hid hg0;clear hrg0 hg0 hs0)
       | go_in)
      go_frame
      have HI4:=hid (HI3.out.below (belowG HG0.out (fun _ e=>by cases e) (Nat.le_refl _)))
      have HC0:Hid (CurG E n k Ls.flatten D [] []):=hid ⟨fun x=>by rw[List.append_nil];exact HDm.out x,HWh.out.2.1,by simp,by simp,by simp⟩
      go_loopw [5] (fun lv wi=>∃ (vs cur D2:List Nat) (cnt:Nat),lv=.slice (some ⟨g,0,none⟩) (c+cur.length) n∧Hid (RgG wi Ma w3.heap.size ma msa vs cnt)∧Hid (GpI w #[.slice o1 l1 c1,.slice (some aa) n c2] M g n D2 Ls cur u3 wi)∧Hid (CurG E n k Ls.flatten D2 vs cur)) (fun _ wi=>wi.rangeLeft Ma w3.heap.size)
      case atStart=>exact⟨[],[],D,cnt0,rfl,HRG0,HI4,HC0⟩
      case round=>
       obtain⟨vs,cur,D2,cnt,rfl,HRG,HIi,HCu⟩:=hrel
       go_wp2_with (first
        | (at_next;refine wpList_nextG _ rfl _ rfl Ma w3.heap.size ma msa vs cnt rfl HRG.out ?_ ?_)
        | go_in)
       ·intro hall
        have Hcur:Hid (∀ x,x ∈ cur ↔ x ∈ grpG E n k):=hid (fun x=>⟨fun hx=>(HCu.out.sub x hx).2,fun hx=>HCu.out.all x (hall x ((HFa.out x).2 (grp_mem.1 hx).2.1)) hx⟩)
        have Hkc:k ∈ cur:=(Hcur.out k).2 (grp_mem.2 ⟨hlt,Mut.refl E k⟩)
        obtain⟨q,hq⟩:∃ q,cur.length=q:=⟨_,rfl⟩
        have hq0:0 < q:=by rw[← hq];exact List.length_pos_of_mem Hkc
        obtain⟨m,hm⟩:∃ m,c+q=m:=⟨_,rfl⟩
        have HL:Hid ((Ls.flatten++cur).length=m):=hid (by rw[List.length_append,Hc.out,hq];exact hm)
        have hmn:m≤n:=by have:=HCu.out.fits HWm.out;rw[Hc.out,hq] at this;omega
        have hcm:(c:Int)≤(m:Int):=by omega
        have hmn':(m:Int)≤(n:Int):=by omega
        have hc0:(0:Int)≤(c:Int):=by omega
        have hm0:(0:Int)≤(m:Int):=by omega
        have Hq:=hid hq
        have Hm:=hid hm
        have HFit:=hid hmn
        have hmc:m - c=q:=by omega
        have hgl:(grpG E n k).length=q:=by
         rw[← hq]
         exact (((List.perm_ext_iff_of_nodup HCu.out.nd (grp_nodup E n k)).2 Hcur.out).length_eq).symm
        have HOwn:Hid (wr.ownsRow (w.heap.size+1) 3 1 (.slice (some ⟨g,0,none⟩) m n) m (intsG (Ls.flatten++cur))):=hid (by rw[← HL.out];exact HIi.out.list)
        have HSrt:Hid (Calls Tryz.prog 59 #[.slice (some ⟨g,c,none⟩) (m - c) (m - c)] wr fun e w'=>e=.returned (.tuple #[])∧w'.ownsRow (w.heap.size+1) 3 1 (.slice (some ⟨g,0,none⟩) m n) m (intsG (Ls.flatten++grpG E n k))∧wr.grownBy w' (some g)):=hid (by
         have h1:=sort_c (c:=m - c) HOwn.out (grp_sort HCu.out.nd Hcur.out) (by omega)
         rw[Hc.out,hq,← hmc] at h1
         exact h1)
        have HLg:Hid ((Ls.flatten++grpG E n k).length=m):=hid (by rw[List.length_append,Hc.out,hgl];exact hm)
        have Hgl:=hid hgl
        have Hmc:=hid hmc
        have Hq0:=hid hq0
        have HLs:Hid (Ls.length+1≤m):=hid (by have:=HWh.out.2.2;rw[Hc.out] at this;omega)
        have HS1:Hid (Ls.length+1≤maxLen):=hid (by have:=HLs.out;unfold maxLen;omega)
        have HS2:Hid ((Ls.length+1) * 24≤140737488355328):=hid (by have:=HLs.out;omega)
        obtain⟨og,cg,hu3⟩:=own_shape HI3.out.own
        subst hu3
        rw[hq,hm]
        clear hall Hkc hgl hmc
        go_wp2_with fail
        refine HSrt.out.mono ?_
        rintro e5 w5 ⟨rfl,ho5,hg5⟩
        have HI5:=hid (HIi.out.turn (cur':=grpG E n k) (by rw[HLg.out];exact ho5) hg5)
        have HN5:Hid (w.heap.size+1≤w5.heap.size):=hid (heap_lt HI5.out.gr)
        clear ho5 hg5 HSrt
        go_wp2_with (at_builtin;refine wpList_append_own _ rfl (.tmp 58) (.tmp 60) 33 rfl (w.heap.size+1) 39 i2 _ 1 24 Tryz.underlying33 hi2 hz0 hz1 hz2 rfl (by decide) (.slice og Ls.length cg) Ls.length (hdrs g 0 Ls) rfl (HI5.out.own.alloc _) _ 1 1 [.slice (some ⟨g,c,none⟩) (m - c) (m - c)] rfl rfl (news_one _ _ _) (fun u hu=>by simp at hu;subst hu;rfl) HS1.out HS2.out (by have:=HN5.out;simp;omega) ?_;intro v' w6 hown' hgrow _;have HO6:=hid hown';have HG6:=hid (grown_past hgrow);clear hown' hgrow)
        go_wp2
        have HI6:=hid (HI5.out.push (by rw[Hc.out,Hgl.out,← Hmc.out];exact HO6.out) HG6.out)
        have hfl:(Ls++[grpG E n k]).flatten=Ls.flatten++grpG E n k:=by simp
        have HFl:=hid hfl
        clear hfl
        go_roundw
        case rel=>
         refine⟨D2,Ls++[grpG E n k],by rw[HFl.out,HLg.out],HI6,hid (fun x=>by rw[HFl.out,HCu.out.mem,List.mem_append,List.mem_append,Hcur.out]),hid (fun L' hL=>?_),hid ⟨by rw[HFl.out];exact HWm.out,by rw[HFl.out,HLg.out,HCu.out.len,Hc.out,Hq.out];exact Hm.out,by rw[HFl.out,HLg.out,List.length_append];exact HLs.out⟩⟩
         rw[HFl.out] at hL
         have:=HGr.out _ (.more HPk.out hL)
         rw[List.append_assoc]
         exact this
        case measure=>
         have h1:=Hm.out
         have h2:=Hq0.out
         have h4:=HFit.out
         have h5:=Hc.out
         simp only[lenG]
         show n - m < n - Ls.flatten.length
         rw[h5]
         omega
       ·intro y w5 cnt1 hy hyv hrg1 hlt1 hg1 hs1 hen
        have HI5:=hid (HIi.out.low (belowG hg1 (fun r e=>by cases e;exact Nat.le_refl _) (by have:=HRG.out.lt;omega)) HN3.out.1 HN3.out.2.1 HN3.out.2.2.1 HN3.out.2.2.2)
        have HRG5:=hid hrg1
        have Hlt1:Hid (cnt1 < wr.rangeLeft Ma w3.heap.size):=hid (by rw[HRG.out.left];exact hlt1)
        have hyn:=HLa.out y hy
        have Hyv:=hid hyv
        have HX:=hid (areMut_c E n k y (.slice o1 l1 c1) (.slice (some aa) n c2) bs w5 ⟨_,_,_,rfl⟩ (HG.out.below HI5.out.b) hlt hyn)
        have z0:w5.cell? ⟨w.heap.size,0,none⟩=some (.slice o1 l1 c1):=row_cells HI5.out.gr 0
        have z1:w5.cell? ⟨w.heap.size,1,none⟩=some (.slice (some aa) n c2):=row_cells HI5.out.gr 1
        have zl:=heap_lt HI5.out.gr
        clear hrg1 hlt1 hg1 hy hyv hs1
        go_wp2_with fail
        refine HX.out.mono ?_
        rintro e6 w6 ⟨rfl,b6⟩
        have HI6:=hid (HI5.out.below b6)
        have HRG6:=hid (HRG5.out.kept (grownBelow b6) (by simp) (by simp))
        clear b6 HX z0 z1 zl
        cases hb:mutB E k y with
        | false=>
         have HC6:=hid (HCu.out.old (y:=y) (fun hg=>by rw[mutB_iff.2 (grp_mem.1 hg).2] at hb;cases hb))
         clear hb
         go_wp2
         go_roundw
         case rel=>exact⟨vs++[y],cur,D2,cnt1,rfl,HRG6,HI6,HC6⟩
         case measure=>rw[HRG6.out.left];exact Hlt1.out
        | true=>
         have HC6:=hid (HCu.out.new (y:=y) (grp_mem.2 ⟨hyn,mutB_iff.1 hb⟩) Hyv.out)
         have HFt:=hid (HC6.out.fits HWm.out)
         have HAd:=hid (addG_c M D2.length y D2 w6 HI6.out.dn (by omega) (by have:=HCu.out.len;have:=HCu.out.fits HWm.out;unfold maxLen;omega))
         clear hb
         go_wp2_with fail
         refine HAd.out.mono ?_
         rintro e7 w7 ⟨rfl,s7,g7⟩
         have HI7:=hid (HI6.out.add s7 g7)
         have HRG7:=hid (HRG6.out.kept g7 (by have:=HMa.out;have:=HN3.out.1;have:=HI3.out.Mb;intro e;have:=Option.some.inj e;have:=hMaw.out;omega) (by have:=HN3.out.1;intro e;have:=Option.some.inj e;omega))
         obtain⟨m,hm⟩:∃ m,c+cur.length=m:=⟨_,rfl⟩
         have Hm:=hid hm
         have HL:Hid ((Ls.flatten++cur).length=m):=hid (by rw[List.length_append,Hc.out];exact hm)
         have HO7:Hid (w7.ownsRow (w.heap.size+1) 3 1 (.slice (some ⟨g,0,none⟩) m n) m (intsG (Ls.flatten++cur))):=hid (by rw[← HL.out];exact HI7.out.list)
         have HF7:Hid (m+1≤n):=hid (by have:=HFt.out;rw[Hc.out,List.length_append,List.length_singleton] at this;omega)
         rw[hm]
         clear s7 g7 HAd hm
         go_wp2_with (at_builtin;refine wpList_append_fits _ rfl (.tmp 45) (.tmp 47) 39 rfl (w.heap.size+1) 3 i1 1 Tryz.underlying39 hi1 hy1 g m n (intsG (Ls.flatten++cur)) rfl (HO7.out.alloc _) _ 1 1 [.int .i64 (y:Int)] rfl rfl (news_one _ _ _) (fun u hu=>by simp at hu;subst hu;rfl) HF7.out ?_;intro w8 hown' hgrow;have HO8:=hid hown';have HG8:=hid (grown_past hgrow);clear hown' hgrow)
         go_wp2
         have HL8:Hid ((Ls.flatten++(cur++[y])).length=m+1):=hid (by have:=HL.out;simp at this ⊢;omega)
         have HI8:Hid (GpI w #[.slice o1 l1 c1,.slice (some aa) n c2] M g n (D2++[y]) Ls (cur++[y]) u3 w8):=hid (HI7.out.turn (by
          rw[HL8.out]
          have e:intsG (Ls.flatten++(cur++[y]))=intsG (Ls.flatten++cur)++[.int .i64 (y:Int)]:=by unfold intsG;simp
          rw[e]
          exact HO8.out) HG8.out)
         have HRG8:=hid (HRG7.out.kept HG8.out (by have:=hMaw.out;have:=HI3.out.gb.choose_spec.2;intro e;have:=Option.some.inj e;omega) (by have:=HN3.out.2.1;intro e;have:=Option.some.inj e;omega))
         go_roundw
         case rel=>exact⟨vs++[y],cur++[y],D2++[y],cnt1,by rw[← Hm.out,List.length_append,List.length_singleton,Nat.add_assoc],HRG8,HI8,HC6⟩
         case measure=>rw[HRG8.out.left];exact Hlt1.out
    ·have hlt':¬ (k:Int) < (n:Int):=by omega
     have HFin:Hid (GrpR E n [] Ls):=hid (by
      have:=HGr.out [] (.stop (pickG_none fun b hb=>HNg.out b (by omega)))
      simpa using this)
     have HI2':=HI2
     go_wp2_with fail
     go_ret
     exact⟨Ls,_,M,g,D,HFin.out,rfl,HI2'.out⟩
end Go.Proofs.YtakpgcmfjlbcgaaGreatDoor

/- Zd@0123, Gr@0123, Gn@0123, Grc@0123, Gk@0123 -/
import Derived.Test.YtakpgcmfjlbcgaaGreatDoorQ28
set_option linter.unusedSimpArgs false
set_option linter.unusedVariables false
namespace Go.Proofs.YtakpgcmfjlbcgaaGreatDoor
open Lib(hid)
open Go.RowKit
theorem ll_row {W:World} {B:Nat} {T:TypeId} {a b c:Value} {x y z:List ByteArray} (h:W.heap[B]?=some (.cells #[a,b,c] T (0,0))) (h1:SlOf W W.heap.size 1 StrC x a) (h2:SlOf W W.heap.size 1 StrC y b) (h3:SlOf W W.heap.size 1 StrC z c) :
  SlOf W W.heap.size 1 (LlC W W.heap.size) [x,y,z] (.slice (some ⟨B,0,none⟩) 3 3):=
 sl_cells (l:=[x,y,z]) (R:=LlC W W.heap.size) [[a],[b],[c]] h rfl (fun cs h=>by simp at h;rcases h with rfl | rfl | rfl <;> rfl) (fun i l cs hl hc=>by
  match i,hl,hc with
  | 0,hl,hc=>cases hl;cases hc;exact⟨_,rfl,h1⟩
  | 1,hl,hc=>cases hl;cases hc;exact⟨_,rfl,h2⟩
  | 2,hl,hc=>cases hl;cases hc;exact⟨_,rfl,h3⟩) (by show 3≤maxLen;decide)
set_option maxRecDepth 100000 in
set_option maxHeartbeats 16000000 in
theorem binds_c (p:Pt) (cs:List Value) (w:World) (hp:PtC w w.heap.size p cs) (hn:p.x.length+p.y.length+p.a.length≤1000000) :
  Calls Tryz.prog 99 #[.agg cs.toArray] w (VarsR (bindsZ p) w.heap.size w):=by
 have HP:=hid hp
 obtain⟨o0,k0,o1,k1,o2,k2,o3,k3,o4,k4,o5,k5,o6,k6,o7,k7,rfl,hl,h1,h2,h3,h4,h5⟩:=hp.look
 have HLT:=hid (fun (W:World) (hb:Below w.heap.size w W)=>isAgg_c p.lit _ W.heap.size W ((hl.below hb).more hb.size))
 have H1:=hid h1
 have H2:=hid h2
 have H3:=hid h3
 have HNs:=hid hn
 have hsz:Hid (∀ s ∈ p.x++(p.y++p.a),s.size≤maxLen):=hid fun s hs=>by
  rcases List.mem_append.1 hs with hs | hs
  ·exact str_sizes h1 s hs
  ·rcases List.mem_append.1 hs with hs | hs
   ·exact str_sizes h2 s hs
   ·exact str_sizes h3 s hs
 clear hp HP hl h1 h2 h3 h4 h5 hn
 have B0:Hid (Below w.heap.size w (w.alloc (.cells #[.int .i64 (p.place:Int),.int .i64 p.lit.op,.string p.lit.a.rel,.slice o0 p.lit.a.l.length k0,.int .i64 p.lit.x.op,.string p.lit.x.s,.int .i64 p.lit.x.n,.slice o1 p.lit.x.l.length k1,.int .i64 p.lit.y.op,.string p.lit.y.s,.int .i64 p.lit.y.n,.slice o2 p.lit.y.l.length k2,.slice o3 p.x.length k3,.slice o4 p.y.length k4,.slice o5 p.a.length k5,.slice o6 p.rk.length k6,.slice o7 p.ou.length k7] 126))):=hid ((Below.refl _ _).alloc (Nat.le_refl _) _)
 have R0:=hid (World.alloc_heap_new w (.cells #[.int .i64 (p.place:Int),.int .i64 p.lit.op,.string p.lit.a.rel,.slice o0 p.lit.a.l.length k0,.int .i64 p.lit.x.op,.string p.lit.x.s,.int .i64 p.lit.x.n,.slice o1 p.lit.x.l.length k1,.int .i64 p.lit.y.op,.string p.lit.y.s,.int .i64 p.lit.y.n,.slice o2 p.lit.y.l.length k2,.slice o3 p.x.length k3,.slice o4 p.y.length k4,.slice o5 p.a.length k5,.slice o6 p.rk.length k6,.slice o7 p.ou.length k7] 126))
 go_enter Tryz.func99,Tryz.ntmps99
 go_wp2_with fail
 refine (HLT.out _ B0.out).mono ?_
 rintro e1 w1 ⟨rfl,b1⟩
 have R1:=hid ((b1.block w.heap.size (heap_lt R0.out)).trans R0.out)
 have B1:=hid (B0.out.trans (b1.mono B0.out.size))
 have hz1:w.heap.size < w1.heap.size:=heap_lt R1.out
 obtain⟨x0,x1,x2,x3,x4,x5,x6,x7,x8,x9,x10,x11,x12,x13,x14,x15,x16⟩:=row17 R1.out
 clear b1
 cases ha:aggO p.lit.op with
 | true=>
  have Hq:Hid (bindsZ p=p.x):=hid (by unfold bindsZ;rw[if_pos ha])
  clear ha
  go_wp2
  go_ret
  exact⟨_,rfl,by rw[Hq.out];exact H1.out.str B1.out B1.out.size,B1.out⟩
 | false=>
  have Hq:Hid (bindsZ p=p.x++(p.y++p.a)):=hid (by unfold bindsZ;rw[if_neg (by rw[ha];decide)])
  clear ha
  have HC:=hid (fun (W:World) (hb:Below w.heap.size w W) (Bk:Nat) (T:TypeId) (h:W.heap[Bk]?=some (.cells #[.slice o3 p.x.length k3,.slice o4 p.y.length k4,.slice o5 p.a.length k5] T (0,0)))=>concat_c [p.x,p.y,p.a] _ W (ll_row h (H1.out.str hb hb.size) (H2.out.str hb hb.size) (H3.out.str hb hb.size)) (by have:=HNs.out;simp[catL];omega))
  go_wp2_with fail
  refine (HC.out _ (B1.out.alloc B1.out.size _) _ _ (World.alloc_heap_new w1 _)).mono ?_
  rintro e2 w2 ⟨u,rfl,hO,b2⟩
  have hS:SlOf w2 w2.heap.size 1 StrC (p.x++(p.y++p.a)) u:=by
   have:=sl_row (R:=StrC) hO (fun s hs=>⟨rfl,hsz.out s (by simpa[catL] using hs)⟩)
   simpa[catL] using this
  have HS:=hid hS
  have B2:=hid ((B1.out.alloc B1.out.size _).trans (b2.mono (B1.out.alloc B1.out.size _).size))
  obtain⟨oq,kq,rfl⟩:=own_shape hO
  clear hO hS b2
  go_wp2
  go_ret
  exact⟨_,rfl,by rw[Hq.out];exact HS.out,B2.out⟩
end Go.Proofs.YtakpgcmfjlbcgaaGreatDoor
namespace Go.Proofs.YtakpgcmfjlbcgaaGreatDoor
open Lib(hid)
open Go.RowKit Go.Maps
theorem belowG {n:Nat} {W W':World} {row:Option Nat} (hg:W.grownBy W' row) (hr:∀ r,row=some r→n≤r) (hW:n≤W.heap.size):Below n W W':=
 ⟨hg.os,hg.tape,hg.output,hg.size,fun i hi=>hg.block i (by omega) fun e=>by have:=hr i e.symm;omega⟩
def MapR (b:Nat) (cs:List Value):Prop:=cs=[.map (some b)]
theorem mapR_at {w wr:World} {l:List Nat} {o:Option Addr} {k:Nat} {b:Nat} (S:Hid (SlIn w w.heap.size 1 MapR l o)) (hB:Below w.heap.size w wr) (ht:l[k]?=some b) :
  ∃ a,o=some a∧a.block < w.heap.size∧wr.cell? (a.add k)=some (.map (some b)):=by
 obtain⟨a,cs,rfl,ha,_,rfl,h2⟩:=S.out k b ht
 have:=(h2.below ha hB).n1
 rw[Nat.mul_one] at this
 exact⟨a,rfl,ha,this⟩
structure GrN (w:World) (v:Value) (bs:List Nat) (n:Nat) (F:Nat→Nat→Prop):Prop where
 sl:SlOf w w.heap.size 1 MapR bs v
 len:bs.length=n
 few:n≤1000
 set:∀ i b,bs[i]?=some b→∃ m ms,SetG w b m ms∧m≤1000000∧(∀ x ∈ ms,x < n)∧∀ x,x ∈ ms ↔ F i x
theorem GrN.below {w w':World} {v:Value} {bs:List Nat} {n:Nat} {F:Nat→Nat→Prop} (h:GrN w v bs n F) (hb:Below w.heap.size w w'):GrN w' v bs n F:=by
 refine⟨(SlOf.below h.sl hb fun _ _ _ h=>h).more hb.size fun _ _ _ h=>h,h.len,h.few,fun i b hi=>?_⟩
 obtain⟨m,ms,h1,h2⟩:=h.set i b hi
 exact⟨m,ms,h1.below hb h1.lt,h2⟩
theorem GrN.at_ {w:World} {v:Value} {bs:List Nat} {n:Nat} {F:Nat→Nat→Prop} (h:GrN w v bs n F) {i:Nat} (hi:i < n):∃ a c b m ms,v=.slice (some a) n c∧a.block < w.heap.size∧w.cell? (a.add i)=some (.map (some b))∧SetG w b m ms∧m≤1000000∧(∀ x ∈ ms,x < n)∧∀ x,x ∈ ms ↔ F i x:=by
 obtain⟨o,c,rfl,_,_,S⟩:=SlOf.open h.sl
 obtain⟨b,hb⟩:∃ b,bs[i]?=some b:=⟨bs[i]'(by rw[h.len];exact hi),List.getElem?_eq_getElem _⟩
 obtain⟨a,rfl,ha,hc⟩:=mapR_at S (Below.refl _ _) hb
 obtain⟨m,ms,h1,h2,h3,h4⟩:=h.set i b hb
 exact⟨a,c,b,m,ms,by rw[h.len],ha,hc,h1,h2,h3,h4⟩
end Go.Proofs.YtakpgcmfjlbcgaaGreatDoor
namespace Go.Proofs.YtakpgcmfjlbcgaaGreatDoor
open Lib(hid)
open Go.RowKit Go.Maps
theorem hasB_eq {ms:List Nat} {k:Nat} {b:Bool} (h:k ∈ ms ↔ b=true):hasB ms k=b:=by
 cases b with
 | true=>exact hasB_iff.2 (h.2 rfl)
 | false=>exact hasB_not fun hm=>by have:=h.1 hm;cases this
set_option maxRecDepth 100000 in
set_option maxHeartbeats 4000000 in
theorem areMut_c (E:Ed) (n a b:Nat) (nv v:Value) (bs:List Nat) (w:World) (ho:∃ o l c,nv=.slice o l c) (h:GrN w v bs n (Rch E)) (ha:a < n) (hb:b < n) :
  Calls Tryz.prog 29 #[.agg #[nv,v],.int .i64 (a:Int),.int .i64 (b:Int)] w fun e w'=>e=.returned (.bool (mutB E a b))∧Below w.heap.size w w':=by
 have hfew:=h.few
 have HG:=hid h
 obtain⟨aa,c,Ma,ma,msa,hv,hal,ca,sa,hma,hla,hfa⟩:=h.at_ ha
 obtain⟨ab,c',Mb,mb,msb,hv',hbl,cb,sb,hmb,hlb,hfb⟩:=h.at_ hb
 rw[hv] at hv'
 simp only[Value.slice.injEq,Option.some.injEq,true_and] at hv'
 obtain⟨rfl,rfl⟩:=hv'
 subst hv
 obtain⟨o1,l1,c1,rfl⟩:=ho
 have ha':(a:Int) < (n:Int):=by omega
 have hb':(b:Int) < (n:Int):=by omega
 have ha0:(0:Int)≤(a:Int):=by omega
 have hb0:(0:Int)≤(b:Int):=by omega
 have HB:Hid (∀ X,Below w.heap.size w (w.alloc X)):=hid fun X=>(Below.refl _ _).alloc (Nat.le_refl _) _
 have HA:=hid (fun X=>hasG_c Ma ma b msa (w.alloc X) (sa.below (HB.out X) sa.lt) (by omega))
 have HBB:=hid (fun (W:World) (hW:Below w.heap.size w W)=>hasG_c Mb mb a msb W (sb.below hW sb.lt) (by omega))
 have HCb:=hid cb
 have HCa:=hid ca
 have hba:(aa.add a).block < w.heap.size:=by rw[addBlock];exact hal
 have hbb:(aa.add b).block < w.heap.size:=by rw[addBlock];exact hal
 have c2:∀ X,(w.alloc X).cell? (aa.add a)=some (.map (some Ma)):=fun X=>((HB.out X).cell hba).trans ca
 have c3:=c2 (.cells #[.slice o1 l1 c1,.slice (some aa) n c] 62)
 clear h sa sb ca cb c2
 go_enter Tryz.func29,Tryz.ntmps29
 go_wp2_with fail
 refine (HA.out _).mono ?_
 rintro e1 w1 ⟨rfl,b1⟩
 have B1:=hid ((HB.out _).trans (b1.mono (by simp)))
 have r1:=(b1.block w.heap.size (by simp)).trans (World.alloc_heap_new w _)
 have x1:w1.cell? ⟨w.heap.size,1,none⟩=some (.slice (some aa) n c):=row_cells r1 1
 have l1':=heap_lt r1
 have cb1:w1.cell? (aa.add b)=some (.map (some Mb)):=(B1.out.cell hbb).trans HCb.out
 have hbb1:(aa.add b).block < w1.heap.size:=Nat.lt_of_lt_of_le hbb B1.out.size
 clear b1 r1 c3
 cases h1:hasB msa b with
 | false=>
  have Hm:Hid (mutB E a b=false):=hid (by
   cases hm:mutB E a b with
   | false=>rfl
   | true=>
    have:=hasB_iff.2 ((hfa b).2 (mutB_iff.1 hm).1)
    rw[h1] at this
    cases this)
  clear h1
  go_wp2
  go_ret
  exact⟨by rw[Hm.out];rfl,B1.out⟩
 | true=>
  have H1:=hid ((hfa b).1 (hasB_iff.1 h1))
  have HB2:=hid (HBB.out w1 B1.out)
  clear h1
  go_wp2_with fail
  refine HB2.out.mono ?_
  rintro e2 w2 ⟨rfl,b2⟩
  have B2:=hid (B1.out.trans (b2.mono B1.out.size))
  have Hm:Hid (hasB msb a=mutB E a b):=hid (hasB_eq (by
   rw[mutB_iff]
   exact⟨fun h=>⟨H1.out,(hfb a).1 h⟩,fun h=>(hfb a).2 h.2⟩))
  clear b2
  rw[Hm.out]
  clear Hm
  go_wp2
  go_ret
  exact⟨rfl,B2.out⟩
set_option maxRecDepth 100000 in
set_option maxHeartbeats 8000000 in
theorem isNext_c (E:Ed) (n a Md md:Nat) (D:List Nat) (nv v:Value) (bs:List Nat) (w:World) (ho:∃ o l c,nv=.slice o l c) (h:GrN w v bs n (Rch E)) (ha:a < n) (hD:SetG w Md md D) :
  Calls Tryz.prog 58 #[.agg #[nv,v],.int .i64 (a:Int),.map (some Md)] w fun e w'=>e=.returned (.bool (nextB E D a))∧Below w.heap.size w w':=by
 have hfew:=h.few
 have HG:=hid h
 have HDD:=hid hD
 obtain⟨aa,c,Ma,ma,msa,hv,hal,ca,sa,hma,hla,hfa⟩:=h.at_ ha
 subst hv
 have Ho:=hid ho
 obtain⟨o1,l1,c1,rfl⟩:=ho
 have ha':(a:Int) < (n:Int):=by omega
 have ha0:(0:Int)≤(a:Int):=by omega
 have HB:Hid (∀ X,Below w.heap.size w (w.alloc X)):=hid fun X=>(Below.refl _ _).alloc (Nat.le_refl _) _
 have HH:=hid (fun (k:Nat) (hk:k < 1000000) (W:World) (hW:Below w.heap.size w W)=>hasG_c Md md k D W (hD.below hW hD.lt) hk)
 have HM:=hid (fun (b:Nat) (hb:b < n) (W:World) (hW:Below w.heap.size w W)=>areMut_c E n a b _ _ bs W Ho.out (h.below hW) ha hb)
 have hba:(aa.add a).block < w.heap.size:=by rw[addBlock];exact hal
 have HCa:=hid ca
 have HSa:=hid sa
 have HLa:=hid hla
 have HFa:=hid hfa
 have hA:=HH.out a (by omega) _ (HB.out (.cells #[.slice o1 l1 c1,.slice (some aa) n c] 62))
 have HA:=hid hA
 clear h hD ca sa hla hfa hA
 go_enter Tryz.func58,Tryz.ntmps58
 go_wp2_with fail
 refine HA.out.mono ?_
 rintro e1 w1 ⟨rfl,b1⟩
 have B1:=hid ((HB.out _).trans (b1.mono (by simp)))
 have r1:=(b1.block w.heap.size (by simp)).trans (World.alloc_heap_new w _)
 have R1:=hid r1
 have x1:w1.cell? ⟨w.heap.size,1,none⟩=some (.slice (some aa) n c):=row_cells r1 1
 have l1':=heap_lt r1
 have ca1:w1.cell? (aa.add a)=some (.map (some Ma)):=(B1.out.cell hba).trans HCa.out
 have hba1:(aa.add a).block < w1.heap.size:=Nat.lt_of_lt_of_le hba B1.out.size
 have S1:=hid (HSa.out.below B1.out HSa.out.lt)
 clear b1 r1 HA
 cases h1:hasB D a with
 | true=>
  have Hn:Hid (nextB E D a=false):=hid (by
   cases hm:nextB E D a with
   | false=>rfl
   | true=>exact absurd (hasB_iff.1 h1) (nextB_iff.1 hm).1)
  clear h1
  go_wp2
  go_ret
  exact⟨by rw[Hn.out];rfl,B1.out⟩
 | false=>
 have Hna:Hid (a ∉ D):=hid fun hm=>by rw[hasB_iff.2 hm] at h1;cases h1
 clear h1
 go_wp2_with (first
  | (at_range;refine wpList_rangeG _ rfl _ 66 rfl Tryz.underlying66 Ma ma msa rfl S1.out ?_;intro w2 cnt0 hrg0 hg0 hs0;have HRG0:=hid hrg0;have HG0:=hid hg0;clear hrg0 hg0)
  | go_in)
 go_frame
 have HGw:=hid (World.grownBy.refl w2 (some w1.heap.size))
 go_loopw [] (fun wr=>∃ (vs:List Nat) (cnt:Nat),RgG wr Ma w1.heap.size ma msa vs cnt∧(∀ x ∈ vs,x ∈ D∨Mut E a x)∧w2.grownBy wr (some w1.heap.size)) (fun wr=>wr.rangeLeft Ma w1.heap.size)
 case atStart=>exact⟨[],cnt0,HRG0.out,by simp,HGw.out⟩
 case round=>
  obtain⟨vs,cnt,hrg,hvs,hg⟩:=hrel
  have Hvs:=hid hvs
  have HGr:=hid hg
  have HRG:=hid hrg
  have hl1w:w.heap.size≤w1.heap.size:=B1.out.size
  clear hvs hg hrg
  go_wp2_with (first
   | (at_next;refine wpList_nextG _ rfl _ rfl Ma w1.heap.size ma msa vs cnt rfl HRG.out ?_ ?_)
   | go_in)
  ·intro hall
   have Hn:Hid (nextB E D a=true):=hid (nextB_iff.2 ⟨Hna.out,fun b hb=>Hvs.out b (hall b ((HFa.out b).2 hb))⟩)
   have B1r:Below w1.heap.size w1 wr:=(belowG HG0.out (fun _ e=>by cases e) (Nat.le_refl _)).trans (belowG HGr.out (fun r e=>by cases e;exact Nat.le_refl _) HG0.out.size)
   have BZ:=hid (B1.out.trans (B1r.mono hl1w))
   clear hall B1r
   go_wp2
   go_ret
   exact⟨by rw[Hn.out];rfl,BZ.out⟩
  ·intro x w3 cnt1 hx hxv hrg1 hlt1 hg1 hs1 hen
   have HG1:=hid (HGr.out.trans hg1)
   have B13:Below w1.heap.size w1 w3:=(belowG HG0.out (fun _ e=>by cases e) (Nat.le_refl _)).trans (belowG HG1.out (fun r e=>by cases e;exact Nat.le_refl _) HG0.out.size)
   have HRG1:=hid hrg1
   have Hlt1:Hid (cnt1 < wr.rangeLeft Ma w1.heap.size):=hid (by rw[HRG.out.left];exact hlt1)
   have B3:=hid (B1.out.trans (B13.mono hl1w))
   have hxn:=HLa.out x hx
   have HX2:=hid ((HFa.out x).1 hx)
   have HX:=hid (HH.out x (by omega) w3 B3.out)
   have r3:w3.heap[w.heap.size]?=some (.cells #[.slice o1 l1 c1,.slice (some aa) n c] 62 (0,0)):=(B13.block _ l1').trans R1.out
   have R3:=hid r3
   have l3:=heap_lt r3
   clear hrg1 hlt1 hg1 hx hxv B13 r3
   go_wp2_with fail
   refine HX.out.mono ?_
   rintro e4 w4 ⟨rfl,b4⟩
   have b4':=b4
   have B4:=hid (B3.out.trans (b4.mono B3.out.size))
   have r4:=(b4.block _ l3).trans R3.out
   have y0:w4.cell? ⟨w.heap.size,0,none⟩=some (.slice o1 l1 c1):=row_cells r4 0
   have y1:w4.cell? ⟨w.heap.size,1,none⟩=some (.slice (some aa) n c):=row_cells r4 1
   have l4:=heap_lt r4
   have hg4:w3.grownBy w4 none:=grownBelow b4
   have HRG4:=hid (HRG1.out.kept hg4 (by simp) (by simp))
   have HG4:=hid (HG1.out.trans (gB b4 (some w1.heap.size)))
   clear b4 b4' r4 hg4 HX
   cases hb:hasB D x with
   | true=>
    have Hvs2:Hid (∀ y ∈ vs++[x],y ∈ D∨Mut E a y):=hid fun y hy=>by
     rcases List.mem_append.1 hy with hy | hy
     ·exact Hvs.out y hy
     ·rw[List.mem_singleton.1 hy];exact .inl (hasB_iff.1 hb)
    clear hb
    go_wp2
    go_roundw
    case rel=>exact⟨vs++[x],cnt1,HRG4.out,Hvs2.out,HG4.out⟩
    case measure=>rw[HRG4.out.left];exact Hlt1.out
   | false=>
    have Hb:Hid (x ∉ D):=hid fun hm=>by rw[hasB_iff.2 hm] at hb;cases hb
    have HMm:=hid (HM.out x hxn w4 B4.out)
    clear hb
    go_wp2_with fail
    refine HMm.out.mono ?_
    rintro e5 w5 ⟨rfl,b5⟩
    have B5:=hid (B4.out.trans (b5.mono B4.out.size))
    have HRG5:=hid (HRG4.out.kept (grownBelow b5) (by simp) (by simp))
    have HG5:=hid (HG4.out.trans (gB b5 (some w1.heap.size)))
    clear b5 HMm
    cases hm:mutB E a x with
    | true=>
     have Hvs2:Hid (∀ y ∈ vs++[x],y ∈ D∨Mut E a y):=hid fun y hy=>by
      rcases List.mem_append.1 hy with hy | hy
      ·exact Hvs.out y hy
      ·rw[List.mem_singleton.1 hy];exact .inr (mutB_iff.1 hm)
     clear hm
     go_wp2
     go_roundw
     case rel=>exact⟨vs++[x],cnt1,HRG5.out,Hvs2.out,HG5.out⟩
     case measure=>rw[HRG5.out.left];exact Hlt1.out
    | false=>
     have Hn:Hid (nextB E D a=false):=hid (by
      cases hn:nextB E D a with
      | false=>rfl
      | true=>
       exfalso
       rcases (nextB_iff.1 hn).2 x (HX2.out) with h | h
       ·exact Hb.out h
       ·rw[mutB_iff.2 h] at hm;cases hm)
     clear hm
     go_wp2
     go_ret
     exact⟨by rw[Hn.out];rfl,B5.out⟩
end Go.Proofs.YtakpgcmfjlbcgaaGreatDoor
namespace Go.Proofs.YtakpgcmfjlbcgaaGreatDoor
open Lib(hid)
open Go.RowKit Go.Maps
theorem setG_mem {l m:List Nat} (h:setG l=setG m) (x:Nat):x ∈ l ↔ x ∈ m:=by rw[← hasG_nat,h,hasG_nat]
theorem SetG.one {w:World} {M i j:Nat} {l m:List Nat} (h:SetG w M i l) (k:SetG w M j m) (x:Nat):x ∈ l ↔ x ∈ m:=by
 obtain⟨es,c,h1,_,_,h2⟩:=h
 obtain⟨es',c',k1,_,_,k2⟩:=k
 rw[h1] at k1
 cases k1
 exact setG_mem (h2.trans k2.symm) x
open Classical in
noncomputable def sizeM (w:World) (M:Nat):Nat:=if h:∃ (i:Nat) (l:List Nat),SetG w M i l∧l.Nodup then h.choose_spec.choose.length else 0
theorem sizeM_eq {w:World} {M i:Nat} {l:List Nat} (h:SetG w M i l) (hn:l.Nodup):sizeM w M=l.length:=by
 have hx:∃ (i:Nat) (l:List Nat),SetG w M i l∧l.Nodup:=⟨i,l,h,hn⟩
 unfold sizeM
 rw[dif_pos hx]
 obtain⟨h1,h2⟩:=hx.choose_spec.choose_spec
 exact Nat.le_antisymm (h2.length_le_of_subset fun x hx=>(h1.one h x).1 hx) (hn.length_le_of_subset fun x hx=>(h1.one h x).2 hx)
theorem sizeM_le {w:World} {M i n:Nat} {l:List Nat} (h:SetG w M i l) (hn:l.Nodup) (hl:∀ x ∈ l,x < n):l.length≤n:=by
 have:=hn.length_le_of_subset (l₂:=List.range n) fun x hx=>List.mem_range.2 (hl x hx)
 rwa [List.length_range] at this
def lenG:Value→Nat
 | .slice _ m _=>m
 | _=>0
def intsG (D:List Nat):List Value:=D.map fun k:Nat=>.int .i64 (k:Int)
theorem own_cut {w:World} {base g k cap:Nat} {e:TypeId} {xs:List Value} {u:Value} (h:w.ownsRow base e 1 (.slice (some ⟨g,0,none⟩) (k+1) cap) (k+1) (xs++[u])):w.ownsRow base e 1 (.slice (some ⟨g,0,none⟩) k cap) k xs:=by
 obtain⟨hl,h2⟩:=h
 have hx:xs.length=k:=by simp at hl;omega
 rcases h2 with ⟨h3,_⟩ | ⟨g',cap',cur,hv,hb,hg,hn,hc,hs,ht⟩
 ·cases h3
 ·cases hv
  refine⟨by omega,.inr ⟨g,cap,cur,rfl,hb,hg,by omega,hc,hs,?_⟩⟩
  have h4:=congrArg (List.take k) ht
  rw[List.take_take,List.take_left' hx] at h4
  rw[← h4]
  congr 1
  omega
theorem own_cellG {w:World} {base g n cap:Nat} {e:TypeId} {xs:List Value} (h:w.ownsRow base e 1 (.slice (some ⟨g,0,none⟩) n cap) n xs):n≤cap∧cap≤maxLen∧g < w.heap.size∧∀ j u,xs[j]?=some u→w.cell? ⟨g,j,none⟩=some u:=by
 obtain⟨hl,h2⟩:=h
 rcases h2 with ⟨h3,_⟩ | ⟨g',cap',cur,hv,hb,hg,hn,hc,hs,ht⟩
 ·cases h3
 ·cases hv
  refine⟨hn,hc,heap_lt hg,fun j u hu=>?_⟩
  rw[row_cells hg j,← Array.getElem?_toList]
  rw[← ht,List.getElem?_take] at hu
  split at hu
  ·exact hu
  ·cases hu
theorem ownB {w w':World} {base e n:Nat} {v:Value} {xs:List Value} (h:w.ownsRow base e 1 v n xs) (hb:Below w.heap.size w w'):w'.ownsRow base e 1 v n xs:=
 h.kept (row:=none) (grownBelow hb) (by cases hv:v.ownBlock with | none=>exact .inl rfl | some g=>exact .inr (by simp))
theorem RgG.iter {w:World} {M r n:Nat} {ms vs:List Nat} {cnt:Nat} (h:RgG w M r n ms vs cnt):∃ a b c d,w.heap[r]?=some (.mapIter a b c d):=by
 obtain⟨_,⟨_,_,_,_,_,_,_,_,_,h6,_⟩,_⟩:=h
 exact⟨_,_,_,_,h6⟩
structure ReI (w:World) (G:Array Value) (T:TypeId) (ms left:List Nat) (lv:Value) (wr:World):Prop where
 set:SetG wr (w.heap.size+1) ms.length ms
 own:wr.ownsRow (w.heap.size+2) 3 1 lv left.length (intsG left)
 gr:wr.heap[w.heap.size]?=some (.cells G T (0,0))
 b:Below w.heap.size w wr
theorem ReI.below {w wr W:World} {G:Array Value} {T:TypeId} {ms left:List Nat} {lv:Value} (h:ReI w G T ms left lv wr) (hb:Below wr.heap.size wr W):ReI w G T ms left lv W:=
 ⟨h.set.below hb h.set.lt,ownB h.own hb,(hb.block _ (heap_lt h.gr)).trans h.gr,h.b.trans (hb.mono h.b.size)⟩
theorem own_iter {w:World} {base e n r:Nat} {v:Value} {xs:List Value} (h:w.ownsRow base e 1 v n xs) {a:Option Nat} {b:Nat} {c:Array Nat} {d:Nat} (hr:w.heap[r]?=some (.mapIter a b c d)):v.ownBlock≠some r:=fun e=>by
 rcases h.2 with ⟨h0,_⟩ | ⟨g,cap,cur,h1,_,h3,_⟩
 ·rw[h0] at e;cases e
 ·rw[h1] at e
  have:g=r:=Option.some.inj e
  subst this
  rw[hr] at h3
  cases h3
theorem ReI.next {w wr W:World} {G:Array Value} {T:TypeId} {ms left mss vs:List Nat} {lv:Value} {M r m cnt:Nat} (h:ReI w G T ms left lv wr) (hr:RgG wr M r m mss vs cnt) (hg:wr.grownBy W (some r)) (h2:w.heap.size+1 < r):ReI w G T ms left lv W:=by
 obtain⟨a,b,c,d,hi⟩:=hr.iter
 exact⟨h.set.kept hg (fun e=>by have:=Option.some.inj e;omega),h.own.kept hg (by have:=own_iter h.own hi;cases hv:lv.ownBlock with | none=>exact .inl rfl | some g=>exact .inr (by rw[← hv];exact this)),(hg.block _ (heap_lt h.gr) (fun e=>by have:=Option.some.inj e;omega)).trans h.gr,h.b.trans (belowG hg (fun k e=>by have:=Option.some.inj e;omega) h.b.size)⟩
theorem ReI.add {w wr W:World} {G:Array Value} {T:TypeId} {ms left:List Nat} {lv:Value} {y:Nat} (h:ReI w G T ms left lv wr) (hs:SetG W (w.heap.size+1) (ms.length+1) (ms++[y])) (hg:wr.grownBy W (some (w.heap.size+1))):ReI w G T (ms++[y]) left lv W:=by
 refine⟨by simpa using hs,h.own.kept hg ?_,(hg.block _ (heap_lt h.gr) (by simp)).trans h.gr,h.b.trans ((belowG hg (fun r e=>by cases e;exact Nat.le_succ _) h.b.size).mono (Nat.le_refl _))⟩
 cases hv:lv.ownBlock with
 | none=>exact .inl rfl
 | some g=>exact .inr fun e=>by cases e;have:=(h.own.lt _ hv).1;omega
theorem ReI.push {w wr W:World} {G:Array Value} {T:TypeId} {ms left:List Nat} {lv lv':Value} {y:Nat} (h:ReI w G T ms left lv wr) (ho:W.ownsRow (w.heap.size+2) 3 1 lv' (left.length+1) (intsG left++[.int .i64 (y:Int)])) (hg:wr.grownBy W lv.ownBlock):ReI w G T ms (left++[y]) lv' W:=by
 have hne:∀ j,lv.ownBlock=some j→w.heap.size+2≤j:=fun j hj=>(h.own.lt j hj).1
 refine⟨h.set.kept hg fun e=>by have:=hne _ e.symm;omega,?_,(hg.block _ (heap_lt h.gr) (fun e=>by have:=hne _ e.symm;omega)).trans h.gr,h.b.trans (belowG hg (fun r e=>by have:=hne _ e;omega) h.b.size)⟩
 unfold intsG at ho ⊢
 rw[List.map_append]
 simpa using ho
theorem push_rg {wr W:World} {M r m:Nat} {mss vs:List Nat} {cnt:Nat} {lv:Value} {base e n:Nat} {xs:List Value} (h:RgG wr M r m mss vs cnt) (ho:wr.ownsRow base e 1 lv n xs) (hM:M < base) (hg:wr.grownBy W lv.ownBlock):RgG W M r m mss vs cnt:=by
 refine h.kept hg (fun e=>by have:=(ho.lt _ e.symm).1;omega) fun e=>?_
 obtain⟨a,b,c,d,hr⟩:=h.iter
 rcases ho.2 with ⟨h0,_⟩ | ⟨g,cap,cur,h1,_,h3,_⟩
 ·rw[h0] at e;cases e
 ·rw[h1] at e
  have:r=g:=Option.some.inj e
  subst this
  rw[hr] at h3
  cases h3
theorem infoInt:(Tryz.prog.info? 3).map (fun i=>(i.zero,i.size,i.bytes))=some (some (.int .i64 0),1,8):=by kernel_rfl
set_option maxRecDepth 100000 in
set_option maxHeartbeats 8000000 in
theorem reach_c (E:Ed) (n a:Nat) (nv v:Value) (bs:List Nat) (w:World) (ho:∃ o l c,v=.slice o l c) (h:GrN w nv bs n (fun i x=>(i,x) ∈ E)) (ha:a < n) :
  Calls Tryz.prog 54 #[.agg #[nv,v],.int .i64 (a:Int)] w fun e w'=>∃ M m ms,e=.returned (.map (some M))∧SetG w' M m ms∧w.heap.size≤M∧m≤1000000∧(∀ x ∈ ms,x < n)∧(∀ x,x ∈ ms ↔ Rch E a x)∧Below w.heap.size w w':=by
 have hfew:=h.few
 have hmm:=@run_makeMap Tryz.prog
 obtain⟨i1,hi1,hy0,hy1,hy2⟩:=info_parts infoInt
 have HG:=hid h
 obtain⟨o1,l1,c1,rfl⟩:=ho
 obtain⟨o2,c2,rfl,_⟩:=SlOf.uni h.sl
 rw[h.len] at HG ⊢
 obtain⟨W2,hW2⟩:∃ W2,(w.alloc (.cells #[.slice o2 n c2,.slice o1 l1 c1] 62)).alloc (.map #[] 0)=W2:=⟨_,rfl⟩
 have hB2:Below w.heap.size w W2:=by rw[← hW2];exact ((Below.refl _ _).alloc (Nat.le_refl _) _).alloc (by simp) _
 have hS2:SetG W2 (w.heap.size+1) 0 []:=by
  have:=setG_made (w.alloc (.cells #[.slice o2 n c2,.slice o1 l1 c1] 62))
  rw[World.size_alloc,hW2] at this
  exact this
 have hG2:W2.heap[w.heap.size]?=some (.cells #[.slice o2 n c2,.slice o1 l1 c1] 62 (0,0)):=by
  rw[← hW2]
  exact (Below.heap_alloc _ _ _ (by simp)).trans (World.alloc_heap_new w _)
 have hz2:W2.heap.size=w.heap.size+2:=by rw[← hW2];simp
 have HA:=hid (addG_c (w.heap.size+1) 0 a [] W2 hS2 (by omega) (by unfold maxLen;omega))
 have HW2:=hid hW2
 have HB2:=hid hB2
 have HG2:=hid hG2
 have HZ2:=hid hz2
 have Ha:=hid ha
 clear h hW2 hB2 hS2 hG2 hz2 ha
 go_enter Tryz.func54,Tryz.ntmps54
 go_wp2_with fail
 rw[HW2.out]
 refine HA.out.mono ?_
 rintro e1 w1 ⟨rfl,s1,g1⟩
 have hn:W2.heap.size≤w1.heap.size:=g1.size
 obtain⟨W3,hW3⟩:∃ W3,w1.alloc (.cells #[.int .i64 (a:Int)] 3)=W3:=⟨_,rfl⟩
 have HI0:Hid (ReI w #[.slice o2 n c2,.slice o1 l1 c1] 62 [a] [a] (.slice (some ⟨w1.heap.size,0,none⟩) 1 1) W3):=hid (by
  have b1:Below (w.heap.size+1) W2 w1:=belowG g1 (fun r e=>by cases e;exact Nat.le_refl _) (by have:=HZ2.out;omega)
  have b3:Below w1.heap.size w1 W3:=by rw[← hW3];exact (Below.refl _ _).alloc (Nat.le_refl _) _
  refine⟨s1.below b3 s1.lt,?_,(b3.block _ (by have:=HZ2.out;omega)).trans ((b1.block _ (Nat.lt_succ_self _)).trans HG2.out),(HB2.out.trans (b1.mono (Nat.le_succ _))).trans (b3.mono (by have:=HZ2.out;omega))⟩
  refine⟨rfl,.inr ⟨w1.heap.size,1,#[.int .i64 (a:Int)],rfl,by have:=HZ2.out;omega,by rw[← hW3];exact World.alloc_heap_new _ _,Nat.le_refl _,by decide,rfl,rfl⟩⟩)
 have HW3:=hid hW3
 have HM0:=hid (And.intro (MetG.start (E:=E) Ha.out) (Nat.le_refl 1))
 clear s1 g1 hn hW3 HA
 go_wp2_with fail
 rw[HW3.out]
 go_loopw [6] (fun lv wr=>∃ (ms left:List Nat) (oc:Option Addr) (oq:Nat),.slice oc left.length oq=lv∧Hid (MetG E n a ms left∧left.length≤ms.length)∧Hid (ReI w #[.slice o2 n c2,.slice o1 l1 c1] 62 ms left (.slice oc left.length oq) wr)) (fun lv wr=>2 * (n - sizeM wr (w.heap.size+1))+lenG lv)
 case atStart=>exact⟨[a],[a],_,_,rfl,HM0,HI0⟩
 case round=>
  obtain⟨ms,left,oc,oq,rfl,HML,HI⟩:=hrel
  have HM:=hid HML.out.1
  rcases List.eq_nil_or_concat left with hl | ⟨left0,x,hl⟩
  ·subst hl
   have HF:Hid (ms.length≤1000000∧(∀ y ∈ ms,y < n)∧(∀ y,y ∈ ms ↔ Rch E a y)∧SetG wr (w.heap.size+1) ms.length ms∧Below w.heap.size w wr):=hid ⟨Nat.le_trans (sizeM_le HI.out.set HM.out.nd HM.out.lt) (by omega),HM.out.lt,HM.out.done,HI.out.set,HI.out.b⟩
   clear HI HM HML
   go_wp2
   go_ret
   exact⟨_,_,ms,rfl,HF.out.2.2.2.1,Nat.le_succ _,HF.out.1,HF.out.2.1,HF.out.2.2.1,HF.out.2.2.2.2⟩
  ·rw[List.concat_eq_append] at hl
   subst hl
   obtain⟨k,hk⟩:∃ k,left0.length=k:=⟨_,rfl⟩
   have hlen:(left0++[x]).length=k+1:=by simp[hk]
   obtain⟨g,hg⟩:∃ g,oc=some ⟨g,0,none⟩:=by
    rcases HI.out.own.2 with ⟨_,h0⟩ | ⟨g,cap,cur,h1,_⟩
    ·rw[hlen] at h0;cases h0
    ·simp only[Value.slice.injEq] at h1;exact⟨g,h1.1⟩
   subst hg
   obtain⟨q,hq⟩:∃ q,k+1=q:=⟨_,rfl⟩
   rw[hlen,hq] at HI ⊢
   have hown:=HI.out.own
   rw[hlen,hq] at hown
   have hint:intsG (left0++[x])=intsG left0++[.int .i64 (x:Int)]:=by unfold intsG;simp
   rw[hint] at hown
   obtain⟨hkq,hqm,hgl,hcel⟩:=own_cellG hown
   have hcx:wr.cell? ⟨g,k,none⟩=some (.int .i64 (x:Int)):=hcel k _ (by rw[List.getElem?_append_right (by unfold intsG;simp[hk])];unfold intsG;simp[hk])
   have HI1:Hid (ReI w #[.slice o2 n c2,.slice o1 l1 c1] 62 ms left0 (.slice (some ⟨g,0,none⟩) k oq) wr):=hid ⟨HI.out.set,by subst hq;rw[hk];exact own_cut hown,HI.out.gr,HI.out.b⟩
   have HMi:=hid HM.out.open
   have hxn:x < n:=HM.out.lt x (HM.out.sub x (by simp))
   obtain⟨aa,c,Ma,ma,msa,hv,hal,ca,sa,hma,hla,hfa⟩:=HG.out.at_ hxn
   simp only[Value.slice.injEq,true_and] at hv
   obtain⟨hv1,hv2⟩:=hv
   subst hv1
   subst hv2
   have hgr:=HI.out.gr
   have x0:wr.cell? ⟨w.heap.size,0,none⟩=some (.slice (some aa) n c2):=row_cells hgr 0
   have x1:wr.cell? ⟨w.heap.size,1,none⟩=some (.slice o1 l1 c1):=row_cells hgr 1
   have lg:=heap_lt hgr
   have hba:(aa.add x).block < w.heap.size:=by rw[addBlock];exact hal
   have ca1:wr.cell? (aa.add x)=some (.map (some Ma)):=(HI.out.b.cell hba).trans ca
   have hba1:(aa.add x).block < wr.heap.size:=Nat.lt_of_lt_of_le hba HI.out.b.size
   have S1:=hid (sa.below HI.out.b sa.lt)
   have HMa:=hid sa.lt
   have hx0:(0:Int)≤(x:Int):=by omega
   have hx1:(x:Int) < (n:Int):=by omega
   have hk0:(0:Int) < (q:Int):=by omega
   have hwk:wrap64 ((q:Int) - 1)=(k:Int):=by unfold maxLen at hqm;unfold wrap64;omega
   clear hqm
   have hk1:(k:Int) < (q:Int):=by omega
   have hk2:(0:Int)≤(k:Int):=Int.natCast_nonneg k
   have hk3:(k:Int)≤(oq:Int):=by omega
   have HFa:=hid hfa
   have HLa:=hid hla
   have Hk:=hid hk
   have Hms:Hid (sizeM wr (w.heap.size+1)=ms.length):=hid (sizeM_eq HI.out.set HM.out.nd)
   have Hq:=hid hq
   have HLn:Hid (left0.length≤ms.length):=hid (by have:=HML.out.2;rw[hlen] at this;omega)
   clear HI HM HML hown hint hcel hgr sa hla hfa hlen hal ca hk hma hq hkq
   go_wp2_with (first
    | (at_range;refine wpList_rangeG _ rfl _ 66 rfl Tryz.underlying66 Ma ma msa rfl S1.out ?_;intro w2 cnt0 hrg0 hg0 hs0;have HRG0:=hid hrg0;have HG0:=hid hg0;have HS0:=hid hs0;clear hrg0 hg0 hs0)
    | go_in)
   go_frame
   rw[hwk,show decide (0 < q)=true from decide_eq_true (by omega)]
   obtain⟨wo,hwo⟩:∃ W,W=wr:=⟨_,rfl⟩
   subst hwo
   have HI2:=hid (HI1.out.below (belowG HG0.out (fun _ e=>by cases e) (Nat.le_refl _)))
   have Hr:Hid (w.heap.size+1 < wo.heap.size):=hid HI1.out.set.lt
   go_loopw [6] (fun lv wi=>∃ (vs msi lf:List Nat) (cnt:Nat) (oc1:Option Addr) (oq1:Nat),.slice oc1 lf.length oq1=lv∧Hid (RgG wi Ma wo.heap.size ma msa vs cnt)∧Hid (MidG E n a x vs msi lf)∧Hid (ReI w #[.slice (some aa) n c2,.slice o1 l1 c1] 62 msi lf (.slice oc1 lf.length oq1) wi)∧Hid (lf.length≤msi.length∧2 * (n - msi.length)+lf.length≤2 * (n - ms.length)+left0.length)) (fun _ wi=>wi.rangeLeft Ma wo.heap.size)
   case atStart=>exact⟨[],ms,left0,cnt0,some ⟨g,0,none⟩,oq,by rw[Hk.out],HRG0,HMi,by rw[Hk.out];exact HI2,hid ⟨HLn.out,Nat.le_refl _⟩⟩
   case round=>
    obtain⟨vs,msi,lf,cnt,oc1,oq1,rfl,HRG,HMd,HIi,HLe⟩:=hrel
    have Hm2:Hid (msi.length≤n):=hid (sizeM_le HIi.out.set HMd.out.nd HMd.out.lt)
    go_wp2_with (first
     | (at_next;refine wpList_nextG _ rfl _ rfl Ma wo.heap.size ma msa vs cnt rfl HRG.out ?_ ?_)
     | go_in)
    ·intro hall
     have HMn:=hid (HMd.out.shutAll fun y hy=>hall y ((HFa.out y).2 hy))
     have Hsz:Hid (sizeM wr (w.heap.size+1)=msi.length):=hid (sizeM_eq HIi.out.set HMd.out.nd)
     have Hlt:Hid (2 * (n - msi.length)+lf.length < 2 * (n - ms.length)+q):=hid (by have:=HLe.out;have:=Hk.out;have:=Hq.out;omega)
     clear hall
     go_wp2
     go_roundw
     case rel=>exact⟨msi,lf,oc1,oq1,rfl,hid ⟨HMn.out,HLe.out.1⟩,HIi⟩
     case measure=>
      rw[Hsz.out,Hms.out]
      exact Hlt.out
    ·intro y w3 cnt1 hy hyv hrg1 hlt1 hg1 hs1 hen
     have HI3:=hid (HIi.out.next HRG.out hg1 Hr.out)
     have HRG3:=hid hrg1
     have Hlt1:Hid (cnt1 < wr.rangeLeft Ma wo.heap.size):=hid (by rw[HRG.out.left];exact hlt1)
     have hyn:=HLa.out y hy
     have HyE:=hid ((HFa.out y).1 hy)
     have HX:=hid (hasG_c (w.heap.size+1) msi.length y msi w3 HI3.out.set (by omega))
     clear hrg1 hlt1 hg1 hy hyv hs1
     go_wp2_with fail
     refine HX.out.mono ?_
     rintro e4 w4 ⟨rfl,b4⟩
     have HI4:=hid (HI3.out.below b4)
     have HRG4:=hid (HRG3.out.kept (grownBelow b4) (by simp) (by simp))
     clear b4 HX
     cases hb:hasB msi y with
     | true=>
      have HM4:=hid (HMd.out.old (hasB_iff.1 hb))
      clear hb
      go_wp2
      go_roundw
      case rel=>exact⟨vs++[y],msi,lf,cnt1,oc1,oq1,rfl,HRG4,HM4,HI4,HLe⟩
      case measure=>rw[HRG4.out.left];exact Hlt1.out
     | false=>
      have hnb:y ∉ msi:=fun hm=>by rw[hasB_iff.2 hm] at hb;cases hb
      have HM4:=hid (HMd.out.new hnb hyn HyE.out)
      have HAd:=hid (addG_c (w.heap.size+1) msi.length y msi w4 HI4.out.set (by omega) (by have:=Hm2.out;unfold maxLen;omega))
      clear hb hnb
      go_wp2_with fail
      refine HAd.out.mono ?_
      rintro e5 w5 ⟨rfl,s5,g5⟩
      have HI5:=hid (HI4.out.add s5 g5)
      have HRG5:=hid (HRG4.out.kept g5 (by have:=HMa.out;intro e;have:=Option.some.inj e;omega) (by have:=Hr.out;intro e;have:=Option.some.inj e;omega))
      obtain⟨m,hm⟩:∃ m,lf.length=m:=⟨_,rfl⟩
      have Hm:=hid hm
      have HO5:Hid (w5.ownsRow (w.heap.size+2) 3 1 (.slice oc1 m oq1) m (intsG lf)):=hid (by rw[← hm];exact HI5.out.own)
      have HS1:Hid (m+1≤maxLen):=hid (by have:=HLe.out.1;have:=Hm2.out;unfold maxLen;omega)
      have HS2:Hid ((m+1) * 8≤140737488355328):=hid (by have:=HLe.out.1;have:=Hm2.out;omega)
      have HN5:Hid (w.heap.size+2≤w5.heap.size):=hid HI5.out.set.lt
      rw[hm]
      clear s5 g5 HAd hm
      go_wp2_with (at_builtin;refine wpList_append_own _ rfl (.tmp 46) (.tmp 48) 39 rfl (w.heap.size+2) 3 i1 _ 1 8 Tryz.underlying39 hi1 hy0 hy1 hy2 rfl (by decide) (.slice oc1 m oq1) m _ rfl (HO5.out.alloc _) _ 1 1 [.int .i64 (y:Int)] rfl rfl (news_one _ _ _) (fun u hu=>by simp at hu;subst hu;rfl) HS1.out HS2.out (by have:=HN5.out;simp;omega) ?_;intro v' w6 hown' hgrow _;obtain⟨vc,vq,rfl⟩:=own_shape hown';have HO6:=hid hown';have HG6:=hid (grown_past hgrow);clear hown' hgrow)
      go_wp2
      have HI6:Hid (ReI w #[.slice (some aa) n c2,.slice o1 l1 c1] 62 (msi++[y]) (lf++[y]) (.slice vc (m+1) vq) w6):=hid (HI5.out.push (by rw[Hm.out];exact HO6.out) (by rw[Hm.out];exact HG6.out))
      have HRG6:=hid (push_rg HRG5.out HO5.out (by have:=HMa.out;omega) HG6.out)
      go_roundw
      case rel=>exact⟨vs++[y],msi++[y],lf++[y],cnt1,vc,vq,by simp[Hm.out],HRG6,HM4,by rw[List.length_append,List.length_singleton,Hm.out];exact HI6,hid (by have:=HLe.out;have h2:=sizeM_le HI6.out.set HM4.out.nd HM4.out.lt;simp at h2 ⊢;omega)⟩
      case measure=>rw[HRG6.out.left];exact Hlt1.out
end Go.Proofs.YtakpgcmfjlbcgaaGreatDoor
namespace Go.Proofs.YtakpgcmfjlbcgaaGreatDoor
open Lib(hid)
open Go.RowKit
section
variable {w w':World} {B B':Nat}
theorem AmC.cells {t:Am} {cs:List Value} (h:AmC w B t cs) (hk:∀ p c,w.cell? p=some c→w'.cell? p=some c):AmC w' B t cs:=by
 obtain⟨v,h1,h2,h3⟩:=h
 exact⟨v,h1,h2,h3.cells hk fun _ _ _ h=>h.cells hk⟩
theorem RuC.cells {t:Ru} {cs:List Value} (h:RuC w B t cs) (hk:∀ p c,w.cell? p=some c→w'.cell? p=some c):RuC w' B t cs:=by
 obtain⟨ca,v,h1,h2,h3,h4⟩:=h
 exact⟨ca,v,h1,h2,h3.cells hk,h4.cells hk fun _ _ _ h=>h.cells hk⟩
theorem DeC.cells {t:De} {cs:List Value} (h:DeC w B t cs) (hk:∀ p c,w.cell? p=some c→w'.cell? p=some c):DeC w' B t cs:=by
 obtain⟨v,u,h1,h2,h3,h4,h5⟩:=h
 exact⟨v,u,h1,h2,h3,h4.cells hk fun _ _ _ h=>h,h5.cells hk fun _ _ _ h=>h⟩
theorem PgC.cells {t:Pg} {cs:List Value} (h:PgC w B t cs) (hk:∀ p c,w.cell? p=some c→w'.cell? p=some c):PgC w' B t cs:=by
 obtain⟨v,u,h1,h2,h3⟩:=h
 exact⟨v,u,h1,h2.cells hk fun _ _ _ h=>h.cells hk,h3.cells hk fun _ _ _ h=>h.cells hk⟩
theorem KC.all (k:KC w w'):∀ p c,w.cell? p=some c→w'.cell? p=some c:=fun _ _ h=>k.cell h
theorem RuC.kc {t:Ru} {cs:List Value} (h:RuC w B t cs) (k:KC w w') (hB:B≤B'):RuC w' B' t cs:=(h.cells k.all).more hB
theorem PgC.kc {t:Pg} {cs:List Value} (h:PgC w B t cs) (k:KC w w') (hB:B≤B'):PgC w' B' t cs:=(h.cells k.all).more hB
theorem SlOf.declK {l:List De} {v:Value} (h:SlOf w B 6 (DeC w B) l v) (k:KC w w') (hB:B≤B'):SlOf w' B' 6 (DeC w' B') l v:=SlOf.more (h.cells k.all fun _ _ _ h=>h.cells k.all) hB fun _ _ _ h=>h.more hB
end
end Go.Proofs.YtakpgcmfjlbcgaaGreatDoor

/- Gsm@0123 -/
import Derived.Test.YtakpgcmfjlbcgaaGreatDoorQ42
set_option linter.unusedSimpArgs false
set_option linter.unusedVariables false
namespace Go.Proofs.YtakpgcmfjlbcgaaGreatDoor
open Lib(hid)
open Go.RowKit
def IntsC (w:World) (B:Nat) (g:List Int) (cs:List Value):Prop:=∃ o c,cs=[.slice o g.length c]∧SlOf w B 1 IntC g (.slice o g.length c)
theorem ints_at {w:World} {l:List (List Int)} {v:Value} (h:SlOf w w.heap.size 1 (IntsC w w.heap.size) l v) {i:Nat} {g:List Int} (hi:l[i]?=some g):∃ a c o k,v=.slice (some a) l.length c∧a.block < w.heap.size∧w.cell? (a.add i)=some (.slice o g.length k)∧SlOf w w.heap.size 1 IntC g (.slice o g.length k):=by
 rcases h with ⟨_,h0⟩ | ⟨a,cap,hv,_,_,hb,h3⟩
 ·rw[h0] at hi;simp at hi
 ·obtain⟨cs,_,⟨o,k,rfl,hs⟩,hc⟩:=h3 i g hi
  have h1:=hc.n1
  rw[Nat.mul_one] at h1
  exact⟨a,cap,o,k,hv,hb (by intro e;rw[e] at hi;simp at hi),h1,hs⟩
def slots7:List (Option Tmp):=[some 18,some 19,some 20,some 21,some 22,some 23,some 24,some 25,some 26,some 6]
def facts7 (v u p q x y:Value) (i:Nat) (f:Bool):List (Value→World→Prop):=
 [fun z _=>z=v,fun z _=>z=.int .i64 (i:Int),fun z _=>z=p,fun z _=>z=x,fun z _=>z=u,fun z _=>z=.int .i64 (i:Int),fun z _=>z=q,fun z _=>z=y,fun z _=>z=.bool f,fun z _=>z=.bool f]
theorem lasts7 (v u p q x y:Value) (i:Nat) (f:Bool):Lasts (facts7 v u p q x y i f):=by
 intro p hp
 unfold facts7 at hp
 simp only[List.mem_cons,List.not_mem_nil,or_false] at hp
 rcases hp with rfl | rfl | rfl | rfl | rfl | rfl | rfl | rfl | rfl | rfl <;> intro v w w' h hb <;> exact h
set_option maxRecDepth 100000 in
set_option maxHeartbeats 8000000 in
theorem same7_c (l m:List (List Int)) (v u:Value) (w:World) (h1:SlOf w w.heap.size 1 (IntsC w w.heap.size) l v) (h2:SlOf w w.heap.size 1 (IntsC w w.heap.size) m u) (hn0:l.length≤1000) :
  Calls Tryz.prog 19 #[v,u] w fun e w'=>e=.returned (.bool (decide (l=m)))∧Below w.heap.size w w':=by
 obtain⟨o1,k1,rfl,hlk,hkm,_⟩:=SlOf.uni h1
 obtain⟨o2,k2,rfl,_⟩:=SlOf.uni h2
 have H1:=hid h1
 have H2:=hid h2
 have HB0:Hid (Below w.heap.size w w):=hid (Below.refl _ _)
 have HN0:=hid hn0
 clear h1 h2 hn0
 by_cases hl:l.length=m.length
 ·go_enter Tryz.func19,Tryz.ntmps19
  rw[← hl]
  have Hl:=hid hl
  clear hl
  go_wp2_with fail
  go_loopw [5] (fun iv wr=>∃ i:Nat,i≤l.length∧iv=.int .i64 (i:Int)∧Hid (l.take i=m.take i)∧Hid (Below w.heap.size w wr)) (fun iv _=>l.length - (intOf iv).toNat)
  case atStart=>exact⟨0,Nat.zero_le _,rfl,hid rfl,HB0⟩
  case round=>
   obtain⟨i,hi,rfl,HT,HB⟩:=hrel
   by_cases hlt:i < l.length
   ·have hlt':(i:Int) < (l.length:Int):=by omega
    have hi0:(0:Int)≤(i:Int):=by omega
    obtain⟨g,hg⟩:∃ g,l[i]?=some g:=⟨_,List.getElem?_eq_getElem hlt⟩
    obtain⟨g',hg'⟩:∃ g,m[i]?=some g:=⟨_,List.getElem?_eq_getElem (by have:=Hl.out;omega)⟩
    obtain⟨a,c,oa,ka,hva,hab,hac,hga⟩:=ints_at H1.out hg
    obtain⟨b,c',ob,kb,hvb,hbb,hbc,hgb⟩:=ints_at H2.out hg'
    simp only[Value.slice.injEq,true_and] at hva hvb
    obtain⟨rfl,rfl⟩:=hva
    obtain⟨rfl,rfl⟩:=hvb
    have HA:Hid ((a.add i).block < w.heap.size∧(b.add i).block < w.heap.size):=hid ⟨by rw[addBlock];exact hab,by rw[addBlock];exact hbb⟩
    have HCa:=hid hac
    have HCb:=hid hbc
    have HGa:=hid hga
    have HGb:=hid hgb
    have HTs:Hid (l.take (i+1)=m.take (i+1) ↔ g=g'):=hid (by
     rw[List.take_add_one,List.take_add_one,hg,hg',HT.out]
     simp)
    clear hac hbc hga hgb hg hg'
    go_wp2_with fail
    refine wp_region_any (by kernel_rfl) ?_
    (try (change wpAny _ _ _ _ _ _ _ (World.drew _)))
    refine wpAny_say slots7 _ _ (FW [] (facts7 (.slice (some a) l.length k1) (.slice (some b) l.length k2) (.pointer (some (a.add i))) (.pointer (some (b.add i))) (.slice oa g.length ka) (.slice ob g'.length kb) i (decide (g=g'))) wr.drew) (by kernel_rfl) (by kernel_rfl) (by kernel_rfl) (by kernel_rfl) (by kernel_rfl) ⟨?R0,?R1,?R2,?R3,?R4,?R5,?R6,?R7,?R8,?R9,trivial⟩ FW.start ?Rfin
    case R0=>
     intro l' val A' w' K hl hn' hd hF hfar hdep hK
     have f1:A'.tmps[0]?.getD undef=.slice (some a) l.length k1:=hfar 0 (by decide)
     unfold Oper.wp
     simp[execOp,f1,go_sem,Result.andThen]
     exact hK _ _ (hF.step (lasts7 _ _ _ _ _ _ _ _) (Below.refl _ _) (fun p hp=>by cases hp;rfl))
    case R1=>
     intro l' val A' w' K hl hn' hd hF hfar hdep hK
     have f1:A'.tmps[5]?.getD undef=.int .i64 (i:Int):=hfar 5 (by decide)
     unfold Oper.wp
     simp[execOp,f1,go_sem,Result.andThen]
     exact hK _ _ (hF.step (lasts7 _ _ _ _ _ _ _ _) (Below.refl _ _) (fun p hp=>by cases hp;rfl))
    case R2=>
     intro l' val A' w' K hl hn' hd hF hfar hdep hK
     have f1:A'.tmps[18]?.getD undef=.slice (some a) l.length k1:=(hdep 0 18 rfl (by kernel_rfl)).trans (hF.rd 0 _ (hd 0 (by kernel_rfl)) rfl)
     have f2:A'.tmps[19]?.getD undef=.int .i64 (i:Int):=(hdep 1 19 rfl (by kernel_rfl)).trans (hF.rd 1 _ (hd 1 (by kernel_rfl)) rfl)
     unfold Oper.wp
     simp[execOp,f1,f2,hi0,hlt',go_sem,Result.andThen]
     exact hK _ _ (hF.step (lasts7 _ _ _ _ _ _ _ _) (Below.refl _ _) (fun p hp=>by cases hp;rfl))
    case R3=>
     intro l' val A' w' K hl hn' hd hF hfar hdep hK
     have hb:Below w.heap.size w w':=HB.out.trans (((Below.refl _ wr).drew.trans hF.b).mono HB.out.size)
     have f1:A'.tmps[20]?.getD undef=.pointer (some (a.add i)):=(hdep 2 20 rfl (by kernel_rfl)).trans (hF.rd 2 _ (hd 2 (by kernel_rfl)) rfl)
     have c0:=(hb.cell HA.out.1).trans HCa.out
     unfold Oper.wp
     simp[execOp,f1,c0,go_sem,Result.andThen]
     exact hK _ _ (hF.step (lasts7 _ _ _ _ _ _ _ _) (Below.refl _ _) (fun p hp=>by cases hp;rfl))
    case R4=>
     intro l' val A' w' K hl hn' hd hF hfar hdep hK
     have f1:A'.tmps[1]?.getD undef=.slice (some b) l.length k2:=hfar 1 (by decide)
     unfold Oper.wp
     simp[execOp,f1,go_sem,Result.andThen]
     exact hK _ _ (hF.step (lasts7 _ _ _ _ _ _ _ _) (Below.refl _ _) (fun p hp=>by cases hp;rfl))
    case R5=>
     intro l' val A' w' K hl hn' hd hF hfar hdep hK
     have f1:A'.tmps[5]?.getD undef=.int .i64 (i:Int):=hfar 5 (by decide)
     unfold Oper.wp
     simp[execOp,f1,go_sem,Result.andThen]
     exact hK _ _ (hF.step (lasts7 _ _ _ _ _ _ _ _) (Below.refl _ _) (fun p hp=>by cases hp;rfl))
    case R6=>
     intro l' val A' w' K hl hn' hd hF hfar hdep hK
     have f1:A'.tmps[22]?.getD undef=.slice (some b) l.length k2:=(hdep 4 22 rfl (by kernel_rfl)).trans (hF.rd 4 _ (hd 4 (by kernel_rfl)) rfl)
     have f2:A'.tmps[23]?.getD undef=.int .i64 (i:Int):=(hdep 5 23 rfl (by kernel_rfl)).trans (hF.rd 5 _ (hd 5 (by kernel_rfl)) rfl)
     unfold Oper.wp
     simp[execOp,f1,f2,hi0,hlt',go_sem,Result.andThen]
     exact hK _ _ (hF.step (lasts7 _ _ _ _ _ _ _ _) (Below.refl _ _) (fun p hp=>by cases hp;rfl))
    case R7=>
     intro l' val A' w' K hl hn' hd hF hfar hdep hK
     have hb:Below w.heap.size w w':=HB.out.trans (((Below.refl _ wr).drew.trans hF.b).mono HB.out.size)
     have f1:A'.tmps[24]?.getD undef=.pointer (some (b.add i)):=(hdep 6 24 rfl (by kernel_rfl)).trans (hF.rd 6 _ (hd 6 (by kernel_rfl)) rfl)
     have c0:=(hb.cell HA.out.2).trans HCb.out
     unfold Oper.wp
     simp[execOp,f1,c0,go_sem,Result.andThen]
     exact hK _ _ (hF.step (lasts7 _ _ _ _ _ _ _ _) (Below.refl _ _) (fun p hp=>by cases hp;rfl))
    case R8=>
     intro l' val A' w' K hl hn' hd hF hfar hdep hK
     have hb:Below w.heap.size w w':=HB.out.trans (((Below.refl _ wr).drew.trans hF.b).mono HB.out.size)
     have f1:A'.tmps[21]?.getD undef=.slice oa g.length ka:=(hdep 3 21 rfl (by kernel_rfl)).trans (hF.rd 3 _ (hd 3 (by kernel_rfl)) rfl)
     have f2:A'.tmps[25]?.getD undef=.slice ob g'.length kb:=(hdep 7 25 rfl (by kernel_rfl)).trans (hF.rd 7 _ (hd 7 (by kernel_rfl)) rfl)
     have HC:=sameInts_c g g' _ _ w' (SlOf.int HGa.out hb hb.size) (SlOf.int HGb.out hb hb.size)
     unfold Oper.wp
     simp[execOp,f1,f2,go_sem,Result.andThen]
     refine HC.mono ?_
     rintro e5 w5 ⟨rfl,b5⟩
     exact hK _ _ (hF.step (lasts7 _ _ _ _ _ _ _ _) b5 (fun p hp=>by cases hp;rfl))
    case R9=>
     intro l' val A' w' K hl hn' hd hF hfar hdep hK
     have f1:A'.tmps[26]?.getD undef=.bool (decide (g=g')):=(hdep 8 26 rfl (by kernel_rfl)).trans (hF.rd 8 _ (hd 8 (by kernel_rfl)) rfl)
     unfold Oper.wp
     simp[execOp,f1,go_sem,Result.andThen]
     exact hK _ _ (hF.step (lasts7 _ _ _ _ _ _ _ _) (Below.refl _ _) (fun p hp=>by cases hp;rfl))
    case Rfin=>
     intro l' val w5 hall5 hF
     have v9:val 9=.bool (decide (g=g')):=hF.rd 9 _ (hall5 9 (by decide)) rfl
     have hb5:=(Below.refl _ wr).drew.trans hF.b
     simp only[slots7,putsA,Nat.zero_add,Nat.reduceAdd]
     rw[v9]
     generalize val 0=u0
     generalize val 1=u1'
     generalize val 2=u2
     generalize val 3=u3
     generalize val 4=u4
     generalize val 5=u5
     generalize val 6=u6
     generalize val 7=u7
     generalize val 8=u8
     have HB5:=hid (HB.out.trans (hb5.mono HB.out.size))
     clear hF hall5 hb5 v9 val
     by_cases hgg:g=g'
     ·have HT5:=hid (HTs.out.2 hgg)
      rw[decide_eq_true hgg]
      clear hgg
      go_simp
      have hn1:=HN0.out
      have hi9:(i:Int)+1≤9223372036854775807:=by omega
      go_wp2
      go_roundw
      case rel=>exact⟨i+1,hlt,by go_num,HT5,HB5⟩
      case measure=>simp[intOf];omega
     ·have HN:Hid (¬ l=m):=hid (fun e=>hgg (HTs.out.1 (by rw[e])))
      rw[decide_eq_false hgg]
      clear hgg
      go_simp
      go_wp2
      go_ret
      exact⟨by rw[decide_eq_false HN.out];rfl,HB5.out⟩
   ·have hlt':¬ (i:Int) < (l.length:Int):=by omega
    obtain rfl:i=l.length:=by omega
    have HE:Hid (l=m):=hid (by
     have:=HT.out
     rwa [List.take_of_length_le (Nat.le_refl _),List.take_of_length_le (by have:=Hl.out;omega)] at this)
    go_wp2
    go_ret
    exact⟨by rw[decide_eq_true HE.out];rfl,HB.out⟩
 ·have hl':¬ (l.length:Int)=(m.length:Int):=by omega
  have HN:Hid (¬ l=m):=hid (fun e=>hl (by rw[e]))
  go_enter Tryz.func19,Tryz.ntmps19
  go_wp2
  go_ret
  exact⟨by rw[decide_eq_false HN.out];rfl,HB0.out⟩
end Go.Proofs.YtakpgcmfjlbcgaaGreatDoor

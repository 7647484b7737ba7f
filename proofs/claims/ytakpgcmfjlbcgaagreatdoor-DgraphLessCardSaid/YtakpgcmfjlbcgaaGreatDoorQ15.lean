/- Yround@0123, Yfind@0123 -/
import Derived.Deep.LoopGhost
import Derived.WalkMore
import Derived.Test.YtakpgcmfjlbcgaaGreatDoorQ14
set_option linter.unusedSimpArgs false
set_option linter.unusedVariables false
namespace Go.Proofs.YtakpgcmfjlbcgaaGreatDoor
open Lib(hid)
open Go.RowKit
theorem lt_in {n₀:Nat} {w wr:World} {l:List Lt} {o:Option Addr} {k:Nat} {t:Lt} (S:Hid (SlIn w n₀ 11 (LtC w n₀) l o)) (hB:Below n₀ w wr) (ht:l[k]?=some t) :
  ∃ a o0 k0 o1 k1 o2 k2,o=some a∧a.block < n₀∧Hid (LtC wr n₀ t [.int .i64 t.op,.string t.a.rel,.slice o0 t.a.l.length k0,.int .i64 t.x.op,.string t.x.s,.int .i64 t.x.n,.slice o1 t.x.l.length k1,.int .i64 t.y.op,.string t.y.s,.int .i64 t.y.n,.slice o2 t.y.l.length k2]) ∧
   wr.cell? (a.add (k * 11))=some (.int .i64 t.op)∧wr.cell? ⟨(a.add (k * 11)).block,(a.add (k * 11)).off+1,none⟩=some (.string t.a.rel)∧wr.cell? ⟨(a.add (k * 11)).block,(a.add (k * 11)).off+2,none⟩=some (.slice o0 t.a.l.length k0)∧wr.cell? ⟨(a.add (k * 11)).block,(a.add (k * 11)).off+3,none⟩=some (.int .i64 t.x.op)∧wr.cell? ⟨(a.add (k * 11)).block,(a.add (k * 11)).off+4,none⟩=some (.string t.x.s)∧wr.cell? ⟨(a.add (k * 11)).block,(a.add (k * 11)).off+5,none⟩=some (.int .i64 t.x.n)∧wr.cell? ⟨(a.add (k * 11)).block,(a.add (k * 11)).off+6,none⟩=some (.slice o1 t.x.l.length k1)∧wr.cell? ⟨(a.add (k * 11)).block,(a.add (k * 11)).off+7,none⟩=some (.int .i64 t.y.op)∧wr.cell? ⟨(a.add (k * 11)).block,(a.add (k * 11)).off+8,none⟩=some (.string t.y.s)∧wr.cell? ⟨(a.add (k * 11)).block,(a.add (k * 11)).off+9,none⟩=some (.int .i64 t.y.n)∧wr.cell? ⟨(a.add (k * 11)).block,(a.add (k * 11)).off+10,none⟩=some (.slice o2 t.y.l.length k2):=by
 obtain⟨a,cs,rfl,ha,_,h1,h2⟩:=S.out k t ht
 obtain⟨o0,k0,o1,k1,o2,k2,rfl,_⟩:=h1.look
 exact⟨a,o0,k0,o1,k1,o2,k2,rfl,ha,hid (h1.below hB),(h2.below ha hB).n11⟩
theorem LtC.look2 {w:World} {B:Nat} {t:Lt} {v0 v1 v2 v3 v4 v5 v6 v7 v8 v9 v10:Value} (h:LtC w B t [v0,v1,v2,v3,v4,v5,v6,v7,v8,v9,v10]):TmC w B t.x [v3,v4,v5,v6]∧TmC w B t.y [v7,v8,v9,v10]:=by
 obtain⟨o0,k0,o1,k1,o2,k2,e,_,h1,h2,h3⟩:=h.look
 simp only[List.cons.injEq] at e
 obtain⟨rfl,rfl,rfl,rfl,rfl,rfl,rfl,rfl,rfl,rfl,rfl,_⟩:=e
 exact⟨h2,h3⟩
def prsL:List Lt→List (Tm × Tm)
 | []=>[]
 | t::l=>if duoB t then (t.x,t.y)::prsL l else prsL l
theorem prsL_drop {l:List Lt} {k:Nat} {t:Lt} (h:l[k]?=some t):prsL (l.drop k)=if duoB t then (t.x,t.y)::prsL (l.drop (k+1)) else prsL (l.drop (k+1)):=by
 have h1:l.drop k=t::l.drop (k+1):=by rw[List.drop_eq_getElem_cons (List.getElem?_eq_some_iff.1 h).1,(List.getElem?_eq_some_iff.1 h).2]
 rw[h1];rfl
theorem alikeL_cons (K:Kn) (x y:Tm) (l:List (Tm × Tm)):alikeL K ((x,y)::l)=(match alike1 K x y with | none=>none | some K'=>alikeL K' l):=by
 rw[alikeL];rfl
theorem learn_len {K K':Kn} {t:Tm} {k:Int} (h:learn1 K t k=some K'):K.length≤K'.length:=by
 rcases learn_cases h with ⟨_,rfl⟩ | ⟨_,_,rfl⟩ | ⟨_,_,_,rfl⟩ <;> simp
theorem alike_len {K K':Kn} {x y:Tm} (h:alike1 K x y=some K'):K.length≤K'.length:=by
 unfold alike1 at h
 split at h
 ·split at h
  ·exact learn_len h
  ·cases h;exact Nat.le_refl _
 ·exact learn_len h
theorem alikeL_len:∀ {l:List (Tm × Tm)} {K K':Kn},alikeL K l=some K'→K.length≤K'.length
 | [],_,_,h=>by cases h;exact Nat.le_refl _
 | (x,y)::l,K,K',h=>by
  rw[alikeL_cons] at h
  cases h1:alike1 K x y with
  | none=>rw[h1] at h;cases h
  | some K1=>rw[h1] at h;exact Nat.le_trans (alike_len h1) (alikeL_len h)
set_option maxRecDepth 100000 in
set_option maxHeartbeats 4000000 in
theorem eachOther_c (r:Ru) (cs:List Value) (B n₀:Nat) (V:List (List UInt8)) (hV:V.length≤1000000) (K:Kn) (a b' c d:Addr) (w:World) (hc:RuC w n₀ r cs) (hB:n₀≤B) (hM:KnM V w B K) (hv:∀ l ∈ r.body,(l.x.op=1→nm l.x ∈ V)∧(l.y.op=1→nm l.y ∈ V)) (E:YEnv n₀ a b' c d w) :
  Calls Tryz.prog 144 #[.map (some B),.agg cs.toArray] w fun e w'=>∃ rr,Rounds (prsL r.body) K rr∧LearnR V w B a rr e w':=by
 obtain⟨o0,k0,o1,k1,rfl,_,_,hL⟩:=hc.look
 obtain⟨_,_,e2,hcap,hmax,SL⟩:=hL.open
 cases e2
 have HE:=hid E
 have HM:=hid hM
 have hB1:=hM.lt
 have G0:∀ x:Obj,Hid (w.grownBy (w.alloc x) (some B)):=fun x=>hid (World.grownBy_alloc w x _)
 clear hM E hc hL
 go_enter Tryz.func144,Tryz.ntmps144
 go_wp2
 go_step3
 go_wp2
 go_step3
 go_wp2
 go_loopw [5,6] (fun wv bv wr=>∃ (bf:Int) (Ki:Kn),wv=.nilIface∧bv=.int .i64 bf∧KnM V wr B Ki∧(w.alloc (.cells #[.string r.head.rel,.slice o0 r.head.l.length k0,.slice o1 r.body.length k1,.int .i64 r.line] 47)).grownBy wr (some B) ∧
  -1≤bf∧bf≤Ki.length∧((bf = -1∧Ki=K)∨∃ Kp:Kn,bf=Kp.length∧alikeL Kp (prsL r.body)=some Ki∧∀ rr,Rounds (prsL r.body) Kp rr→Rounds (prsL r.body) K rr)) (fun _ bv _=>V.length+1 - (intOf bv+1).toNat)
 case atStart=>exact⟨-1,K,rfl,rfl,HM.out.same ((Below.heap_alloc _ _ _ hB1)),World.grownBy.refl _ _,by omega,by omega,.inl ⟨rfl,rfl⟩⟩
 case round=>
  obtain⟨bf,Ki,rfl,rfl,hM2,hg2,hb1,hb2,hst⟩:=hrel
  have Hst:=hid hst
  have Hb1:=hid hb1
  have Hmore:Hid (bf < Ki.length→∀ rr,Rounds (prsL r.body) Ki rr→Rounds (prsL r.body) K rr):=hid fun hlt=>by
   rcases hst with ⟨_,h2⟩ | ⟨Kp,h1,h2,h3⟩
   ·subst h2;exact fun _ h=>h
   ·exact fun rr h=>h3 rr (.more h2 (by omega) h)
  have HM2:=hid hM2
  have Hg2:=hid hg2
  have hBs:=hg2.size
  simp only[World.size_alloc] at hBs
  clear hM2 hg2 hst
  by_cases hlt:bf < Ki.length
  ·have Hlt:=hid hlt
   have hcr:wr.cell? ⟨w.heap.size,2,none⟩=some (.slice o1 r.body.length k1):=by
    have h:=Hg2.out.block w.heap.size (by simp) (fun e=>by have:=Option.some.inj e;omega)
    unfold World.cell?
    simp only[]
    rw[h,World.alloc_heap_new]
    rfl
   go_wp2_with (at_len;refine wpList_mapI_len _ rfl _ 151 rfl 9 3 Tryz.underlying151 B _ (look Ki) _ rfl HM2.out.map ?_)
   go_loopw [5,18] (fun wv i wx=>∃ (k:Nat) (Kj:Kn),wv=.nilIface∧k≤r.body.length∧i=.int .i64 k∧alikeL Ki (prsL r.body)=alikeL Kj (prsL (r.body.drop k))∧KnM V wx B Kj∧(w.alloc (.cells #[.string r.head.rel,.slice o0 r.head.l.length k0,.slice o1 r.body.length k1,.int .i64 r.line] 47)).grownBy wx (some B)) (fun _ i _=>r.body.length - (intOf i).toNat)
   case atStart=>exact⟨0,Ki,rfl,Nat.zero_le _,rfl,rfl,HM2.out,Hg2.out⟩
   case round=>
    obtain⟨k,Kj,rfl,hk,rfl,hr,hM3,hg3⟩:=hrel
    have Hr:=hid hr
    have HM3:=hid hM3
    have Hg3:=hid hg3
    have hBx:=hg3.size
    simp only[World.size_alloc] at hBx
    have hB':Below n₀ w wr:=gBelow ((G0 _).out.trans Hg3.out) hB (by omega)
    clear hr hM3 hg3
    by_cases hlt2:k < r.body.length
    ·have hlt':(k:Int) < (r.body.length:Int):=by omega
     obtain⟨t,ht⟩:∃ t,r.body[k]?=some t:=⟨r.body[k],List.getElem?_eq_getElem hlt2⟩
     obtain⟨b,p3,q3,p4,q4,p5,q5,rfl,ha,Hc,c0,c1,c2,c3,c4,c5,c6,c7,c8,c9,c10⟩:=lt_in SL hB' ht
     have hal:(b.add (k * 11)).block < wr.heap.size:=by rw[addBlock];omega
     have Hdr:=hid (prsL_drop ht)
     have Hvb:=hid (hv t (List.mem_of_getElem? ht))
     clear ht
     go_wp2_with fail
     have hb0:Below wr.heap.size wr (wr.alloc (.cells #[.int .i64 t.op,.string t.a.rel,.slice p3 t.a.l.length q3,.int .i64 t.x.op,.string t.x.s,.int .i64 t.x.n,.slice p4 t.x.l.length q4,.int .i64 t.y.op,.string t.y.s,.int .i64 t.y.n,.slice p5 t.y.l.length q5] 53)):=(Below.refl _ _).alloc (Nat.le_refl _) _
     have Hb0:=hid hb0
     refine (holdsTwo_c t _ n₀ _ (Hc.out.below (hb0.mono (by omega)))).mono ?_
     rintro e w1 ⟨rfl,b1⟩
     have b2:Below wr.heap.size wr w1:=hb0.trans (b1.mono (by simp))
     have Hb2:=hid b2
     obtain⟨hc1,hf1⟩:=boxY wr.heap.size b1 (by simp)
     have hBw:B < wr.heap.size:=by omega
     have hs1:=b1.size
     simp only[World.size_alloc] at hs1
     clear hb0 b1 b2
     cases hd:duoB t with
     | false=>
      have Hz:Hid (alikeL Ki (prsL r.body)=alikeL Kj (prsL (r.body.drop (k+1)))):=hid (by rw[Hr.out,Hdr.out,hd];rfl)
      clear hd
      go_wp2
      go_roundw
      case rel=>exact⟨k+1,Kj,rfl,hlt2,by go_num,Hz.out,HM3.out.below Hb2.out hBw,Hg3.out.trans (gB Hb2.out _)⟩
      case measure=>simp[intOf];omega
     | true=>
      have Hz:Hid (alikeL Ki (prsL r.body)=alikeL Kj ((t.x,t.y)::prsL (r.body.drop (k+1)))):=hid (by rw[Hr.out,Hdr.out,hd];rfl)
      clear hd
      go_wp2_with fail
      refine (learnAlike_c t.x t.y [.int .i64 t.x.op,.string t.x.s,.int .i64 t.x.n,.slice p4 t.x.l.length q4] [.int .i64 t.y.op,.string t.y.s,.int .i64 t.y.n,.slice p5 t.y.l.length q5] B n₀ V hV Kj a b' c d w1 (TmC.under Hc.out.look2.1 (Hb2.out.mono (by omega))) (TmC.under Hc.out.look2.2 (Hb2.out.mono (by omega))) hB (HM3.out.below Hb2.out hBw) Hvb.out.1 Hvb.out.2 (HE.out.below (hB'.trans (Hb2.out.mono (by omega))))).mono ?_
      rintro e w2 hR
      cases hl:alike1 Kj t.x t.y with
      | none=>
       rw[hl] at hR
       cases hR with
       | bad hg4=>
       have Hq:Hid (Rounds (prsL r.body) K none):=hid (Hmore.out Hlt.out _ (.bad (by rw[Hz.out,alikeL_cons,hl])))
       have Hg4:=hid (((G0 _).out.trans Hg3.out).trans ((gB Hb2.out _).trans hg4))
       clear hl hg4
       unfold errV
       go_wp2
       rw[Exit.noGoto_ret]
       go_ret
       exact⟨_,Hq.out,.bad Hg4.out⟩
      | some K'=>
       rw[hl] at hR
       cases hR with
       | good hm4 hg4=>
       have Hz2:Hid (alikeL Ki (prsL r.body)=alikeL K' (prsL (r.body.drop (k+1)))):=hid (by rw[Hz.out,alikeL_cons,hl])
       have Hg4:=hid (Hg3.out.trans ((gB Hb2.out _).trans hg4))
       have Hm4:=hid hm4
       clear hl hg4 hm4
       go_wp2
       go_roundw
       case rel=>exact⟨k+1,K',rfl,hlt2,by go_num,Hz2.out,Hm4.out,Hg4.out⟩
       case measure=>simp[intOf];omega
    ·have hlt':¬ (k:Int) < (r.body.length:Int):=by omega
     have Hq:Hid (alikeL Ki (prsL r.body)=some Kj):=hid (by rw[Hr.out,List.drop_of_length_le (by omega)];rfl)
     go_wp2
     go_roundw
     case rel=>exact⟨Ki.length,Kj,rfl,rfl,HM3.out,Hg3.out,by omega,by have:=alikeL_len Hq.out;omega,.inr ⟨Ki,rfl,Hq.out,Hmore.out Hlt.out⟩⟩
     case measure=>have:=HM2.out.len;have:=Hlt.out;have:=Hb1.out;simp[intOf];omega
  ·have Hq:Hid (Rounds (prsL r.body) K (some Ki)):=hid (by
    rcases Hst.out with ⟨h1,_⟩ | ⟨Kp,h1,h2,h3⟩
    ·omega
    ·exact h3 _ (.still h2 (by omega)))
   go_wp2_with (at_len;refine wpList_mapI_len _ rfl _ 151 rfl 9 3 Tryz.underlying151 B _ (look Ki) _ rfl HM2.out.map ?_)
   go_ret
   exact⟨_,Hq.out,.good HM2.out ((G0 _).out.trans Hg2.out)⟩
def relY (s:ByteArray) (d:De):Bool:=d.rel.toList == s.toList
def ixY (s:ByteArray):Nat→List De→Int
 | _,[] => -1
 | k,d::l=>if relY s d then k else ixY s (k+1) l
theorem ixY_drop {s:ByteArray} {l:List De} {k:Nat} {d:De} (h:l[k]?=some d):ixY s k (l.drop k)=if relY s d then (k:Int) else ixY s (k+1) (l.drop (k+1)):=by
 have h1:l.drop k=d::l.drop (k+1):=by rw[List.drop_eq_getElem_cons (List.getElem?_eq_some_iff.1 h).1,(List.getElem?_eq_some_iff.1 h).2]
 rw[h1];rfl
theorem ixY_cases (s:ByteArray):∀ (l:List De) (k:Nat),(ixY s k l = -1∧∀ d ∈ l,relY s d=false)∨∃ (i:Nat) (d:De),ixY s k l=((k+i:Nat):Int)∧l[i]?=some d∧relY s d=true
 | [],_=>.inl ⟨rfl,fun _ h=>by cases h⟩
 | d::l,k=>by
  unfold ixY
  cases h:relY s d with
  | true=>exact .inr ⟨0,d,by simp,rfl,h⟩
  | false=>
   rcases ixY_cases s l (k+1) with ⟨h1,h2⟩ | ⟨i,e,h1,h2,h3⟩
   ·refine .inl ⟨by simpa using h1,fun x hx=>?_⟩
    rcases List.mem_cons.1 hx with rfl | hx
    ·exact h
    ·exact h2 x hx
   ·exact .inr ⟨i+1,e,by simp only[Bool.false_eq_true,if_false];rw[h1];congr 1;omega,h2,h3⟩
def findY (s:ByteArray) (l:List De):Option Nat:=if ixY s 0 l < 0 then none else some (ixY s 0 l).toNat
def findV:Option Nat→Value
 | none=>.tuple #[.int .i64 0,.bool false]
 | some i=>.tuple #[.int .i64 i,.bool true]
set_option maxRecDepth 100000 in
set_option maxHeartbeats 4000000 in
theorem relIs_c (d:De) (s:ByteArray) (nb:Nat) (o0 o1:Option Addr) (k0 k1:Nat) (w:World) (c0:w.cell? ⟨nb,0,none⟩=some (.string s)) :
  Calls Tryz.prog 114 #[.agg #[.string d.rel,.slice o0 d.names.length k0,.slice o1 d.types.length k1,.bool d.inn,.bool d.out,.int .i64 d.line],.pointer (some ⟨nb,0,none⟩)] w fun e w'=>e=.returned (.bool (relY s d))∧Below w.heap.size w w':=by
 have HB0:Hid (∀ (x:Obj),Below w.heap.size w (w.alloc x)):=hid fun x=>(Below.refl _ _).alloc (Nat.le_refl _) _
 have hlt:nb < w.heap.size:=World.block_lt_of_cell? _ _ c0
 go_enter Tryz.func114,Tryz.ntmps114
 go_wp2
 go_ret
 exact⟨rfl,HB0.out _⟩
theorem de_in {n₀:Nat} {w wr:World} {l:List De} {o:Option Addr} {k:Nat} {t:De} (S:Hid (SlIn w n₀ 6 (DeC w n₀) l o)) (hB:Below n₀ w wr) (ht:l[k]?=some t) :
  ∃ a o0 k0 o1 k1,o=some a∧a.block < n₀∧Hid (DeC wr n₀ t [.string t.rel,.slice o0 t.names.length k0,.slice o1 t.types.length k1,.bool t.inn,.bool t.out,.int .i64 t.line]) ∧
   CellsAt wr a (k * 6) [.string t.rel,.slice o0 t.names.length k0,.slice o1 t.types.length k1,.bool t.inn,.bool t.out,.int .i64 t.line]:=by
 obtain⟨a,cs,rfl,ha,_,h1,h2⟩:=S.out k t ht
 obtain⟨o0,k0,o1,k1,rfl,_⟩:=h1.look
 exact⟨a,o0,k0,o1,k1,rfl,ha,hid (h1.below hB),h2.below ha hB⟩
set_option maxRecDepth 100000 in
set_option maxHeartbeats 4000000 in
theorem indexD_c (s:ByteArray) (nb n₀:Nat) (l:List De) (v:Value) (w:World) (hl:SlOf w n₀ 6 (DeC w n₀) l v) (hn:n₀≤w.heap.size) (hb:w.cell? ⟨nb,0,none⟩=some (.string s)) :
  Calls Tryz.prog 113 #[v,.func (.func 114) #[] #[.pointer (some ⟨nb,0,none⟩)]] w fun e w'=>e=.returned (.int .i64 (ixY s 0 l))∧Below w.heap.size w w':=by
 obtain⟨o,cap,rfl,hcap,hcm,S⟩:=SlOf.open hl
 have HB0:Hid (Below w.heap.size w w):=hid (Below.refl _ _)
 have hnb:nb < w.heap.size:=World.block_lt_of_cell? _ _ hb
 have Hb:=hid hb
 clear hl hb
 go_enter Tryz.func113,Tryz.ntmps113
 go_wp2
 go_loopw [8] (fun i wr=>∃ k:Nat,k≤l.length∧i=.int .i64 (k:Int)∧ixY s 0 l=ixY s k (l.drop k)∧Below w.heap.size w wr) (fun i _=>l.length - (intOf i).toNat)
 case atStart=>exact⟨0,Nat.zero_le _,rfl,rfl,HB0.out⟩
 case round=>
  obtain⟨k,hk,rfl,hix,hB⟩:=hrel
  have hBs:=hB.size
  by_cases hlt:k < l.length
  ·have hlt':(k:Int) < (l.length:Int):=by omega
   obtain⟨u,hu⟩:∃ u,l[k]?=some u:=⟨l[k],List.getElem?_eq_getElem hlt⟩
   obtain⟨b,p1,q1,p2,q2,rfl,hbb,Hc,hca⟩:=de_in S (hB.mono hn) hu
   obtain⟨c0,c1,c2,c3,c4,c5⟩:=hca.n6
   have hbl:(b.add (k * 6)).block < wr.heap.size:=by rw[addBlock];omega
   have Hix:=hid (hix.trans (ixY_drop hu))
   have HF:=hid (relIs_c u s nb p1 p2 q1 q2 wr ((hB.cell (p:=⟨nb,0,none⟩) hnb).trans Hb.out))
   clear hu hix Hc hca
   go_wp2_with fail
   refine HF.out.mono ?_
   rintro e w2 ⟨rfl,b2⟩
   have HB2:=hid (hB.trans (b2.mono hBs))
   clear b2
   cases hp:relY s u with
   | true=>
    have Hr:Hid (ixY s 0 l=(k:Int)):=hid (by rw[Hix.out,if_pos hp])
    clear hp
    go_wp2
    go_ret
    exact⟨by rw[Hr.out];rfl,HB2.out⟩
   | false=>
    have Hr:Hid (ixY s 0 l=ixY s (k+1) (l.drop (k+1))):=hid (by rw[Hix.out,if_neg (by rw[hp];decide)])
    clear hp
    go_wp2
    go_roundw
    case rel=>exact⟨k+1,by omega,by go_num,Hr.out,HB2.out⟩
    case measure=>simp[intOf];omega
  ·have hlt':¬ (k:Int) < (l.length:Int):=by omega
   have Hr:Hid (ixY s 0 l = -1):=hid (by rw[hix,List.drop_of_length_le (by omega)];rfl)
   clear hix
   go_wp2
   go_ret
   exact⟨by rw[Hr.out];rfl,hB⟩
set_option maxRecDepth 100000 in
set_option maxHeartbeats 4000000 in
theorem find_c (s:ByteArray) (n₀:Nat) (l:List De) (v:Value) (w:World) (hl:SlOf w n₀ 6 (DeC w n₀) l v) (hn:n₀≤w.heap.size) :
  Calls Tryz.prog 77 #[v,.string s] w fun e w'=>e=.returned (findV (findY s l))∧Below w.heap.size w w':=by
 have hb1:Below w.heap.size w (w.alloc (.cells #[.string s] 9)):=(Below.refl _ _).alloc (Nat.le_refl _) _
 have hr:(w.alloc (.cells #[.string s] 9)).cell? ⟨w.heap.size,0,none⟩=some (.string s):=by
  unfold World.cell?
  simp only[]
  rw[World.alloc_heap_new]
  rfl
 have HH:=hid (indexD_c s w.heap.size n₀ l v (w.alloc (.cells #[.string s] 9)) (SlOf.decl hl (hb1.mono hn) (Nat.le_refl _)) (by simp;omega) hr)
 have Hb1:=hid hb1
 have hcs:=ixY_cases s l 0
 clear hl hb1 hr
 go_enter Tryz.func77,Tryz.ntmps77
 go_wp2_with fail
 refine HH.out.mono ?_
 rintro e w2 ⟨rfl,b2⟩
 have HB2:=hid (Hb1.out.trans (b2.mono Hb1.out.size))
 clear b2
 rcases hcs with ⟨h1,_⟩ | ⟨i,d,h1,h2,_⟩
 ·have Hq:Hid (findY s l=none):=hid (by unfold findY;rw[h1];rfl)
  rw[h1]
  go_wp2
  go_ret2
  exact⟨by rw[Hq.out];rfl,HB2.out⟩
 ·have Hq:Hid (findY s l=some i):=hid (by
   unfold findY
   rw[h1,Nat.zero_add,if_neg (by omega)]
   simp)
  rw[h1,Nat.zero_add]
  have hi:¬ ((i:Nat):Int) < 0:=by omega
  clear h1
  go_wp2
  go_ret2
  exact⟨by rw[Hq.out];rfl,HB2.out⟩
end Go.Proofs.YtakpgcmfjlbcgaaGreatDoor

/- Dtok@012, Twprog@012 -/
import Derived.Test.YtdgbajnhhhjbcaaGreatDoorQ20
set_option linter.unusedSimpArgs false
namespace Go.Proofs.YtdgbajnhhhjbcaaGreatDoor
open Lib(hid)
open Go.RowKit Go.Shelf
attribute [local go_sem] Oper.semAt_some
def seqD:Nat→Nat→List UInt8→List (Tk × Bool)
 | 0,_,_=>[]
 | f+1,n,l=>
  if l.drop (gap false l)=[] then [] else
   match tokL (l.drop (gap false l)) with
   | none=>[(⟨0,[],n+lines (l.take (gap false l))⟩,true)]
   | some (k,s,z)=>(⟨k,s,n+lines (l.take (gap false l))⟩,false)::seqD f (n+lines (l.take (gap false l))) ((l.drop (gap false l)).drop z)
theorem seqD_nil (f n:Nat) (l:List UInt8) (h:l.drop (gap false l)=[]):seqD (f+1) n l=[]:=by
 unfold seqD
 rw[if_pos h]
theorem seqD_bad (f n:Nat) (l:List UInt8) (h:l.drop (gap false l)≠[]) (ht:tokL (l.drop (gap false l))=none):seqD (f+1) n l=[(⟨0,[],n+lines (l.take (gap false l))⟩,true)]:=by
 unfold seqD
 rw[if_neg h,ht]
theorem seqD_tok (f n:Nat) (l:List UInt8) (h:l.drop (gap false l)≠[]) {k:Nat} {s:List UInt8} {z:Nat} (ht:tokL (l.drop (gap false l))=some (k,s,z)) :
  seqD (f+1) n l=(⟨k,s,n+lines (l.take (gap false l))⟩,false)::seqD f (n+lines (l.take (gap false l))) ((l.drop (gap false l)).drop z):=by
 rw[seqD,if_neg h,ht]
def behind:Option Nat→List (Tk × Bool)
 | none=>[]
 | some e=>[(⟨0,[],e⟩,true)]
theorem seqD_lexF:∀ (f n:Nat) (l:List UInt8),seqD f n l=(lexF f n l).1.map (fun t=>(t,false))++behind (lexF f n l).2
 | 0,_,_=>rfl
 | f+1,n,l=>by
  by_cases h:l.drop (gap false l)=[]
  ·rw[seqD_nil f n l h,lexF_nil f n l h];rfl
  cases ht:tokL (l.drop (gap false l)) with
  | none=>rw[seqD_bad f n l h ht,lexF_bad f n l h ht];rfl
  | some a=>
   obtain⟨k,s,z⟩:=a
   rw[seqD_tok f n l h ht,lexF_tok f n l h ht,seqD_lexF f]
   rfl
abbrev tokV (t:Tk):Value:=.agg #[.int .i64 (t.kind:Int),.string ⟨t.s.toArray⟩,.int .i64 (t.line:Int)]
def encD (b:Addr) (x:Tk × Bool):Array Value:=if x.2=true then #[.agg #[.int .i64 0,.string ⟨#[]⟩,.int .i64 0],leV (x.1.line:Int) b] else #[tokV x.1,.nilIface]
def KeepsD (a b c:Addr) (W W':World):Prop:=DEnv a b c W→DEnv a b c W'
theorem grownBy_below {W W':World} (h:Below W.heap.size W W'):W.grownBy W' none:=⟨h.os,h.tape,h.output,h.size,fun k hk _=>h.block k hk⟩
theorem count10_c (s:ByteArray) (n:Nat) (h:lines s.data.toList=n) (w:World) :
  Calls Tryz.prog 60 #[.string s,.string ⟨#[10]⟩] w fun e w'=>e=.returned (.int .i64 (n:Int))∧w=w':=
 (Tryz.strings_Count_one s 10 w).mono fun _ _ ⟨h1,h2⟩=>⟨by rw[h1,← h];rfl,h2.symm⟩
def strSize:Value→Nat
 | .string s=>s.size
 | _=>0
theorem data_len (s:ByteArray):s.data.toList.length=s.size:=by simp
theorem take_data (s:ByteArray) (g:Nat):(s.extract 0 g).data.toList=s.data.toList.take g:=by rw[Lib.extract_data];simp
theorem eachToken_in (n:Nat) (s:ByteArray) (w:World) :
  CallsIn Fence.wide n Tryz.prog 33 #[.string s] w fun e w'=>e=.returned (.func (.func 58) #[] #[.pointer (some ⟨w.heap.size,0,none⟩)])∧w'=w.alloc (.cells #[.string s] 9):=by
 refine callsIn_of_wp Tryz.func33 rfl trivial ?_ rfl
 simp only[Tryz.ntmps33,List.size_toArray,List.length_cons,List.length_nil,Nat.reduceAdd,Nat.reduceSub,Array.replicate_succ,Array.replicate_zero,List.push_toArray,List.append_toArray,List.nil_append,List.cons_append]
 gi_wp2
 go_ret
 exact⟨rfl,rfl⟩
set_option maxRecDepth 100000 in
set_option maxHeartbeats 4000000 in
theorem eachToken1_in (n:Nat) (hn:1≤n) (l Bn:Nat) (s:ByteArray) (hs:s.size≤1073741823) (a b c:Addr) (J Jx:List (Tk × Bool)→World→Prop) (W:World)
  (hJg:∀ pre W W',J pre W→Below W.heap.size W W'→J pre W')
  (hY:∀ pre x W,J pre W→pre.length < s.size→YieldAt Fence.wide (n - 1) Tryz.prog l (encD b x) W fun e W'=>
   (e=.returned (.bool true)∧J (pre++[x]) W'∧KeepsD a b c W W')∨(e=.returned (.bool false)∧Jx (pre++[x]) W'))
  (hBn:BoxAt Bn s W) (hE:DEnv a b c W) (h0:J [] W) :
  CallsIn Fence.wide n Tryz.prog 58 #[.func (.yield l) #[] #[],.pointer (some ⟨Bn,0,none⟩)] W fun e W'=>(∃ v,e=.returned v) ∧
   ((∃ ys,ys=seqD (s.size+1) 1 s.data.toList∧J ys W')∨(∃ pre,pre <+: seqD (s.size+1) 1 s.data.toList∧Jx pre W')):=by
 have hb:=hBn.cell
 refine callsIn_of_wp Tryz.func58 rfl trivial ?_ rfl
 simp only[Tryz.ntmps58,List.size_toArray,List.length_cons,List.length_nil,Nat.reduceAdd,Nat.reduceSub,Array.replicate_succ,Array.replicate_zero,List.push_toArray,List.append_toArray,List.nil_append,List.cons_append]
 gi_wp2
 gi_loopw [3,4] (fun rst ln wr=>∃ (r:ByteArray) (m f:Nat) (pre:List (Tk × Bool)),rst=.string r∧ln=.int .i64 (m:Int)∧r.size≤s.size∧r.size < f∧m+r.size≤s.size+1∧DEnv a b c wr∧J pre wr∧pre.length+r.size≤s.size ∧
   pre++seqD f m r.data.toList=seqD (s.size+1) 1 s.data.toList) (fun rst _ _=>strSize rst)
 case atStart=>exact⟨s,1,s.size+1,[],rfl,rfl,Nat.le_refl _,by omega,by omega,hE,h0,by simp,by simp⟩
 case round=>
  obtain⟨r,m,f,pre,rfl,rfl,hrs,hrf,hmr,hE,hJ,hpl,hsq⟩:=hrel
  obtain⟨f,rfl⟩:∃ f',f=f'+1:=⟨f - 1,by omega⟩
  have Hsq:=hid hsq
  have HE:=hid hE
  clear hsq hE hb
  have hrl:=data_len r
  obtain⟨g,hg⟩:∃ g,gap false r.data.toList=g:=⟨_,rfl⟩
  have hgl:g≤r.size:=by rw[← hg,← hrl];exact gap_len _ _
  have Hg:=hid hg
  obtain⟨q,hq⟩:∃ q,lines (r.data.toList.take g)=q:=⟨_,rfl⟩
  have Hq:=hid hq
  have hqg:q≤g:=by
   rw[← hq]
   refine Nat.le_trans (List.count_le_length ..) ?_
   simp
   omega
  have Hc:Hid (lines (r.extract 0 g).data.toList=q):=hid (by rw[take_data,hq])
  have Hm:Hid (r.size≤maxLen):=hid (by unfold maxLen;omega)
  obtain⟨r1,hr1⟩:∃ r1,r.extract g r.size=r1:=⟨_,rfl⟩
  have hd1:r1.data.toList=r.data.toList.drop g:=by rw[← hr1,Lib.extract_to_end]
  have hs1:r1.size=r.size - g:=by rw[← data_len r1,hd1,List.length_drop,hrl]
  have Hd1:=hid hd1
  have Hs1:=hid hs1
  have Hr1:=hid hr1
  clear hg hq hrl hr1 hd1 hs1
  gi_wp2_with fail
  refine⟨trivial,(callsIn_wide.2 (gapSize_c r wr Hm.out)).mono ?_⟩
  rintro e w' ⟨rfl,rfl⟩
  rw[Hg.out]
  gi_wp2_with fail
  refine⟨trivial,(callsIn_wide.2 (count10_c _ q Hc.out wr)).mono ?_⟩
  rintro e w' ⟨rfl,rfl⟩
  cases he:(r.extract g r.size).toList.isEmpty with
  | true=>
   have hz:r.data.toList.drop (gap false r.data.toList)=[]:=by
    rw[Hg.out,← Hd1.out,← Hr1.out,← Lib.toList_data]
    simpa using he
   have Hn:=hid (seqD_nil f m r.data.toList hz)
   clear hz
   gi_wp2
   refine bodyPost_ret (results_none rfl _ _ _) rfl ?_
   exact⟨⟨_,rfl⟩,.inl ⟨_,by rw[← Hsq.out,Hn.out,List.append_nil],hJ⟩⟩
  | false=>
   have hne:r1.data.toList≠[]:=by
    intro h
    rw[Hr1.out,Lib.toList_data,h] at he
    simp at he
   have hlen1:=data_len r1
   have hpos1:1≤r1.size:=by
    rcases Nat.eq_zero_or_pos r1.size with h | h
    ·rw[h] at hlen1
     exact absurd (List.eq_nil_of_length_eq_zero hlen1) hne
    ·exact h
   have hs1:r1.size=r.size - g:=Hs1.out
   obtain⟨k,hk⟩:∃ k,(shapeL r1.data.toList).1=k:=⟨_,rfl⟩
   obtain⟨z,hz⟩:∃ z,(shapeL r1.data.toList).2=z:=⟨_,rfl⟩
   have hsp:=shape_pos hne
   rw[hk,hz,hlen1] at hsp
   have hzp:1≤z∧z≤r1.size:=⟨hsp.1,hsp.2.1⟩
   have hkp:1≤k∧k≤5:=hsp.2.2
   have hne2:r.data.toList.drop (gap false r.data.toList)≠[]:=by rw[Hg.out,← Hd1.out];exact hne
   obtain⟨o,ho⟩:∃ o,meanL k (r1.data.toList.take z)=o:=⟨_,rfl⟩
   have htok:tokL (r.data.toList.drop (gap false r.data.toList))=o.map fun t=>(k,t,z):=by
    rw[Hg.out,← Hd1.out]
    unfold tokL
    rw[hk,hz,ho]
   obtain⟨bs,hbs⟩:∃ bs,r1.extract 0 z=bs:=⟨_,rfl⟩
   have hbd:bs.data.toList=r1.data.toList.take z:=by rw[← hbs,take_data]
   have hbz:bs.size=z:=by rw[← data_len bs,hbd,List.length_take,hlen1];omega
   have Hk:=hid hk
   have Hz:=hid hz
   have Hbs:=hid hbs
   have Ho:Hid (meanL k bs.data.toList=o):=hid (by rw[hbd,ho])
   have Htok:=hid htok
   have Hne2:=hid hne2
   have hbb:1≤bs.size∧bs.size≤1073741824:=by omega
   have hps:pre.length < s.size:=by omega
   have hr1m:r1.size≤1073741824:=by omega
   clear hs1 hne hk hz hsp hne2 ho htok hbs hbd hbz hlen1
   gi_wp2_with fail
   rw[Hr1.out]
   refine⟨trivial,(callsIn_wide.2 (shape_c r1 wr hpos1 hr1m)).mono ?_⟩
   rintro e w' ⟨rfl,rfl⟩
   rw[Hk.out,Hz.out]
   gi_wp2_with fail
   rw[Hbs.out]
   refine⟨trivial,(callsIn_wide.2 (meaning_c k hkp bs a b c wr hbb.1 hbb.2 HE.out)).mono ?_⟩
   rintro e w1 ⟨rfl,b1⟩
   rw[Ho.out]
   have E1:=HE.out.below b1
   have hJ1:=hJg pre wr w1 hJ b1
   cases o with
   | none=>
    have Hn:=hid (seqD_bad f m r.data.toList Hne2.out Htok.out)
    obtain⟨fn,tmps,assign,body,hy,hR⟩:=hY pre (⟨0,[],m+q⟩,true) w1 hJ1 hps
    simp only[encD,if_true,Int.natCast_add] at hy
    simp only[meanV]
    gi_wp2
    refine hR.mono ?_
    rintro e W3 (⟨rfl,hJ3,hk3⟩ | ⟨rfl,hJx3⟩)
    ·gi_wp2
     refine bodyPost_ret (results_none rfl _ _ _) rfl ?_
     exact⟨⟨_,rfl⟩,.inl ⟨_,(by rw[← Hsq.out,Hn.out,Hg.out,Hq.out]),hJ3⟩⟩
    ·gi_wp2
     refine bodyPost_ret (results_none rfl _ _ _) rfl ?_
     exact⟨⟨_,rfl⟩,.inr ⟨_,(by rw[← Hsq.out,Hn.out,Hg.out,Hq.out];exact List.prefix_refl _),hJx3⟩⟩
   | some t=>
    have Hn:=hid (seqD_tok f m r.data.toList Hne2.out Htok.out)
    obtain⟨fn,tmps,assign,body,hy,hR⟩:=hY pre (⟨k,t,m+q⟩,false) w1 hJ1 hps
    simp only[encD,tokV,Bool.false_eq_true,if_false,Int.natCast_add] at hy
    simp only[meanV]
    gi_wp2
    refine hR.mono ?_
    rintro e W3 (⟨rfl,hJ3,hk3⟩ | ⟨rfl,hJx3⟩)
    ·gi_wp2
     have E3:=hk3 E1
     have hx2:(r1.extract z r1.size).data.toList=(r.data.toList.drop g).drop z:=by rw[Lib.extract_to_end,Hd1.out]
     have hsz2:(r1.extract z r1.size).size=r1.size - z:=by simp
     have Hsz2:=hid hsz2
     clear hsz2
     go_roundw
     case rel=>
      have hs1:=Hs1.out
      have hsz2:=Hsz2.out
      exact⟨r1.extract z r1.size,m+q,f,pre++[(⟨k,t,m+q⟩,false)],rfl,by go_num,by omega,by omega,by omega,E3,hJ3,by rw[List.length_append];simp only[List.length_cons,List.length_nil];omega,by rw[← Hsq.out,Hn.out,hx2,Hg.out,Hq.out];simp⟩
     case measure=>
      have hs1:=Hs1.out
      simp[strSize];omega
    ·gi_wp2
     refine bodyPost_ret (results_none rfl _ _ _) rfl ?_
     exact⟨⟨_,rfl⟩,.inr ⟨_,(by rw[← Hsq.out,Hn.out,Hg.out,Hq.out];exact⟨_,by simp;rfl⟩),hJx3⟩⟩
theorem eachToken_stops (n:Nat) (hn:1≤n) (Bn:Nat) (s:ByteArray) (hs:s.size≤1073741823) (a b c:Addr) (w:World) (hlt:Bn < w.heap.size) (hBn:BoxAt Bn s w) (hE:DEnv a b c w) :
  SeqStopsK Fence.wide n Tryz.prog 58 #[.pointer (some ⟨Bn,0,none⟩)] (encD b) (KeepsD a b c) (fun ys=>ys=seqD (s.size+1) 1 s.data.toList) (fun pre=>pre <+: seqD (s.size+1) 1 s.data.toList) s.size w:=fun l J Jx W hW hJ _ hY h0=>
 eachToken1_in n hn l Bn s hs a b c J Jx W (fun pre W W' h hb=>hJ pre W W' none h (grownBy_below hb) (fun _ e=>by cases e)) hY ((hW.block Bn hlt).trans hBn) (hE.below hW) h0
end Go.Proofs.YtdgbajnhhhjbcaaGreatDoor
namespace Go.Proofs.YtdgbajnhhhjbcaaGreatDoor
open Lib(hid)
open Go.RowKit
theorem writeDecl_c (t:De) (B b:Nat) (l:List UInt8) (w:World) (cs:List Value) (a:Addr) (hr:rightD t=true) (hb:Bd B b l w) (hc:DeC w B t cs) (E:TEnv a w) (hV:14≤B) (hB:B≤w.heap.size) (hl:l.length+(showD t).length≤1073741824) :
  Calls Tryz.prog 40 #[.pointer (some ⟨b,0,none⟩),.agg cs.toArray] w (Wrote B b l (showD t) w):=by
 obtain⟨o0,k0,o1,k1,rfl,_,_,HN,HT⟩:=hc.look
 obtain⟨rel,names,types,inn,out,line⟩:=t
 unfold rightD at hr
 simp only[Bool.and_eq_true,decide_eq_true_eq] at hr HN HT ⊢
 rw[showD_parts] at hl ⊢
 exact wdecl rel names types inn out line o0 o1 k0 k1 B b l w a hr.1.1.1.2 hr.1.1.2 hr.2 HN HT hb E hV hB hl
def declsL (l:List De):List UInt8:=l.flatMap showD
def rulesL (l:List Ru):List UInt8:=l.flatMap fun r=>showR r++[10]
theorem flat_take {α:Type} (f:α→List UInt8) {l:List α} {k:Nat} {x:α} (h:l[k]?=some x):(l.take (k+1)).flatMap f=(l.take k).flatMap f++f x:=by
 rw[List.take_add_one,h];simp
theorem flat_upto {α:Type} (f:α→List UInt8) (l:List α) (k:Nat):((l.take k).flatMap f).length≤(l.flatMap f).length:=by
 have:l.flatMap f=(l.take k).flatMap f++(l.drop k).flatMap f:=by rw[← List.flatMap_append,List.take_append_drop]
 rw[this,List.length_append];omega
set_option maxRecDepth 100000 in
set_option maxHeartbeats 8000000 in
theorem writeProg_c (p:Pg) (B b:Nat) (l:List UInt8) (w:World) (cs:List Value) (a:Addr) (hr:rightP p=true) (hb:Bd B b l w) (hc:PgC w B p cs) (E:TEnv a w) (hV:14≤B) (hB:B≤w.heap.size) (hl:l.length+(showP p).length≤1073741824) :
  Calls Tryz.prog 21 #[.pointer (some ⟨b,0,none⟩),.agg cs.toArray] w (Wrote B b l (showP p) w):=by
 obtain⟨p1,q1,p2,q2,rfl,HD,HRu⟩:=hc.look
 have hx:showP p=declsL p.decls++rulesL p.rules:=rfl
 rw[hx] at hl ⊢
 obtain⟨o0',cap0,e0,hc0,hm0,S1⟩:=SlOf.open HD
 cases e0
 obtain⟨o1',cap1,e1,hc1,hm1,S2⟩:=SlOf.open HRu
 cases e1
 unfold rightP at hr
 simp only[Bool.and_eq_true,decide_eq_true_eq] at hr
 have Hrd:=hid hr.1.2
 have Hrr:=hid hr.2
 have hbl:=bdLt hb
 obtain⟨oc,hoc⟩:∃ o:Obj,o=.cells #[.slice p1 p.decls.length q1,.slice p2 p.rules.length q2] 25:=⟨_,rfl⟩
 have R0:Row w.heap.size 25 [.slice p1 p.decls.length q1,.slice p2 p.rules.length q2] (w.alloc oc):=by rw[hoc];exact Row.new w _ _
 have b0:=hb.alloc oc
 have k0':Kp B b w (w.alloc oc):=Kp.alloc hB _
 have HR:Hid (∀ W,Kp B b (w.alloc oc) W→W.cell? ⟨w.heap.size,0,none⟩=some (.slice p1 p.decls.length q1)∧W.cell? ⟨w.heap.size,1,none⟩=some (.slice p2 p.rules.length q2)∧w.heap.size < W.heap.size):=hid fun W K=>by
  have R:=R0.kp K (by omega) (by decide)
  have:=K.below.size
  simp only[World.size_alloc] at this
  exact⟨R.at 0 _ rfl,R.at 1 _ rfl,by omega⟩
 have HE:=hid (E.belowB hV k0'.below)
 have HK0:=hid k0'
 have Hl:Hid (l.length+(declsL p.decls).length+(rulesL p.rules).length≤1073741824):=hid (by rw[List.length_append] at hl;omega)
 have Hb0:=hid b0
 have Hk0:=hid (Kp.refl B b (w.alloc oc))
 have Hbs:Hid (∀ W,Kp B b (w.alloc oc) W→B≤W.heap.size):=hid fun W K=>K.size (by simp;omega)
 clear R0 k0' hb E hl b0 hc HD HRu hx hr
 have hb1:(w.alloc oc).heap.size=w.heap.size+1:=by simp
 subst hoc
 go_enter Tryz.func21,Tryz.ntmps21
 go_wp2
 go_loopw [11] (fun i wr=>∃ k:Nat,k≤p.decls.length∧i=.int .i64 k∧Bd B b (l++declsL (p.decls.take k)) wr∧Kp B b (w.alloc (.cells #[.slice p1 p.decls.length q1,.slice p2 p.rules.length q2] 25)) wr) (fun i _=>p.decls.length - (intOf i).toNat)
 case atStart=>exact⟨0,Nat.zero_le _,rfl,by simpa[declsL] using Hb0.out,Hk0.out⟩
 case round=>
  obtain⟨k,hk,rfl,hbk,hK⟩:=hrel
  obtain⟨y0,y1,hz0⟩:=HR.out _ hK
  have hbs:=Hbs.out _ hK
  by_cases hlt:k < p.decls.length
  ·have hlt':(k:Int) < (p.decls.length:Int):=by omega
   obtain⟨xe,ht⟩:∃ x,p.decls[k]?=some x:=⟨p.decls[k],List.getElem?_eq_getElem hlt⟩
   obtain⟨a1,o0,k0,o1,k1,rfl,ha,Hc,c0,c1,c2,c3,c4,c5⟩:=de_atB S1 (HK0.out.below.trans hK.below) ht
   have hal:(a1.add (k * 6)).block < wr.heap.size:=by rw[addBlock];omega
   have hj:declsL (p.decls.take (k+1))=declsL (p.decls.take k)++(showD xe):=flat_take _ ht
   have hup:(declsL (p.decls.take (k+1))).length≤(declsL p.decls).length:=flat_upto _ _ _
   rw[hj] at hup
   simp only[List.length_append] at hup
   have Hup:=hid hup
   have hrt:=List.all_eq_true.1 Hrd.out xe (List.mem_of_getElem? ht)
   obtain⟨oc,hoc⟩:∃ o:Obj,o=.cells #[.string xe.rel,.slice o0 xe.names.length k0,.slice o1 xe.types.length k1,.bool xe.inn,.bool xe.out,.int .i64 xe.line] 34:=⟨_,rfl⟩
   have b0:=hbk.alloc oc
   have k0':Kp B b wr (wr.alloc oc):=Kp.alloc hbs _
   have R0:Row wr.heap.size 34 [.string xe.rel,.slice o0 xe.names.length k0,.slice o1 xe.types.length k1,.bool xe.inn,.bool xe.out,.int .i64 xe.line] (wr.alloc oc):=by rw[hoc];exact Row.new wr _ _
   have hbl:=bdLt hbk
   have HW:Hid (∀ (W:World) (l:List UInt8),Bd B b l W→Kp B b (wr.alloc oc) W→l.length+(showD xe).length≤1073741824→_):=hid fun W l hb k hl=>writeDecl_c xe B b l W _ a hrt hb (Hc.out.below (k0'.below.trans k.below)) (HE.out.belowB hV ((hK.below.trans k0'.below).trans k.below)) hV (k.size (k0'.size hbs)) hl
   have HK1:=hid (hK.trans k0')
   have Hj:=hid hj
   have Hb1:=hid b0
   clear R0 k0' hK ht Hc hbk hj hup hrt b0
   subst hoc
   go_wp2_with fail
   refine (HW.out _ _ Hb1.out (Kp.refl _ _ _) (by have:=Hl.out;have:=Hup.out;simp only[List.length_append] at *;omega)).mono ?_
   rintro e w2 ⟨rfl,b2,kk⟩
   have Hk2:=hid (HK1.out.trans kk)
   have Hb2:Hid (Bd B b (l++declsL (p.decls.take k)++showD xe) w2):=hid b2
   clear b2 kk c0 c1 c2 c3 c4 c5 y0 y1 hz0
   have Hb3:Hid (Bd B b (l++declsL (p.decls.take (k+1))) w2):=hid (by rw[Hj.out];simpa using Hb2.out)
   have Hk3:=Hk2
   go_wp2
   go_roundw
   case rel=>exact⟨k+1,hlt,by go_num,Hb3.out,Hk3.out⟩
   case measure=>simp[intOf];omega
  ·have hlt':¬ (k:Int) < (p.decls.length:Int):=by omega
   have hkl:p.decls.take k=p.decls:=List.take_of_length_le (by omega)
   rw[hkl] at hbk
   have HKk:=hid hK
   have Hbk:=hid hbk
   clear hbk hK hkl
   go_wp2
   clear y0 y1 hz0 hlt hlt'
   go_loopw [22] (fun i wr=>∃ k:Nat,k≤p.rules.length∧i=.int .i64 k∧Bd B b (l++declsL p.decls++rulesL (p.rules.take k)) wr∧Kp B b (w.alloc (.cells #[.slice p1 p.decls.length q1,.slice p2 p.rules.length q2] 25)) wr) (fun i _=>p.rules.length - (intOf i).toNat)
   case atStart=>exact⟨0,Nat.zero_le _,rfl,by simpa[rulesL] using Hbk.out,HKk.out⟩
   case round=>
    obtain⟨k,hk,rfl,hbk,hK⟩:=hrel
    obtain⟨y0,y1,hz0⟩:=HR.out _ hK
    have hbs:=Hbs.out _ hK
    by_cases hlt:k < p.rules.length
    ·have hlt':(k:Int) < (p.rules.length:Int):=by omega
     obtain⟨xe,ht⟩:∃ x,p.rules[k]?=some x:=⟨p.rules[k],List.getElem?_eq_getElem hlt⟩
     obtain⟨a1,o0,k0,o1,k1,rfl,ha,Hc,c0,c1,c2,c3⟩:=ru_atB S2 (HK0.out.below.trans hK.below) ht
     have hal:(a1.add (k * 4)).block < wr.heap.size:=by rw[addBlock];omega
     have hj:rulesL (p.rules.take (k+1))=rulesL (p.rules.take k)++(showR xe++[10]):=flat_take _ ht
     have hup:(rulesL (p.rules.take (k+1))).length≤(rulesL p.rules).length:=flat_upto _ _ _
     rw[hj] at hup
     simp only[List.length_append,List.length_cons,List.length_nil] at hup
     have Hup:=hid hup
     have hrt:=List.all_eq_true.1 Hrr.out xe (List.mem_of_getElem? ht)
     obtain⟨oc,hoc⟩:∃ o:Obj,o=.cells #[.string xe.head.rel,.slice o0 xe.head.l.length k0,.slice o1 xe.body.length k1,.int .i64 xe.line] 41:=⟨_,rfl⟩
     have b0:=hbk.alloc oc
     have k0':Kp B b wr (wr.alloc oc):=Kp.alloc hbs _
     have R0:Row wr.heap.size 41 [.string xe.head.rel,.slice o0 xe.head.l.length k0,.slice o1 xe.body.length k1,.int .i64 xe.line] (wr.alloc oc):=by rw[hoc];exact Row.new wr _ _
     have hbl:=bdLt hbk
     have HW:Hid (∀ (W:World) (l:List UInt8),Bd B b l W→Kp B b (wr.alloc oc) W→l.length+(showR xe).length≤1073741824→_):=hid fun W l hb k hl=>writeRule_c xe B b l W _ a hrt hb (Hc.out.below (k0'.below.trans k.below)) (HE.out.belowB hV ((hK.below.trans k0'.below).trans k.below)) hV (k.size (k0'.size hbs)) hl
     have HK1:=hid (hK.trans k0')
     have Hj:=hid hj
     have Hb1:=hid b0
     clear R0 k0' hK ht Hc hbk hj hup hrt b0
     subst hoc
     go_wp2_with fail
     refine (HW.out _ _ Hb1.out (Kp.refl _ _ _) (by have:=Hl.out;have:=Hup.out;simp only[List.length_append] at *;omega)).mono ?_
     rintro e w2 ⟨rfl,b2,kk⟩
     have Hk2:=hid (HK1.out.trans kk)
     have Hb2:Hid (Bd B b (l++declsL p.decls++rulesL (p.rules.take k)++showR xe) w2):=hid b2
     clear b2 kk c0 c1 c2 c3 y0 y1 hz0
     obtain⟨y0,y1,hz0⟩:=HR.out _ Hk2.out
     go_wp2_with fail
     refine (writeByte_c B b _ 10 10 rfl _ Hb2.out (by have:=Hl.out;have:=Hup.out;simp only[List.length_append] at *;omega) (Hbs.out _ Hk2.out)).mono ?_
     rintro e w3 ⟨rfl,b3,kk⟩
     have Hk3:=hid (Hk2.out.trans kk)
     have Hb3:Hid (Bd B b (l++declsL p.decls++rulesL (p.rules.take (k+1))) w3):=hid (by rw[Hj.out];simpa using b3)
     clear b3 kk y0 y1 hz0
     go_wp2
     go_roundw
     case rel=>exact⟨k+1,hlt,by go_num,Hb3.out,Hk3.out⟩
     case measure=>simp[intOf];omega
    ·have hlt':¬ (k:Int) < (p.rules.length:Int):=by omega
     have hkl:p.rules.take k=p.rules:=List.take_of_length_le (by omega)
     rw[hkl] at hbk
     have HKk:=hid hK
     have Hbk:=hid hbk
     clear hbk hK hkl
     have Hkz:=hid (HK0.out.trans HKk.out)
     go_wp2
     go_end0
     exact⟨rfl,by have:=Hbk.out;simpa using this,Hkz.out⟩
end Go.Proofs.YtdgbajnhhhjbcaaGreatDoor

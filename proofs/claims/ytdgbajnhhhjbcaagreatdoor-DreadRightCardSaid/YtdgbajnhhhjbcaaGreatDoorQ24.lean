/- Park@01, Park2@01, Park3@01 -/
import Derived.Test.YtdgbajnhhhjbcaaGreatDoorQ8
set_option linter.unusedSimpArgs false
namespace Go.Proofs.YtdgbajnhhhjbcaaGreatDoor
def keyOf (t:TokI):Key:=(t.kind,t.s.data.toList)
def numK (n:Int):List Key:=if n < 0 then [(4,[45]),(2,Lib.decDigits n.natAbs)] else [(2,Lib.decDigits n.toNat)]
def keysT:Nat→Tm→List Key
 | 0,_=>[]
 | h+1,t=>
  if t.op=1 then [(1,t.s.data.toList)]
  else if t.op=2 then numK t.n
  else if t.op=3 then [(3,t.s.data.toList)]
  else if t.op=4 then [(1,[95])]
  else match t.l with
   | [a,b]=>[(4,[40])]++keysT h a++[(4,[sgnT t.op])]++keysT h b++[(4,[41])]
   | _=>[]
theorem keysT1 {h:Nat} {t:Tm} (ht:t.op=1):keysT (h+1) t=[(1,t.s.data.toList)]:=by simp[keysT,ht]
theorem keysT2 {h:Nat} {t:Tm} (ht:t.op=2):keysT (h+1) t=numK t.n:=by simp[keysT,ht]
theorem keysT3 {h:Nat} {t:Tm} (ht:t.op=3):keysT (h+1) t=[(3,t.s.data.toList)]:=by simp[keysT,ht]
theorem keysT4 {h:Nat} {t:Tm} (ht:t.op=4):keysT (h+1) t=[(1,[95])]:=by simp[keysT,ht]
theorem keysT5 {h:Nat} {o:Int} {s:ByteArray} {n:Int} {a b:Tm} (ho:o=5∨o=6∨o=7):keysT (h+1) (.mk o s n [a,b])=[(4,[40])]++(keysT h a++([(4,[sgnT o])]++(keysT h b++[(4,[41])]))):=by
 rcases ho with rfl | rfl | rfl <;> simp[keysT]
theorem empty_of {s:ByteArray} (h:s.toList.isEmpty=true):s=⟨#[]⟩:=by
 rw[Lib.toList_data,List.isEmpty_iff] at h
 exact bytes_eq h
theorem key_one {l:List TokI} {k:Key} (h:l.map keyOf=[k]):∃ t,l=[t]∧t.kind=k.1∧t.s.data.toList=k.2:=by
 match l,h with
 | [t],h=>
  have h:=(List.cons.inj h).1
  exact⟨t,rfl,congrArg Prod.fst h,congrArg Prod.snd h⟩
theorem nameB_nm {t:TokI} (h1:t.kind=1) (h2:nameB t.s.data.toList=true):isNm t=true:=by
 have h3:t.s.data.toList≠[95]:=by
  intro e
  rw[e] at h2
  unfold nameB at h2
  simp at h2
 unfold isNm
 rw[h1]
 simp[h3]
theorem right_two {h:Nat} {o:Int} {s:ByteArray} {n:Int} {ts:List Tm} (h2:twoB o=true) (ht:rightT (h+1) (.mk o s n ts)=true):∃ a b,ts=[a,b]∧s=⟨#[]⟩∧n=0∧recB a=true∧rightT h a=true∧recB b=true∧rightT h b=true:=by
 unfold rightT at ht
 rw[if_pos (show twoB (Tm.op (.mk o s n ts))=true from h2),Bool.and_eq_true,Bool.and_eq_true] at ht
 obtain⟨⟨h1,h3⟩,h4⟩:=ht
 match ts,h4 with
 | [],h4=>cases h4
 | [_],h4=>cases h4
 | [a,b],h4=>
  have h4:(recB a && rightT h a && (recB b && rightT h b))=true:=h4
  simp only[Bool.and_eq_true] at h4
  exact⟨a,b,rfl,empty_of h1,by simpa using h3,h4.1.1,h4.1.2,h4.2.1,h4.2.2⟩
 | _::_::_::_,h4=>cases h4
theorem right_leaf {h:Nat} {o:Int} {s:ByteArray} {n:Int} {ts:List Tm} (h2:¬ twoB o=true) (ht:rightT (h+1) (.mk o s n ts)=true):leafB (.mk o s n ts)=true:=by
 unfold rightT at ht
 rwa [if_neg (show ¬ twoB (Tm.op (.mk o s n ts))=true from h2)] at ht
theorem leaf_none {o:Int} {s:ByteArray} {n:Int} {l:List Tm} (h:leafB (.mk o s n l)=true):l=[]:=by
 unfold leafB at h
 split at h
 ·rw[Bool.and_eq_true] at h;simpa using h.2
 split at h
 ·rw[Bool.and_eq_true] at h;simpa using h.2
 split at h
 ·rw[Bool.and_eq_true] at h;simpa using h.2
 split at h
 ·rw[Bool.and_eq_true] at h;simpa using h.2
 ·cases h
theorem high_right:∀ (h:Nat) (t:Tm),rightT h t=true→highT t≤h
 | 0,_,h=>by cases h
 | h+1,.mk o s n l,ht=>by
  by_cases h2:twoB o=true
  ·obtain⟨a,b,rfl,_,_,_,ta,_,tb⟩:=right_two h2 ht
   have h1:=high_right h a ta
   have h2:=high_right h b tb
   rw[highT,highTs,highTs,highTs,Nat.max_zero]
   omega
  ·have hl:=leaf_none (right_leaf h2 ht)
   subst hl
   rw[highT,highTs]
   omega
theorem leaf_var {s:ByteArray} {n:Int} {l:List Tm} (h:leafB (.mk 1 s n l)=true):nameB s.data.toList=true∧n=0∧l=[]:=by
 unfold leafB at h
 rw[if_pos (show Tm.op (.mk 1 s n l)=1 from rfl)] at h
 simpa[and_assoc] using h
theorem leaf_int {s:ByteArray} {n:Int} {l:List Tm} (h:leafB (.mk 2 s n l)=true):s=⟨#[]⟩∧l=[]:=by
 unfold leafB at h
 rw[if_neg (by show ¬ (2:Int)=1;decide),if_pos (show Tm.op (.mk 2 s n l)=2 from rfl),Bool.and_eq_true] at h
 exact⟨empty_of h.1,by simpa using h.2⟩
theorem leaf_sym {s:ByteArray} {n:Int} {l:List Tm} (h:leafB (.mk 3 s n l)=true):n=0∧l=[]:=by
 unfold leafB at h
 rw[if_neg (by show ¬ (3:Int)=1;decide),if_neg (by show ¬ (3:Int)=2;decide),if_pos (show Tm.op (.mk 3 s n l)=3 from rfl)] at h
 simpa using h
theorem sum_thing {l r:List TokI} {t:Tm} (h:thingP (l++r)=.ok (t,r)) (h1:nextB 4 [42] r=false) (h2:nextB 4 [43] r=false) (h3:nextB 4 [45] r=false):sumP (l++r)=.ok (t,r):=by
 rw[sumP_eq,productP_eq,h]
 simp only
 rw[timesP_else _ h1]
 simp only
 rw[plusP_else _ h2 h3]
theorem rec_not3 {t:Tm} (h:recB t=true):t.op≠3∧t.op≠4:=by
 unfold recB at h
 simpa using h
theorem thing_keys:∀ (h:Nat) (t:Tm),rightT h t=true→t.op≠4→∀ l,l.map keyOf=keysT h t→∀ r,thingP (l++r)=.ok (t,r)
 | 0,_,h,_,_,_,_=>by cases h
 | h+1,.mk o s n ts,ht,h4,l,hl,r=>by
  have h4:o≠4:=h4
  by_cases h2:twoB o=true
  ·have ho:o=5∨o=6∨o=7:=by
    unfold twoB at h2
    simpa[or_assoc] using h2
   obtain⟨a,b,rfl,rfl,rfl,ra,ta,rb,tb⟩:=right_two h2 ht
   rw[keysT5 ho] at hl
   ·skip
    have A3:=rec_not3 ra
    have B3:=rec_not3 rb
    obtain⟨l1,l',rfl,k1,hl⟩:=List.map_eq_append_iff.1 hl
    obtain⟨la,l',rfl,ka,hl⟩:=List.map_eq_append_iff.1 hl
    obtain⟨l2,l',rfl,k2,hl⟩:=List.map_eq_append_iff.1 hl
    obtain⟨lb,l3,rfl,kb,k3⟩:=List.map_eq_append_iff.1 hl
    obtain⟨p,rfl,p1,p2⟩:=key_one k1
    obtain⟨g,rfl,g1,g2⟩:=key_one k2
    obtain⟨c,rfl,c1,c2⟩:=key_one k3
    simp only at p1 p2 g1 g2 c1 c2
    have IA:=fun q=>thing_keys h a ta A3.2 la ka q
    have IB:=fun q=>thing_keys h b tb B3.2 lb kb q
    have e:[p]++(la++([g]++(lb++[c])))++r=p::(la++(g::(lb++(c::r)))):=by simp
    rw[e,thingP,if_neg (by omega),if_neg (by omega),if_neg (by intro e;have:=nm_k e;omega),if_neg (by rw[key_not p2 (by decide)];decide),if_pos (key_tok p1 p2)]
    have nc:∀ s',([41]:List UInt8)≠s'→nextB 4 s' (c::r)=false:=fun s' h=>key_not (t:=c) c2 h
    have hsum:sumP (la++(g::(lb++(c::r))))=.ok (.mk o ⟨#[]⟩ 0 [a,b],c::r):=by
     rw[sumP_eq,productP_eq,IA]
     simp only
     rcases ho with rfl | rfl | rfl
     ·have g2:g.s.data.toList=[43]:=g2
      rw[timesP_else _ (show nextB 4 [42] (g::_)=false from key_not g2 (by decide))]
      simp only
      rw[plusP_sign a _ (.inl (key_tok g1 g2)),productP_eq,IB]
      simp only
      rw[timesP_else _ (nc _ (by decide))]
      simp only
      rw[if_neg (fun h=>h.elim A3.1 B3.1),if_neg (by rw[key_not g2 (by decide)];decide),plusP_else _ (nc _ (by decide)) (nc _ (by decide))]
     ·have g2:g.s.data.toList=[45]:=g2
      rw[timesP_else _ (show nextB 4 [42] (g::_)=false from key_not g2 (by decide))]
      simp only
      rw[plusP_sign a _ (.inr (key_tok g1 g2)),productP_eq,IB]
      simp only
      rw[timesP_else _ (nc _ (by decide))]
      simp only
      rw[if_neg (fun h=>h.elim A3.1 B3.1),if_pos (key_tok g1 g2),plusP_else _ (nc _ (by decide)) (nc _ (by decide))]
     ·have g2:g.s.data.toList=[42]:=g2
      rw[timesP_sign a _ (key_tok g1 g2),IB]
      simp only
      rw[if_neg (fun h=>h.elim A3.1 B3.1),timesP_else _ (nc _ (by decide))]
      simp only
      rw[plusP_else _ (nc _ (by decide)) (nc _ (by decide))]
    rw[hsum]
    show mustP 4 [41] _ (c::r)=_
    unfold mustP
    rw[if_pos (show nextB 4 [41] (c::r)=true from key_tok c1 c2)]
    rfl
  ·have ht:=right_leaf h2 ht
   by_cases h1:o=1
   ·subst h1
    rw[keysT1 rfl] at hl
    obtain⟨hs,rfl,rfl⟩:=leaf_var ht
    obtain⟨u,rfl,u1,u2⟩:=key_one hl
    simp only at u1 u2
    have us:=bytes_eq u2
    rw[List.singleton_append,thingP,if_neg (by omega),if_neg (by omega),if_pos (nameB_nm u1 (us ▸ hs)),us]
    rfl
   by_cases h2':o=2
   ·subst h2'
    rw[keysT2 rfl] at hl
    simp only[Tm.n_mk] at hl
    obtain⟨rfl,rfl⟩:=leaf_int ht
    unfold numK at hl
    by_cases hn:n < 0
    ·rw[if_pos hn] at hl
     obtain⟨u,v,rfl⟩:∃ u v,l=[u,v]:=by
      match l,congrArg List.length hl with
      | [u,v],_=>exact⟨u,v,rfl⟩
     ·have e1:=(List.cons.inj hl).1
      have e2:=(List.cons.inj (List.cons.inj hl).2).1
      have u1:u.kind=4:=congrArg Prod.fst e1
      have u2:u.s.data.toList=[45]:=congrArg Prod.snd e1
      have v1:v.kind=2:=congrArg Prod.fst e2
      have v2:v.s.data.toList=Lib.decDigits n.natAbs:=congrArg Prod.snd e2
      rw[show [u,v]++r=u::v::r from rfl,thingP,if_neg (by omega),if_neg (by omega),if_neg (by intro e;have:=nm_k e;omega),if_pos (key_tok u1 u2)]
      show (if v.kind=2 then Except.ok (intT (-(digitsI v.s.data.toList)),r) else .error ((40:Int),v.line))=_
      rw[if_pos v1,v2,digitsI_dec,show (-((n.natAbs:Nat):Int))=n by omega]
      rfl
    ·rw[if_neg hn] at hl
     obtain⟨v,rfl,v1,v2⟩:=key_one hl
     simp only at v1 v2
     rw[List.singleton_append,thingP,if_pos v1,v2,digitsI_dec,show ((n.toNat:Nat):Int)=n by omega]
     rfl
   by_cases h3:o=3
   ·subst h3
    rw[keysT3 rfl] at hl
    obtain⟨rfl,rfl⟩:=leaf_sym ht
    obtain⟨u,rfl,u1,u2⟩:=key_one hl
    simp only at u1 u2
    rw[List.singleton_append,thingP,if_neg (by omega),if_pos u1,bytes_eq u2]
    rfl
   ·exfalso
    unfold leafB at ht
    rw[if_neg (show ¬ Tm.op (.mk o s n ts)=1 from h1),if_neg (show ¬ Tm.op (.mk o s n ts)=2 from h2'),if_neg (show ¬ Tm.op (.mk o s n ts)=3 from h3),if_neg (show ¬ Tm.op (.mk o s n ts)=4 from h4)] at ht
    cases ht
theorem expr_keys {t:Tm} (ht:rightT 20 t=true) (h4:t.op≠4) {l:List TokI} (hl:l.map keyOf=keysT 20 t) {r:List TokI} (h1:nextB 4 [42] r=false) (h2:nextB 4 [43] r=false) (h3:nextB 4 [45] r=false):exprP (l++r)=.ok (t,r):=by
 unfold exprP
 rw[sum_thing (thing_keys 20 t ht h4 l hl r) h1 h2 h3]
 exact if_neg (by have:=high_right 20 t ht;omega)
def joinK:List (List Key)→List Key
 | []=>[]
 | [x]=>x
 | x::y::r=>x++(4,[44])::joinK (y::r)
def keysA (a:Am):List Key:=(1,a.rel.data.toList)::(4,[40])::(joinK (a.l.map (keysT 20))++[(4,[41])])
def keysB (a:Am):List Key:=(4,[58])::(4,[123])::(keysA a++[(4,[125])])
def keysL (l:Lt):List Key:=
 if l.op=1 then keysA l.a
 else if l.op=2 then (4,[33])::keysA l.a
 else if l.op≤6 then keysT 20 l.x++(4,wordL l.op)::keysT 20 l.y
 else keysT 20 l.x++(4,[61])::(1,wordL l.op)::((if l.op=7 then [] else keysT 20 l.y)++keysB l.a)
def keysR (r:Ru):List Key:=keysA r.head++((if r.body=[] then [] else (4,[58,45])::joinK (r.body.map keysL))++[(4,[46])])
theorem key_cons {l:List TokI} {k:Key} {ks:List Key} (h:l.map keyOf=k::ks):∃ t r,l=t::r∧t.kind=k.1∧t.s.data.toList=k.2∧r.map keyOf=ks:=by
 match l,h with
 | t::r,h=>
  have h1:=(List.cons.inj h).1
  exact⟨t,r,rfl,congrArg Prod.fst h1,congrArg Prod.snd h1,(List.cons.inj h).2⟩
theorem num_head (n:Int):∃ k ks,numK n=k::ks∧k.1≠1∧(k.1=4→k.2=[45]):=by
 unfold numK
 by_cases hn:n < 0
 ·rw[if_pos hn];exact⟨_,_,rfl,(show ¬ (4:Int)=1 by decide),fun _=>rfl⟩
 ·rw[if_neg hn];exact⟨_,_,rfl,(show ¬ (2:Int)=1 by decide),fun e=>absurd e (show ¬ (2:Int)=4 by decide)⟩
theorem head_key:∀ (h:Nat) (t:Tm),rightT h t=true→t.op≠4→∃ k ks,keysT h t=k::ks∧(k.1=1→nameB k.2=true∧ks=[]∧t=.mk 1 t.s 0 []∧k.2=t.s.data.toList)∧(k.1=4→k.2=[40]∨k.2=[45])
 | 0,_,h,_=>by cases h
 | h+1,.mk o s n ts,ht,h4=>by
  have h4:o≠4:=h4
  by_cases h2:twoB o=true
  ·have ho:o=5∨o=6∨o=7:=by
    unfold twoB at h2
    simpa[or_assoc] using h2
   obtain⟨a,b,rfl,rfl,rfl,ra,ta,rb,tb⟩:=right_two h2 ht
   exact⟨_,_,keysT5 ho,fun e=>absurd e (by decide),fun _=>.inl rfl⟩
  ·have hl:=right_leaf h2 ht
   by_cases h1:o=1
   ·subst h1
    obtain⟨hs,rfl,rfl⟩:=leaf_var hl
    exact⟨_,_,keysT1 rfl,fun _=>⟨hs,rfl,rfl,rfl⟩,fun e=>absurd e (show ¬ (1:Int)=4 by decide)⟩
   by_cases h1':o=2
   ·subst h1'
    obtain⟨rfl,rfl⟩:=leaf_int hl
    obtain⟨k,ks,e,e1,e2⟩:=num_head n
    exact⟨k,ks,(keysT2 rfl).trans e,fun e=>absurd e e1,fun e=>.inr (e2 e)⟩
   by_cases h3:o=3
   ·subst h3
    exact⟨_,_,keysT3 rfl,fun e=>absurd e (show ¬ (3:Int)=1 by decide),fun e=>absurd e (show ¬ (3:Int)=4 by decide)⟩
   ·exfalso
    unfold leafB at hl
    rw[if_neg (show ¬ Tm.op (.mk o s n ts)=1 from h1),if_neg (show ¬ Tm.op (.mk o s n ts)=2 from h1'),if_neg (show ¬ Tm.op (.mk o s n ts)=3 from h3),if_neg (show ¬ Tm.op (.mk o s n ts)=4 from h4)] at hl
    cases hl
theorem nameB_ne {s:List UInt8} (h:nameB s=true):s≠[95]:=by
 rintro rfl
 unfold nameB at h
 simp at h
theorem any_leaf {h:Nat} {t:Tm} (ht:rightT h t=true) (h4:t.op=4):t=.mk 4 ⟨#[]⟩ 0 []:=by
 match h,t,ht,h4 with
 | h+1,.mk o s n l,ht,h4=>
  have h4:o=4:=h4
  subst h4
  have hl:=right_leaf (show ¬ twoB 4=true by decide) ht
  unfold leafB at hl
  rw[if_neg (by show ¬ (4:Int)=1;decide),if_neg (by show ¬ (4:Int)=2;decide),if_neg (by show ¬ (4:Int)=3;decide),if_pos (show Tm.op (.mk 4 s n l)=4 from rfl),Bool.and_eq_true,Bool.and_eq_true] at hl
  have h1:=empty_of hl.1.1
  have h2:n=0:=by simpa using hl.1.2
  have h3:l=[]:=by simpa using hl.2
  have h1:s=⟨#[]⟩:=h1
  rw[h1,h2,h3]
def NoSign (r:List TokI):Prop:=nextB 4 [42] r=false∧nextB 4 [43] r=false∧nextB 4 [45] r=false
theorem noSign_cons {t:TokI} {r:List TokI} (h:t.s.data.toList≠[42]∧t.s.data.toList≠[43]∧t.s.data.toList≠[45]):NoSign (t::r):=
 ⟨key_not (t:=t) rfl h.1,key_not (t:=t) rfl h.2.1,key_not (t:=t) rfl h.2.2⟩
theorem arg_keys {t:Tm} (ht:rightT 20 t=true) {l:List TokI} (hl:l.map keyOf=keysT 20 t) {r:List TokI} (hr:NoSign r):argP (l++r)=.ok (t,r):=by
 by_cases h4:t.op=4
 ·have:=any_leaf ht h4
  subst this
  rw[keysT4 rfl] at hl
  obtain⟨u,rfl,u1,u2⟩:=key_one hl
  unfold argP
  rw[List.singleton_append,if_pos (show nextB 1 [95] (u::r)=true from key_tok u1 u2)]
  rfl
 ·obtain⟨k,ks,hk,k1,_⟩:=head_key 20 t ht h4
  obtain⟨u,l',rfl,u1,u2,hl'⟩:=key_cons (hl.trans hk)
  unfold argP
  have hn:nextB 1 [95] (u::l'++r)=false:=by
   by_cases hu:u.kind=1
   ·exact key_not (t:=u) u2 (nameB_ne (k1 (by omega)).1)
   ·show tokB 1 [95] u=false
    cases h:tokB 1 [95] u with
    | false=>rfl
    | true=>
     unfold tokB at h
     rw[Bool.and_eq_true] at h
     exact absurd (by simpa using h.1) hu
  rw[if_neg (by rw[hn];decide)]
  exact expr_keys ht h4 hl hr.1 hr.2.1 hr.2.2
theorem args_keys:∀ (ts:List Tm) (acc:List Tm) (l:List TokI) (c:TokI) (r:List TokI),ts≠[]→ts.all (rightT 20)=true→acc.length+ts.length≤8→l.map keyOf=joinK (ts.map (keysT 20))→c.s.data.toList=[41]→argsP acc (l++c::r)=.ok (acc++ts,c::r)
 | [],_,_,_,_,h,_,_,_,_=>absurd rfl h
 | [t],acc,l,c,r,_,ht,ha,hl,hc=>by
  have ha:acc.length+1≤8:=ha
  rw[argsP_eq,if_neg (by omega),arg_keys (by simpa using ht) hl (noSign_cons (by rw[hc];decide))]
  simp only
  rw[if_neg (by rw[show nextB 4 [44] (c::r)=false from key_not (t:=c) hc (by decide)];decide)]
 | t::u::ts,acc,l,c,r,_,ht,ha,hl,hc=>by
  simp only[List.length_cons] at ha
  rw[List.all_cons,Bool.and_eq_true] at ht
  obtain⟨l1,l',rfl,k1,hl⟩:=List.map_eq_append_iff.1 (show l.map keyOf=keysT 20 t++(4,[44])::joinK ((u::ts).map (keysT 20)) from hl)
  obtain⟨d,l2,rfl,d1,d2,k2⟩:=key_cons hl
  have d1:d.kind=4:=d1
  have d2:d.s.data.toList=[44]:=d2
  rw[List.append_assoc,List.cons_append,argsP_eq,if_neg (by omega),arg_keys ht.1 k1 (noSign_cons (by rw[d2];decide))]
  simp only
  rw[if_pos (show nextB 4 [44] (d::_)=true from key_tok d1 d2)]
  show argsP (acc++[t]) (l2++c::r)=_
  rw[args_keys (u::ts) (acc++[t]) l2 c r (by simp) ht.2 (by simp;omega) k2 hc]
  simp
theorem must_cons {α:Type} {k:Int} {s:List UInt8} {x:α} {t:TokI} {r:List TokI} (h1:t.kind=k) (h2:t.s.data.toList=s):mustP k s x (t::r)=.ok (x,r):=by
 unfold mustP
 rw[if_pos (show nextB k s (t::r)=true from key_tok h1 h2)]
 rfl
theorem name_cons {s:ByteArray} {t:TokI} {r:List TokI} (h1:t.kind=1) (h2:t.s.data.toList=s.data.toList) (h:nameB s.data.toList=true):nameP (t::r)=.ok (s,r):=by
 show (if isNm t=true then Except.ok (t.s,r) else .error ((40:Int),t.line))=_
 rw[if_pos (nameB_nm h1 (by rw[h2];exact h)),bytes_eq h2]
theorem right_atom {a:Am} (h:rightA a=true):nameB a.rel.data.toList=true∧a.l≠[]∧a.l.length≤8∧a.l.all (rightT 20)=true:=by
 unfold rightA at h
 simp only[Bool.and_eq_true,decide_eq_true_eq] at h
 refine⟨h.1.1.1,?_,h.1.2,h.2⟩
 intro e
 have:=h.1.1.2
 rw[e] at this
 simp at this
theorem atom_keys {a:Am} (ha:rightA a=true) {l:List TokI} (hl:l.map keyOf=keysA a) (r:List TokI):atomP (l++r)=.ok (a,r):=by
 obtain⟨h1,h2,h3,h4⟩:=right_atom ha
 obtain⟨t,l,rfl,t1,t2,hl⟩:=key_cons hl
 obtain⟨p,l,rfl,p1,p2,hl⟩:=key_cons hl
 obtain⟨la,lc,rfl,ka,kc⟩:=List.map_eq_append_iff.1 hl
 obtain⟨c,rfl,c1,c2⟩:=key_one kc
 have e:t::p::(la++[c])++r=t::p::(la++c::r):=by simp
 rw[e]
 unfold atomP
 rw[name_cons t1 t2 h1]
 simp only
 rw[must_cons p1 p2]
 simp only
 rw[args_keys a.l [] la c r h2 h4 (by simpa using h3) ka c2]
 simp only
 rw[must_cons c1 c2]
 rfl
theorem braced_keys {op:Int} {x y:Tm} {a:Am} (ha:rightA a=true) {l:List TokI} (hl:l.map keyOf=keysB a) (r:List TokI):bracedP op x y (l++r)=.ok (⟨op,a,x,y⟩,r):=by
 obtain⟨t,l,rfl,t1,t2,hl⟩:=key_cons hl
 obtain⟨p,l,rfl,p1,p2,hl⟩:=key_cons hl
 obtain⟨la,lc,rfl,ka,kc⟩:=List.map_eq_append_iff.1 hl
 obtain⟨c,rfl,c1,c2⟩:=key_one kc
 have e:t::p::(la++[c])++r=t::p::(la++c::r):=by simp
 rw[e]
 unfold bracedP
 rw[must_cons t1 t2]
 simp only
 rw[must_cons p1 p2]
 simp only
 rw[atom_keys ha ka]
 simp only
 rw[must_cons c1 c2]
theorem noT_eq {t:Tm} (h:noT t=true):t=noTm:=by
 match t,h with
 | .mk o s n l,h=>
  unfold noT at h
  simp only[Tm.op_mk,Tm.s_mk,Tm.n_mk,Tm.l_mk,Bool.and_eq_true] at h
  have h1:o=0:=by simpa using h.1.1.1
  have h2:=empty_of h.1.1.2
  have h3:n=0:=by simpa using h.1.2
  have h4:l=[]:=by simpa using h.2
  rw[h1,h2,h3,h4]
  rfl
theorem noA_eq {a:Am} (h:noA a=true):a=noAm:=by
 obtain⟨s,l⟩:=a
 unfold noA at h
 rw[Bool.and_eq_true] at h
 have h1:s=⟨#[]⟩:=empty_of h.1
 have h2:l=[]:=by simpa using h.2
 rw[h1,h2]
 rfl
theorem sign_word {op:Int} (h:3≤op∧op≤6):signP (wordL op)=some (op,false)∧wordL op≠[42]∧wordL op≠[43]∧wordL op≠[45]∧wordL op≠[40]∧(wordL op=[61]→op=3):=by
 have:op=3∨op=4∨op=5∨op=6:=by omega
 rcases this with rfl | rfl | rfl | rfl <;> decide
def Ends' (r:List TokI):Prop:=nextB 4 [44] r=true∨nextB 4 [46] r=true
theorem tok_text' {k:Int} {s:List UInt8} {t:TokI} (h:tokB k s t=true):t.s.data.toList=s:=by
 unfold tokB at h
 rw[Bool.and_eq_true] at h
 simpa using h.2
theorem ends_sign {r:List TokI} (h:Ends' r):NoSign r:=by
 cases r with
 | nil=>exact⟨rfl,rfl,rfl⟩
 | cons t r=>
  refine noSign_cons ?_
  rcases h with h | h
  ·have e:t.s.data.toList=[44]:=tok_text' h
   rw[e];decide
  ·have e:t.s.data.toList=[46]:=tok_text' h
   rw[e];decide
theorem how_kind {g w:TokI} (h:w.kind≠1) (q:List TokI):howP (g::w::q)=0:=by
 unfold howP
 simp only
 rw[if_neg (fun e=>h e.2)]
theorem how_end {g w:TokI} {r:List TokI} (h:nextB 4 [58] r=false) (h2:nmAt r=false):howP (g::w::r)=0:=by
 unfold howP
 simp only
 rw[if_neg (show ¬ (w.s.data.toList=[99,111,117,110,116]∧nextB 4 [58] r=true) from by rw[h];intro e;cases e.2),if_neg (show ¬ (nmAt r=true∧nextB 4 [58] r.tail=true) from by rw[h2];intro e;cases e.1)]
 exact ite_self _
theorem ends_how {r:List TokI} (h:Ends' r):nextB 4 [58] r=false∧nmAt r=false:=by
 cases r with
 | nil=>exact⟨rfl,rfl⟩
 | cons t r=>
  have hk:t.kind=4:=h.elim (fun e=>by have e:tokB 4 [44] t=true:=e;unfold tokB at e;rw[Bool.and_eq_true] at e;simpa using e.1) (fun e=>by have e:tokB 4 [46] t=true:=e;unfold tokB at e;rw[Bool.and_eq_true] at e;simpa using e.1)
  refine⟨?_,?_⟩
  ·rcases h with h | h
   ·exact key_not (t:=t) (tok_text' h) (by decide)
   ·exact key_not (t:=t) (tok_text' h) (by decide)
  ·show isNm t=false
   cases hn:isNm t with
   | false=>rfl
   | true=>exact absurd (nm_k hn) (by omega)
theorem part_expr {x:Tm} (hx:rightT 20 x=true) (h4:x.op≠4) {lx:List TokI} (hl:lx.map keyOf=keysT 20 x) {g:TokI} {q:List TokI} (hg:g.s.data.toList≠[42]∧g.s.data.toList≠[43]∧g.s.data.toList≠[45]) (hg4:g.s.data.toList≠[40]) :
  partP (lx++g::q)=if howP (g::q)=0 then heldP x (g::q) else aggregateP (howP (g::q)) x (g::q):=by
 have hs:=noSign_cons (t:=g) (r:=q) hg
 have he:=expr_keys hx h4 hl hs.1 hs.2.1 hs.2.2
 obtain⟨k,ks,hk,k1,k4⟩:=head_key 20 x hx h4
 obtain⟨u,l',rfl,u1,u2,hl'⟩:=key_cons (hl.trans hk)
 unfold partP
 have n1:nextB 4 [33] (u::l'++g::q)=false:=by
  show tokB 4 [33] u=false
  by_cases hu:u.kind=4
  ·rcases k4 (by omega) with e | e
   ·exact key_not (u2.trans e) (by decide)
   ·exact key_not (u2.trans e) (by decide)
  ·cases h:tokB 4 [33] u with
   | false=>rfl
   | true=>
    unfold tokB at h
    rw[Bool.and_eq_true] at h
    exact absurd (by simpa using h.1) hu
 have n2:¬ (nmAt (u::l'++g::q)=true∧nextB 4 [40] (u::l'++g::q).tail=true):=by
  rintro⟨e1,e2⟩
  have e1:isNm u=true:=e1
  have hks:=(k1 (by have:=nm_k e1;omega)).2.1
  subst hks
  have:l'=[]:=by simpa using hl'
  subst this
  have e2:tokB 4 [40] g=true:=e2
  exact hg4 (tok_text' e2)
 rw[if_neg (by rw[n1];decide),if_neg n2,he]
theorem lit_keys {op:Int} {a:Am} (ha:rightA a=true) {l:List TokI} (hl:l.map keyOf=keysA a) (r:List TokI):litP op (l++r)=.ok (⟨op,a,noTm,noTm⟩,r):=by
 unfold litP
 rw[atom_keys ha hl]
theorem var_eq {y:Tm} (h:rightT 20 y=true) (h1:y.op=1):y=.mk 1 y.s 0 []∧nameB y.s.data.toList=true∧keysT 20 y=[(1,y.s.data.toList)]:=by
 match y,h,h1 with
 | .mk o s n l,h,h1=>
  have h1:o=1:=h1
  subst h1
  obtain⟨hs,rfl,rfl⟩:=leaf_var (right_leaf (show ¬ twoB 1=true by decide) h)
  exact⟨rfl,hs,keysT1 rfl⟩
theorem part_keys {x:Lt} (hx:rightL x=true) {l:List TokI} (hl:l.map keyOf=keysL x) {r:List TokI} (hr:Ends' r):partP (l++r)=.ok (x,r):=by
 obtain⟨op,a,x,y⟩:=x
 unfold rightL at hx
 unfold keysL at hl
 by_cases h1:op=1
 ·rw[if_pos (show Lt.op ⟨op,a,x,y⟩=1 from h1)] at hl
  rw[if_pos (show Lt.op ⟨op,a,x,y⟩=1∨Lt.op ⟨op,a,x,y⟩=2 from .inl h1)] at hx
  simp only[Bool.and_eq_true] at hx
  obtain⟨⟨ha,hx1⟩,hy⟩:=hx
  have hx1:=noT_eq hx1
  have hy:=noT_eq hy
  subst h1;subst hx1;subst hy
  have hlk:=lit_keys (op:=1) ha hl r
  obtain⟨t,l,rfl,t1,t2,hl⟩:=key_cons hl
  obtain⟨p,l,rfl,p1,p2,hl⟩:=key_cons hl
  have hn:=nameB_nm t1 (by rw[t2];exact (right_atom ha).1)
  unfold partP
  rw[if_neg (by rw[show nextB 4 [33] (t::p::l++r)=tokB 4 [33] t from rfl,tok_not (show t.kind≠4 from by rw[t1];exact (show ¬ (1:Int)=4 by decide))];decide),if_pos ⟨hn,key_tok (t:=p) p1 p2⟩]
  exact hlk
 rw[if_neg (show ¬ Lt.op ⟨op,a,x,y⟩=1 from h1)] at hl
 by_cases h2:op=2
 ·rw[if_pos (show Lt.op ⟨op,a,x,y⟩=2 from h2)] at hl
  rw[if_pos (show Lt.op ⟨op,a,x,y⟩=1∨Lt.op ⟨op,a,x,y⟩=2 from .inr h2)] at hx
  simp only[Bool.and_eq_true] at hx
  obtain⟨⟨ha,hx1⟩,hy⟩:=hx
  have hx1:=noT_eq hx1
  have hy:=noT_eq hy
  subst h2;subst hx1;subst hy
  obtain⟨t,l,rfl,t1,t2,hl⟩:=key_cons hl
  unfold partP
  rw[if_pos (show nextB 4 [33] (t::l++r)=true from key_tok t1 t2)]
  exact lit_keys ha hl r
 rw[if_neg (show ¬ Lt.op ⟨op,a,x,y⟩=2 from h2)] at hl
 rw[if_neg (show ¬ (Lt.op ⟨op,a,x,y⟩=1∨Lt.op ⟨op,a,x,y⟩=2) from fun h=>h.elim h1 h2)] at hx
 by_cases h6:3≤op∧op≤6
 ·rw[if_pos (show Lt.op ⟨op,a,x,y⟩≤6 from h6.2)] at hl
  rw[if_pos (show 3≤Lt.op ⟨op,a,x,y⟩∧Lt.op ⟨op,a,x,y⟩≤6 from h6)] at hx
  simp only[Bool.and_eq_true] at hx
  obtain⟨⟨⟨⟨ha,hx1⟩,hy⟩,hx4⟩,hy4⟩:=hx
  have ha:=noA_eq ha
  have ha:a=noAm:=ha
  have hx4:x.op≠4:=by simpa using hx4
  have hy4:y.op≠4:=by simpa using hy4
  subst ha
  obtain⟨s1,s2,s3,s4,s5,s6⟩:=sign_word h6
  obtain⟨lx,l',rfl,kx,hl⟩:=List.map_eq_append_iff.1 hl
  obtain⟨g,ly,rfl,g1,g2,ky⟩:=key_cons hl
  have g1:g.kind=4:=g1
  have g2:g.s.data.toList=wordL op:=g2
  rw[List.append_assoc,List.cons_append,part_expr hx1 hx4 kx (by rw[g2];exact⟨s2,s3,s4⟩) (by rw[g2];exact s5)]
  have hh:howP (g::(ly++r))=0:=by
   obtain⟨k,ks,hk,k1,k4⟩:=head_key 20 y hy hy4
   obtain⟨v,lv,rfl,v1,v2,kv⟩:=key_cons (ky.trans hk)
   by_cases hv:v.kind=1
   ·have hks:=(k1 (by omega)).2.1
    subst hks
    have:lv=[]:=by simpa using kv
    subst this
    exact how_end (ends_how hr).1 (ends_how hr).2
   ·exact how_kind hv _
  rw[if_pos hh]
  have hs:=ends_sign hr
  unfold heldP
  simp only
  rw[if_pos g1,g2,s1]
  simp only
  rw[expr_keys hy hy4 ky hs.1 hs.2.1 hs.2.2]
  rfl
 rw[if_neg (show ¬ (3≤Lt.op ⟨op,a,x,y⟩∧Lt.op ⟨op,a,x,y⟩≤6) from h6)] at hx
 by_cases h7:op=7
 ·subst h7
  rw[if_pos (show Lt.op ⟨7,a,x,y⟩=7 from rfl)] at hx
  rw[if_neg (show ¬ Lt.op ⟨7,a,x,y⟩≤6 from by show ¬ (7:Int)≤6;decide),if_pos (show Lt.op ⟨7,a,x,y⟩=7 from rfl)] at hl
  simp only[Bool.and_eq_true] at hx
  obtain⟨⟨⟨ha,hx1⟩,hx2⟩,hy⟩:=hx
  have hy:=noT_eq hy
  have hy:y=noTm:=hy
  subst hy
  have hx2:x.op=1∨x.op=2:=by simpa using hx2
  obtain⟨lx,l',rfl,kx,hl⟩:=List.map_eq_append_iff.1 hl
  obtain⟨g,l',rfl,g1,g2,hl⟩:=key_cons hl
  obtain⟨w,lb,rfl,w1,w2,hl⟩:=key_cons hl
  have g2:g.s.data.toList=[61]:=g2
  have w2:w.s.data.toList=[99,111,117,110,116]:=w2
  have hb:=braced_keys (op:=7) (x:=x) (y:=noTm) ha hl r
  obtain⟨c,lc,rfl,c1,c2,_⟩:=key_cons hl
  rw[List.append_assoc,List.cons_append,part_expr hx1 (by omega) kx (by rw[g2];decide) (by rw[g2];decide)]
  have hh:howP (g::(w::c::lc++r))=7:=by
   show howP (g::w::(c::(lc++r)))=7
   unfold howP
   simp only
   rw[if_pos ⟨key_tok g1 g2,w1⟩,if_pos ⟨w2,show nextB 4 [58] (c::(lc++r))=true from key_tok c1 c2⟩]
  rw[hh,if_neg (by decide)]
  unfold aggregateP
  rw[if_pos hx2,if_pos rfl]
  exact hb
 rw[if_neg (show ¬ Lt.op ⟨op,a,x,y⟩=7 from h7)] at hx
 by_cases h8:8≤op∧op≤10
 ·rw[if_pos (show 8≤Lt.op ⟨op,a,x,y⟩∧Lt.op ⟨op,a,x,y⟩≤10 from h8)] at hx
  rw[if_neg (show ¬ Lt.op ⟨op,a,x,y⟩≤6 from by show ¬ op≤6;omega),if_neg (show ¬ Lt.op ⟨op,a,x,y⟩=7 from h7)] at hl
  simp only[Bool.and_eq_true] at hx
  obtain⟨⟨⟨⟨ha,hx1⟩,hx2⟩,hy⟩,hy1⟩:=hx
  have hy1:y.op=1:=by simpa using hy1
  have hx2:x.op=1∨x.op=2:=by simpa using hx2
  obtain⟨ye,yn,yk⟩:=var_eq hy hy1
  obtain⟨lx,l',rfl,kx,hl⟩:=List.map_eq_append_iff.1 hl
  obtain⟨g,l',rfl,g1,g2,hl⟩:=key_cons hl
  obtain⟨w,lb,rfl,w1,w2,hl⟩:=key_cons hl
  have g2:g.s.data.toList=[61]:=g2
  have w2:w.s.data.toList=wordL op:=w2
  obtain⟨ly,lb,rfl,ky,hl2⟩:=List.map_eq_append_iff.1 hl
  obtain⟨v,rfl,v1,v2⟩:=key_one (ky.trans yk)
  simp only at v1 v2
  have hb:=braced_keys (op:=op) (x:=x) (y:=.mk 1 y.s 0 []) ha hl2 r
  obtain⟨c,lc,rfl,c1,c2,_⟩:=key_cons hl2
  rw[List.append_assoc,List.cons_append,part_expr hx1 (by omega) kx (by rw[g2];decide) (by rw[g2];decide)]
  have hword:wordL op≠[99,111,117,110,116]∧(if wordL op=[115,117,109] then (8:Int) else if wordL op=[109,105,110] then 9 else if wordL op=[109,97,120] then 10 else 0)=op:=by
   have:op=8∨op=9∨op=10:=by omega
   rcases this with rfl | rfl | rfl <;> decide
  have hvn:isNm v=true:=nameB_nm v1 (by rw[v2];exact yn)
  have hh:howP (g::(w::([v]++c::lc)++r))=op:=by
   show howP (g::w::(v::c::(lc++r)))=op
   unfold howP
   simp only
   rw[if_pos ⟨key_tok g1 g2,w1⟩,w2,if_neg (fun e=>hword.1 e.1),if_pos ⟨hvn,show nextB 4 [58] (c::(lc++r))=true from key_tok c1 c2⟩]
   exact hword.2
  rw[hh,if_neg (by omega)]
  unfold aggregateP
  rw[if_pos hx2,if_neg h7]
  show (match nameP (v::(c::lc++r)) with | Except.error e=>Except.error e | .ok (s,q)=>bracedP op x (.mk 1 s 0 []) q)=_
  rw[name_cons v1 v2 yn]
  simp only
  rw[hb]
  rw[← ye]
 ·rw[if_neg (show ¬ (8≤Lt.op ⟨op,a,x,y⟩∧Lt.op ⟨op,a,x,y⟩≤10) from h8)] at hx
  cases hx
theorem body_keys:∀ (ts:List Lt) (acc:List Lt) (l:List TokI) (c:TokI) (r:List TokI),ts≠[]→ts.all rightL=true→acc.length+ts.length≤20→l.map keyOf=joinK (ts.map keysL)→c.kind=4→c.s.data.toList=[46]→bodyP acc (l++c::r)=.ok (acc++ts,c::r)
 | [],_,_,_,_,h,_,_,_,_,_=>absurd rfl h
 | [t],acc,l,c,r,_,ht,ha,hl,c1,hc=>by
  have ha:acc.length+1≤20:=ha
  rw[bodyP_eq,if_neg (by omega),part_keys (by simpa using ht) hl (.inr (show nextB 4 [46] (c::r)=true from key_tok c1 hc))]
  simp only
  rw[if_neg (by rw[show nextB 4 [44] (c::r)=false from key_not (t:=c) hc (by decide)];decide)]
 | t::u::ts,acc,l,c,r,_,ht,ha,hl,c1,hc=>by
  simp only[List.length_cons] at ha
  rw[List.all_cons,Bool.and_eq_true] at ht
  obtain⟨l1,l',rfl,k1,hl⟩:=List.map_eq_append_iff.1 (show l.map keyOf=keysL t++(4,[44])::joinK ((u::ts).map keysL) from hl)
  obtain⟨d,l2,rfl,d1,d2,k2⟩:=key_cons hl
  have d1:d.kind=4:=d1
  have d2:d.s.data.toList=[44]:=d2
  rw[List.append_assoc,List.cons_append,bodyP_eq,if_neg (by omega),part_keys ht.1 k1 (.inl (show nextB 4 [44] (d::(l2++c::r))=true from key_tok d1 d2))]
  simp only
  rw[if_pos (show nextB 4 [44] (d::_)=true from key_tok d1 d2)]
  show bodyP (acc++[t]) (l2++c::r)=_
  rw[body_keys (u::ts) (acc++[t]) l2 c r (by simp) ht.2 (by simp;omega) k2 c1 hc]
  simp
theorem right_op {h:Nat} {t:Tm} (ht:rightT h t=true):t.op=1∨t.op=2∨t.op=3∨t.op=4∨twoB t.op=true:=by
 match h,t,ht with
 | h+1,.mk o s n l,ht=>
  by_cases h2:twoB o=true
  ·exact .inr (.inr (.inr (.inr h2)))
  ·have hl:=right_leaf h2 ht
   unfold leafB at hl
   by_cases a1:o=1
   ·exact .inl a1
   by_cases a2:o=2
   ·exact .inr (.inl a2)
   by_cases a3:o=3
   ·exact .inr (.inr (.inl a3))
   by_cases a4:o=4
   ·exact .inr (.inr (.inr (.inl a4)))
   rw[if_neg (show ¬ Tm.op (.mk o s n l)=1 from a1),if_neg (show ¬ Tm.op (.mk o s n l)=2 from a2),if_neg (show ¬ Tm.op (.mk o s n l)=3 from a3),if_neg (show ¬ Tm.op (.mk o s n l)=4 from a4)] at hl
   cases hl
theorem head_headed {b:Bool} {a:Am} (ha:a.l.all (rightT 20)=true) (h:a.l.all (headT b)=true):headedB b a=true:=by
 unfold headedB
 rw[List.all_eq_true] at ha h ⊢
 intro t ht
 have h1:=h t ht
 have h2:=right_op (ha t ht)
 unfold headT at h1
 rcases h2 with e | e | e | e | e
 ·rw[e] at h1 ⊢;cases b <;> simp_all [twoB]
 ·rw[e];simp
 ·rw[e];simp
 ·rw[e] at h1;simp at h1
 ·rw[e] at h1;simp at h1
theorem headed_weak {b:Bool} {a:Am} (h:headedB b a=true):headedB false a=true:=by
 unfold headedB at h ⊢
 rw[List.all_eq_true] at h ⊢
 intro t ht
 have:=h t ht
 rw[Bool.and_eq_true] at this
 rw[this.1]
 rfl
theorem rule_keys {x:Ru} (hx:rightR x=true) {l:List TokI} (hl:l.map keyOf=keysR x) (r:List TokI):ruleP (l++r)=.ok (⟨x.head,x.body,lineL l⟩,r):=by
 obtain⟨a,b,n⟩:=x
 unfold rightR at hx
 simp only[Bool.and_eq_true,decide_eq_true_eq] at hx
 obtain⟨⟨⟨ha,hb⟩,hh⟩,hr⟩:=hx
 have hd:=head_headed (right_atom ha).2.2.2 hh
 unfold keysR at hl
 simp only at hl
 obtain⟨la,l',rfl,ka,hl⟩:=List.map_eq_append_iff.1 hl
 obtain⟨lb,lc,rfl,kb,kc⟩:=List.map_eq_append_iff.1 hl
 obtain⟨c,rfl,c1,c2⟩:=key_one kc
 simp only at c1 c2
 have hne:la≠[]:=by
  rintro rfl
  cases ka
 have hline:lineL (la++(lb++[c])++r)=lineL (la++(lb++[c])):=by
  cases la with
  | nil=>exact absurd rfl hne
  | cons t q=>rfl
 have e:la++(lb++[c])++r=la++(lb++c::r):=by simp
 have hend:∀ n,endP n a b (c::r)=.ok (⟨a,b,n⟩,r):=by
  intro n
  unfold endP
  rw[must_cons c1 c2]
  simp only
  rw[if_pos hd]
 unfold ruleP
 rw[hline,e,atom_keys ha ka]
 simp only
 rw[if_pos (headed_weak hd)]
 by_cases h0:b=[]
 ·subst h0
  rw[if_pos rfl] at kb
  have:lb=[]:=by simpa using kb
  subst this
  rw[List.nil_append,if_neg (by rw[show nextB 4 [58,45] (c::r)=false from key_not (t:=c) c2 (by decide)];decide)]
  exact hend _
 ·rw[if_neg h0] at kb
  obtain⟨t,lb,rfl,t1,t2,kb⟩:=key_cons kb
  rw[if_pos (show nextB 4 [58,45] (t::lb++c::r)=true from key_tok t1 t2)]
  show (match bodyP [] (lb++c::r) with | Except.error e=>Except.error e | .ok (b,q)=>endP _ a b q)=_
  rw[body_keys b [] lb c r h0 hr (by simpa using hb) kb c1 c2]
  exact hend _
end Go.Proofs.YtdgbajnhhhjbcaaGreatDoor

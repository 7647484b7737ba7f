/- SignBack@01, Local@01, Toks@01, Tdig@01, Read@01, Park4@01, Dmath@01 -/
import Derived.Test.YtdgbajnhhhjbcaaGreatDoorQ23
import Derived.Test.YtdgbajnhhhjbcaaGreatDoorQ24
set_option linter.unusedSimpArgs false
set_option linter.unusedVariables false
namespace Go.Proofs.YtdgbajnhhhjbcaaGreatDoor
open Go.RowKit
theorem sign_kinds_fin:∀ c:Fin 256,(sign (UInt8.ofNat c.1)=[UInt8.ofNat c.1]∧UInt8.ofNat c.1≠92∧UInt8.ofNat c.1≠34∧plainB ((UInt8.ofNat c.1).toNat:Int)=true) ∨
  (sign (UInt8.ofNat c.1)=[92,110]∧UInt8.ofNat c.1=10)∨(sign (UInt8.ofNat c.1)=[92,34]∧UInt8.ofNat c.1=34)∨(sign (UInt8.ofNat c.1)=[92,92]∧UInt8.ofNat c.1=92) ∨
  (sign (UInt8.ofNat c.1)=[92,120,hexL.getD (c.1 / 16) 0,hexL.getD (c.1 % 16) 0]∧hexIx (hexL.getD (c.1 / 16) 0)=(c.1 / 16:Nat)∧hexIx (hexL.getD (c.1 % 16) 0)=(c.1 % 16:Nat)∧plainB (c.1:Int)=false∧c.1≠10):=by decide +kernel
theorem firstS_sign (c:UInt8) (r:List UInt8):firstS (sign c++r)=some (c,(sign c).length):=by
 have hk:=sign_kinds_fin ⟨c.toNat,c.toNat_lt⟩
 simp only[ofNat_toNat] at hk
 rcases hk with ⟨hs,h1,h2,h3⟩ | ⟨hs,h1⟩ | ⟨hs,h1⟩ | ⟨hs,h1⟩ | ⟨hs,h1,h2,h3,h4⟩
 ·rw[hs]
  unfold firstS
  simp only[List.cons_append,List.nil_append,List.getD_cons_zero,List.length_cons,List.length_nil]
  rw[if_neg h1,if_neg (by rintro (h | h);exact h2 h;exact h h3)]
 ·rw[hs,h1]
  simp[firstS,escS]
 ·rw[hs,h1]
  simp[firstS,escS]
 ·rw[hs,h1]
  simp[firstS,escS]
 ·rw[hs]
  have e:16 * hexIx (hexL.getD (c.toNat / 16) 0)+hexIx (hexL.getD (c.toNat % 16) 0)=(c.toNat:Int):=by rw[h1,h2];omega
  have hx:hexS4 (92::120::hexL.getD (c.toNat / 16) 0::hexL.getD (c.toNat % 16) 0::r)=some (c,4):=by
   unfold hexS4
   simp only[List.getD_cons_zero,List.getD_cons_succ,List.length_cons]
   rw[if_neg (by omega),if_neg (by rw[h1,h2];omega),e,if_neg (by rw[h3];rintro (h | h);cases h;exact h4 (by omega))]
   simp
  unfold firstS escS
  simp only[List.cons_append,List.nil_append,List.getD_cons_zero,List.getD_cons_succ,List.length_cons,List.length_nil,if_true]
  rw[if_neg (by omega),if_neg (by decide),if_neg (by decide),if_neg (by decide),hx]
theorem seqS_flat:∀ (t:List UInt8) (f:Nat),(t.flatMap sign).length≤f→seqS f (t.flatMap sign)=t.map fun c=>(c,false)
 | [],f,_=>by simp[seqS_nil]
 | c::t,f,hf=>by
  have hc:=sign_ne c
  have hl:1≤(sign c).length:=by
   cases h:sign c with
   | nil=>exact absurd h hc
   | cons=>simp
  simp only[List.flatMap_cons,List.length_append] at hf ⊢
  obtain⟨g,rfl⟩:∃ g,f=g+1:=⟨f - 1,by omega⟩
  rw[seqS_some g _ c (sign c).length (by simp[hc]) (firstS_sign c _),List.drop_left,seqS_flat t g (by omega)]
  rfl
theorem unqS_flat (t:List UInt8):unqS (seqS (t.flatMap sign).length (t.flatMap sign))=some t:=by
 rw[seqS_flat t _ (Nat.le_refl _)]
 unfold unqS
 rw[if_pos (by simp)]
 simp[Function.comp_def]
theorem betw_quote (m:List UInt8):betw (34::(m++[34]))=some m:=by
 have h1:Lib.hasPrefix (34::(m++[34])) [34]=true:=by simp[Lib.hasPrefix]
 have h2:Lib.trimPrefix (34::(m++[34])) [34]=m++[34]:=by unfold Lib.trimPrefix;rw[if_pos h1];rfl
 have h3:Lib.hasSuffix (m++[34]) [34]=true:=by unfold Lib.hasSuffix;rw[List.isSuffixOf_iff_suffix];exact⟨m,rfl⟩
 unfold betw
 rw[h2,if_pos ⟨h1,h3⟩]
 unfold Lib.trimSuffix
 rw[if_pos h3]
 simp
theorem unqL_quote (t:List UInt8):unqL (quoteL t)=some t:=by
 unfold unqL quoteL
 rw[betw_quote]
 exact unqS_flat t
theorem symN_sign (c:UInt8) (l:List UInt8):symN false (sign c++l)=(sign c).length+symN false l:=by
 have hk:=sign_kinds_fin ⟨c.toNat,c.toNat_lt⟩
 simp only[ofNat_toNat] at hk
 have hx:∀ k,k < 16→hexL.getD k 0≠92∧hexL.getD k 0≠34:=by decide
 rcases hk with ⟨hs,h1,h2,h3⟩ | ⟨hs,h1⟩ | ⟨hs,h1⟩ | ⟨hs,h1⟩ | ⟨hs,_⟩
 ·rw[hs];simp[symN,h1,h2]
 ·rw[hs];simp[symN];omega
 ·rw[hs];simp[symN];omega
 ·rw[hs];simp[symN];omega
 ·have ha:=hx (c.toNat / 16) (by have:=c.toNat_lt;omega)
  have hb:=hx (c.toNat % 16) (by omega)
  rw[hs]
  generalize hexL.getD (c.toNat / 16) 0=a at *
  generalize hexL.getD (c.toNat % 16) 0=b at *
  simp[symN,ha.1,ha.2,hb.1,hb.2]
  omega
theorem symN_flat (r:List UInt8):∀ s:List UInt8,symN false (s.flatMap sign++34::r)=(s.flatMap sign).length+1
 | []=>by simp[symN]
 | c::s=>by
  rw[List.flatMap_cons,List.append_assoc,symN_sign,symN_flat r s,List.length_append]
  omega
theorem not34:digB ((34:UInt8).toNat:Int)=false∧partB 34=false:=by decide
theorem shape_34 (t:List UInt8):shapeL (34::t)=(3,1+symN false t):=by
 rw[shapeL_cons]
 rw[if_neg (by rw[not34.1];decide),if_neg (by rw[not34.2];decide),if_pos rfl]
theorem shape_quote (s r:List UInt8):shapeL (quoteL s++r)=(3,(quoteL s).length):=by
 have e:quoteL s++r=34::(s.flatMap sign++34::r):=by simp[quoteL]
 rw[e,shape_34,symN_flat,quoteL_length]
 congr 1
 omega
theorem tok_quote (s r:List UInt8):tokL (quoteL s++r)=some (3,s,(quoteL s).length):=by
 unfold tokL
 rw[shape_quote]
 have h:meanL 3 ((quoteL s++r).take (quoteL s).length)=some s:=by
  rw[List.take_left']
  ·unfold meanL
   rw[if_pos rfl,unqL_quote]
  ·rfl
 simp only[h,Option.map_some]
theorem tok_head {c:UInt8} {t s:List UInt8} {k z:Nat} (h:tokL (c::t)=some (k,s,z)):c≠47∧blankB c=false:=by
 have h47:∀ t,tokL (47::t)=none:=by
  intro t
  have e:shapeL (47::t)=(4,1):=by
   rw[shapeL_cons]
   rw[if_neg (by decide),if_neg (by decide),if_neg (by decide),if_neg (by simp)]
   have:signN (47::t)=1:=by unfold signN;rw[if_neg];cases t <;> simp[longB]
   rw[this]
  unfold tokL
  rw[e]
  rfl
 constructor
 ·rintro rfl
  rw[h47] at h
  cases h
 ·cases hb:blankB c with
  | false=>rfl
  | true=>
   exfalso
   have e:shapeL (c::t)=(4,1):=by
    simp only[blankB,decide_eq_true_eq] at hb
    rw[shapeL_cons]
    rcases hb with rfl | rfl | rfl
    all_goals
     rw[if_neg (by decide),if_neg (by decide),if_neg (by decide),if_neg (by simp)]
     have:∀ x,x ∈ ([9,10,32]:List UInt8)→signN (x::t)=1:=by
      intro x hx
      unfold signN
      rw[if_neg]
      simp at hx
      cases t <;> rcases hx with rfl | rfl | rfl <;> simp[longB]
     rw[this _ (by simp)]
   unfold tokL at h
   rw[e] at h
   simp only[blankB,decide_eq_true_eq] at hb
   rcases hb with rfl | rfl | rfl
   all_goals
    simp[meanL,longB,shortB,shortL] at h
theorem lexU_blank (c:UInt8) (l:List UInt8) (hc:blankB c=true):lexU (c::l)=lexU l:=by
 have e:(c::l).drop (gap false (c::l))=l.drop (gap false l):=by
  have:gap false (c::l)=gap false l+1:=by simp[gap,hc];omega
  rw[this,List.drop_succ_cons]
 by_cases h:l.drop (gap false l)=[]
 ·rw[lexU_nil l h,lexU_nil _ (e.trans h)]
 cases ht:tokL (l.drop (gap false l)) with
 | none=>rw[lexU_bad l h ht,lexU_bad (c::l) (by rw[e];exact h) (by rw[e];exact ht)]
 | some a=>
  obtain⟨k,s,z⟩:=a
  rw[lexU_tok l h ht,lexU_tok (c::l) (by rw[e];exact h) (by rw[e];exact ht),e]
theorem dig_toNat (k:Nat) (h:k < 10):(UInt8.ofNat (48+k)).toNat=48+k:=by
 simp
 omega
theorem dec_digits (u:Nat):∀ c ∈ Lib.decDigits u,48≤c.toNat∧c.toNat≤57:=by
 induction u using Nat.strongRecOn with
 | ind u ih=>
  intro c hc
  by_cases h:u < 10
  ·rw[dec_one u h] at hc
   rw[List.mem_singleton.1 hc]
   rw[dig_toNat u h]
   omega
  ·rw[dec_more u h] at hc
   rcases List.mem_append.1 hc with hc | hc
   ·exact ih (u / 10) (by omega) c hc
   ·rw[List.mem_singleton.1 hc]
    rw[dig_toNat (u % 10) (by omega)]
    omega
theorem dec_ne (u:Nat):Lib.decDigits u≠[]:=by
 by_cases h:u < 10
 ·rw[dec_one u h];simp
 ·rw[dec_more u h];simp
theorem mag_append (g:Nat):∀ (l l':List UInt8) (sz:Nat),mag g sz (l++l')=(mag g sz l).bind fun m=>mag g m l'
 | [],l',sz=>rfl
 | c::l,l',sz=>by
  by_cases hc:48≤c.toNat∧c.toNat≤57
  ·by_cases hb:(g - (c.toNat - 48)) / 10 < sz
   ·rw[List.cons_append,mag_big g sz c _ hc hb,mag_big g sz c _ hc hb]
    rfl
   ·rw[List.cons_append,mag_go g sz c _ hc hb,mag_go g sz c _ hc hb,mag_append g l l']
  ·rw[List.cons_append,mag_bad g sz c _ hc,mag_bad g sz c _ hc]
   rfl
theorem mag_dec (g:Nat) (h9:9≤g) (u:Nat):u≤g→mag g 0 (Lib.decDigits u)=some u:=by
 induction u using Nat.strongRecOn with
 | ind u ih=>
  intro hu
  by_cases h:u < 10
  ·rw[dec_one u h,mag_go _ _ _ _ (by rw[dig_toNat u h];omega) (by omega),dig_toNat u h]
   simp[mag]
  ·rw[dec_more u h,mag_append,ih (u / 10) (by omega) (by omega)]
   have hd:=dig_toNat (u % 10) (by omega)
   rw[Option.bind_some,mag_go _ _ _ _ (by rw[hd];omega) (by rw[hd];omega),hd]
   simp[mag]
   omega
theorem dec_headR (u:Nat):(Lib.decDigits u).head?=some 48→u=0:=by
 induction u using Nat.strongRecOn with
 | ind u ih=>
  intro hh
  by_cases h:u < 10
  ·rw[dec_one u h] at hh
   have e:UInt8.ofNat (48+u)=48:=Option.some.inj hh
   have e2:=dig_toNat u h
   rw[e] at e2
   have:(48:UInt8).toNat=48:=rfl
   omega
  ·rw[dec_more u h,List.head?_append] at hh
   cases hd:(Lib.decDigits (u / 10)).head? with
   | none=>
    have:=dec_ne (u / 10)
    rw[List.head?_eq_none_iff] at hd
    exact absurd hd this
   | some c=>
    rw[hd] at hh
    have:=ih (u / 10) (by omega) (by rw[hd];exact hh)
    omega
theorem magL_dec (g:Nat) (h9:9≤g) (u:Nat) (hu:u≤g):magL g (Lib.decDigits u)=some u:=by
 unfold magL
 rw[if_neg,mag_dec g h9 u hu]
 rintro (h | ⟨h,h2⟩)
 ·exact dec_ne u h
 ·apply h2
  rw[dec_headR u h,dec_zero]
theorem prefix_neg (l:List UInt8):Lib.hasPrefix (45::l) [45]=true:=by simp[Lib.hasPrefix]
theorem prefix_dec (u:Nat):Lib.hasPrefix (Lib.decDigits u) [45]=false:=by
 cases h:Lib.decDigits u with
 | nil=>rfl
 | cons c l=>
  have:=dec_digits u c (by rw[h];simp)
  have hne:(45 == c)=false:=by
   rw[beq_eq_false_iff_ne]
   rintro rfl
   simp at this
  show (45 == c && ([]:List UInt8).isPrefixOf l)=false
  rw[hne]
  rfl
theorem numL_itoa (n:Int) (h0:-9223372036854775808≤n) (h1:n≤9223372036854775807):numL (Lib.itoa n)=some n:=by
 unfold Lib.itoa numL
 by_cases hn:n < 0
 ·rw[if_pos hn,if_pos (prefix_neg _)]
  show negO (magL 9223372036854775808 (Lib.decDigits n.natAbs))=some n
  rw[magL_dec _ (by omega) _ (by omega)]
  simp only[negO]
  rw[if_neg (by omega)]
  congr 1
  omega
 ·rw[if_neg hn,if_neg (by rw[prefix_dec];simp)]
  rw[magL_dec _ (by omega) _ (by omega)]
  simp only[posO]
  congr 1
  omega
def keysC (x:ByteArray × Int):List Key:=[(1,x.1.data.toList),(4,[58]),(1,typeL x.2)]
def keysM (s:ByteArray) (w:List UInt8) (b:Bool):List Key:=if b=true then [(5,w),(1,s.data.toList)] else []
def keysD (d:De):List Key:=
 (5,[46,100,101,99,108])::(1,d.rel.data.toList)::(4,[40])::(joinK ((d.names.zip d.types).map keysC)++((4,[41])::(keysM d.rel [46,105,110,112,117,116] d.inn++keysM d.rel [46,111,117,116,112,117,116] d.out)))
def keysP (p:Pg):List Key:=p.decls.flatMap keysD++p.rules.flatMap keysR
def goodC' (x:ByteArray × Int):Bool:=nameB x.1.data.toList && rightTy x.2
theorem column_keys {x:ByteArray × Int} (h:goodC' x=true) {l:List TokI} (hl:l.map keyOf=keysC x) (r:List TokI):columnP (l++r)=.ok (x,r):=by
 obtain⟨s,n⟩:=x
 unfold goodC' at h
 rw[Bool.and_eq_true] at h
 obtain⟨t,l,rfl,t1,t2,hl⟩:=key_cons hl
 obtain⟨c,l,rfl,c1,c2,hl⟩:=key_cons hl
 obtain⟨w,rfl,w1,w2⟩:=key_one hl
 have w1:w.kind=1:=w1
 have w2:w.s.data.toList=typeL n:=w2
 unfold columnP
 rw[show t::c::[w]++r=t::c::w::r from rfl,name_cons t1 t2 h.1]
 simp only
 rw[must_cons c1 c2]
 simp only
 have hn:n=1∨n=2:=by
  have:=h.2
  unfold rightTy at this
  simpa using this
 unfold typeP
 rcases hn with rfl | rfl
 ·have w2:w.s.data.toList=[110,117,109,98,101,114]:=w2
  rw[if_pos (show nextB 1 [110,117,109,98,101,114] (w::r)=true from key_tok w1 w2)]
  rfl
 ·have w2:w.s.data.toList=[115,121,109,98,111,108]:=w2
  rw[if_neg (by rw[show nextB 1 [110,117,109,98,101,114] (w::r)=false from key_not (t:=w) w2 (by decide)];decide),must_cons w1 w2]
theorem columns_keys:∀ (ts:List (ByteArray × Int)) (acc:List (ByteArray × Int)) (l:List TokI) (c:TokI) (r:List TokI),ts≠[]→ts.all goodC'=true→acc.length+ts.length≤8→l.map keyOf=joinK (ts.map keysC)→c.s.data.toList=[41]→columnsP acc (l++c::r)=.ok (acc++ts,c::r)
 | [],_,_,_,_,h,_,_,_,_=>absurd rfl h
 | [t],acc,l,c,r,_,ht,ha,hl,hc=>by
  have ha:acc.length+1≤8:=ha
  rw[columnsP_eq,if_neg (by omega),column_keys (by simpa using ht) hl]
  simp only
  rw[if_neg (by rw[show nextB 4 [44] (c::r)=false from key_not (t:=c) hc (by decide)];decide)]
 | t::u::ts,acc,l,c,r,_,ht,ha,hl,hc=>by
  simp only[List.length_cons] at ha
  rw[List.all_cons,Bool.and_eq_true] at ht
  obtain⟨l1,l',rfl,k1,hl⟩:=List.map_eq_append_iff.1 (show l.map keyOf=keysC t++(4,[44])::joinK ((u::ts).map keysC) from hl)
  obtain⟨d,l2,rfl,d1,d2,k2⟩:=key_cons hl
  have d1:d.kind=4:=d1
  have d2:d.s.data.toList=[44]:=d2
  rw[List.append_assoc,List.cons_append,columnsP_eq,if_neg (by omega),column_keys ht.1 k1]
  simp only
  rw[if_pos (show nextB 4 [44] (d::_)=true from key_tok d1 d2)]
  show columnsP (acc++[t]) (l2++c::r)=_
  rw[columns_keys (u::ts) (acc++[t]) l2 c r (by simp) ht.2 (by simp;omega) k2 hc]
  simp
theorem zip_maps:∀ (a:List ByteArray) (b:List Int),b.length=a.length→(a.zip b).map (·.1)=a∧(a.zip b).map (·.2)=b
 | [],[],_=>⟨rfl,rfl⟩
 | [],_::_,h=>by cases h
 | _::_,[],h=>by cases h
 | x::a,y::b,h=>by
  have:=zip_maps a b (by simpa using h)
  rw[List.zip_cons_cons,List.map_cons,List.map_cons,this.1,this.2]
  exact⟨rfl,rfl⟩
theorem item_other {k:Int} {s w:List UInt8} {t:TokI} {r:List TokI} (h:t.s.data.toList=s) (hs:s≠w):nextB k w (t::r)=false:=key_not h hs
theorem markL_last {d:De} {inn:Bool} (h:(if inn=true then d.inn else d.out)=false) {P:List De} (hP:d.rel.data.toList ∉ namesD P):markL d.rel inn (P++[d])=some (P++[{ d with inn:=d.inn || inn,out:=d.out || !inn }]):=by
 refine markL_base ?_ hP
 unfold markL
 rw[if_pos rfl,if_neg (by rw[h];decide)]
theorem items_mark {inn b:Bool} {P:List De} {S:List Ru} {d:De} (hn:nameB d.rel.data.toList=true) (hP:d.rel.data.toList ∉ namesD P) (h:(if inn=true then d.inn else d.out)=false)
  {l:List TokI} (hl:l.map keyOf=keysM d.rel (if inn=true then [46,105,110,112,117,116] else [46,111,117,116,112,117,116]) b) (r:List TokI) :
  itemsP ⟨P++[d],S⟩ (l++r)=itemsP ⟨P++[if b=true then { d with inn:=d.inn || inn,out:=d.out || !inn } else d],S⟩ r:=by
 unfold keysM at hl
 cases b with
 | false=>
  have:l=[]:=by simpa using hl
  subst this
  rfl
 | true=>
  rw[if_pos rfl] at hl
  obtain⟨t,l,rfl,t1,t2,hl⟩:=key_cons hl
  obtain⟨v,rfl,v1,v2⟩:=key_one hl
  simp only at t1 t2 v1 v2
  have hm:markP inn (P++[d]) (v::r)=.ok (P++[{ d with inn:=d.inn || inn,out:=d.out || !inn }],r):=by
   unfold markP
   rw[name_cons v1 v2 hn]
   simp only
   rw[markL_last h hP]
  rw[show t::[v]++r=t::v::r from rfl,itemsP_eq _ (by simp)]
  have hi:itemP ⟨P++[d],S⟩ (t::v::r)=.ok (⟨P++[{ d with inn:=d.inn || inn,out:=d.out || !inn }],S⟩,r):=by
   unfold itemP
   cases inn with
   | true=>
    have t2:t.s.data.toList=[46,105,110,112,117,116]:=t2
    rw[if_neg (by rw[item_other t2 (by decide)];decide),if_pos (show nextB 5 [46,105,110,112,117,116] (t::v::r)=true from key_tok t1 t2)]
    show (match markP true (P++[d]) (v::r) with | Except.error e=>Except.error e | .ok (ds,q)=>Except.ok (Pg.mk ds S,q))=_
    rw[hm]
   | false=>
    have t2:t.s.data.toList=[46,111,117,116,112,117,116]:=t2
    rw[if_neg (by rw[item_other t2 (by decide)];decide),if_neg (by rw[item_other t2 (by decide)];decide),if_pos (show nextB 5 [46,111,117,116,112,117,116] (t::v::r)=true from key_tok t1 t2)]
    show (match markP false (P++[d]) (v::r) with | Except.error e=>Except.error e | .ok (ds,q)=>Except.ok (Pg.mk ds S,q))=_
    rw[hm]
  rw[hi]
  rfl
theorem items_decl {P:List De} {S:List Ru} {d:De} (hd:rightD d=true) (hP:d.rel.data.toList ∉ namesD P) (h60:P.length < 60) {l:List TokI} (hl:l.map keyOf=keysD d) (r:List TokI) :
  ∃ n,itemsP ⟨P,S⟩ (l++r)=itemsP ⟨P++[{ d with line:=n }],S⟩ r:=by
 unfold rightD at hd
 simp only[Bool.and_eq_true,decide_eq_true_eq] at hd
 obtain⟨⟨⟨⟨⟨hn,h1⟩,h8⟩,hlen⟩,hns⟩,hts⟩:=hd
 obtain⟨t,l,rfl,t1,t2,hl⟩:=key_cons hl
 obtain⟨v,l,rfl,v1,v2,hl⟩:=key_cons hl
 obtain⟨p,l,rfl,p1,p2,hl⟩:=key_cons hl
 obtain⟨lc,l,rfl,kc,hl⟩:=List.map_eq_append_iff.1 hl
 obtain⟨c,l,rfl,c1,c2,hl⟩:=key_cons hl
 obtain⟨li,lo,rfl,ki,ko⟩:=List.map_eq_append_iff.1 hl
 have hz:=zip_maps d.names d.types hlen
 have hzl:(d.names.zip d.types).length=d.names.length:=by rw[List.length_zip];omega
 have hg:(d.names.zip d.types).all goodC'=true:=by
  rw[List.all_eq_true] at hns hts ⊢
  rintro⟨s,n⟩ hx
  have hx:=List.of_mem_zip hx
  unfold goodC'
  rw[hns s hx.1,hts n hx.2]
  rfl
 have hc:=columns_keys (d.names.zip d.types) [] lc c ((li++lo)++r) (by intro e;rw[e] at hzl;simp at hzl;omega) hg (by simp only[List.length_nil];omega) kc c2
 have e:t::v::p::(lc++c::(li++lo))++r=t::v::p::(lc++c::((li++lo)++r)):=by simp
 have hi:itemP ⟨P,S⟩ (t::v::p::(lc++c::((li++lo)++r)))=.ok (⟨P++[⟨d.rel,d.names,d.types,false,false,t.line⟩],S⟩,(li++lo)++r):=by
  unfold itemP
  rw[if_pos (show nextB 5 [46,100,101,99,108] (t::v::p::(lc++c::((li++lo)++r)))=true from key_tok t1 t2),if_neg (by show ¬ P.length=60;omega)]
  have hdp:declP t.line (v::p::(lc++c::((li++lo)++r)))=.ok (⟨d.rel,d.names,d.types,false,false,t.line⟩,(li++lo)++r):=by
   unfold declP
   rw[name_cons v1 v2 hn]
   simp only
   rw[must_cons p1 p2]
   simp only
   rw[hc]
   simp only
   rw[must_cons c1 c2,List.nil_append,hz.1,hz.2]
  show (match declP t.line (v::p::(lc++c::((li++lo)++r))) with | Except.error e=>Except.error e | .ok (d,q)=>Except.ok (Pg.mk (P++[d]) S,q))=_
  rw[hdp]
 refine⟨t.line,?_⟩
 rw[e,itemsP_eq _ (by simp),hi]
 simp only
 rw[List.append_assoc,items_mark (inn:=true) (b:=d.inn) (d:=⟨d.rel,d.names,d.types,false,false,t.line⟩) hn hP rfl ki]
 have e2:(if d.inn=true then ({ (⟨d.rel,d.names,d.types,false,false,t.line⟩:De) with inn:=false || true,out:=false || !true }:De) else ⟨d.rel,d.names,d.types,false,false,t.line⟩)=⟨d.rel,d.names,d.types,d.inn,false,t.line⟩:=by
  cases d.inn <;> rfl
 simp only at e2 ⊢
 rw[e2,items_mark (inn:=false) (b:=d.out) (d:=⟨d.rel,d.names,d.types,d.inn,false,t.line⟩) hn hP rfl ko]
 have e3:(if d.out=true then ({ (⟨d.rel,d.names,d.types,d.inn,false,t.line⟩:De) with inn:=d.inn || false,out:=false || !false }:De) else ⟨d.rel,d.names,d.types,d.inn,false,t.line⟩)={ d with line:=t.line }:=by
  cases d.out <;> simp
 simp only at e3 ⊢
 rw[e3]
theorem items_rule {P:List De} {S:List Ru} {x:Ru} (hx:rightR x=true) (h200:S.length < 200) {l:List TokI} (hl:l.map keyOf=keysR x) (r:List TokI) :
  ∃ n,itemsP ⟨P,S⟩ (l++r)=itemsP ⟨P,S++[⟨x.head,x.body,n⟩]⟩ r:=by
 have hr:=rule_keys hx hl r
 refine⟨lineL l,?_⟩
 obtain⟨t,l,rfl,t1,t2,hl⟩:=key_cons hl
 have t1:t.kind=1:=t1
 have nt:∀ s,nextB 5 s (t::l++r)=false:=fun s=>tok_not (t:=t) (by omega)
 rw[itemsP_eq _ (by simp)]
 unfold itemP
 rw[if_neg (by rw[nt];decide),if_neg (by rw[nt];decide),if_neg (by rw[nt];decide),if_neg (by show ¬ S.length=200;omega),hr]
theorem items_decls:∀ (ds:List De) (P:List De) (S:List Ru) (l:List TokI),ds.all rightD=true→(namesD P++namesD ds).Nodup→P.length+ds.length≤60→l.map keyOf=ds.flatMap keysD→∀ r,∃ es,itemsP ⟨P,S⟩ (l++r)=itemsP ⟨P++es,S⟩ r∧allS sameD ds es=true
 | [],P,S,l,_,_,_,hl,r=>by
  have:l=[]:=by simpa using hl
  subst this
  exact⟨[],by rw[List.append_nil];rfl,rfl⟩
 | d::ds,P,S,l,hd,hn,hlen,hl,r=>by
  rw[List.all_cons,Bool.and_eq_true] at hd
  rw[List.flatMap_cons] at hl
  rw[List.length_cons] at hlen
  obtain⟨l1,l2,rfl,k1,k2⟩:=List.map_eq_append_iff.1 hl
  have hP:d.rel.data.toList ∉ namesD P:=by
   intro h
   have:=(List.nodup_append.1 hn).2.2 _ h _ (List.mem_cons_self ..)
   exact this rfl
  obtain⟨n,h1⟩:=items_decl (S:=S) hd.1 hP (by omega) k1 (l2++r)
  have hn2:(namesD (P++[{ d with line:=n }])++namesD ds).Nodup:=by
   have e:namesD (P++[{ d with line:=n }])++namesD ds=namesD P++namesD (d::ds):=by simp[namesD]
   rw[e];exact hn
  obtain⟨es,h2,h3⟩:=items_decls ds (P++[{ d with line:=n }]) S l2 hd.2 hn2 (by simp;omega) k2 r
  refine⟨{ d with line:=n }::es,?_,?_⟩
  ·rw[List.append_assoc,h1,h2,List.append_assoc]
   rfl
  ·show (sameD d { d with line:=n } && allS sameD ds es)=true
   rw[h3,show sameD d { d with line:=n }=true from sameD_refl d]
   rfl
theorem items_rules:∀ (rs:List Ru) (P:List De) (S:List Ru) (l:List TokI),rs.all rightR=true→S.length+rs.length≤200→l.map keyOf=rs.flatMap keysR→∃ es,itemsP ⟨P,S⟩ l=.ok ⟨P,S++es⟩∧allS sameR rs es=true
 | [],P,S,l,_,_,hl=>by
  have:l=[]:=by simpa using hl
  subst this
  exact⟨[],by rw[List.append_nil,itemsP_nil],rfl⟩
 | x::rs,P,S,l,hx,hlen,hl=>by
  rw[List.all_cons,Bool.and_eq_true] at hx
  rw[List.flatMap_cons] at hl
  rw[List.length_cons] at hlen
  obtain⟨l1,l2,rfl,k1,k2⟩:=List.map_eq_append_iff.1 hl
  obtain⟨n,h1⟩:=items_rule (P:=P) (S:=S) hx.1 (by omega) k1 l2
  obtain⟨es,h2,h3⟩:=items_rules rs P (S++[⟨x.head,x.body,n⟩]) l2 hx.2 (by simp;omega) k2
  refine⟨⟨x.head,x.body,n⟩::es,?_,?_⟩
  ·rw[h1,h2,List.append_assoc]
   rfl
  ·show (sameR x ⟨x.head,x.body,n⟩ && allS sameR rs es)=true
   rw[h3,show sameR x ⟨x.head,x.body,n⟩=true from sameR_refl x]
   rfl
theorem parse_keys {p:Pg} (hp:rightP p=true) (hn:(namesD p.decls).Nodup) {l:List TokI} (hlen:l.length≤20000) (hl:l.map keyOf=keysP p):∃ q,parseP l=(q,0,0)∧sameP p q=true:=by
 unfold rightP at hp
 simp only[Bool.and_eq_true,decide_eq_true_eq] at hp
 obtain⟨⟨⟨h60,h200⟩,hd⟩,hr⟩:=hp
 obtain⟨l1,l2,rfl,k1,k2⟩:=List.map_eq_append_iff.1 hl
 obtain⟨ds,h1,s1⟩:=items_decls p.decls [] [] l1 hd (by simpa[namesD] using hn) (by simpa using h60) k1 l2
 obtain⟨rs,h2,s2⟩:=items_rules p.rules ds [] l2 hr (by simpa using h200) k2
 rw[List.nil_append] at h1 h2
 refine⟨⟨ds,rs⟩,?_,?_⟩
 ·unfold parseP
  rw[if_neg (by omega),h1,h2]
 ·unfold sameP
  rw[s1,s2]
  rfl
theorem lexU_snd (l:List UInt8):(lexU l).2=(lexL l).2.isSome:=by rw[← pairs_lexL];rfl
end Go.Proofs.YtdgbajnhhhjbcaaGreatDoor

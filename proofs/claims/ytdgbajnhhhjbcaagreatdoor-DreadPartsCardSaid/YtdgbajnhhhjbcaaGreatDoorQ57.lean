/- Spr@2, Flow@2, Reg17@2, Reg17b@2, Reg17c@2, Flow17@2 -/
import Derived.Below
import Derived.Deep.AppendLies
import Derived.Laws.OwnMore
import Derived.OwnWalk
import Derived.RangeFuncNested
import Derived.RegionTactic
import Derived.Test.YtdgbajnhhhjbcaaGreatDoorChecked
import Derived.WalkKit
set_option linter.unusedSimpArgs false
set_option linter.unusedVariables false
namespace Go.Proofs.YtdgbajnhhhjbcaaGreatDoor
open Go.RowKit
def Spread (w:World) (z:Nat) (v:Value) (m:Nat) (news:List Value):Prop:=
 (v=.slice none 0 0∧m=0∧news=[])∨∃ (ad:Addr) (c:Nat),v=.slice (some ad) m c∧news.length=m * z∧(∀ j u,news[j]?=some u→w.cell? (ad.add j)=some u)∧∀ u ∈ news,u.oneCell'=true
theorem Spread.len {w:World} {z:Nat} {v:Value} {m:Nat} {news:List Value} (h:Spread w z v m news):news.length=m * z:=by
 rcases h with ⟨_,rfl,rfl⟩ | ⟨_,_,_,h,_⟩
 ·simp
 ·exact h
theorem Spread.cells {w w':World} {z:Nat} {v:Value} {m:Nat} {news:List Value} (h:Spread w z v m news) (hk:∀ p c,w.cell? p=some c→w'.cell? p=some c):Spread w' z v m news:=by
 rcases h with h | ⟨ad,c,h1,h2,h3,h4⟩
 ·exact .inl h
 ·exact .inr ⟨ad,c,h1,h2,fun j u hu=>hk _ _ (h3 j u hu),h4⟩
theorem Spread.own {w:World} {base:Nat} {e:TypeId} {z:Nat} {v:Value} {n:Nat} {xs:List Value} (h:w.ownsRow base e z v n xs) (h1:∀ u ∈ xs,u.oneCell'=true):Spread w z v n xs:=by
 rcases h.2 with ⟨rfl,rfl⟩ | ⟨g,cap,cur,hv,hb,hg,_⟩
 ·exact .inl ⟨rfl,rfl,List.eq_nil_of_length_eq_zero (by rw[h.1];simp)⟩
 ·refine .inr ⟨⟨g,0,none⟩,cap,hv,h.1,fun j u hu=>?_,h1⟩
  exact h.cells (g:=g) (by rw[hv];rfl) j u hu
theorem own_below {w w':World} {base:Nat} {e:TypeId} {z:Nat} {v:Value} {n:Nat} {xs:List Value} (h:w.ownsRow base e z v n xs) (hb:Below w.heap.size w w'):w'.ownsRow base e z v n xs:=
 h.kept (row:=none) ⟨hb.os,hb.tape,hb.output,hb.size,fun i hi _=>hb.block i hi⟩ (by cases hv:v.ownBlock with | none=>exact .inl rfl | some g=>exact .inr (by simp))
section
variable {P:Program} (w:World)
theorem run_append_any (base:Nat) (t ty e:TypeId) (i:TypeInfo) (z:Value) (size bytes:Nat) (ht:P.underlying t=some (.slice e)) (hi:P.info? e=some i) (hz:i.zero=some z)
  (hsize:i.size=size) (hby:i.bytes=bytes) (hzs:z.cells.size=size) (hsz:0 < size)
  (v:Value) (n:Nat) (xs:List Value) (hown:w.ownsRow base e size v n xs) (u:Value) (m:Nat) (news:List Value) (hu:Spread w size u m news)
  (h63:n+m≤maxLen) (hbytes:(n+m) * bytes≤140737488355328) (hbase:base≤w.heap.size) :
  ∃ v' w',(Builtin.append_ #[t,t] ty #[v,u]).run P w=.ok v' w'∧w'.ownsRow base e size v' (n+m) (xs++news)∧w.grownBy w' v.ownBlock∧(v'.ownBlock=v.ownBlock∨v'.ownBlock=some w.heap.size):=by
 rcases hu with ⟨rfl,rfl,rfl⟩ | ⟨ad,c,rfl,h2,h3,h4⟩
 ·refine⟨v,w,run_append_owned_none (P:=P) w base t ty e i size ht hi v n xs hown,by simpa using hown,⟨rfl,rfl,rfl,Nat.le_refl _,fun _ _ _=>rfl⟩,.inl rfl⟩
 ·obtain⟨v',w',hr,k1,k2,_,k3⟩:=run_append_own_at (P:=P) w base t ty e i z size bytes ht hi hz hsize hby hzs hsz v n xs hown ad m c news h2 h3 h4 h63 hbytes hbase
  exact⟨v',w',hr,k1,k2,k3⟩
theorem wp_append_any {o:Oper} {a:Act} {K:Act→World→Prop} {Q:Exit→Act→World→Prop} (s x:Operand) (t:TypeId)
  (ho:o.op=.call { callee:=.builtin .append,args:=#[s,x],argTypes:=#[t,t] })
  (base:Nat) (e:TypeId) (i:TypeInfo) (z:Value) (size bytes:Nat) (ht:P.underlying t=some (.slice e)) (hi:P.info? e=some i) (hz:i.zero=some z)
  (hsize:i.size=size) (hby:i.bytes=bytes) (hzs:z.cells.size=size) (hsz:0 < size)
  (v:Value) (n:Nat) (xs:List Value) (hs:a.eval s=v) (hown:w.ownsRow base e size v n xs) (u:Value) (m:Nat) (news:List Value) (hx:a.eval x=u) (hu:Spread w size u m news)
  (h63:n+m≤maxLen) (hbytes:(n+m) * bytes≤140737488355328) (hbase:base≤w.heap.size)
  (h:∀ v' w',w'.ownsRow base e size v' (n+m) (xs++news)→w.grownBy w' v.ownBlock→(v'.ownBlock=v.ownBlock∨v'.ownBlock=some w.heap.size)→K (a.put o.dst v') w'):o.wp P a w K Q:=by
 obtain⟨v',w',hr,h2,h3,h4⟩:=run_append_any (P:=P) w base t o.type e i z size bytes ht hi hz hsize hby hzs hsz v n xs hown u m news hu h63 hbytes hbase
 unfold Oper.wp execOp
 simp only[ho,resolve,invoke,builtin,Sem.run_bind,Sem.run_pure,Result.andThen_ok,List.map_toArray,List.map_cons,List.map_nil,hs,hx,hr]
 exact h v' w' h2 h3 h4
theorem wpList_append_any {ops:Array Oper} {rest:List Oper} {o:Oper} {a:Act} {Q:Exit→Act→World→Prop} (hgd:o.guard=none) (s x:Operand) (t:TypeId)
  (ho:o.op=.call { callee:=.builtin .append,args:=#[s,x],argTypes:=#[t,t] })
  (base:Nat) (e:TypeId) (i:TypeInfo) (z:Value) (size bytes:Nat) (ht:P.underlying t=some (.slice e)) (hi:P.info? e=some i) (hz:i.zero=some z)
  (hsize:i.size=size) (hby:i.bytes=bytes) (hzs:z.cells.size=size) (hsz:0 < size)
  (v:Value) (n:Nat) (xs:List Value) (hs:a.eval s=v) (hown:w.ownsRow base e size v n xs) (u:Value) (m:Nat) (news:List Value) (hx:a.eval x=u) (hu:Spread w size u m news)
  (h63:n+m≤maxLen) (hbytes:(n+m) * bytes≤140737488355328) (hbase:base≤w.heap.size)
  (h:∀ v' w',w'.ownsRow base e size v' (n+m) (xs++news)→w.grownBy w' v.ownBlock→(v'.ownBlock=v.ownBlock∨v'.ownBlock=some w.heap.size)→wpList P ops Q rest (a.put o.dst v') w'):wpList P ops Q (o::rest) a w:=
 wpList_plain hgd fun _ hK=>wp_append_any w s x t ho base e i z size bytes ht hi hz hsize hby hzs hsz v n xs hs hown u m news hx hu h63 hbytes hbase fun v' w' h2 h3 h4=>hK _ _ (h v' w' h2 h3 h4)
theorem step_append_any {ops:Array Oper} {o:Oper} {a:Act} {K:Act→World→Prop} {Q:Exit→Act→World→Prop} {E:Prop} (hgd:o.guard=none) (s x:Operand) (t:TypeId)
  (ho:o.op=.call { callee:=.builtin .append,args:=#[s,x],argTypes:=#[t,t] })
  (base:Nat) (e:TypeId) (i:TypeInfo) (z:Value) (size bytes:Nat) (ht:P.underlying t=some (.slice e)) (hi:P.info? e=some i) (hz:i.zero=some z)
  (hsize:i.size=size) (hby:i.bytes=bytes) (hzs:z.cells.size=size) (hsz:0 < size)
  (v:Value) (n:Nat) (xs:List Value) (hs:a.eval s=v) (hown:w.ownsRow base e size v n xs) (u:Value) (m:Nat) (news:List Value) (hx:a.eval x=u) (hu:Spread w size u m news)
  (h63:n+m≤maxLen) (hbytes:(n+m) * bytes≤140737488355328) (hbase:base≤w.heap.size)
  (h:∀ v' w',w'.ownsRow base e size v' (n+m) (xs++news)→w.grownBy w' v.ownBlock→(v'.ownBlock=v.ownBlock∨v'.ownBlock=some w.heap.size)→K (a.put o.dst v') w') :
  if Region.wanted o (yielded ops a.tmps)=true then Oper.wp P o a w K Q else E:=by
 have hw:Region.wanted o (yielded ops a.tmps)=true:=by simp[Region.wanted,hgd]
 rw[if_pos hw]
 exact wp_append_any w s x t ho base e i z size bytes ht hi hz hsize hby hzs hsz v n xs hs hown u m news hx hu h63 hbytes hbase h
end
theorem wp_make_any {P:Program} (w:World) {o:Oper} {a:Act} {K:Act→World→Prop} {Q:Exit→Act→World→Prop} (l c:Operand) (t:TypeId) (hop:o.op=Op.makeSlice t l c)
  (base:Nat) (e:TypeId) (i:TypeInfo) (z:Value) (size:Nat) (h1:P.underlying t=some (.slice e)) (h2:P.info? e=some i) (h3:i.zero=some z) (h4:i.size=size)
  (kl kc:IntKind) (n:Nat) (hl:a.eval l=.int kl 0) (hc:a.eval c=.int kc (n:Int)) (b2:i.bytes * n≤281474976710656) (b3:n≤maxLen) (b4:base≤w.heap.size)
  (hK:∀ w',w'.ownsRow base e size (.slice (some ⟨w.heap.size,0,none⟩) 0 n) 0 []→w.grownBy w' none→K (a.put o.dst (.slice (some ⟨w.heap.size,0,none⟩) 0 n)) w'):o.wp P a w K Q:=by
 obtain⟨w',hrun,r1,r2⟩:=run_make_own (P:=P) w base t e i z size h1 h2 h3 h4 kl kc n b2 b3 b4
 unfold Oper.wp
 simp[execOp,hop,hl,hc,hrun,Result.andThen]
 exact hK w' r1 r2
end Go.Proofs.YtdgbajnhhhjbcaaGreatDoor
namespace Go.Proofs.YtdgbajnhhhjbcaaGreatDoor
open Go.RowKit
theorem putA_comm (a:Act) {d d':Option Tmp} (v v':Value) (h:d≠d'∨d=none):(a.put d v).put d' v'=(a.put d' v').put d v:=by
 cases d with
 | none=>rfl
 | some s=>
  cases d' with
  | none=>rfl
  | some t=>
   have hne:s≠t:=by
    intro e
    rcases h with h | h
    ·exact h (by rw[e])
    ·cases h
   simp only[Act.put,Array.setIfInBounds_comm _ _ hne]
def actsL (D:Nat→Option Tmp) (l:Array Bool) (val:Nat→Value):List Nat→Act→Act
 | [],a=>a
 | i::is,a=>actsL D l val is (if l.getD i false=true then a.put (D i) (val i) else a)
def updV (val:Nat→Value) (i:Nat) (v:Value):Nat→Value:=fun j=>if j=i then v else val j
theorem updV_same (val:Nat→Value) (i:Nat) (v:Value):updV val i v i=v:=if_pos rfl
theorem updV_other (val:Nat→Value) {i j:Nat} (v:Value) (h:j≠i):updV val i v j=val j:=if_neg h
theorem actsL_put {D:Nat→Option Tmp} {l:Array Bool} {val:Nat→Value}:∀ (is:List Nat) (a:Act) (d:Option Tmp) (v:Value),(∀ i ∈ is,D i≠d∨d=none)→actsL D l val is (a.put d v)=(actsL D l val is a).put d v
 | [],_,_,_,_=>rfl
 | i::is,a,d,v,h=>by
  have ih:=fun b=>actsL_put (D:=D) (l:=l) (val:=val) is b d v (fun j hj=>h j (List.mem_cons_of_mem _ hj))
  unfold actsL
  by_cases hi:l.getD i false=true
  ·rw[if_pos hi,if_pos hi,← ih]
   have hc:(a.put d v).put (D i) (val i)=(a.put (D i) (val i)).put d v:=by
    rcases h i (List.mem_cons_self ..) with hh | rfl
    ·exact putA_comm a v (val i) (.inl (Ne.symm hh))
    ·rfl
   rw[hc]
  ·rw[if_neg hi,if_neg hi]
   exact ih a
theorem getD_set {l:Array Bool} {i j:Nat} (h:j≠i):(l.setIfInBounds i true).getD j false=l.getD j false:=by
 simp only[Array.getD_eq_getD_getElem?,Array.getElem?_setIfInBounds_ne (Ne.symm h)]
theorem getD_same {l:Array Bool} {i:Nat} (h:i < l.size):(l.setIfInBounds i true).getD i false=true:=by
 simp[Array.getD_eq_getD_getElem?,Array.getElem?_setIfInBounds_self_of_lt h]
theorem actsL_off {D:Nat→Option Tmp} {l:Array Bool} {val:Nat→Value} {i:Nat} {v:Value}:∀ (is:List Nat) (a:Act),i ∉ is→actsL D (l.setIfInBounds i true) (updV val i v) is a=actsL D l val is a
 | [],_,_=>rfl
 | j::is,a,h=>by
  have hj:j≠i:=fun e=>h (by rw[e];exact List.mem_cons_self ..)
  unfold actsL
  rw[getD_set hj,updV_other val v hj]
  exact actsL_off is _ (fun hh=>h (List.mem_cons_of_mem _ hh))
theorem actsL_set {D:Nat→Option Tmp} {l:Array Bool} {val:Nat→Value} {i:Nat} {v:Value} (hl:l.getD i false=false) (hs:i < l.size):∀ (is:List Nat) (a:Act),is.Nodup→i ∈ is→(∀ j ∈ is,j≠i→D j≠D i∨D i=none) →
  (actsL D l val is a).put (D i) v=actsL D (l.setIfInBounds i true) (updV val i v) is a
 | [],_,_,h,_=>by cases h
 | j::is,a,hn,h,hd=>by
  by_cases hj:j=i
  ·subst hj
   have hni:j ∉ is:=(List.nodup_cons.1 hn).1
   unfold actsL
   rw[if_neg (by rw[hl];simp),if_pos (getD_same hs),updV_same,actsL_off is _ hni]
   exact (actsL_put is a (D j) v fun k hk=>hd k (List.mem_cons_of_mem _ hk) (fun e=>hni (e ▸ hk))).symm
  ·have hi:i ∈ is:=(List.mem_cons.1 h).resolve_left fun e=>hj e.symm
   unfold actsL
   rw[getD_set hj,updV_other val v hj]
   exact actsL_set hl hs is _ (List.nodup_cons.1 hn).2 hi fun k hk=>hd k (List.mem_cons_of_mem _ hk)
theorem put_eval_same {a:Act} {s:Tmp} {v:Value} (h:s < a.tmps.size):(a.put (some s) v).eval (.tmp s)=v:=by
 simp[Act.put,Act.eval,Array.getD_eq_getD_getElem?,Array.getElem?_setIfInBounds_self_of_lt h]
theorem put_eval_other {a:Act} {d:Option Tmp} {s:Tmp} {v:Value} (h:d≠some s):(a.put d v).eval (.tmp s)=a.eval (.tmp s):=by
 cases d with
 | none=>rfl
 | some t=>
  have:t≠s:=fun e=>h (by rw[e])
  simp[Act.put,Act.eval,Array.getD_eq_getD_getElem?,Array.getElem?_setIfInBounds_ne this]
theorem putA_size (a:Act) (d:Option Tmp) (v:Value):(a.put d v).tmps.size=a.tmps.size:=by cases d <;> simp[Act.put]
theorem actsL_far {D:Nat→Option Tmp} {l:Array Bool} {val:Nat→Value} {s:Tmp}:∀ (is:List Nat) (a:Act),(∀ i ∈ is,D i≠some s)→(actsL D l val is a).eval (.tmp s)=a.eval (.tmp s)
 | [],_,_=>rfl
 | i::is,a,h=>by
  unfold actsL
  rw[actsL_far is _ fun j hj=>h j (List.mem_cons_of_mem _ hj)]
  split
  ·exact put_eval_other (h i (List.mem_cons_self ..))
  ·rfl
theorem actsL_eval {D:Nat→Option Tmp} {l:Array Bool} {val:Nat→Value} {i:Nat} {s:Tmp} (hl:l.getD i false=true) (hD:D i=some s):∀ (is:List Nat) (a:Act),i ∈ is→is.Nodup→(∀ j ∈ is,j≠i→D j≠some s)→s < a.tmps.size→(actsL D l val is a).eval (.tmp s)=val i
 | [],_,h,_,_,_=>by cases h
 | j::is,a,h,hn,hd,hs=>by
  by_cases hj:j=i
  ·subst hj
   have hni:j ∉ is:=(List.nodup_cons.1 hn).1
   unfold actsL
   rw[if_pos hl,hD,actsL_far is _ fun k hk=>hd k (List.mem_cons_of_mem _ hk) (fun e=>hni (e ▸ hk))]
   exact put_eval_same hs
  ·have hi:i ∈ is:=(List.mem_cons.1 h).resolve_left fun e=>hj e.symm
   unfold actsL
   refine actsL_eval hl hD is _ hi (List.nodup_cons.1 hn).2 (fun k hk=>hd k (List.mem_cons_of_mem _ hk)) ?_
   split
   ·rw[putA_size];exact hs
   ·exact hs
def cntF (l:Array Bool):Nat:=l.toList.count false
theorem cntF_set {l:Array Bool} {i:Nat} (hi:i < l.size) (hf:l.getD i true=false):cntF (l.setIfInBounds i true)+1=cntF l:=by
 unfold cntF
 have e:l.toList[i]?=some false:=by
  have h2:l[i]?=some l[i]:=Array.getElem?_eq_getElem hi
  have:l[i]=false:=by simpa[Array.getD_eq_getD_getElem?,h2] using hf
  rw[Array.getElem?_toList,h2,this]
 rw[Array.toList_setIfInBounds]
 have hi':i < l.toList.length:=by simpa using hi
 have e':l.toList[i]=false:=(List.getElem?_eq_some_iff.1 e).2
 have hpos:0 < l.toList.count false:=List.count_pos_iff.2 (e' ▸ List.getElem_mem hi')
 rw[List.count_set hi',e']
 have h1:(if (false == false)=true then 1 else 0:Nat)=1:=rfl
 have h2:(if (true == false)=true then 1 else 0:Nat)=0:=rfl
 rw[h1,h2]
 omega
theorem cntF_zero {l:Array Bool} (h:cntF l=0) (i:Nat):l.getD i true=true:=by
 unfold cntF at h
 rw[List.count_eq_zero] at h
 rw[Array.getD_eq_getD_getElem?]
 cases hi:l[i]? with
 | none=>rfl
 | some b=>
  cases b
  ·exact absurd (List.mem_of_getElem? ((Array.getElem?_toList ..).trans hi)) h
  ·rfl
section
variable {P:Program} {ops:Array Oper} {Q:Exit→Act→World→Prop} {md:Region.Mode}
theorem ready_mem {l:Array Bool} {i:Nat} (h:i ∈ Region.ready md ops l):∃ o,ops[i]?=some o∧l.getD i true=false∧∀ e ∈ o.after,Region.binds md e=true→l.getD e.on false=true:=by
 unfold Region.ready at h
 rw[List.mem_filter,List.mem_range,Bool.and_eq_true] at h
 obtain⟨h1,h2,h3⟩:=h
 have ho:ops[i]?=some ops[i]:=Array.getElem?_eq_getElem h1
 refine⟨ops[i],ho,by simpa using h2,fun e he hb=>?_⟩
 rw[ho] at h3
 simp only[Option.map_some,Option.getD_some] at h3
 rw[Array.all_eq_true_iff_forall_mem] at h3
 have:=h3 e he
 rw[hb] at this
 simpa using this
theorem ready_of {l:Array Bool} {i:Nat} {o:Oper} (ho:ops[i]?=some o) (hl:l.getD i true=false) (h:∀ e ∈ o.after,Region.binds md e=true→l.getD e.on false=true):i ∈ Region.ready md ops l:=by
 unfold Region.ready
 rw[List.mem_filter,List.mem_range,Bool.and_eq_true]
 refine⟨(Array.getElem?_eq_some_iff.1 ho).1,by rw[hl];rfl,?_⟩
 rw[ho]
 simp only[Option.map_some,Option.getD_some]
 rw[Array.all_eq_true_iff_forall_mem]
 intro e he
 cases hb:Region.binds md e
 ·rfl
 ·rw[h e he hb];rfl
theorem wpAny_inv (J:Array Bool→Act→World→Prop) (hac:∀ (i:Nat) (o:Oper),ops[i]?=some o→∀ e ∈ o.after,e.on < i)
  (h1:∀ l a w i o,J l a w→l.size=ops.size→ops[i]?=some o→l.getD i true=false→(∀ e ∈ o.after,Region.binds md e=true→l.getD e.on false=true)→wpOp P ops Q i (J (l.setIfInBounds i true)) a w)
  (h2:∀ l a w,J l a w→(∀ i,i < ops.size→l.getD i false=true)→Q .normal a w):∀ (fuel:Nat) (l:Array Bool) (a:Act) (w:World),J l a w→l.size=ops.size→cntF l≤fuel→wpAny P md ops Q fuel l a w:=by
 have key:∀ (l:Array Bool),l.size=ops.size→Region.ready md ops l=[]→∀ i,i < ops.size→l.getD i false=true:=by
  intro l hs hr i
  induction i using Nat.strongRecOn with
  | _ i ih=>
   intro hi
   have hi':i < l.size:=by omega
   have hx:l[i]?=some l[i]:=Array.getElem?_eq_getElem hi'
   cases hb:l[i] with
   | true=>simp[Array.getD_eq_getD_getElem?,hx,hb]
   | false=>
    have hm:=ready_of (md:=md) (l:=l) (ops:=ops) (Array.getElem?_eq_getElem hi) (by simp[Array.getD_eq_getD_getElem?,hx,hb]) (fun e he _=>ih e.on (hac i _ (Array.getElem?_eq_getElem hi) e he) (Nat.lt_trans (hac i _ (Array.getElem?_eq_getElem hi) e he) hi))
    rw[hr] at hm
    cases hm
 intro fuel
 induction fuel with
 | zero=>
  intro l a w hJ hs hc
  have hr:Region.ready md ops l=[]:=by
   cases hh:Region.ready md ops l with
   | nil=>rfl
   | cons x xs=>
    obtain⟨o,_,hf,_⟩:=ready_mem (md:=md) (ops:=ops) (l:=l) (i:=x) (by rw[hh];exact List.mem_cons_self ..)
    rw[cntF_zero (by omega) x] at hf
    cases hf
  exact⟨hr,h2 l a w hJ (key l hs hr)⟩
 | succ fuel ih=>
  intro l a w hJ hs hc
  refine⟨fun hr=>h2 l a w hJ (key l hs hr),fun i hi=>?_⟩
  obtain⟨o,ho,hf,hd⟩:=ready_mem hi
  have hlt:i < l.size:=by rw[hs];exact (Array.getElem?_eq_some_iff.1 ho).1
  refine wpOp_mono (fun a' w' hJ'=>ih _ a' w' hJ' (by simp[hs]) ?_) (h1 l a w i o hJ hs ho hf hd)
  have:=cntF_set hlt hf
  omega
theorem wpAny_flow (D:Nat→Option Tmp) (hD:∀ (i:Nat) (o:Oper),ops[i]?=some o→o.dst=D i) (hne:∀ i j,i < ops.size→j < ops.size→j≠i→D j≠D i∨D i=none)
  (hac:∀ (i:Nat) (o:Oper),ops[i]?=some o→∀ e ∈ o.after,e.on < i) (hg:∀ (i:Nat) (o:Oper),ops[i]?=some o→o.guard=none) (a0:Act) (F:Array Bool→(Nat→Value)→World→Prop)
  (step:∀ l val w i o,F l val w→l.size=ops.size→ops[i]?=some o→l.getD i false=false→(∀ e ∈ o.after,Region.binds md e=true→l.getD e.on false=true) →
   ∀ (A:Act) (K:Act→World→Prop),A=actsL D l val (List.range ops.size) a0→(∀ v w',F (l.setIfInBounds i true) (updV val i v) w'→K (A.put o.dst v) w')→o.wp P A w K Q)
  (fin:∀ l val w,F l val w→(∀ i,i < ops.size→l.getD i false=true)→Q .normal (actsL D l val (List.range ops.size) a0) w)
  (w:World) (val:Nat→Value) (start:F (Array.replicate ops.size false) val w):wpAny P md ops Q ops.size (Array.replicate ops.size false) a0 w:=by
 refine wpAny_inv (fun l a w=>∃ val,a=actsL D l val (List.range ops.size) a0∧F l val w) hac ?_ ?_ _ _ _ _ ⟨val,?_,start⟩ (by simp) ?_
 ·rintro l a w i o ⟨val,rfl,hF⟩ hs ho hf hd
  have hi:i < ops.size:=(Array.getElem?_eq_some_iff.1 ho).1
  have hf':l.getD i false=false:=by
   have hx:l[i]?=some l[i]:=Array.getElem?_eq_getElem (by omega)
   simp only[Array.getD_eq_getD_getElem?,hx,Option.getD_some] at hf ⊢
   exact hf
  refine wpOp_step ho fun K' hK'=>?_
  rw[if_pos (by simp[Region.wanted,hg i o ho])]
  refine step l val w i o hF hs ho hf' hd _ K' rfl fun v w' hF'=>hK' _ _ ⟨updV val i v,?_,hF'⟩
  rw[hD i o ho]
  exact actsL_set hf' (by omega) _ _ List.nodup_range (List.mem_range.2 hi) fun j hj hji=>hne i j hi (List.mem_range.1 hj) hji
 ·rintro l a w ⟨val,rfl,hF⟩ hall
  exact fin l val w hF hall
 ·have:∀ is:List Nat,∀ a,actsL D (Array.replicate ops.size false) val is a=a:=by
   intro is
   induction is with
   | nil=>intro a;rfl
   | cons i is ih=>
    intro a
    unfold actsL
    rw[if_neg (by simp[Array.getD_eq_getD_getElem?,Array.getElem?_replicate];split <;> simp),ih]
  rw[this]
 ·unfold cntF
  exact Nat.le_trans List.count_le_length (by simp)
end
end Go.Proofs.YtdgbajnhhhjbcaaGreatDoor
namespace Go.Proofs.YtdgbajnhhhjbcaaGreatDoor
open Go.RowKit
def slots17:List (Option Tmp):=[some 115,some 116,some 117,some 118,some 119,some 120,some 121,some 122,some 123,some 124,some 125,some 126,some 127,some 128,some 129,some 19,none]
def D17 (i:Nat):Option Tmp:=(slots17[i]?).join
structure Cx where
 N:Nat
 W0:World
 a0:Act
 n3:Nat
 n4:Nat
 pd:Value
 qd:Value
 pr:Value
 qr:Value
 n1:Nat
 n2:Nat
 m1:Nat
 m2:Nat
 xs1:List Value
 xs2:List Value
 ys1:List Value
 ys2:List Value
structure CxOk (C:Cx):Prop where
 size:130≤C.a0.tmps.size
 e8:C.a0.eval (.tmp 8)=.pointer (some ⟨C.n3,0,none⟩)
 e11:C.a0.eval (.tmp 11)=.pointer (some ⟨C.n4,0,none⟩)
 c0:C.W0.cell? ⟨C.n3,0,none⟩=some C.pd
 c1:C.W0.cell? ⟨C.n3,1,none⟩=some C.pr
 c2:C.W0.cell? ⟨C.n4,0,none⟩=some C.qd
 c3:C.W0.cell? ⟨C.n4,1,none⟩=some C.qr
 h0:C.W0.heap.size=C.N
 s1:Spread C.W0 6 C.pd C.n1 C.xs1
 s2:Spread C.W0 6 C.qd C.n2 C.xs2
 s3:Spread C.W0 4 C.pr C.m1 C.ys1
 s4:Spread C.W0 4 C.qr C.m2 C.ys2
 b1:C.n1+C.n2≤1000
 b2:C.m1+C.m2≤1000
def cur (l:Array Bool) (val:Nat→Value) (i0 i3 i6 n1 n2:Nat) (xs1 xs2:List Value):Option (Nat × List Value × Value):=
 if l.getD i6 false=true then some (n1+n2,xs1++xs2,val i6) else if l.getD i3 false=true then some (n1,xs1,val i3) else if l.getD i0 false=true then some (0,[],val i0) else none
def blkO (c:Option (Nat × List Value × Value)):Option Nat:=c.bind fun x=>x.2.2.ownBlock
def OwnO (w:World) (N:Nat) (e:TypeId) (z:Nat) (c:Option (Nat × List Value × Value)):Prop:=∀ n xs v,c=some (n,xs,v)→w.ownsRow N e z v n xs∧∃ g,v.ownBlock=some g∧g < w.heap.size
structure Fl (C:Cx) (l:Array Bool) (val:Nat→Value) (w:World):Prop where
 below:Below C.N C.W0 w
 v1:l.getD 1 false=true→val 1=.pointer (some ⟨C.n3,0,none⟩)
 v2:l.getD 2 false=true→val 2=C.pd
 v4:l.getD 4 false=true→val 4=.pointer (some ⟨C.n4,0,none⟩)
 v5:l.getD 5 false=true→val 5=C.qd
 v8:l.getD 8 false=true→val 8=.pointer (some ⟨C.n3,1,none⟩)
 v9:l.getD 9 false=true→val 9=C.pr
 v11:l.getD 11 false=true→val 11=.pointer (some ⟨C.n4,1,none⟩)
 v12:l.getD 12 false=true→val 12=C.qr
 v14:l.getD 14 false=true→val 14=.agg #[val 6,val 13]
 k3:l.getD 3 false=true→l.getD 0 false=true
 k6:l.getD 6 false=true→l.getD 3 false=true
 k10:l.getD 10 false=true→l.getD 7 false=true
 k13:l.getD 13 false=true→l.getD 10 false=true
 k14:l.getD 14 false=true→l.getD 6 false=true∧l.getD 13 false=true
 k16:l.getD 16 false=true→l.getD 14 false=true∧l.getD 15 false=true
 ownA:OwnO w C.N 34 6 (cur l val 0 3 6 C.n1 C.n2 C.xs1 C.xs2)
 ownB:OwnO w C.N 41 4 (cur l val 7 10 13 C.m1 C.m2 C.ys1 C.ys2)
 ab:blkO (cur l val 0 3 6 C.n1 C.n2 C.xs1 C.xs2)=none∨blkO (cur l val 0 3 6 C.n1 C.n2 C.xs1 C.xs2)≠blkO (cur l val 7 10 13 C.m1 C.m2 C.ys1 C.ys2)
 box:l.getD 15 false=true→∃ k,val 15=.pointer (some ⟨k,0,none⟩)∧C.N≤k∧k < w.heap.size∧blkO (cur l val 0 3 6 C.n1 C.n2 C.xs1 C.xs2)≠some k∧blkO (cur l val 7 10 13 C.m1 C.m2 C.ys1 C.ys2)≠some k ∧
  (l.getD 16 false=false→w.heap[k]?=some (.cells #[.slice none 0 0,.slice none 0 0] 25 (0,0)))∧(l.getD 16 false=true→w.heap[k]?=some (.cells #[val 6,val 13] 25 (0,0)))
def St17 (P:Program) (Q:Exit→Act→World→Prop) (C:Cx) (i:Nat) (o:Oper):Prop:=
 ∀ l val w,CxOk C→Fl C l val w→l.size=17→l.getD i false=false→(∀ e ∈ o.after,Region.binds .any e=true→l.getD e.on false=true) →
  ∀ (A:Act) (K:Act→World→Prop),A=actsL D17 l val (List.range 17) C.a0→(∀ v w',Fl C (l.setIfInBounds i true) (updV val i v) w'→K (A.put o.dst v) w')→o.wp P A w K Q
def depB (o:Oper) (js:List Nat):Bool:=js.all fun j=>o.after.any fun e=>e.on == j && Region.binds .any e
theorem dep_of {o:Oper} {js:List Nat} (h:depB o js=true) {l:Array Bool} (hd:∀ e ∈ o.after,Region.binds .any e=true→l.getD e.on false=true):∀ j ∈ js,l.getD j false=true:=by
 intro j hj
 unfold depB at h
 rw[List.all_eq_true] at h
 have:=h j hj
 rw[← Array.any_toList,List.any_eq_true] at this
 obtain⟨e,he,h2⟩:=this
 have he:=Array.mem_toList_iff.1 he
 rw[Bool.and_eq_true] at h2
 have e1:e.on=j:=by simpa using h2.1
 rw[← e1]
 exact hd e he h2.2
theorem ev17 {C:Cx} {l:Array Bool} {val:Nat→Value} {A:Act} (hA:A=actsL D17 l val (List.range 17) C.a0) (hs:130≤C.a0.tmps.size) {i s:Nat} (hl:l.getD i false=true) (hD:D17 i=some s) (hi:i < 17) (hs2:s < 130) (hu:∀ j ∈ List.range 17,j≠i→D17 j≠some s):A.eval (.tmp s)=val i:=by
 rw[hA]
 exact actsL_eval hl hD _ _ (List.mem_range.2 hi) List.nodup_range hu (Nat.lt_of_lt_of_le hs2 hs)
theorem far17 {C:Cx} {l:Array Bool} {val:Nat→Value} {A:Act} (hA:A=actsL D17 l val (List.range 17) C.a0) {s:Nat} (hu:∀ j ∈ List.range 17,D17 j≠some s):A.eval (.tmp s)=C.a0.eval (.tmp s):=by
 rw[hA]
 exact actsL_far _ _ hu
theorem cur_other {l:Array Bool} {val:Nat→Value} {i:Nat} {v:Value} {i0 i3 i6 n1 n2:Nat} {xs1 xs2:List Value} (h0:i0≠i) (h3:i3≠i) (h6:i6≠i):cur (l.setIfInBounds i true) (updV val i v) i0 i3 i6 n1 n2 xs1 xs2=cur l val i0 i3 i6 n1 n2 xs1 xs2:=by
 unfold cur
 rw[getD_set h0,getD_set h3,getD_set h6,updV_other val v h0,updV_other val v h3,updV_other val v h6]
theorem OwnO.kept {w w':World} {N:Nat} {e:TypeId} {z:Nat} {c:Option (Nat × List Value × Value)} {row:Option Nat} (h:OwnO w N e z c) (hg:w.grownBy w' row) (hne:blkO c=none∨blkO c≠row):OwnO w' N e z c:=by
 intro n xs v hc
 obtain⟨h1,g,h2,h3⟩:=h n xs v hc
 refine⟨h1.kept hg ?_,g,h2,Nat.lt_of_lt_of_le h3 hg.size⟩
 rw[hc] at hne
 rcases hne with h | h
 ·exact .inl h
 ·exact .inr h
theorem OwnO.lt {w:World} {N:Nat} {e:TypeId} {z:Nat} {c:Option (Nat × List Value × Value)} (h:OwnO w N e z c) {g:Nat} (hb:blkO c=some g):g < w.heap.size∧N≤g:=by
 cases hc:c with
 | none=>rw[hc] at hb;cases hb
 | some x=>
  obtain⟨n,xs,v⟩:=x
  obtain⟨h1,g',h2,h3⟩:=h n xs v hc
  rw[hc] at hb
  have hb':v.ownBlock=some g:=hb
  rw[h2] at hb'
  cases hb'
  refine⟨h3,?_⟩
  rcases h1.2 with ⟨rfl,_⟩ | ⟨g',cap,cur,rfl,hb3,_⟩
  ·cases h2
  ·obtain rfl:g'=g:=by simpa[Value.ownBlock] using h2
   assumption
end Go.Proofs.YtdgbajnhhhjbcaaGreatDoor
namespace Go.Proofs.YtdgbajnhhhjbcaaGreatDoor
open Go.RowKit
theorem getD_mono {l:Array Bool} {i j:Nat} (hi:i < l.size) (h:l.getD j false=true):(l.setIfInBounds i true).getD j false=true:=by
 by_cases e:j=i
 ·subst e;exact getD_same hi
 ·rw[getD_set e];exact h
theorem below_grown {N:Nat} {W0 w w':World} {row:Option Nat} (h:Below N W0 w) (hN:N≤W0.heap.size) (hg:w.grownBy w' row) (hr:∀ g,row=some g→N≤g):Below N W0 w':=
 ⟨hg.os.trans h.os,hg.tape.trans h.tape,hg.output.trans h.output,Nat.le_trans h.size hg.size,fun i hi=>(hg.block i (Nat.lt_of_lt_of_le hi (Nat.le_trans hN h.size)) (fun e=>by have:=hr i e.symm;omega)).trans (h.block i hi)⟩
structure PureV (C:Cx) (l:Array Bool) (val:Nat→Value) (i:Nat) (v:Value):Prop where
 out:i≠0∧i≠3∧i≠6∧i≠7∧i≠10∧i≠13∧i≠15∧i≠16∧i < 17
 p1:1=i→v=.pointer (some ⟨C.n3,0,none⟩)
 p2:2=i→v=C.pd
 p4:4=i→v=.pointer (some ⟨C.n4,0,none⟩)
 p5:5=i→v=C.qd
 p8:8=i→v=.pointer (some ⟨C.n3,1,none⟩)
 p9:9=i→v=C.pr
 p11:11=i→v=.pointer (some ⟨C.n4,1,none⟩)
 p12:12=i→v=C.qr
 p14:14=i→v=.agg #[val 6,val 13]∧l.getD 6 false=true∧l.getD 13 false=true
theorem Fl.quiet {C:Cx} {l:Array Bool} {val:Nat→Value} {w:World} {i:Nat} {v:Value} (hF:Fl C l val w) (hl:l.size=17) (hv:PureV C l val i v):Fl C (l.setIfInBounds i true) (updV val i v) w:=by
 obtain⟨o0,o3,o6,o7,o10,o13,o15,o16,oi⟩:=hv.out
 have hi:i < l.size:=by omega
 constructor
 ·exact hF.below
 ·intro h
  by_cases e:1=i
  ·rw[← e,updV_same];exact hv.p1 e
  ·rw[getD_set e] at h;rw[updV_other _ _ e];exact hF.v1 h
 ·intro h
  by_cases e:2=i
  ·rw[← e,updV_same];exact hv.p2 e
  ·rw[getD_set e] at h;rw[updV_other _ _ e];exact hF.v2 h
 ·intro h
  by_cases e:4=i
  ·rw[← e,updV_same];exact hv.p4 e
  ·rw[getD_set e] at h;rw[updV_other _ _ e];exact hF.v4 h
 ·intro h
  by_cases e:5=i
  ·rw[← e,updV_same];exact hv.p5 e
  ·rw[getD_set e] at h;rw[updV_other _ _ e];exact hF.v5 h
 ·intro h
  by_cases e:8=i
  ·rw[← e,updV_same];exact hv.p8 e
  ·rw[getD_set e] at h;rw[updV_other _ _ e];exact hF.v8 h
 ·intro h
  by_cases e:9=i
  ·rw[← e,updV_same];exact hv.p9 e
  ·rw[getD_set e] at h;rw[updV_other _ _ e];exact hF.v9 h
 ·intro h
  by_cases e:11=i
  ·rw[← e,updV_same];exact hv.p11 e
  ·rw[getD_set e] at h;rw[updV_other _ _ e];exact hF.v11 h
 ·intro h
  by_cases e:12=i
  ·rw[← e,updV_same];exact hv.p12 e
  ·rw[getD_set e] at h;rw[updV_other _ _ e];exact hF.v12 h
 ·intro h
  rw[updV_other _ _ (Ne.symm o6),updV_other _ _ (Ne.symm o13)]
  by_cases e:14=i
  ·rw[← e,updV_same];exact (hv.p14 e).1
  ·rw[getD_set e] at h;rw[updV_other _ _ e];exact hF.v14 h
 ·intro h;rw[getD_set (Ne.symm o3)] at h;exact getD_mono hi (hF.k3 h)
 ·intro h;rw[getD_set (Ne.symm o6)] at h;exact getD_mono hi (hF.k6 h)
 ·intro h;rw[getD_set (Ne.symm o10)] at h;exact getD_mono hi (hF.k10 h)
 ·intro h;rw[getD_set (Ne.symm o13)] at h;exact getD_mono hi (hF.k13 h)
 ·intro h
  by_cases e:14=i
  ·exact⟨getD_mono hi (hv.p14 e).2.1,getD_mono hi (hv.p14 e).2.2⟩
  ·rw[getD_set e] at h;exact⟨getD_mono hi (hF.k14 h).1,getD_mono hi (hF.k14 h).2⟩
 ·intro h;rw[getD_set (Ne.symm o16)] at h;exact⟨getD_mono hi (hF.k16 h).1,getD_mono hi (hF.k16 h).2⟩
 ·rw[cur_other (Ne.symm o0) (Ne.symm o3) (Ne.symm o6)];exact hF.ownA
 ·rw[cur_other (Ne.symm o7) (Ne.symm o10) (Ne.symm o13)];exact hF.ownB
 ·rw[cur_other (Ne.symm o0) (Ne.symm o3) (Ne.symm o6),cur_other (Ne.symm o7) (Ne.symm o10) (Ne.symm o13)];exact hF.ab
 ·intro h
  rw[getD_set (Ne.symm o15)] at h
  rw[cur_other (Ne.symm o0) (Ne.symm o3) (Ne.symm o6),cur_other (Ne.symm o7) (Ne.symm o10) (Ne.symm o13),updV_other _ _ (Ne.symm o15),updV_other _ _ (Ne.symm o6),updV_other _ _ (Ne.symm o13),getD_set (Ne.symm o16)]
  exact hF.box h
theorem Fl.stepA {C:Cx} {l:Array Bool} {val:Nat→Value} {w w':World} {i:Nat} {v:Value} {n:Nat} {xs:List Value} (ok:CxOk C) (hF:Fl C l val w) (hl:l.size=17) (hi:i=0∨i=3∨i=6) (h14:l.getD 14 false=false) (h16:l.getD 16 false=false)
  (hk:(i=3→l.getD 0 false=true)∧(i=6→l.getD 3 false=true)) (hcur:cur (l.setIfInBounds i true) (updV val i v) 0 3 6 C.n1 C.n2 C.xs1 C.xs2=some (n,xs,v))
  (hown:w'.ownsRow C.N 34 6 v n xs) (hg:w.grownBy w' (blkO (cur l val 0 3 6 C.n1 C.n2 C.xs1 C.xs2))) (g:Nat) (hvg:v.ownBlock=some g) (hgl:g < w'.heap.size) (hloc:some g=blkO (cur l val 0 3 6 C.n1 C.n2 C.xs1 C.xs2)∨g=w.heap.size):Fl C (l.setIfInBounds i true) (updV val i v) w':=by
 have hi':i < l.size:=by omega
 have hother:cur (l.setIfInBounds i true) (updV val i v) 7 10 13 C.m1 C.m2 C.ys1 C.ys2=cur l val 7 10 13 C.m1 C.m2 C.ys1 C.ys2:=cur_other (by omega) (by omega) (by omega)
 have hne:∀ j,(j=1∨j=2∨j=4∨j=5∨j=8∨j=9∨j=11∨j=12∨j=14∨j=15∨j=16∨j=7∨j=10∨j=13)→j≠i:=fun j h=>by omega
 have hN:C.N≤C.W0.heap.size:=Nat.le_of_eq ok.h0.symm
 have hblk:blkO (cur (l.setIfInBounds i true) (updV val i v) 0 3 6 C.n1 C.n2 C.xs1 C.xs2)=some g:=by rw[hcur];exact hvg
 have hotherne:blkO (cur l val 7 10 13 C.m1 C.m2 C.ys1 C.ys2)=none∨blkO (cur l val 7 10 13 C.m1 C.m2 C.ys1 C.ys2)≠blkO (cur l val 0 3 6 C.n1 C.n2 C.xs1 C.xs2):=by
  rcases hF.ab with h | h
  ·rw[h]
   cases blkO (cur l val 7 10 13 C.m1 C.m2 C.ys1 C.ys2) with
   | none=>exact .inl rfl
   | some x=>exact .inr (by simp)
  ·exact .inr (Ne.symm h)
 have hnew:∀ x,blkO (cur l val 7 10 13 C.m1 C.m2 C.ys1 C.ys2)=some x→x≠g:=by
  intro x hx e
  subst e
  rcases hloc with h | h
  ·rcases hotherne with h2 | h2
   ·rw[h2] at hx;cases hx
   ·exact h2 (hx.trans h)
  ·have:=(hF.ownB.lt hx).1;omega
 constructor
 ·exact below_grown hF.below hN hg fun x hx=>(hF.ownA.lt hx).2
 ·intro h;rw[getD_set (hne 1 (by omega))] at h;rw[updV_other _ _ (hne 1 (by omega))];exact hF.v1 h
 ·intro h;rw[getD_set (hne 2 (by omega))] at h;rw[updV_other _ _ (hne 2 (by omega))];exact hF.v2 h
 ·intro h;rw[getD_set (hne 4 (by omega))] at h;rw[updV_other _ _ (hne 4 (by omega))];exact hF.v4 h
 ·intro h;rw[getD_set (hne 5 (by omega))] at h;rw[updV_other _ _ (hne 5 (by omega))];exact hF.v5 h
 ·intro h;rw[getD_set (hne 8 (by omega))] at h;rw[updV_other _ _ (hne 8 (by omega))];exact hF.v8 h
 ·intro h;rw[getD_set (hne 9 (by omega))] at h;rw[updV_other _ _ (hne 9 (by omega))];exact hF.v9 h
 ·intro h;rw[getD_set (hne 11 (by omega))] at h;rw[updV_other _ _ (hne 11 (by omega))];exact hF.v11 h
 ·intro h;rw[getD_set (hne 12 (by omega))] at h;rw[updV_other _ _ (hne 12 (by omega))];exact hF.v12 h
 ·intro h;rw[getD_set (hne 14 (by omega)),h14] at h;cases h
 ·intro h
  by_cases e:i=3
  ·exact getD_mono hi' (hk.1 e)
  ·rw[getD_set (Ne.symm e)] at h;exact getD_mono hi' (hF.k3 h)
 ·intro h
  by_cases e:i=6
  ·exact getD_mono hi' (hk.2 e)
  ·rw[getD_set (Ne.symm e)] at h;exact getD_mono hi' (hF.k6 h)
 ·intro h;rw[getD_set (hne 10 (by omega))] at h;exact getD_mono hi' (hF.k10 h)
 ·intro h;rw[getD_set (hne 13 (by omega))] at h;exact getD_mono hi' (hF.k13 h)
 ·intro h;rw[getD_set (hne 14 (by omega)),h14] at h;cases h
 ·intro h;rw[getD_set (hne 16 (by omega)),h16] at h;cases h
 ·intro n' xs' v' hc
  rw[hcur] at hc
  cases hc
  exact⟨hown,g,hvg,hgl⟩
 ·rw[hother];exact hF.ownB.kept hg hotherne
 ·rw[hother,hblk]
  exact .inr fun e=>hnew g e.symm rfl
 ·intro h
  rw[getD_set (hne 15 (by omega))] at h
  obtain⟨k,b1,b2,b3,b4,b5,b6,_⟩:=hF.box h
  have hkr:some k≠blkO (cur l val 0 3 6 C.n1 C.n2 C.xs1 C.xs2):=fun e=>b4 e.symm
  have hgk:g≠k:=by
   rintro rfl
   rcases hloc with h | h
   ·exact hkr h
   ·omega
  refine⟨k,by rw[updV_other _ _ (hne 15 (by omega))];exact b1,b2,Nat.lt_of_lt_of_le b3 hg.size,?_,?_,fun _=>(hg.block k b3 hkr).trans (b6 h16),fun h=>?_⟩
  ·rw[hblk];exact fun e=>hgk (Option.some.inj e)
  ·rw[hother];exact b5
  ·rw[getD_set (hne 16 (by omega)),h16] at h;cases h
theorem Fl.stepB {C:Cx} {l:Array Bool} {val:Nat→Value} {w w':World} {i:Nat} {v:Value} {n:Nat} {xs:List Value} (ok:CxOk C) (hF:Fl C l val w) (hl:l.size=17) (hi:i=7∨i=10∨i=13) (h14:l.getD 14 false=false) (h16:l.getD 16 false=false)
  (hk:(i=10→l.getD 7 false=true)∧(i=13→l.getD 10 false=true)) (hcur:cur (l.setIfInBounds i true) (updV val i v) 7 10 13 C.m1 C.m2 C.ys1 C.ys2=some (n,xs,v))
  (hown:w'.ownsRow C.N 41 4 v n xs) (hg:w.grownBy w' (blkO (cur l val 7 10 13 C.m1 C.m2 C.ys1 C.ys2))) (g:Nat) (hvg:v.ownBlock=some g) (hgl:g < w'.heap.size) (hloc:some g=blkO (cur l val 7 10 13 C.m1 C.m2 C.ys1 C.ys2)∨g=w.heap.size):Fl C (l.setIfInBounds i true) (updV val i v) w':=by
 have hi':i < l.size:=by omega
 have hother:cur (l.setIfInBounds i true) (updV val i v) 0 3 6 C.n1 C.n2 C.xs1 C.xs2=cur l val 0 3 6 C.n1 C.n2 C.xs1 C.xs2:=cur_other (by omega) (by omega) (by omega)
 have hne:∀ j,(j=1∨j=2∨j=4∨j=5∨j=8∨j=9∨j=11∨j=12∨j=14∨j=15∨j=16∨j=0∨j=3∨j=6)→j≠i:=fun j h=>by omega
 have hN:C.N≤C.W0.heap.size:=Nat.le_of_eq ok.h0.symm
 have hblk:blkO (cur (l.setIfInBounds i true) (updV val i v) 7 10 13 C.m1 C.m2 C.ys1 C.ys2)=some g:=by rw[hcur];exact hvg
 have hotherne:blkO (cur l val 0 3 6 C.n1 C.n2 C.xs1 C.xs2)=none∨blkO (cur l val 0 3 6 C.n1 C.n2 C.xs1 C.xs2)≠blkO (cur l val 7 10 13 C.m1 C.m2 C.ys1 C.ys2):=by
  exact hF.ab
 have hnew:∀ x,blkO (cur l val 0 3 6 C.n1 C.n2 C.xs1 C.xs2)=some x→x≠g:=by
  intro x hx e
  subst e
  rcases hloc with h | h
  ·rcases hotherne with h2 | h2
   ·rw[h2] at hx;cases hx
   ·exact h2 (hx.trans h)
  ·have:=(hF.ownA.lt hx).1;omega
 constructor
 ·exact below_grown hF.below hN hg fun x hx=>(hF.ownB.lt hx).2
 ·intro h;rw[getD_set (hne 1 (by omega))] at h;rw[updV_other _ _ (hne 1 (by omega))];exact hF.v1 h
 ·intro h;rw[getD_set (hne 2 (by omega))] at h;rw[updV_other _ _ (hne 2 (by omega))];exact hF.v2 h
 ·intro h;rw[getD_set (hne 4 (by omega))] at h;rw[updV_other _ _ (hne 4 (by omega))];exact hF.v4 h
 ·intro h;rw[getD_set (hne 5 (by omega))] at h;rw[updV_other _ _ (hne 5 (by omega))];exact hF.v5 h
 ·intro h;rw[getD_set (hne 8 (by omega))] at h;rw[updV_other _ _ (hne 8 (by omega))];exact hF.v8 h
 ·intro h;rw[getD_set (hne 9 (by omega))] at h;rw[updV_other _ _ (hne 9 (by omega))];exact hF.v9 h
 ·intro h;rw[getD_set (hne 11 (by omega))] at h;rw[updV_other _ _ (hne 11 (by omega))];exact hF.v11 h
 ·intro h;rw[getD_set (hne 12 (by omega))] at h;rw[updV_other _ _ (hne 12 (by omega))];exact hF.v12 h
 ·intro h;rw[getD_set (hne 14 (by omega)),h14] at h;cases h
 ·intro h;rw[getD_set (hne 3 (by omega))] at h;exact getD_mono hi' (hF.k3 h)
 ·intro h;rw[getD_set (hne 6 (by omega))] at h;exact getD_mono hi' (hF.k6 h)
 ·intro h
  by_cases e:i=10
  ·exact getD_mono hi' (hk.1 e)
  ·rw[getD_set (Ne.symm e)] at h;exact getD_mono hi' (hF.k10 h)
 ·intro h
  by_cases e:i=13
  ·exact getD_mono hi' (hk.2 e)
  ·rw[getD_set (Ne.symm e)] at h;exact getD_mono hi' (hF.k13 h)
 ·intro h;rw[getD_set (hne 14 (by omega)),h14] at h;cases h
 ·intro h;rw[getD_set (hne 16 (by omega)),h16] at h;cases h
 ·rw[hother];exact hF.ownA.kept hg hotherne
 ·intro n' xs' v' hc
  rw[hcur] at hc
  cases hc
  exact⟨hown,g,hvg,hgl⟩
 ·rw[hother,hblk]
  cases hx:blkO (cur l val 0 3 6 C.n1 C.n2 C.xs1 C.xs2) with
  | none=>exact .inl rfl
  | some x=>exact .inr fun e=>hnew x hx (Option.some.inj e)
 ·intro h
  rw[getD_set (hne 15 (by omega))] at h
  obtain⟨k,b1,b2,b3,b4,b5,b6,_⟩:=hF.box h
  have hkr:some k≠blkO (cur l val 7 10 13 C.m1 C.m2 C.ys1 C.ys2):=fun e=>b5 e.symm
  have hgk:g≠k:=by
   rintro rfl
   rcases hloc with h | h
   ·exact hkr h
   ·omega
  refine⟨k,by rw[updV_other _ _ (hne 15 (by omega))];exact b1,b2,Nat.lt_of_lt_of_le b3 hg.size,?_,?_,fun _=>(hg.block k b3 hkr).trans (b6 h16),fun h=>?_⟩
  ·rw[hother];exact b4
  ·rw[hblk];exact fun e=>hgk (Option.some.inj e)
  ·rw[getD_set (hne 16 (by omega)),h16] at h;cases h
end Go.Proofs.YtdgbajnhhhjbcaaGreatDoor
namespace Go.Proofs.YtdgbajnhhhjbcaaGreatDoor
open Go.RowKit
theorem own_form {w:World} {N:Nat} {e:TypeId} {z:Nat} {c:Option (Nat × List Value × Value)} {n:Nat} {xs:List Value} {v:Value} (h:OwnO w N e z c) (hc:c=some (n,xs,v)):∃ g cap,v=.slice (some ⟨g,0,none⟩) n cap:=by
 obtain⟨h1,g,h2,_⟩:=h n xs v hc
 rcases h1.2 with ⟨rfl,_⟩ | ⟨g',cap,cur,rfl,_⟩
 ·cases h2
 ·exact⟨g',cap,rfl⟩
theorem info17D:(Tryz.prog.info? 34).map (fun i=>(i.zero,i.size,i.bytes))=some (some (.agg #[.string ⟨#[]⟩,.slice none 0 0,.slice none 0 0,.bool false,.bool false,.int .i64 0]),6,80):=by kernel_rfl
theorem info17R:(Tryz.prog.info? 41).map (fun i=>(i.zero,i.size,i.bytes))=some (some (.agg #[.string ⟨#[]⟩,.slice none 0 0,.slice none 0 0,.int .i64 0]),4,72):=by kernel_rfl
theorem reg_set {w:World} {b:Nat} {cs:Array Value} {T:TypeId} {fz:Nat × Nat} (h:w.heap[b]?=some (.cells cs T fz)) (k:Nat) (u:Value):(w.setCell ⟨b,k,none⟩ u).heap[b]?=some (.cells (cs.setIfInBounds k u) T fz):=by
 have hlt:=(Array.getElem?_eq_some_iff.1 h).1
 have h':w.heap[b]=.cells cs T fz:=by simpa[Array.getElem?_eq_getElem hlt] using h
 show (w.heap.modify b _)[b]?=_
 rw[Array.getElem?_eq_getElem (by simpa using hlt),Array.getElem_modify_self,h']
 rfl
theorem fls {b:Bool} (h:¬ b=true):b=false:=by cases b <;> simp_all
theorem cellK {w:World} {N:Nat} {W0:World} (hb:Below N W0 w) (h0:W0.heap.size=N) {p:Addr} {c:Value} (hc:W0.cell? p=some c):w.cell? p=some c:=
 (hb.cell (p:=p) (by rw[← h0];exact World.block_lt_of_cell? _ _ hc)).trans hc
theorem st17_1 {Q:Exit→Act→World→Prop} {C:Cx} {o:Oper} (hop:o.op=.fieldAddr 25 (.tmp 8) 0):St17 Tryz.prog Q C 1 o:=by
 intro l val w ok hF hl hf hd A K hA hK
 have e8:A.eval (.tmp 8)=.pointer (some ⟨C.n3,0,none⟩):=(far17 hA (by decide)).trans ok.e8
 have e8':=(show A.tmps.getD _ undef=_ from e8)
 rw[Array.getD_eq_getD_getElem?] at e8'
 unfold Oper.wp
 clear hA hd
 simp[execOp,hop,e8',go_sem,Result.andThen]
 exact hK _ _ (hF.quiet hl ⟨by decide,fun _=>rfl,fun e=>absurd e (by decide),fun e=>absurd e (by decide),fun e=>absurd e (by decide),fun e=>absurd e (by decide),fun e=>absurd e (by decide),fun e=>absurd e (by decide),fun e=>absurd e (by decide),fun e=>absurd e (by decide)⟩)
theorem st17_4 {Q:Exit→Act→World→Prop} {C:Cx} {o:Oper} (hop:o.op=.fieldAddr 25 (.tmp 11) 0):St17 Tryz.prog Q C 4 o:=by
 intro l val w ok hF hl hf hd A K hA hK
 have e8:A.eval (.tmp 11)=.pointer (some ⟨C.n4,0,none⟩):=(far17 hA (by decide)).trans ok.e11
 have e8':=(show A.tmps.getD _ undef=_ from e8)
 rw[Array.getD_eq_getD_getElem?] at e8'
 unfold Oper.wp
 clear hA hd
 simp[execOp,hop,e8',go_sem,Result.andThen]
 exact hK _ _ (hF.quiet hl ⟨by decide,fun e=>absurd e (by decide),fun e=>absurd e (by decide),fun _=>rfl,fun e=>absurd e (by decide),fun e=>absurd e (by decide),fun e=>absurd e (by decide),fun e=>absurd e (by decide),fun e=>absurd e (by decide),fun e=>absurd e (by decide)⟩)
theorem st17_8 {Q:Exit→Act→World→Prop} {C:Cx} {o:Oper} (hop:o.op=.fieldAddr 25 (.tmp 8) 1):St17 Tryz.prog Q C 8 o:=by
 intro l val w ok hF hl hf hd A K hA hK
 have e8:A.eval (.tmp 8)=.pointer (some ⟨C.n3,0,none⟩):=(far17 hA (by decide)).trans ok.e8
 have e8':=(show A.tmps.getD _ undef=_ from e8)
 rw[Array.getD_eq_getD_getElem?] at e8'
 unfold Oper.wp
 clear hA hd
 simp[execOp,hop,e8',go_sem,Result.andThen]
 exact hK _ _ (hF.quiet hl ⟨by decide,fun e=>absurd e (by decide),fun e=>absurd e (by decide),fun e=>absurd e (by decide),fun e=>absurd e (by decide),fun _=>rfl,fun e=>absurd e (by decide),fun e=>absurd e (by decide),fun e=>absurd e (by decide),fun e=>absurd e (by decide)⟩)
theorem st17_11 {Q:Exit→Act→World→Prop} {C:Cx} {o:Oper} (hop:o.op=.fieldAddr 25 (.tmp 11) 1):St17 Tryz.prog Q C 11 o:=by
 intro l val w ok hF hl hf hd A K hA hK
 have e8:A.eval (.tmp 11)=.pointer (some ⟨C.n4,0,none⟩):=(far17 hA (by decide)).trans ok.e11
 have e8':=(show A.tmps.getD _ undef=_ from e8)
 rw[Array.getD_eq_getD_getElem?] at e8'
 unfold Oper.wp
 clear hA hd
 simp[execOp,hop,e8',go_sem,Result.andThen]
 exact hK _ _ (hF.quiet hl ⟨by decide,fun e=>absurd e (by decide),fun e=>absurd e (by decide),fun e=>absurd e (by decide),fun e=>absurd e (by decide),fun e=>absurd e (by decide),fun e=>absurd e (by decide),fun _=>rfl,fun e=>absurd e (by decide),fun e=>absurd e (by decide)⟩)
theorem st17_2 {Q:Exit→Act→World→Prop} {C:Cx} {o:Oper} (hop:o.op=.load 22 (.tmp 116)) (hdep:depB o [1]=true):St17 Tryz.prog Q C 2 o:=by
 intro l val w ok hF hl hf hd A K hA hK
 have l1:=dep_of hdep hd 1 (by simp)
 have e8:A.eval (.tmp 116)=.pointer (some ⟨C.n3,0,none⟩):=(ev17 hA ok.size l1 rfl (by decide) (by decide) (by decide)).trans (hF.v1 l1)
 have e8':=(show A.tmps.getD _ undef=_ from e8)
 rw[Array.getD_eq_getD_getElem?] at e8'
 have hc:w.cell? ⟨C.n3,0,none⟩=some C.pd:=cellK hF.below ok.h0 ok.c0
 unfold Oper.wp
 clear hA hd
 simp[execOp,hop,e8',hc,go_sem,Result.andThen]
 exact hK _ _ (hF.quiet hl ⟨by decide,fun e=>absurd e (by decide),fun _=>rfl,fun e=>absurd e (by decide),fun e=>absurd e (by decide),fun e=>absurd e (by decide),fun e=>absurd e (by decide),fun e=>absurd e (by decide),fun e=>absurd e (by decide),fun e=>absurd e (by decide)⟩)
theorem st17_5 {Q:Exit→Act→World→Prop} {C:Cx} {o:Oper} (hop:o.op=.load 22 (.tmp 119)) (hdep:depB o [4]=true):St17 Tryz.prog Q C 5 o:=by
 intro l val w ok hF hl hf hd A K hA hK
 have l4:=dep_of hdep hd 4 (by simp)
 have e8:A.eval (.tmp 119)=.pointer (some ⟨C.n4,0,none⟩):=(ev17 hA ok.size l4 rfl (by decide) (by decide) (by decide)).trans (hF.v4 l4)
 have e8':=(show A.tmps.getD _ undef=_ from e8)
 rw[Array.getD_eq_getD_getElem?] at e8'
 have hc:w.cell? ⟨C.n4,0,none⟩=some C.qd:=cellK hF.below ok.h0 ok.c2
 unfold Oper.wp
 clear hA hd
 simp[execOp,hop,e8',hc,go_sem,Result.andThen]
 exact hK _ _ (hF.quiet hl ⟨by decide,fun e=>absurd e (by decide),fun e=>absurd e (by decide),fun e=>absurd e (by decide),fun _=>rfl,fun e=>absurd e (by decide),fun e=>absurd e (by decide),fun e=>absurd e (by decide),fun e=>absurd e (by decide),fun e=>absurd e (by decide)⟩)
theorem st17_9 {Q:Exit→Act→World→Prop} {C:Cx} {o:Oper} (hop:o.op=.load 23 (.tmp 123)) (hdep:depB o [8]=true):St17 Tryz.prog Q C 9 o:=by
 intro l val w ok hF hl hf hd A K hA hK
 have l8:=dep_of hdep hd 8 (by simp)
 have e8:A.eval (.tmp 123)=.pointer (some ⟨C.n3,1,none⟩):=(ev17 hA ok.size l8 rfl (by decide) (by decide) (by decide)).trans (hF.v8 l8)
 have e8':=(show A.tmps.getD _ undef=_ from e8)
 rw[Array.getD_eq_getD_getElem?] at e8'
 have hc:w.cell? ⟨C.n3,1,none⟩=some C.pr:=cellK hF.below ok.h0 ok.c1
 unfold Oper.wp
 clear hA hd
 simp[execOp,hop,e8',hc,go_sem,Result.andThen]
 exact hK _ _ (hF.quiet hl ⟨by decide,fun e=>absurd e (by decide),fun e=>absurd e (by decide),fun e=>absurd e (by decide),fun e=>absurd e (by decide),fun e=>absurd e (by decide),fun _=>rfl,fun e=>absurd e (by decide),fun e=>absurd e (by decide),fun e=>absurd e (by decide)⟩)
theorem st17_12 {Q:Exit→Act→World→Prop} {C:Cx} {o:Oper} (hop:o.op=.load 23 (.tmp 126)) (hdep:depB o [11]=true):St17 Tryz.prog Q C 12 o:=by
 intro l val w ok hF hl hf hd A K hA hK
 have l11:=dep_of hdep hd 11 (by simp)
 have e8:A.eval (.tmp 126)=.pointer (some ⟨C.n4,1,none⟩):=(ev17 hA ok.size l11 rfl (by decide) (by decide) (by decide)).trans (hF.v11 l11)
 have e8':=(show A.tmps.getD _ undef=_ from e8)
 rw[Array.getD_eq_getD_getElem?] at e8'
 have hc:w.cell? ⟨C.n4,1,none⟩=some C.qr:=cellK hF.below ok.h0 ok.c3
 unfold Oper.wp
 clear hA hd
 simp[execOp,hop,e8',hc,go_sem,Result.andThen]
 exact hK _ _ (hF.quiet hl ⟨by decide,fun e=>absurd e (by decide),fun e=>absurd e (by decide),fun e=>absurd e (by decide),fun e=>absurd e (by decide),fun e=>absurd e (by decide),fun e=>absurd e (by decide),fun e=>absurd e (by decide),fun _=>rfl,fun e=>absurd e (by decide)⟩)
theorem st17_14 {Q:Exit→Act→World→Prop} {C:Cx} {o:Oper} (hop:o.op=.build 25 #[(0,.tmp 121),(1,.tmp 128)]) (hdep:depB o [6,13]=true):St17 Tryz.prog Q C 14 o:=by
 intro l val w ok hF hl hf hd A K hA hK
 have l6:=dep_of hdep hd 6 (by simp)
 have l13:=dep_of hdep hd 13 (by simp)
 have e6:A.eval (.tmp 121)=val 6:=ev17 hA ok.size l6 rfl (by decide) (by decide) (by decide)
 have e13:A.eval (.tmp 128)=val 13:=ev17 hA ok.size l13 rfl (by decide) (by decide) (by decide)
 obtain⟨g6,k6,z6⟩:=own_form hF.ownA (by unfold cur;rw[if_pos l6])
 obtain⟨g13,k13,z13⟩:=own_form hF.ownB (by unfold cur;rw[if_pos l13])
 rw[z6] at e6
 rw[z13] at e13
 have e6':=(show A.tmps.getD _ undef=_ from e6)
 rw[Array.getD_eq_getD_getElem?] at e6'
 have e13':=(show A.tmps.getD _ undef=_ from e13)
 rw[Array.getD_eq_getD_getElem?] at e13'
 unfold Oper.wp
 clear hA hd
 simp[execOp,hop,e6',e13',go_sem,Result.andThen]
 exact hK _ _ (hF.quiet hl ⟨by decide,fun e=>absurd e (by decide),fun e=>absurd e (by decide),fun e=>absurd e (by decide),fun e=>absurd e (by decide),fun e=>absurd e (by decide),fun e=>absurd e (by decide),fun e=>absurd e (by decide),fun e=>absurd e (by decide),fun _=>⟨by rw[z6,z13],l6,l13⟩⟩)
theorem st17_15 {Q:Exit→Act→World→Prop} {C:Cx} {o:Oper} (hop:o.op=.alloc 25):St17 Tryz.prog Q C 15 o:=by
 intro l val w ok hF hl hf hd A K hA hK
 unfold Oper.wp
 clear hA hd
 simp[execOp,hop,go_sem,Result.andThen]
 have h16:l.getD 16 false=false:=fls fun h=>by have:=(hF.k16 h).2;rw[hf] at this;cases this
 have hsz:=hF.below.size
 have hN:=ok.h0
 have hg:w.grownBy (w.alloc (.cells #[.slice none 0 0,.slice none 0 0] 25)) none:=by
  have hb:Below w.heap.size w (w.alloc (.cells #[.slice none 0 0,.slice none 0 0] 25)):=(Below.refl _ _).alloc (Nat.le_refl _) _
  exact⟨hb.os,hb.tape,hb.output,hb.size,fun i hi _=>hb.block i hi⟩
 refine hK (.pointer (some ⟨w.heap.size,0,none⟩)) _ ?_
 have hi':15 < l.size:=by omega
 have cA:∀ v,cur (l.setIfInBounds 15 true) (updV val 15 v) 0 3 6 C.n1 C.n2 C.xs1 C.xs2=cur l val 0 3 6 C.n1 C.n2 C.xs1 C.xs2:=fun v=>cur_other (by decide) (by decide) (by decide)
 have cB:∀ v,cur (l.setIfInBounds 15 true) (updV val 15 v) 7 10 13 C.m1 C.m2 C.ys1 C.ys2=cur l val 7 10 13 C.m1 C.m2 C.ys1 C.ys2:=fun v=>cur_other (by decide) (by decide) (by decide)
 constructor
 ·exact below_grown hF.below (Nat.le_of_eq hN.symm) hg (fun g h=>by cases h)
 ·intro h;rw[getD_set (by decide)] at h;rw[updV_other _ _ (by decide)];exact hF.v1 h
 ·intro h;rw[getD_set (by decide)] at h;rw[updV_other _ _ (by decide)];exact hF.v2 h
 ·intro h;rw[getD_set (by decide)] at h;rw[updV_other _ _ (by decide)];exact hF.v4 h
 ·intro h;rw[getD_set (by decide)] at h;rw[updV_other _ _ (by decide)];exact hF.v5 h
 ·intro h;rw[getD_set (by decide)] at h;rw[updV_other _ _ (by decide)];exact hF.v8 h
 ·intro h;rw[getD_set (by decide)] at h;rw[updV_other _ _ (by decide)];exact hF.v9 h
 ·intro h;rw[getD_set (by decide)] at h;rw[updV_other _ _ (by decide)];exact hF.v11 h
 ·intro h;rw[getD_set (by decide)] at h;rw[updV_other _ _ (by decide)];exact hF.v12 h
 ·intro h;rw[getD_set (by decide)] at h;rw[updV_other _ _ (by decide),updV_other _ _ (by decide),updV_other _ _ (by decide)];exact hF.v14 h
 ·intro h;rw[getD_set (by decide)] at h;exact getD_mono hi' (hF.k3 h)
 ·intro h;rw[getD_set (by decide)] at h;exact getD_mono hi' (hF.k6 h)
 ·intro h;rw[getD_set (by decide)] at h;exact getD_mono hi' (hF.k10 h)
 ·intro h;rw[getD_set (by decide)] at h;exact getD_mono hi' (hF.k13 h)
 ·intro h;rw[getD_set (by decide)] at h;exact⟨getD_mono hi' (hF.k14 h).1,getD_mono hi' (hF.k14 h).2⟩
 ·intro h;rw[getD_set (by decide),h16] at h;cases h
 ·rw[cA];exact hF.ownA.kept hg (by cases blkO (cur l val 0 3 6 C.n1 C.n2 C.xs1 C.xs2) with | none=>exact .inl rfl | some x=>exact .inr (by simp))
 ·rw[cB];exact hF.ownB.kept hg (by cases blkO (cur l val 7 10 13 C.m1 C.m2 C.ys1 C.ys2) with | none=>exact .inl rfl | some x=>exact .inr (by simp))
 ·rw[cA,cB];exact hF.ab
 ·intro _
  refine⟨w.heap.size,updV_same _ _ _,by omega,by simp,?_,?_,fun _=>World.alloc_heap_new w _,fun h=>?_⟩
  ·rw[cA];exact fun e=>Nat.lt_irrefl _ (hF.ownA.lt e).1
  ·rw[cB];exact fun e=>Nat.lt_irrefl _ (hF.ownB.lt e).1
  ·rw[getD_set (by decide),h16] at h;cases h
theorem st17_16 {Q:Exit→Act→World→Prop} {C:Cx} {o:Oper} (hop:o.op=.store 25 (.tmp 19) (.tmp 129)) (hdep:depB o [14,15]=true):St17 Tryz.prog Q C 16 o:=by
 intro l val w ok hF hl hf hd A K hA hK
 have l14:=dep_of hdep hd 14 (by simp)
 have l15:=dep_of hdep hd 15 (by simp)
 obtain⟨l6,l13⟩:=hF.k14 l14
 obtain⟨k,b1,b2,b3,b4,b5,b6,_⟩:=hF.box l15
 obtain⟨g6,k6,z6⟩:=own_form hF.ownA (by unfold cur;rw[if_pos l6])
 obtain⟨g13,k13,z13⟩:=own_form hF.ownB (by unfold cur;rw[if_pos l13])
 have e14:A.eval (.tmp 129)=.agg #[.slice (some ⟨g6,0,none⟩) (C.n1+C.n2) k6,.slice (some ⟨g13,0,none⟩) (C.m1+C.m2) k13]:=(ev17 hA ok.size l14 rfl (by decide) (by decide) (by decide)).trans (by rw[hF.v14 l14,z6,z13])
 have e15:A.eval (.tmp 19)=.pointer (some ⟨k,0,none⟩):=(ev17 hA ok.size l15 rfl (by decide) (by decide) (by decide)).trans b1
 have e14':=(show A.tmps.getD _ undef=_ from e14)
 rw[Array.getD_eq_getD_getElem?] at e14'
 have e15':=(show A.tmps.getD _ undef=_ from e15)
 rw[Array.getD_eq_getD_getElem?] at e15'
 have hrow:=b6 hf
 have hc0:w.cell? ⟨k,0,none⟩=some (.slice none 0 0):=by unfold World.cell?;rw[hrow];rfl
 have hc1:w.cell? ⟨k,1,none⟩=some (.slice none 0 0):=by unfold World.cell?;rw[hrow];rfl
 have f0:w.frozen? ⟨k,0,none⟩=false:=by unfold World.frozen?;rw[hrow];rfl
 have f1:w.frozen? ⟨k,1,none⟩=false:=by unfold World.frozen?;rw[hrow];rfl
 unfold Oper.wp
 clear hA hd
 simp[execOp,hop,e14',e15',hc0,hc1,f0,f1,b3,go_sem,Result.andThen]
 have hg:w.grownBy ((w.setCell ⟨k,0,none⟩ (.slice (some ⟨g6,0,none⟩) (C.n1+C.n2) k6)).setCell ⟨k,1,none⟩ (.slice (some ⟨g13,0,none⟩) (C.m1+C.m2) k13)) (some k):=by
  refine⟨rfl,rfl,rfl,by simp[World.setCell],fun i hi hne=>?_⟩
  have hik:i≠k:=fun e=>hne (by rw[e])
  exact (Below.heap_setCell _ ⟨k,1,none⟩ _ i hik).trans (Below.heap_setCell _ ⟨k,0,none⟩ _ i hik)
 have hi':16 < l.size:=by omega
 have cA:∀ v,cur (l.setIfInBounds 16 true) (updV val 16 v) 0 3 6 C.n1 C.n2 C.xs1 C.xs2=cur l val 0 3 6 C.n1 C.n2 C.xs1 C.xs2:=fun v=>cur_other (by decide) (by decide) (by decide)
 have cB:∀ v,cur (l.setIfInBounds 16 true) (updV val 16 v) 7 10 13 C.m1 C.m2 C.ys1 C.ys2=cur l val 7 10 13 C.m1 C.m2 C.ys1 C.ys2:=fun v=>cur_other (by decide) (by decide) (by decide)
 refine hK undef _ ?_
 constructor
 ·exact below_grown hF.below (Nat.le_of_eq ok.h0.symm) hg (fun g h=>by cases h;exact b2)
 ·intro h;rw[getD_set (by decide)] at h;rw[updV_other _ _ (by decide)];exact hF.v1 h
 ·intro h;rw[getD_set (by decide)] at h;rw[updV_other _ _ (by decide)];exact hF.v2 h
 ·intro h;rw[getD_set (by decide)] at h;rw[updV_other _ _ (by decide)];exact hF.v4 h
 ·intro h;rw[getD_set (by decide)] at h;rw[updV_other _ _ (by decide)];exact hF.v5 h
 ·intro h;rw[getD_set (by decide)] at h;rw[updV_other _ _ (by decide)];exact hF.v8 h
 ·intro h;rw[getD_set (by decide)] at h;rw[updV_other _ _ (by decide)];exact hF.v9 h
 ·intro h;rw[getD_set (by decide)] at h;rw[updV_other _ _ (by decide)];exact hF.v11 h
 ·intro h;rw[getD_set (by decide)] at h;rw[updV_other _ _ (by decide)];exact hF.v12 h
 ·intro h;rw[getD_set (by decide)] at h;rw[updV_other _ _ (by decide),updV_other _ _ (by decide),updV_other _ _ (by decide)];exact hF.v14 h
 ·intro h;rw[getD_set (by decide)] at h;exact getD_mono hi' (hF.k3 h)
 ·intro h;rw[getD_set (by decide)] at h;exact getD_mono hi' (hF.k6 h)
 ·intro h;rw[getD_set (by decide)] at h;exact getD_mono hi' (hF.k10 h)
 ·intro h;rw[getD_set (by decide)] at h;exact getD_mono hi' (hF.k13 h)
 ·intro h;rw[getD_set (by decide)] at h;exact⟨getD_mono hi' (hF.k14 h).1,getD_mono hi' (hF.k14 h).2⟩
 ·intro _;exact⟨getD_mono hi' l14,getD_mono hi' l15⟩
 ·rw[cA];exact hF.ownA.kept hg (.inr b4)
 ·rw[cB];exact hF.ownB.kept hg (.inr b5)
 ·rw[cA,cB];exact hF.ab
 ·intro _
  refine⟨k,by rw[updV_other _ _ (by decide)];exact b1,b2,Nat.lt_of_lt_of_le b3 hg.size,by rw[cA];exact b4,by rw[cB];exact b5,fun h=>?_,fun _=>?_⟩
  ·rw[getD_same hi'] at h;cases h
  ·rw[updV_other _ _ (by decide),updV_other _ _ (by decide),z6,z13]
   exact reg_set (reg_set hrow 0 _) 1 _
theorem st17_0 {Q:Exit→Act→World→Prop} {C:Cx} {o:Oper} (hop:o.op=.makeSlice 22 (.const (.int .i64 0)) (.const (.int .i64 60))):St17 Tryz.prog Q C 0 o:=by
 intro l val w ok hF hl hf hd A K hA hK
 obtain⟨i0,hi,hz0,hz1,hz2⟩:=info_parts info17D
 have hN:=ok.h0
 have hsz:=hF.below.size
 have h3:l.getD 3 false=false:=fls fun h=>by have:=hF.k3 h;rw[hf] at this;cases this
 have h6:l.getD 6 false=false:=fls fun h=>by have:=hF.k6 h;rw[h3] at this;cases this
 have h14:l.getD 14 false=false:=fls fun h=>by have:=(hF.k14 h).1;rw[h6] at this;cases this
 have h16:l.getD 16 false=false:=fls fun h=>by have:=(hF.k16 h).1;rw[h14] at this;cases this
 have hc0:cur l val 0 3 6 C.n1 C.n2 C.xs1 C.xs2=none:=by unfold cur;rw[if_neg (by rw[h6];decide),if_neg (by rw[h3];decide),if_neg (by rw[hf];decide)]
 refine wp_make_any w _ _ 22 hop C.N 34 i0 _ 6 Tryz.underlying22 hi hz0 hz1 .i64 .i64 60 rfl rfl (by rw[hz2];decide) (by unfold maxLen;omega) (by omega) fun w' hown hg=>?_
 refine hK _ _ (hF.stepA ok hl (.inl rfl) h14 h16 ⟨fun e=>absurd e (by decide),fun e=>absurd e (by decide)⟩ (n:=0) (xs:=[]) ?_ hown (by rw[hc0];exact hg) w.heap.size rfl ?_ (.inr rfl))
 ·unfold cur
  rw[getD_set (by decide),getD_set (by decide),if_neg (by rw[h6];decide),if_neg (by rw[h3];decide),if_pos (getD_same (by omega)),updV_same]
 ·rcases hown.2 with ⟨h,_⟩ | ⟨g',cap,cur,hv,_,hh,_⟩
  ·cases h
  ·cases hv
   exact (Array.getElem?_eq_some_iff.1 hh).1
theorem st17_3 {Q:Exit→Act→World→Prop} {C:Cx} {o:Oper} (hop:o.op=.call { callee:=.builtin .append,args:=#[.tmp 115,.tmp 117],argTypes:=#[22,22] }) (hdep:depB o [0,2]=true):St17 Tryz.prog Q C 3 o:=by
 intro l val w ok hF hl hf hd A K hA hK
 have l0:=dep_of hdep hd 0 (by simp)
 have l2:=dep_of hdep hd 2 (by simp)
 obtain⟨i0,hi,hz0,hz1,hz2⟩:=info_parts info17D
 have hN:=ok.h0
 have hsz:=hF.below.size
 have h6:l.getD 6 false=false:=fls fun h=>by have:=hF.k6 h;rw[hf] at this;cases this
 have h14:l.getD 14 false=false:=fls fun h=>by have:=(hF.k14 h).1;rw[h6] at this;cases this
 have h16:l.getD 16 false=false:=fls fun h=>by have:=(hF.k16 h).1;rw[h14] at this;cases this
 have hc0:cur l val 0 3 6 C.n1 C.n2 C.xs1 C.xs2=some (0,[],val 0):=by unfold cur;rw[if_neg (by rw[h6];decide),if_neg (by rw[hf];decide),if_pos l0]
 obtain⟨hown,g,hvg,hgl⟩:=hF.ownA _ _ _ hc0
 have e1:A.eval (.tmp 115)=val 0:=ev17 hA ok.size l0 rfl (by decide) (by decide) (by decide)
 have e2:A.eval (.tmp 117)=C.pd:=(ev17 hA ok.size l2 rfl (by decide) (by decide) (by decide)).trans (hF.v2 l2)
 have hsp:Spread w 6 C.pd C.n1 C.xs1:=ok.s1.cells fun p c hc=>cellK hF.below hN hc
 have hbb:=ok.b1
 refine wp_append_any w _ _ 22 hop C.N 34 i0 _ 6 80 Tryz.underlying22 hi hz0 hz1 hz2 rfl (by decide) (val 0) (0) ([]) e1 hown C.pd C.n1 C.xs1 e2 hsp (by unfold maxLen;omega) (by omega) (by omega) fun v' w' hown' hg hloc=>?_
 have hvb:∃ g',v'.ownBlock=some g'∧(some g'=(val 0).ownBlock∨g'=w.heap.size):=by
  rcases hloc with h | h
  ·exact⟨g,h.trans hvg,.inl hvg.symm⟩
  ·exact⟨_,h,.inr rfl⟩
 obtain⟨g',hg1,hg2⟩:=hvb
 refine hK _ _ (hF.stepA ok hl (.inr (.inl rfl)) h14 h16 ⟨fun _=>l0,fun e=>absurd e (by decide)⟩ (n:=0+C.n1) (xs:=[]++C.xs1) ?_ hown' (by rw[hc0];exact hg) g' hg1 ?_ (by rw[hc0];exact hg2))
 ·unfold cur
  rw[getD_set (by decide),if_neg (by rw[h6];decide),if_pos (getD_same (by omega)),updV_same,Nat.zero_add,List.nil_append]
 ·rcases hown'.2 with ⟨h,_⟩ | ⟨g2,cap,cur,hv,_,hh,_⟩
  ·rw[h] at hg1;cases hg1
  ·rw[hv] at hg1
   obtain rfl:g2=g':=by simpa[Value.ownBlock] using hg1
   exact (Array.getElem?_eq_some_iff.1 hh).1
theorem st17_6 {Q:Exit→Act→World→Prop} {C:Cx} {o:Oper} (hop:o.op=.call { callee:=.builtin .append,args:=#[.tmp 118,.tmp 120],argTypes:=#[22,22] }) (hdep:depB o [3,5]=true):St17 Tryz.prog Q C 6 o:=by
 intro l val w ok hF hl hf hd A K hA hK
 have l3:=dep_of hdep hd 3 (by simp)
 have l5:=dep_of hdep hd 5 (by simp)
 obtain⟨i0,hi,hz0,hz1,hz2⟩:=info_parts info17D
 have hN:=ok.h0
 have hsz:=hF.below.size
 have h6:=hf
 have h14:l.getD 14 false=false:=fls fun h=>by have:=(hF.k14 h).1;rw[h6] at this;cases this
 have h16:l.getD 16 false=false:=fls fun h=>by have:=(hF.k16 h).1;rw[h14] at this;cases this
 have hc0:cur l val 0 3 6 C.n1 C.n2 C.xs1 C.xs2=some (C.n1,C.xs1,val 3):=by unfold cur;rw[if_neg (by rw[h6];decide),if_pos l3]
 obtain⟨hown,g,hvg,hgl⟩:=hF.ownA _ _ _ hc0
 have e1:A.eval (.tmp 118)=val 3:=ev17 hA ok.size l3 rfl (by decide) (by decide) (by decide)
 have e2:A.eval (.tmp 120)=C.qd:=(ev17 hA ok.size l5 rfl (by decide) (by decide) (by decide)).trans (hF.v5 l5)
 have hsp:Spread w 6 C.qd C.n2 C.xs2:=ok.s2.cells fun p c hc=>cellK hF.below hN hc
 have hbb:=ok.b1
 refine wp_append_any w _ _ 22 hop C.N 34 i0 _ 6 80 Tryz.underlying22 hi hz0 hz1 hz2 rfl (by decide) (val 3) (C.n1) (C.xs1) e1 hown C.qd C.n2 C.xs2 e2 hsp (by unfold maxLen;omega) (by omega) (by omega) fun v' w' hown' hg hloc=>?_
 have hvb:∃ g',v'.ownBlock=some g'∧(some g'=(val 3).ownBlock∨g'=w.heap.size):=by
  rcases hloc with h | h
  ·exact⟨g,h.trans hvg,.inl hvg.symm⟩
  ·exact⟨_,h,.inr rfl⟩
 obtain⟨g',hg1,hg2⟩:=hvb
 refine hK _ _ (hF.stepA ok hl (.inr (.inr rfl)) h14 h16 ⟨fun e=>absurd e (by decide),fun _=>l3⟩ (n:=C.n1+C.n2) (xs:=C.xs1++C.xs2) ?_ hown' (by rw[hc0];exact hg) g' hg1 ?_ (by rw[hc0];exact hg2))
 ·unfold cur
  rw[if_pos (getD_same (by omega)),updV_same]
 ·rcases hown'.2 with ⟨h,_⟩ | ⟨g2,cap,cur,hv,_,hh,_⟩
  ·rw[h] at hg1;cases hg1
  ·rw[hv] at hg1
   obtain rfl:g2=g':=by simpa[Value.ownBlock] using hg1
   exact (Array.getElem?_eq_some_iff.1 hh).1
theorem st17_7 {Q:Exit→Act→World→Prop} {C:Cx} {o:Oper} (hop:o.op=.makeSlice 23 (.const (.int .i64 0)) (.const (.int .i64 60))):St17 Tryz.prog Q C 7 o:=by
 intro l val w ok hF hl hf hd A K hA hK
 obtain⟨i0,hi,hz0,hz1,hz2⟩:=info_parts info17R
 have hN:=ok.h0
 have hsz:=hF.below.size
 have h3:l.getD 10 false=false:=fls fun h=>by have:=hF.k10 h;rw[hf] at this;cases this
 have h6:l.getD 13 false=false:=fls fun h=>by have:=hF.k13 h;rw[h3] at this;cases this
 have h14:l.getD 14 false=false:=fls fun h=>by have:=(hF.k14 h).2;rw[h6] at this;cases this
 have h16:l.getD 16 false=false:=fls fun h=>by have:=(hF.k16 h).1;rw[h14] at this;cases this
 have hc0:cur l val 7 10 13 C.m1 C.m2 C.ys1 C.ys2=none:=by unfold cur;rw[if_neg (by rw[h6];decide),if_neg (by rw[h3];decide),if_neg (by rw[hf];decide)]
 refine wp_make_any w _ _ 23 hop C.N 41 i0 _ 4 Tryz.underlying23 hi hz0 hz1 .i64 .i64 60 rfl rfl (by rw[hz2];decide) (by unfold maxLen;omega) (by omega) fun w' hown hg=>?_
 refine hK _ _ (hF.stepB ok hl (.inl rfl) h14 h16 ⟨fun e=>absurd e (by decide),fun e=>absurd e (by decide)⟩ (n:=0) (xs:=[]) ?_ hown (by rw[hc0];exact hg) w.heap.size rfl ?_ (.inr rfl))
 ·unfold cur
  rw[getD_set (by decide),getD_set (by decide),if_neg (by rw[h6];decide),if_neg (by rw[h3];decide),if_pos (getD_same (by omega)),updV_same]
 ·rcases hown.2 with ⟨h,_⟩ | ⟨g',cap,cur,hv,_,hh,_⟩
  ·cases h
  ·cases hv
   exact (Array.getElem?_eq_some_iff.1 hh).1
theorem st17_10 {Q:Exit→Act→World→Prop} {C:Cx} {o:Oper} (hop:o.op=.call { callee:=.builtin .append,args:=#[.tmp 122,.tmp 124],argTypes:=#[23,23] }) (hdep:depB o [7,9]=true):St17 Tryz.prog Q C 10 o:=by
 intro l val w ok hF hl hf hd A K hA hK
 have l7:=dep_of hdep hd 7 (by simp)
 have l9:=dep_of hdep hd 9 (by simp)
 obtain⟨i0,hi,hz0,hz1,hz2⟩:=info_parts info17R
 have hN:=ok.h0
 have hsz:=hF.below.size
 have h6:l.getD 13 false=false:=fls fun h=>by have:=hF.k13 h;rw[hf] at this;cases this
 have h14:l.getD 14 false=false:=fls fun h=>by have:=(hF.k14 h).2;rw[h6] at this;cases this
 have h16:l.getD 16 false=false:=fls fun h=>by have:=(hF.k16 h).1;rw[h14] at this;cases this
 have hc0:cur l val 7 10 13 C.m1 C.m2 C.ys1 C.ys2=some (0,[],val 7):=by unfold cur;rw[if_neg (by rw[h6];decide),if_neg (by rw[hf];decide),if_pos l7]
 obtain⟨hown,g,hvg,hgl⟩:=hF.ownB _ _ _ hc0
 have e1:A.eval (.tmp 122)=val 7:=ev17 hA ok.size l7 rfl (by decide) (by decide) (by decide)
 have e2:A.eval (.tmp 124)=C.pr:=(ev17 hA ok.size l9 rfl (by decide) (by decide) (by decide)).trans (hF.v9 l9)
 have hsp:Spread w 4 C.pr C.m1 C.ys1:=ok.s3.cells fun p c hc=>cellK hF.below hN hc
 have hbb:=ok.b2
 refine wp_append_any w _ _ 23 hop C.N 41 i0 _ 4 72 Tryz.underlying23 hi hz0 hz1 hz2 rfl (by decide) (val 7) (0) ([]) e1 hown C.pr C.m1 C.ys1 e2 hsp (by unfold maxLen;omega) (by omega) (by omega) fun v' w' hown' hg hloc=>?_
 have hvb:∃ g',v'.ownBlock=some g'∧(some g'=(val 7).ownBlock∨g'=w.heap.size):=by
  rcases hloc with h | h
  ·exact⟨g,h.trans hvg,.inl hvg.symm⟩
  ·exact⟨_,h,.inr rfl⟩
 obtain⟨g',hg1,hg2⟩:=hvb
 refine hK _ _ (hF.stepB ok hl (.inr (.inl rfl)) h14 h16 ⟨fun _=>l7,fun e=>absurd e (by decide)⟩ (n:=0+C.m1) (xs:=[]++C.ys1) ?_ hown' (by rw[hc0];exact hg) g' hg1 ?_ (by rw[hc0];exact hg2))
 ·unfold cur
  rw[getD_set (by decide),if_neg (by rw[h6];decide),if_pos (getD_same (by omega)),updV_same,Nat.zero_add,List.nil_append]
 ·rcases hown'.2 with ⟨h,_⟩ | ⟨g2,cap,cur,hv,_,hh,_⟩
  ·rw[h] at hg1;cases hg1
  ·rw[hv] at hg1
   obtain rfl:g2=g':=by simpa[Value.ownBlock] using hg1
   exact (Array.getElem?_eq_some_iff.1 hh).1
theorem st17_13 {Q:Exit→Act→World→Prop} {C:Cx} {o:Oper} (hop:o.op=.call { callee:=.builtin .append,args:=#[.tmp 125,.tmp 127],argTypes:=#[23,23] }) (hdep:depB o [10,12]=true):St17 Tryz.prog Q C 13 o:=by
 intro l val w ok hF hl hf hd A K hA hK
 have l10:=dep_of hdep hd 10 (by simp)
 have l12:=dep_of hdep hd 12 (by simp)
 obtain⟨i0,hi,hz0,hz1,hz2⟩:=info_parts info17R
 have hN:=ok.h0
 have hsz:=hF.below.size
 have h6:=hf
 have h14:l.getD 14 false=false:=fls fun h=>by have:=(hF.k14 h).2;rw[h6] at this;cases this
 have h16:l.getD 16 false=false:=fls fun h=>by have:=(hF.k16 h).1;rw[h14] at this;cases this
 have hc0:cur l val 7 10 13 C.m1 C.m2 C.ys1 C.ys2=some (C.m1,C.ys1,val 10):=by unfold cur;rw[if_neg (by rw[h6];decide),if_pos l10]
 obtain⟨hown,g,hvg,hgl⟩:=hF.ownB _ _ _ hc0
 have e1:A.eval (.tmp 125)=val 10:=ev17 hA ok.size l10 rfl (by decide) (by decide) (by decide)
 have e2:A.eval (.tmp 127)=C.qr:=(ev17 hA ok.size l12 rfl (by decide) (by decide) (by decide)).trans (hF.v12 l12)
 have hsp:Spread w 4 C.qr C.m2 C.ys2:=ok.s4.cells fun p c hc=>cellK hF.below hN hc
 have hbb:=ok.b2
 refine wp_append_any w _ _ 23 hop C.N 41 i0 _ 4 72 Tryz.underlying23 hi hz0 hz1 hz2 rfl (by decide) (val 10) (C.m1) (C.ys1) e1 hown C.qr C.m2 C.ys2 e2 hsp (by unfold maxLen;omega) (by omega) (by omega) fun v' w' hown' hg hloc=>?_
 have hvb:∃ g',v'.ownBlock=some g'∧(some g'=(val 10).ownBlock∨g'=w.heap.size):=by
  rcases hloc with h | h
  ·exact⟨g,h.trans hvg,.inl hvg.symm⟩
  ·exact⟨_,h,.inr rfl⟩
 obtain⟨g',hg1,hg2⟩:=hvb
 refine hK _ _ (hF.stepB ok hl (.inr (.inr rfl)) h14 h16 ⟨fun e=>absurd e (by decide),fun _=>l10⟩ (n:=C.m1+C.m2) (xs:=C.ys1++C.ys2) ?_ hown' (by rw[hc0];exact hg) g' hg1 ?_ (by rw[hc0];exact hg2))
 ·unfold cur
  rw[if_pos (getD_same (by omega)),updV_same]
 ·rcases hown'.2 with ⟨h,_⟩ | ⟨g2,cap,cur,hv,_,hh,_⟩
  ·rw[h] at hg1;cases hg1
  ·rw[hv] at hg1
   obtain rfl:g2=g':=by simpa[Value.ownBlock] using hg1
   exact (Array.getElem?_eq_some_iff.1 hh).1
theorem actsL_t {D:Nat→Option Tmp} {l:Array Bool} {val:Nat→Value} {i:Nat} {is:List Nat} {a:Act} (h:l.getD i false=true):actsL D l val (i::is) a=actsL D l val is (a.put (D i) (val i)):=by
 show actsL D l val is (if l.getD i false=true then a.put (D i) (val i) else a)=_
 rw[if_pos h]
theorem actsL_nil {D:Nat→Option Tmp} {l:Array Bool} {val:Nat→Value} {a:Act}:actsL D l val [] a=a:=rfl
theorem acts_all {l:Array Bool} {val:Nat→Value} (a:Act) (h:∀ i,i < 17→l.getD i false=true):actsL D17 l val (List.range 17) a=(((((((((((((((((a.put (some 115) (val 0)).put (some 116) (val 1)).put (some 117) (val 2)).put (some 118) (val 3)).put (some 119) (val 4)).put (some 120) (val 5)).put (some 121) (val 6)).put (some 122) (val 7)).put (some 123) (val 8)).put (some 124) (val 9)).put (some 125) (val 10)).put (some 126) (val 11)).put (some 127) (val 12)).put (some 128) (val 13)).put (some 129) (val 14)).put (some 19) (val 15)).put none (val 16)):=by
 rw[show List.range 17=[0,1,2,3,4,5,6,7,8,9,10,11,12,13,14,15,16] by decide]
 refine (actsL_t (h 0 (by decide))).trans ?_
 refine (actsL_t (h 1 (by decide))).trans ?_
 refine (actsL_t (h 2 (by decide))).trans ?_
 refine (actsL_t (h 3 (by decide))).trans ?_
 refine (actsL_t (h 4 (by decide))).trans ?_
 refine (actsL_t (h 5 (by decide))).trans ?_
 refine (actsL_t (h 6 (by decide))).trans ?_
 refine (actsL_t (h 7 (by decide))).trans ?_
 refine (actsL_t (h 8 (by decide))).trans ?_
 refine (actsL_t (h 9 (by decide))).trans ?_
 refine (actsL_t (h 10 (by decide))).trans ?_
 refine (actsL_t (h 11 (by decide))).trans ?_
 refine (actsL_t (h 12 (by decide))).trans ?_
 refine (actsL_t (h 13 (by decide))).trans ?_
 refine (actsL_t (h 14 (by decide))).trans ?_
 refine (actsL_t (h 15 (by decide))).trans ?_
 refine (actsL_t (h 16 (by decide))).trans ?_
 simp only[show D17 0=some 115 from rfl,show D17 1=some 116 from rfl,show D17 2=some 117 from rfl,show D17 3=some 118 from rfl,show D17 4=some 119 from rfl,show D17 5=some 120 from rfl,show D17 6=some 121 from rfl,show D17 7=some 122 from rfl,show D17 8=some 123 from rfl,show D17 9=some 124 from rfl,show D17 10=some 125 from rfl,show D17 11=some 126 from rfl,show D17 12=some 127 from rfl,show D17 13=some 128 from rfl,show D17 14=some 129 from rfl,show D17 15=some 19 from rfl,show D17 16=none from rfl]
 exact actsL_nil
end Go.Proofs.YtdgbajnhhhjbcaaGreatDoor
namespace Go.Proofs.YtdgbajnhhhjbcaaGreatDoor
open Go.RowKit
def AllAt (S:Nat→Oper→Prop):Nat→List Oper→Prop
 | _,[]=>True
 | k,o::os=>S k o∧AllAt S (k+1) os
theorem AllAt.at {S:Nat→Oper→Prop}:∀ {os:List Oper} {k i:Nat} {o:Oper},AllAt S k os→os[i]?=some o→S (k+i) o
 | [],_,_,_,_,h=>by simp at h
 | x::os,k,0,o,h,hi=>by
  have:x=o:=by simpa using hi
  subst this
  exact h.1
 | x::os,k,i+1,o,h,hi=>by
  have:=AllAt.at (i:=i) h.2 (by simpa using hi)
  rwa [Nat.add_assoc,Nat.add_comm 1 i] at this
theorem d17_ne:∀ i < 17,∀ j < 17,j≠i→D17 j≠D17 i∨D17 i=none:=by decide
theorem flow17 {P:Program} {ops:Array Oper} {Q:Exit→Act→World→Prop} (C:Cx) (ok:CxOk C) (h17:ops.size=17) (hdst:ops.toList.map (·.dst)=slots17)
  (hac:(ops.toList.zipIdx.all fun q=>q.1.after.all fun e=>decide (e.on < q.2))=true) (hg:(ops.toList.all fun o=>o.guard.isNone)=true) (hst:AllAt (St17 P Q C) 0 ops.toList)
  (fin:∀ l val w,Fl C l val w→(∀ i,i < 17→l.getD i false=true)→Q .normal (actsL D17 l val (List.range 17) C.a0) w):wpAny P .any ops Q ops.size (Array.replicate ops.size false) C.a0 C.W0:=by
 have hat:∀ (i:Nat) (o:Oper),ops[i]?=some o→ops.toList[i]?=some o:=fun i o h=>(Array.getElem?_toList ..).trans h
 have hD:∀ (i:Nat) (o:Oper),ops[i]?=some o→o.dst=D17 i:=by
  intro i o h
  unfold D17
  rw[← hdst,List.getElem?_map,hat i o h]
  rfl
 refine wpAny_flow D17 hD (fun i j hi hj=>d17_ne i (by omega) j (by omega)) ?_ ?_ C.a0 (Fl C) ?_ ?_ C.W0 (fun _=>undef) ?_
 ·intro i o h e he
  have hm:(o,i) ∈ ops.toList.zipIdx:=List.mem_zipIdx_iff_getElem?.2 (hat i o h)
  have:=List.all_eq_true.1 hac _ hm
  have:=Array.all_eq_true_iff_forall_mem.1 this e he
  simpa using this
 ·intro i o h
  have:=List.all_eq_true.1 hg o (List.mem_of_getElem? (hat i o h))
  simpa using this
 ·intro l val w i o hF hl ho hf hd A K hA hK
  have:=hst.at (hat i o ho)
  rw[Nat.zero_add] at this
  exact this l val w ok hF (by omega) hf hd A K (by rw[hA,h17]) hK
 ·intro l val w hF hall
  rw[h17]
  exact fin l val w hF fun i hi=>hall i (by omega)
 ·have hn:∀ i,(Array.replicate ops.size false).getD i false=false:=by
   intro i
   simp[Array.getD_eq_getD_getElem?,Array.getElem?_replicate]
   split <;> simp
  have hc:∀ i0 i3 i6 n1 n2 xs1 xs2,cur (Array.replicate ops.size false) (fun _=>undef) i0 i3 i6 n1 n2 xs1 xs2=none:=by
   intro i0 i3 i6 n1 n2 xs1 xs2
   unfold cur
   rw[if_neg (by rw[hn];decide),if_neg (by rw[hn];decide),if_neg (by rw[hn];decide)]
  have ab:∀ {p:Prop} {i:Nat},(Array.replicate ops.size false).getD i false=true→p:=fun {p i} h=>by rw[hn] at h;cases h
  exact⟨Below.refl _ _,ab,ab,ab,ab,ab,ab,ab,ab,ab,ab,ab,ab,ab,ab,ab,fun n xs v h=>(by rw[hc] at h;cases h),fun n xs v h=>(by rw[hc] at h;cases h),.inl (by rw[hc];rfl),ab⟩
theorem Fl.all {C:Cx} {l:Array Bool} {val:Nat→Value} {w:World} (hF:Fl C l val w) (h:∀ i,i < 17→l.getD i false=true):∃ k,val 15=.pointer (some ⟨k,0,none⟩)∧w.heap[k]?=some (.cells #[val 6,val 13] 25 (0,0)) ∧
  w.ownsRow C.N 34 6 (val 6) (C.n1+C.n2) (C.xs1++C.xs2)∧w.ownsRow C.N 41 4 (val 13) (C.m1+C.m2) (C.ys1++C.ys2)∧Below C.N C.W0 w:=by
 obtain⟨k,b1,_,_,_,_,_,b7⟩:=hF.box (h 15 (by decide))
 refine⟨k,b1,b7 (h 16 (by decide)),(hF.ownA _ _ _ ?_).1,(hF.ownB _ _ _ ?_).1,hF.below⟩
 ·unfold cur;rw[if_pos (h 6 (by decide))]
 ·unfold cur;rw[if_pos (h 13 (by decide))]
end Go.Proofs.YtdgbajnhhhjbcaaGreatDoor

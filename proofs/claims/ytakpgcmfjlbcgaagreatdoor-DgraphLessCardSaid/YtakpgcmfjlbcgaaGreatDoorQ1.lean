/- Flow@0123 -/
import Derived.Below
import Derived.OwnWalk
import Derived.RegionTactic
import Derived.WalkKit
set_option linter.unusedSimpArgs false
set_option linter.unusedVariables false
namespace Go.Proofs.YtakpgcmfjlbcgaaGreatDoor
open Go.RowKit
theorem putA_comm (a:Act) {d d':Option Tmp} (v v':Value) (h:d≠d'∨d=none):(a.put d v).put d' v'=(a.put d' v').put d v:=by
 cases d with
 | none=>rfl
 | some s=>
  cases d' with
  | none=>rfl
  | some t=>
   have hne:s≠t:=by
    intro e
    rcases h with h | h
    ·exact h (by rw[e])
    ·cases h
   simp only[Act.put,Array.setIfInBounds_comm _ _ hne]
def actsL (D:Nat→Option Tmp) (l:Array Bool) (val:Nat→Value):List Nat→Act→Act
 | [],a=>a
 | i::is,a=>actsL D l val is (if l.getD i false=true then a.put (D i) (val i) else a)
def updV (val:Nat→Value) (i:Nat) (v:Value):Nat→Value:=fun j=>if j=i then v else val j
theorem updV_same (val:Nat→Value) (i:Nat) (v:Value):updV val i v i=v:=if_pos rfl
theorem updV_other (val:Nat→Value) {i j:Nat} (v:Value) (h:j≠i):updV val i v j=val j:=if_neg h
theorem actsL_put {D:Nat→Option Tmp} {l:Array Bool} {val:Nat→Value}:∀ (is:List Nat) (a:Act) (d:Option Tmp) (v:Value),(∀ i ∈ is,D i≠d∨d=none)→actsL D l val is (a.put d v)=(actsL D l val is a).put d v
 | [],_,_,_,_=>rfl
 | i::is,a,d,v,h=>by
  have ih:=fun b=>actsL_put (D:=D) (l:=l) (val:=val) is b d v (fun j hj=>h j (List.mem_cons_of_mem _ hj))
  unfold actsL
  by_cases hi:l.getD i false=true
  ·rw[if_pos hi,if_pos hi,← ih]
   have hc:(a.put d v).put (D i) (val i)=(a.put (D i) (val i)).put d v:=by
    rcases h i (List.mem_cons_self ..) with hh | rfl
    ·exact putA_comm a v (val i) (.inl (Ne.symm hh))
    ·rfl
   rw[hc]
  ·rw[if_neg hi,if_neg hi]
   exact ih a
theorem getD_set {l:Array Bool} {i j:Nat} (h:j≠i):(l.setIfInBounds i true).getD j false=l.getD j false:=by
 simp only[Array.getD_eq_getD_getElem?,Array.getElem?_setIfInBounds_ne (Ne.symm h)]
theorem getD_same {l:Array Bool} {i:Nat} (h:i < l.size):(l.setIfInBounds i true).getD i false=true:=by
 simp[Array.getD_eq_getD_getElem?,Array.getElem?_setIfInBounds_self_of_lt h]
theorem actsL_off {D:Nat→Option Tmp} {l:Array Bool} {val:Nat→Value} {i:Nat} {v:Value}:∀ (is:List Nat) (a:Act),i ∉ is→actsL D (l.setIfInBounds i true) (updV val i v) is a=actsL D l val is a
 | [],_,_=>rfl
 | j::is,a,h=>by
  have hj:j≠i:=fun e=>h (by rw[e];exact List.mem_cons_self ..)
  unfold actsL
  rw[getD_set hj,updV_other val v hj]
  exact actsL_off is _ (fun hh=>h (List.mem_cons_of_mem _ hh))
theorem actsL_set {D:Nat→Option Tmp} {l:Array Bool} {val:Nat→Value} {i:Nat} {v:Value} (hl:l.getD i false=false) (hs:i < l.size):∀ (is:List Nat) (a:Act),is.Nodup→i ∈ is→(∀ j ∈ is,j≠i→D j≠D i∨D i=none) →
  (actsL D l val is a).put (D i) v=actsL D (l.setIfInBounds i true) (updV val i v) is a
 | [],_,_,h,_=>by cases h
 | j::is,a,hn,h,hd=>by
  by_cases hj:j=i
  ·subst hj
   have hni:j ∉ is:=(List.nodup_cons.1 hn).1
   unfold actsL
   rw[if_neg (by rw[hl];simp),if_pos (getD_same hs),updV_same,actsL_off is _ hni]
   exact (actsL_put is a (D j) v fun k hk=>hd k (List.mem_cons_of_mem _ hk) (fun e=>hni (e ▸ hk))).symm
  ·have hi:i ∈ is:=(List.mem_cons.1 h).resolve_left fun e=>hj e.symm
   unfold actsL
   rw[getD_set hj,updV_other val v hj]
   exact actsL_set hl hs is _ (List.nodup_cons.1 hn).2 hi fun k hk=>hd k (List.mem_cons_of_mem _ hk)
theorem put_eval_same {a:Act} {s:Tmp} {v:Value} (h:s < a.tmps.size):(a.put (some s) v).eval (.tmp s)=v:=by
 simp[Act.put,Act.eval,Array.getD_eq_getD_getElem?,Array.getElem?_setIfInBounds_self_of_lt h]
theorem put_eval_other {a:Act} {d:Option Tmp} {s:Tmp} {v:Value} (h:d≠some s):(a.put d v).eval (.tmp s)=a.eval (.tmp s):=by
 cases d with
 | none=>rfl
 | some t=>
  have:t≠s:=fun e=>h (by rw[e])
  simp[Act.put,Act.eval,Array.getD_eq_getD_getElem?,Array.getElem?_setIfInBounds_ne this]
theorem putA_size (a:Act) (d:Option Tmp) (v:Value):(a.put d v).tmps.size=a.tmps.size:=by cases d <;> simp[Act.put]
theorem actsL_far {D:Nat→Option Tmp} {l:Array Bool} {val:Nat→Value} {s:Tmp}:∀ (is:List Nat) (a:Act),(∀ i ∈ is,D i≠some s)→(actsL D l val is a).eval (.tmp s)=a.eval (.tmp s)
 | [],_,_=>rfl
 | i::is,a,h=>by
  unfold actsL
  rw[actsL_far is _ fun j hj=>h j (List.mem_cons_of_mem _ hj)]
  split
  ·exact put_eval_other (h i (List.mem_cons_self ..))
  ·rfl
theorem actsL_eval {D:Nat→Option Tmp} {l:Array Bool} {val:Nat→Value} {i:Nat} {s:Tmp} (hl:l.getD i false=true) (hD:D i=some s):∀ (is:List Nat) (a:Act),i ∈ is→is.Nodup→(∀ j ∈ is,j≠i→D j≠some s)→s < a.tmps.size→(actsL D l val is a).eval (.tmp s)=val i
 | [],_,h,_,_,_=>by cases h
 | j::is,a,h,hn,hd,hs=>by
  by_cases hj:j=i
  ·subst hj
   have hni:j ∉ is:=(List.nodup_cons.1 hn).1
   unfold actsL
   rw[if_pos hl,hD,actsL_far is _ fun k hk=>hd k (List.mem_cons_of_mem _ hk) (fun e=>hni (e ▸ hk))]
   exact put_eval_same hs
  ·have hi:i ∈ is:=(List.mem_cons.1 h).resolve_left fun e=>hj e.symm
   unfold actsL
   refine actsL_eval hl hD is _ hi (List.nodup_cons.1 hn).2 (fun k hk=>hd k (List.mem_cons_of_mem _ hk)) ?_
   split
   ·rw[putA_size];exact hs
   ·exact hs
def cntF (l:Array Bool):Nat:=l.toList.count false
theorem cntF_set {l:Array Bool} {i:Nat} (hi:i < l.size) (hf:l.getD i true=false):cntF (l.setIfInBounds i true)+1=cntF l:=by
 unfold cntF
 have e:l.toList[i]?=some false:=by
  have h2:l[i]?=some l[i]:=Array.getElem?_eq_getElem hi
  have:l[i]=false:=by simpa[Array.getD_eq_getD_getElem?,h2] using hf
  rw[Array.getElem?_toList,h2,this]
 rw[Array.toList_setIfInBounds]
 have hi':i < l.toList.length:=by simpa using hi
 have e':l.toList[i]=false:=(List.getElem?_eq_some_iff.1 e).2
 have hpos:0 < l.toList.count false:=List.count_pos_iff.2 (e' ▸ List.getElem_mem hi')
 rw[List.count_set hi',e']
 have h1:(if (false == false)=true then 1 else 0:Nat)=1:=rfl
 have h2:(if (true == false)=true then 1 else 0:Nat)=0:=rfl
 rw[h1,h2]
 omega
theorem cntF_zero {l:Array Bool} (h:cntF l=0) (i:Nat):l.getD i true=true:=by
 unfold cntF at h
 rw[List.count_eq_zero] at h
 rw[Array.getD_eq_getD_getElem?]
 cases hi:l[i]? with
 | none=>rfl
 | some b=>
  cases b
  ·exact absurd (List.mem_of_getElem? ((Array.getElem?_toList ..).trans hi)) h
  ·rfl
section
variable {P:Program} {ops:Array Oper} {Q:Exit→Act→World→Prop} {md:Region.Mode}
theorem ready_mem {l:Array Bool} {i:Nat} (h:i ∈ Region.ready md ops l):∃ o,ops[i]?=some o∧l.getD i true=false∧∀ e ∈ o.after,Region.binds md e=true→l.getD e.on false=true:=by
 unfold Region.ready at h
 rw[List.mem_filter,List.mem_range,Bool.and_eq_true] at h
 obtain⟨h1,h2,h3⟩:=h
 have ho:ops[i]?=some ops[i]:=Array.getElem?_eq_getElem h1
 refine⟨ops[i],ho,by simpa using h2,fun e he hb=>?_⟩
 rw[ho] at h3
 simp only[Option.map_some,Option.getD_some] at h3
 rw[Array.all_eq_true_iff_forall_mem] at h3
 have:=h3 e he
 rw[hb] at this
 simpa using this
theorem ready_of {l:Array Bool} {i:Nat} {o:Oper} (ho:ops[i]?=some o) (hl:l.getD i true=false) (h:∀ e ∈ o.after,Region.binds md e=true→l.getD e.on false=true):i ∈ Region.ready md ops l:=by
 unfold Region.ready
 rw[List.mem_filter,List.mem_range,Bool.and_eq_true]
 refine⟨(Array.getElem?_eq_some_iff.1 ho).1,by rw[hl];rfl,?_⟩
 rw[ho]
 simp only[Option.map_some,Option.getD_some]
 rw[Array.all_eq_true_iff_forall_mem]
 intro e he
 cases hb:Region.binds md e
 ·rfl
 ·rw[h e he hb];rfl
theorem wpAny_inv (J:Array Bool→Act→World→Prop) (hac:∀ (i:Nat) (o:Oper),ops[i]?=some o→∀ e ∈ o.after,Region.binds md e=true→e.on < i)
  (h1:∀ l a w i o,J l a w→l.size=ops.size→ops[i]?=some o→l.getD i true=false→(∀ e ∈ o.after,Region.binds md e=true→l.getD e.on false=true)→wpOp P ops Q i (J (l.setIfInBounds i true)) a w)
  (h2:∀ l a w,J l a w→(∀ i,i < ops.size→l.getD i false=true)→Q .normal a w):∀ (fuel:Nat) (l:Array Bool) (a:Act) (w:World),J l a w→l.size=ops.size→cntF l≤fuel→wpAny P md ops Q fuel l a w:=by
 have key:∀ (l:Array Bool),l.size=ops.size→Region.ready md ops l=[]→∀ i,i < ops.size→l.getD i false=true:=by
  intro l hs hr i
  induction i using Nat.strongRecOn with
  | _ i ih=>
   intro hi
   have hi':i < l.size:=by omega
   have hx:l[i]?=some l[i]:=Array.getElem?_eq_getElem hi'
   cases hb:l[i] with
   | true=>simp[Array.getD_eq_getD_getElem?,hx,hb]
   | false=>
    have hm:=ready_of (md:=md) (l:=l) (ops:=ops) (Array.getElem?_eq_getElem hi) (by simp[Array.getD_eq_getD_getElem?,hx,hb]) (fun e he hbn=>ih e.on (hac i _ (Array.getElem?_eq_getElem hi) e he hbn) (Nat.lt_trans (hac i _ (Array.getElem?_eq_getElem hi) e he hbn) hi))
    rw[hr] at hm
    cases hm
 intro fuel
 induction fuel with
 | zero=>
  intro l a w hJ hs hc
  have hr:Region.ready md ops l=[]:=by
   cases hh:Region.ready md ops l with
   | nil=>rfl
   | cons x xs=>
    obtain⟨o,_,hf,_⟩:=ready_mem (md:=md) (ops:=ops) (l:=l) (i:=x) (by rw[hh];exact List.mem_cons_self ..)
    rw[cntF_zero (by omega) x] at hf
    cases hf
  exact⟨hr,h2 l a w hJ (key l hs hr)⟩
 | succ fuel ih=>
  intro l a w hJ hs hc
  refine⟨fun hr=>h2 l a w hJ (key l hs hr),fun i hi=>?_⟩
  obtain⟨o,ho,hf,hd⟩:=ready_mem hi
  have hlt:i < l.size:=by rw[hs];exact (Array.getElem?_eq_some_iff.1 ho).1
  refine wpOp_mono (fun a' w' hJ'=>ih _ a' w' hJ' (by simp[hs]) ?_) (h1 l a w i o hJ hs ho hf hd)
  have:=cntF_set hlt hf
  omega
theorem wpAny_flow (D:Nat→Option Tmp) (hD:∀ (i:Nat) (o:Oper),ops[i]?=some o→o.dst=D i) (hne:∀ i j,i < ops.size→j < ops.size→j≠i→D j≠D i∨D i=none)
  (hac:∀ (i:Nat) (o:Oper),ops[i]?=some o→∀ e ∈ o.after,Region.binds md e=true→e.on < i) (hg:∀ (i:Nat) (o:Oper),ops[i]?=some o→o.guard=none) (a0:Act) (F:Array Bool→(Nat→Value)→World→Prop)
  (step:∀ l val w i o,F l val w→l.size=ops.size→ops[i]?=some o→l.getD i false=false→(∀ e ∈ o.after,Region.binds md e=true→l.getD e.on false=true) →
   ∀ (A:Act) (K:Act→World→Prop),A=actsL D l val (List.range ops.size) a0→(∀ v w',F (l.setIfInBounds i true) (updV val i v) w'→K (A.put o.dst v) w')→o.wp P A w K Q)
  (fin:∀ l val w,F l val w→(∀ i,i < ops.size→l.getD i false=true)→Q .normal (actsL D l val (List.range ops.size) a0) w)
  (w:World) (val:Nat→Value) (start:F (Array.replicate ops.size false) val w):wpAny P md ops Q ops.size (Array.replicate ops.size false) a0 w:=by
 refine wpAny_inv (fun l a w=>∃ val,a=actsL D l val (List.range ops.size) a0∧F l val w) hac ?_ ?_ _ _ _ _ ⟨val,?_,start⟩ (by simp) ?_
 ·rintro l a w i o ⟨val,rfl,hF⟩ hs ho hf hd
  have hi:i < ops.size:=(Array.getElem?_eq_some_iff.1 ho).1
  have hf':l.getD i false=false:=by
   have hx:l[i]?=some l[i]:=Array.getElem?_eq_getElem (by omega)
   simp only[Array.getD_eq_getD_getElem?,hx,Option.getD_some] at hf ⊢
   exact hf
  refine wpOp_step ho fun K' hK'=>?_
  rw[if_pos (by simp[Region.wanted,hg i o ho])]
  refine step l val w i o hF hs ho hf' hd _ K' rfl fun v w' hF'=>hK' _ _ ⟨updV val i v,?_,hF'⟩
  rw[hD i o ho]
  exact actsL_set hf' (by omega) _ _ List.nodup_range (List.mem_range.2 hi) fun j hj hji=>hne i j hi (List.mem_range.1 hj) hji
 ·rintro l a w ⟨val,rfl,hF⟩ hall
  exact fin l val w hF hall
 ·have:∀ is:List Nat,∀ a,actsL D (Array.replicate ops.size false) val is a=a:=by
   intro is
   induction is with
   | nil=>intro a;rfl
   | cons i is ih=>
    intro a
    unfold actsL
    rw[if_neg (by simp[Array.getD_eq_getD_getElem?,Array.getElem?_replicate];split <;> simp),ih]
  rw[this]
 ·unfold cntF
  exact Nat.le_trans List.count_le_length (by simp)
end
end Go.Proofs.YtakpgcmfjlbcgaaGreatDoor
namespace Go.Proofs.YtakpgcmfjlbcgaaGreatDoor
open Go.RowKit
def AllG (S:Nat→Oper→Prop):Nat→List Oper→Prop
 | _,[]=>True
 | k,o::os=>S k o∧AllG S (k+1) os
theorem AllG.at {S:Nat→Oper→Prop}:∀ {os:List Oper} {k i:Nat} {o:Oper},AllG S k os→os[i]?=some o→S (k+i) o
 | [],_,_,_,_,h=>by simp at h
 | x::os,k,0,o,h,hi=>by
  have:x=o:=by simpa using hi
  subst this
  exact h.1
 | x::os,k,i+1,o,h,hi=>by
  have:=AllG.at (i:=i) h.2 (by simpa using hi)
  rwa [Nat.add_assoc,Nat.add_comm 1 i] at this
def depG (o:Oper) (j:Nat):Bool:=o.after.any fun e=>e.on == j && Region.binds .any e
theorem depG_of {o:Oper} {j:Nat} (h:depG o j=true) {l:Array Bool} (hd:∀ e ∈ o.after,Region.binds .any e=true→l.getD e.on false=true):l.getD j false=true:=by
 unfold depG at h
 rw[← Array.any_toList,List.any_eq_true] at h
 obtain⟨e,he,h2⟩:=h
 have he:=Array.mem_toList_iff.1 he
 rw[Bool.and_eq_true] at h2
 have e1:e.on=j:=by simpa using h2.1
 rw[← e1]
 exact hd e he h2.2
def slotG (slots:List (Option Tmp)) (i:Nat):Option Tmp:=(slots[i]?).join
def putsA:List (Option Tmp)→(Nat→Value)→Nat→Act→Act
 | [],_,_,a=>a
 | d::ds,val,k,a=>putsA ds val (k+1) (a.put d (val k))
def factG (Rs:List (Value→World→Prop)) (j:Nat) (v:Value) (w:World):Prop:=∀ p,Rs[j]?=some p→p v w
def GStep (P:Program) (Q:Exit→Act→World→Prop) (slots:List (Option Tmp)) (Rs:List (Value→World→Prop)) (a0:Act) (w0:World) (i:Nat) (o:Oper):Prop:=
 ∀ (A:Act) (w:World) (K:Act→World→Prop),Below w0.heap.size w0 w→(∀ s,(some s) ∉ slots→A.tmps[s]?.getD undef=a0.tmps[s]?.getD undef) →
  (∀ j s,slots[j]?=some (some s)→depG o j=true→factG Rs j (A.tmps[s]?.getD undef) w)→(∀ v w',Below w.heap.size w w'→factG Rs i v w'→K (A.put o.dst v) w')→o.wp P A w K Q
def slotsOk (slots:List (Option Tmp)):Bool:=(List.range slots.length).all fun i=>(List.range slots.length).all fun j=>(j == i) || decide (slotG slots j≠slotG slots i) || (slotG slots i).isNone
theorem puts_all {D:Nat→Option Tmp} {l:Array Bool} {val:Nat→Value}:∀ (slots:List (Option Tmp)) (k:Nat) (a:Act),(∀ i,i < slots.length→slots[i]?=some (D (k+i)))→(∀ i,i < slots.length→l.getD (k+i) false=true) →
  actsL D l val ((List.range slots.length).map (k+·)) a=putsA slots val k a
 | [],_,_,_,_=>rfl
 | d::ds,k,a,h1,h2=>by
  rw[List.length_cons,List.range_succ_eq_map,List.map_cons,List.map_map]
  have e0:D (k+0)=d:=by have:=h1 0 (by simp);simpa using this.symm
  have l0:=h2 0 (by simp)
  show actsL D l val (((List.range ds.length).map ((k+·) ∘ Nat.succ))) (if l.getD (k+0) false=true then a.put (D (k+0)) (val (k+0)) else a)=_
  rw[if_pos l0,e0,Nat.add_zero]
  have e:(List.range ds.length).map ((k+·) ∘ Nat.succ)=(List.range ds.length).map ((k+1)+·):=by
   refine List.map_congr_left fun x _=>?_
   show k+(x+1)=k+1+x
   omega
  rw[e]
  exact puts_all ds (k+1) _ (fun i hi=>by have:=h1 (i+1) (by simpa using hi);rw[Nat.add_assoc,Nat.add_comm 1 i];simpa using this) (fun i hi=>by have:=h2 (i+1) (by simpa using hi);rw[Nat.add_assoc,Nat.add_comm 1 i];exact this)
theorem wpAny_grow {P:Program} {ops:Array Oper} {Q:Exit→Act→World→Prop} (slots:List (Option Tmp)) (a0:Act) (w0:World) (Rs:List (Value→World→Prop)) (hdst:ops.toList.map (·.dst)=slots) (hok:slotsOk slots=true)
  (hac:(ops.toList.zipIdx.all fun q=>q.1.after.all fun e=>!Region.binds .any e || decide (e.on < q.2))=true) (hg:(ops.toList.all fun o=>o.guard.isNone)=true)
  (hsz:(slots.all fun d=>match d with | none=>true | some s=>decide (s < a0.tmps.size))=true)
  (mono:∀ p ∈ Rs,∀ v w w',p v w→Below w.heap.size w w'→p v w') (hst:AllG (GStep P Q slots Rs a0 w0) 0 ops.toList)
  (fin:∀ (val:Nat→Value) (w:World),(∀ j s,slots[j]?=some (some s)→factG Rs j (val j) w)→Below w0.heap.size w0 w→Q .normal (putsA slots val 0 a0) w):wpAny P .any ops Q ops.size (Array.replicate ops.size false) a0 w0:=by
 have hat:∀ (i:Nat) (o:Oper),ops[i]?=some o→ops.toList[i]?=some o:=fun i o h=>(Array.getElem?_toList ..).trans h
 have hlen:slots.length=ops.size:=by rw[← hdst];simp
 have hD:∀ (i:Nat) (o:Oper),ops[i]?=some o→o.dst=slotG slots i:=by
  intro i o h
  unfold slotG
  rw[← hdst,List.getElem?_map,hat i o h]
  rfl
 have hS:∀ (i:Nat),i < ops.size→slots[i]?=some (slotG slots i):=by
  intro i hi
  unfold slotG
  rw[List.getElem?_eq_getElem (by omega)]
  rfl
 have hne:∀ i j,i < ops.size→j < ops.size→j≠i→slotG slots j≠slotG slots i∨slotG slots i=none:=by
  intro i j hi hj hji
  unfold slotsOk at hok
  have h1:=List.all_eq_true.1 hok i (List.mem_range.2 (by omega))
  have h2:=List.all_eq_true.1 h1 j (List.mem_range.2 (by omega))
  simp only[Bool.or_eq_true,decide_eq_true_eq,beq_iff_eq,Option.isNone_iff_eq_none] at h2
  rcases h2 with (h2 | h2) | h2
  ·exact absurd h2 hji
  ·exact .inl h2
  ·exact .inr h2
 have hlt:∀ (j:Nat) (s:Tmp),slots[j]?=some (some s)→s < a0.tmps.size:=fun j s h=>by
  have:=List.all_eq_true.1 hsz _ (List.mem_of_getElem? h)
  simpa using this
 refine wpAny_flow (slotG slots) hD hne ?_ ?_ a0 (fun l val w=>Below w0.heap.size w0 w∧∀ j s,slots[j]?=some (some s)→l.getD j false=true→factG Rs j (val j) w) ?_ ?_ w0 (fun _=>undef) ⟨Below.refl _ _,?_⟩
 ·intro i o h e he hbn
  have hm:(o,i) ∈ ops.toList.zipIdx:=List.mem_zipIdx_iff_getElem?.2 (hat i o h)
  have:=List.all_eq_true.1 hac _ hm
  have:=Array.all_eq_true_iff_forall_mem.1 this e he
  rw[hbn] at this
  simpa using this
 ·intro i o h
  have:=List.all_eq_true.1 hg o (List.mem_of_getElem? (hat i o h))
  simpa using this
 ·rintro l val w i o ⟨hb,hF⟩ hl ho hf hd A K hA hK
  have hs:=hst.at (hat i o ho)
  rw[Nat.zero_add] at hs
  have hi:i < ops.size:=(Array.getElem?_eq_some_iff.1 ho).1
  have ev:∀ (B:Act) (s:Tmp),B.tmps[s]?.getD undef=B.eval (.tmp s):=fun B s=>by rw[← Array.getD_eq_getD_getElem?];rfl
  refine hs A w K hb ?_ ?_ ?_
  ·intro s hs
   rw[ev,ev,hA]
   refine actsL_far _ _ fun j hj e=>hs ?_
   rw[← e]
   exact List.mem_of_getElem? (hS j (List.mem_range.1 hj))
  ·intro j s hj hdep
   have hjl:=depG_of hdep hd
   have hjs:j < ops.size:=by rw[← hlen];exact (List.getElem?_eq_some_iff.1 hj).1
   have hsl:slotG slots j=some s:=by unfold slotG;rw[hj];rfl
   rw[ev,hA,actsL_eval hjl hsl _ _ (List.mem_range.2 hjs) List.nodup_range (fun k hk hkj e=>?_) (hlt j s hj)]
   ·exact hF j s hj hjl
   ·rcases hne j k hjs (List.mem_range.1 hk) hkj with h | h
    ·exact h (e.trans hsl.symm)
    ·rw[hsl] at h;cases h
  ·intro v w' hb' hR
   refine hK v w' ⟨hb.trans (hb'.mono hb.size),fun j s hj hjl=>?_⟩
   by_cases e:j=i
   ·subst e;rw[updV_same];exact hR
   ·rw[getD_set e] at hjl
    rw[updV_other _ _ e]
    exact fun p hp=>mono p (List.mem_of_getElem? hp) _ _ _ (hF j s hj hjl p hp) hb'
 ·rintro l val w ⟨hb,hF⟩ hall
  have h1:∀ i,i < slots.length→slots[i]?=some (slotG slots (0+i)):=fun i hi=>by rw[Nat.zero_add];exact hS i (by omega)
  have h2:∀ i,i < slots.length→l.getD (0+i) false=true:=fun i hi=>by rw[Nat.zero_add];exact hall i (by omega)
  have e:(List.range slots.length).map (0+·)=List.range ops.size:=by rw[hlen];simp
  have:=puts_all (D:=slotG slots) (l:=l) (val:=val) slots 0 a0 h1 h2
  rw[e] at this
  rw[this]
  exact fin val w (fun j s hj=>hF j s hj (hall j (by rw[← hlen];exact (List.getElem?_eq_some_iff.1 hj).1))) hb
 ·intro j s hj h
  exfalso
  have:(Array.replicate ops.size false).getD j false=false:=by
   simp[Array.getD_eq_getD_getElem?,Array.getElem?_replicate]
   split <;> simp
  rw[this] at h
  cases h
theorem factG_mk {Rs:List (Value→World→Prop)} {i:Nat} {p:Value→World→Prop} {v:Value} {w:World} (h:Rs[i]?=some p) (hp:p v w):factG Rs i v w:=fun q hq=>by
 rw[h] at hq
 cases hq
 exact hp
end Go.Proofs.YtakpgcmfjlbcgaaGreatDoor

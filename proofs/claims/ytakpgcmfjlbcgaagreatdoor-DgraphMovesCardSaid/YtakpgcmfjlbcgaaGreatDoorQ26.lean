/- Spr@23, Laid@23, Chain@23, ChainA@23 -/
import Derived.Test.YtakpgcmfjlbcgaaGreatDoorQ25
set_option linter.unusedSimpArgs false
set_option linter.unusedVariables false
namespace Go.Proofs.YtakpgcmfjlbcgaaGreatDoor
open Go.RowKit
section
variable {P:Program} (w:World)
end
theorem wp_make_any {P:Program} (w:World) {o:Oper} {a:Act} {K:Act→World→Prop} {Q:Exit→Act→World→Prop} (l c:Operand) (t:TypeId) (hop:o.op=Op.makeSlice t l c)
  (base:Nat) (e:TypeId) (i:TypeInfo) (z:Value) (size:Nat) (h1:P.underlying t=some (.slice e)) (h2:P.info? e=some i) (h3:i.zero=some z) (h4:i.size=size)
  (kl kc:IntKind) (n:Nat) (hl:a.eval l=.int kl 0) (hc:a.eval c=.int kc (n:Int)) (b2:i.bytes * n≤281474976710656) (b3:n≤maxLen) (b4:base≤w.heap.size)
  (hK:∀ w',w'.ownsRow base e size (.slice (some ⟨w.heap.size,0,none⟩) 0 n) 0 []→w.grownBy w' none→K (a.put o.dst (.slice (some ⟨w.heap.size,0,none⟩) 0 n)) w'):o.wp P a w K Q:=by
 obtain⟨w',hrun,r1,r2⟩:=run_make_own (P:=P) w base t e i z size h1 h2 h3 h4 kl kc n b2 b3 b4
 unfold Oper.wp
 simp[execOp,hop,hl,hc,hrun,Result.andThen]
 exact hK w' r1 r2
end Go.Proofs.YtakpgcmfjlbcgaaGreatDoor
namespace Go.Proofs.YtakpgcmfjlbcgaaGreatDoor
open Go.RowKit Go.Deep
theorem ru_one {w:World} {B:Nat} (x:Ru) (cs:List Value) (h:RuC w B x cs):∀ u ∈ cs,u.oneCell'=true:=by
 obtain⟨o0,k0,o1,k1,rfl,_⟩:=h.look
 intro y hy
 simp only[List.mem_cons,List.mem_nil_iff,or_false] at hy
 rcases hy with rfl | rfl | rfl | rfl <;> rfl
end Go.Proofs.YtakpgcmfjlbcgaaGreatDoor
namespace Go.Proofs.YtakpgcmfjlbcgaaGreatDoor
open Go.RowKit
theorem factV_mk {Rs:List (Value→Prop)} {i:Nat} {p:Value→Prop} {v:Value} (h:Rs[i]?=some p) (hp:p v):factV Rs i v:=fun q hq=>by
 rw[h] at hq
 cases hq
 exact hp
theorem XStep.c {P:Program} {Q:Exit→Act→World→Prop} {slots:List (Option Tmp)} {ch:List Nat} {Rs:List (Value→Prop)} {Sg:Nat→(Nat→Value)→World→Prop} {T:Nat→Prop} {a0:Act} {w0:World} {i:Nat} {o:Oper} (k:Nat) (h:chIdx ch i=some k) (hd:((List.range k).all fun j=>!(j+1 == k) || (match ch[j]? with | some c=>depG o c | none=>true))=true) (hc:CStep P Q slots ch Rs Sg T a0 w0 k i o):XStep P Q slots ch Rs Sg T a0 w0 i o:=
 ⟨fun h'=>(by rw[h] at h';cases h'),fun k' hk=>by
  rw[h] at hk
  cases hk
  refine⟨fun j c e hj=>?_,hc⟩
  have:=List.all_eq_true.1 hd j (List.mem_range.2 (by omega))
  rw[hj] at this
  simpa[e] using this⟩
theorem chIdx_some {ch:List Nat} {i k:Nat} (h:chIdx ch i=some k):ch[k]?=some i:=by
 obtain⟨hk,h1,_⟩:=List.findIdx?_eq_some_iff_getElem.1 h
 rw[List.getElem?_eq_getElem hk]
 congr 1
 simpa using h1
theorem chIdx_none {ch:List Nat} {i:Nat} (h:chIdx ch i=none):i ∉ ch:=by
 intro hm
 unfold chIdx at h
 rw[List.findIdx?_eq_none_iff] at h
 have:=h i hm
 simp at this
theorem nodup_uniq:∀ {l:List Nat} {j k c:Nat},l.Nodup→l[j]?=some c→l[k]?=some c→j=k
 | [],_,_,_,_,h,_=>by simp at h
 | x::l,0,0,_,_,_,_=>rfl
 | x::l,0,k+1,c,hn,h1,h2=>by
  obtain rfl:x=c:=by simpa using h1
  exact absurd (List.mem_of_getElem? (by simpa using h2)) (List.nodup_cons.1 hn).1
 | x::l,j+1,0,c,hn,h1,h2=>by
  obtain rfl:x=c:=by simpa using h2
  exact absurd (List.mem_of_getElem? (by simpa using h1)) (List.nodup_cons.1 hn).1
 | x::l,j+1,k+1,c,hn,h1,h2=>by
  have:=nodup_uniq (l:=l) (j:=j) (k:=k) (c:=c) (List.nodup_cons.1 hn).2 (by simpa using h1) (by simpa using h2)
  omega
end Go.Proofs.YtakpgcmfjlbcgaaGreatDoor
namespace Go.Proofs.YtakpgcmfjlbcgaaGreatDoor
open Go.RowKit
def AStep (P:Program) (Q:Exit→Act→World→Prop) (slots:List (Option Tmp)) (Rs:List (Value→Prop)) (T:Nat→Prop) (alP:Value→World→Prop) (a0:Act) (w0:World) (i:Nat) (o:Oper):Prop:=
 ∀ (A:Act) (w:World) (K:Act→World→Prop),Kp T w0 w→(∀ s,(some s) ∉ slots→A.tmps[s]?.getD undef=a0.tmps[s]?.getD undef) →
  (∀ j s,slots[j]?=some (some s)→depG o j=true→factV Rs j (A.tmps[s]?.getD undef))→(∀ v w',Below w.heap.size w w'→factV Rs i v→alP v w'→K (A.put o.dst v) w')→o.wp P A w K Q
def CStepA (P:Program) (Q:Exit→Act→World→Prop) (slots:List (Option Tmp)) (ch:List Nat) (Rs:List (Value→Prop)) (Sg:Nat→(Nat→Value)→World→Prop) (T:Nat→Prop) (al:Nat) (alP:Value→World→Prop) (a0:Act) (w0:World) (k i:Nat) (o:Oper):Prop:=
 ∀ (A:Act) (w:World) (val:Nat→Value) (K:Act→World→Prop),Kp T w0 w→(∀ s,(some s) ∉ slots→A.tmps[s]?.getD undef=a0.tmps[s]?.getD undef) →
  (∀ j s,slots[j]?=some (some s)→depG o j=true→factV Rs j (A.tmps[s]?.getD undef)∧A.tmps[s]?.getD undef=val j)→Sg k val w→(depG o al=true→alP (val al) w) →
  (∀ v w',Kp T w0 w'→factV Rs i v→Sg (k+1) (updV val i v) w'→(∀ u,alP u w→alP u w')→K (A.put o.dst v) w')→o.wp P A w K Q
def XStepA (P:Program) (Q:Exit→Act→World→Prop) (slots:List (Option Tmp)) (ch:List Nat) (Rs:List (Value→Prop)) (Sg:Nat→(Nat→Value)→World→Prop) (T:Nat→Prop) (al:Nat) (alP:Value→World→Prop) (a0:Act) (w0:World) (i:Nat) (o:Oper):Prop:=
 (i=al→AStep P Q slots Rs T alP a0 w0 i o)∧(i≠al→chIdx ch i=none→PStep P Q slots Rs T a0 w0 i o)∧∀ k,chIdx ch i=some k→(∀ j c,k=j+1→ch[j]?=some c→depG o c=true)∧CStepA P Q slots ch Rs Sg T al alP a0 w0 k i o
section
variable {P:Program} {Q:Exit→Act→World→Prop} {slots:List (Option Tmp)} {ch:List Nat} {Rs:List (Value→Prop)} {Sg:Nat→(Nat→Value)→World→Prop} {T:Nat→Prop} {al:Nat} {alP:Value→World→Prop} {a0:Act} {w0:World} {i:Nat} {o:Oper}
theorem XStepA.p (hi:i≠al) (h:chIdx ch i=none) (hp:PStep P Q slots Rs T a0 w0 i o):XStepA P Q slots ch Rs Sg T al alP a0 w0 i o:=
 ⟨fun e=>absurd e hi,fun _ _=>hp,fun k hk=>by rw[h] at hk;cases hk⟩
theorem XStepA.a (hi:i=al) (h:chIdx ch i=none) (hp:AStep P Q slots Rs T alP a0 w0 i o):XStepA P Q slots ch Rs Sg T al alP a0 w0 i o:=
 ⟨fun _=>hp,fun e=>absurd hi e,fun k hk=>by rw[h] at hk;cases hk⟩
theorem XStepA.c (k:Nat) (h:chIdx ch i=some k) (hd:((List.range k).all fun j=>!(j+1 == k) || (match ch[j]? with | some c=>depG o c | none=>true))=true) (hn:al ∉ ch) (hc:CStepA P Q slots ch Rs Sg T al alP a0 w0 k i o):XStepA P Q slots ch Rs Sg T al alP a0 w0 i o:=
 ⟨fun e=>absurd (List.mem_of_getElem? (chIdx_some h)) (by rw[e];exact hn),fun _ h'=>(by rw[h] at h';cases h'),fun k' hk=>by
  rw[h] at hk
  cases hk
  refine⟨fun j c e hj=>?_,hc⟩
  have:=List.all_eq_true.1 hd j (List.mem_range.2 (by omega))
  rw[hj] at this
  simpa[e] using this⟩
end
theorem wpAny_chainA {P:Program} {ops:Array Oper} {Q:Exit→Act→World→Prop} (slots:List (Option Tmp)) (ch:List Nat) (a0:Act) (w0:World) (Rs:List (Value→Prop)) (Sg:Nat→(Nat→Value)→World→Prop) (T:Nat→Prop) (al:Nat) (alP:Value→World→Prop) (hal:al ∉ ch)
  (hsgB:∀ k val w w',Sg k val w→Below w.heap.size w w'→Sg k val w')
  (hdst:ops.toList.map (·.dst)=slots) (hok:slotsOk slots=true)
  (hac:(ops.toList.zipIdx.all fun q=>q.1.after.all fun e=>!Region.binds .any e || decide (e.on < q.2))=true) (hg:(ops.toList.all fun o=>o.guard.isNone)=true)
  (hsz:(slots.all fun d=>match d with | none=>true | some s=>decide (s < a0.tmps.size))=true) (hnd:ch.Nodup) (hin:∀ c ∈ ch,c < ops.size)
  (hsg:∀ k val val' w,(∀ c ∈ ch,val c=val' c)→(k=ch.length→val al=val' al)→Sg k val w→Sg k val' w) (hdl:∀ c o,ch[ch.length - 1]?=some c→ops[c]?=some o→depG o al=true) (hne0:0 < ch.length) (start:Sg 0 (fun _=>undef) w0)
  (hst:AllG (XStepA P Q slots ch Rs Sg T al alP a0 w0) 0 ops.toList)
  (fin:∀ (val:Nat→Value) (w:World),(∀ j s,slots[j]?=some (some s)→factV Rs j (val j))→Kp T w0 w→Sg ch.length val w→(al < ops.size→alP (val al) w)→Q .normal (putsA slots val 0 a0) w):wpAny P .any ops Q ops.size (Array.replicate ops.size false) a0 w0:=by
 have hat:∀ (i:Nat) (o:Oper),ops[i]?=some o→ops.toList[i]?=some o:=fun i o h=>(Array.getElem?_toList ..).trans h
 have hlen:slots.length=ops.size:=by rw[← hdst];simp
 have hD:∀ (i:Nat) (o:Oper),ops[i]?=some o→o.dst=slotG slots i:=by
  intro i o h
  unfold slotG
  rw[← hdst,List.getElem?_map,hat i o h]
  rfl
 have hS:∀ (i:Nat),i < ops.size→slots[i]?=some (slotG slots i):=by
  intro i hi
  unfold slotG
  rw[List.getElem?_eq_getElem (by omega)]
  rfl
 have hne:∀ i j,i < ops.size→j < ops.size→j≠i→slotG slots j≠slotG slots i∨slotG slots i=none:=by
  intro i j hi hj hji
  unfold slotsOk at hok
  have h1:=List.all_eq_true.1 hok i (List.mem_range.2 (by omega))
  have h2:=List.all_eq_true.1 h1 j (List.mem_range.2 (by omega))
  simp only[Bool.or_eq_true,decide_eq_true_eq,beq_iff_eq,Option.isNone_iff_eq_none] at h2
  rcases h2 with (h2 | h2) | h2
  ·exact absurd h2 hji
  ·exact .inl h2
  ·exact .inr h2
 have hlt:∀ (j:Nat) (s:Tmp),slots[j]?=some (some s)→s < a0.tmps.size:=fun j s h=>by
  have:=List.all_eq_true.1 hsz _ (List.mem_of_getElem? h)
  simpa using this
 have repF:∀ j,(Array.replicate ops.size false).getD j false=false:=by
  intro j
  simp[Array.getD_eq_getD_getElem?,Array.getElem?_replicate]
  split <;> simp
 have uniq:∀ {j k c:Nat},ch[j]?=some c→ch[k]?=some c→j=k:=by
  intro j k c h1 h2
  exact nodup_uniq hnd h1 h2
 refine wpAny_flow (slotG slots) hD hne ?_ ?_ a0 (fun l val w=>Kp T w0 w∧(∀ j s,slots[j]?=some (some s)→l.getD j false=true→factV Rs j (val j))∧(∀ j c c',ch[j+1]?=some c→ch[j]?=some c'→l.getD c false=true→l.getD c' false=true) ∧
   (∀ k,k≤ch.length→(∀ j c,k=j+1→ch[j]?=some c→l.getD c false=true)→(∀ c,ch[k]?=some c→l.getD c false=false)→Sg k val w)∧(l.getD al false=true→alP (val al) w)∧∀ c,ch[ch.length - 1]?=some c→l.getD c false=true→l.getD al false=true) ?_ ?_ w0 (fun _=>undef) ⟨.refl _ _,?_,?_,?_,?_,?_⟩
 ·intro i o h e he hbn
  have hm:(o,i) ∈ ops.toList.zipIdx:=List.mem_zipIdx_iff_getElem?.2 (hat i o h)
  have:=List.all_eq_true.1 hac _ hm
  have:=Array.all_eq_true_iff_forall_mem.1 this e he
  rw[hbn] at this
  simpa using this
 ·intro i o h
  have:=List.all_eq_true.1 hg o (List.mem_of_getElem? (hat i o h))
  simpa using this
 ·rintro l val w i o ⟨hb,hF,hcl,hsgk,hAl,hLast⟩ hl ho hf hd A K hA hK
  have hs:=hst.at (hat i o ho)
  rw[Nat.zero_add] at hs
  have hi:i < ops.size:=(Array.getElem?_eq_some_iff.1 ho).1
  have ev:∀ (B:Act) (s:Tmp),B.tmps[s]?.getD undef=B.eval (.tmp s):=fun B s=>by rw[← Array.getD_eq_getD_getElem?];rfl
  have far:∀ s,(some s) ∉ slots→A.tmps[s]?.getD undef=a0.tmps[s]?.getD undef:=by
   intro s hs
   rw[ev,ev,hA]
   refine actsL_far _ _ fun j hj e=>hs ?_
   rw[← e]
   exact List.mem_of_getElem? (hS j (List.mem_range.1 hj))
  have near:∀ j s,slots[j]?=some (some s)→depG o j=true→A.tmps[s]?.getD undef=val j∧l.getD j false=true:=by
   intro j s hj hdep
   have hjl:=depG_of hdep hd
   have hjs:j < ops.size:=by rw[← hlen];exact (List.getElem?_eq_some_iff.1 hj).1
   have hsl:slotG slots j=some s:=by unfold slotG;rw[hj];rfl
   refine⟨?_,hjl⟩
   rw[ev,hA,actsL_eval hjl hsl _ _ (List.mem_range.2 hjs) List.nodup_range (fun k hk hkj e=>?_) (hlt j s hj)]
   rcases hne j k hjs (List.mem_range.1 hk) hkj with h | h
   ·exact h (e.trans hsl.symm)
   ·rw[hsl] at h;cases h
  have facts:∀ (v:Value),factV Rs i v→∀ j s,slots[j]?=some (some s)→(l.setIfInBounds i true).getD j false=true→factV Rs j (updV val i v j):=by
   intro v hv j s hj hjl
   by_cases e:j=i
   ·subst e;rw[updV_same];exact hv
   ·rw[getD_set e] at hjl
    rw[updV_other _ _ e]
    exact hF j s hj hjl
  have hLast':∀ c,ch[ch.length - 1]?=some c→(l.setIfInBounds i true).getD c false=true→(l.setIfInBounds i true).getD al false=true:=by
   intro c hc h
   have key:l.getD al false=true→(l.setIfInBounds i true).getD al false=true:=fun h=>by
    by_cases e:al=i
    ·rw[e];exact getD_same (by omega)
    ·rw[getD_set e];exact h
   by_cases e:c=i
   ·subst e
    exact key (depG_of (hdl c o hc ho) hd)
   ·rw[getD_set e] at h
    exact key (hLast c hc h)
  by_cases hia:i=al
  ·subst hia
   have off:∀ c ∈ ch,(l.setIfInBounds i true).getD c false=l.getD c false:=fun c hm=>getD_set (by rintro rfl;exact hal hm)
   refine hs.1 rfl A w K hb far (fun j s hj hdep=>by rw[(near j s hj hdep).1];exact hF j s hj (near j s hj hdep).2) fun v w' hgw hv hAv=>hK v w' ⟨⟨hgw.os.trans hb.os,hgw.tape.trans hb.tape,hgw.output.trans hb.output,Nat.le_trans hb.size hgw.size,fun q hq hT=>(hgw.block q (Nat.lt_of_lt_of_le hq hb.size)).trans (hb.block q hq hT)⟩,facts v hv,?_,?_,fun _=>by rw[updV_same];exact hAv,hLast'⟩
   ·intro j c c' h1 h2
    rw[off c (List.mem_of_getElem? h1),off c' (List.mem_of_getElem? h2)]
    exact hcl j c c' h1 h2
   ·intro k hk h1 h2
    refine hsgB k _ w w' (hsg k val _ w (fun c hm=>(updV_other val v (by rintro rfl;exact hal hm)).symm) (fun e=>by
     subst e
     have hx:ch[ch.length - 1]?=some ch[ch.length - 1]:=List.getElem?_eq_getElem (by omega)
     have h3:=h1 (ch.length - 1) _ (by omega) hx
     rw[off _ (List.mem_of_getElem? hx)] at h3
     have:=hLast _ hx h3
     rw[hf] at this
     cases this) (hsgk k hk (fun j c e hj=>?_) (fun c hj=>?_))) hgw
    ·have:=h1 j c e hj
     rwa [off c (List.mem_of_getElem? hj)] at this
    ·have:=h2 c hj
     rwa [off c (List.mem_of_getElem? hj)] at this
  have hAl':∀ v,(l.setIfInBounds i true).getD al false=true→alP (updV val i v al) w:=fun v h=>by
   rw[getD_set (Ne.symm hia)] at h
   rw[updV_other _ _ (Ne.symm hia)]
   exact hAl h
  cases hc:chIdx ch i with
  | none=>
   have hni:=chIdx_none hc
   have off:∀ c ∈ ch,(l.setIfInBounds i true).getD c false=l.getD c false:=fun c hm=>getD_set (by rintro rfl;exact hni hm)
   refine hs.2.1 hia hc A w K hb far (fun j s hj hdep=>by rw[(near j s hj hdep).1];exact hF j s hj (near j s hj hdep).2) fun v hv=>hK v w ⟨hb,facts v hv,?_,?_,hAl' v,hLast'⟩
   ·intro j c c' h1 h2
    rw[off c (List.mem_of_getElem? h1),off c' (List.mem_of_getElem? h2)]
    exact hcl j c c' h1 h2
   ·intro k hk h1 h2
    refine hsg k val _ w (fun c hm=>(updV_other val v (by rintro rfl;exact hni hm)).symm) (fun _=>(updV_other val v (Ne.symm hia)).symm) (hsgk k hk (fun j c e hj=>?_) (fun c hj=>?_))
    ·have:=h1 j c e hj
     rwa [off c (List.mem_of_getElem? hj)] at this
    ·have:=h2 c hj
     rwa [off c (List.mem_of_getElem? hj)] at this
  | some k=>
   obtain⟨hdep,hcs⟩:=hs.2.2 k hc
   have hki:=chIdx_some hc
   have hkl:k < ch.length:=(List.getElem?_eq_some_iff.1 hki).1
   have prev:∀ j c,k=j+1→ch[j]?=some c→l.getD c false=true:=fun j c e hj=>depG_of (hdep j c e hj) hd
   -- all that stands ahead of it in the chain has run, nothing behind it has
   have ahead:∀ d j c,j+d+1=k→ch[j]?=some c→l.getD c false=true:=by
    intro d
    induction d with
    | zero=>intro j c e hj;exact prev j c (by omega) hj
    | succ d ih=>
     intro j c e hj
     have hj1:j+1 < ch.length:=by omega
     have hx:ch[j+1]?=some ch[j+1]:=List.getElem?_eq_getElem hj1
     exact hcl j _ c hx hj (ih (j+1) _ (by omega) hx)
   have behind:∀ d j c,j=k+d→ch[j]?=some c→l.getD c false=false:=by
    intro d
    induction d with
    | zero=>
     intro j c e hj
     obtain rfl:j=k:=by omega
     rw[hki] at hj
     cases hj
     exact hf
    | succ d ih=>
     intro j c e hj
     cases hh:l.getD c false with
     | false=>rfl
     | true=>
      have hj1:k+d < ch.length:=by have:=(List.getElem?_eq_some_iff.1 hj).1;omega
      have hx:ch[k+d]?=some ch[k+d]:=List.getElem?_eq_getElem hj1
      have h1:=hcl (k+d) c _ (by rw[show k+d+1=j by omega];exact hj) hx hh
      rw[ih (k+d) _ rfl hx] at h1
      cases h1
   refine hcs A w val K hb far (fun j s hj hdep=>⟨by rw[(near j s hj hdep).1];exact hF j s hj (near j s hj hdep).2,(near j s hj hdep).1⟩) (hsgk k (by omega) prev (fun c hj=>behind 0 k c rfl hj)) (fun h=>hAl (depG_of h hd)) fun v w' hb' hv hsg' hkp=>hK v w' ⟨hb',facts v hv,?_,?_,fun h=>hkp _ (hAl' v h),hLast'⟩
   ·intro j c c' h1 h2 h3
    by_cases e:c=i
    ·subst e
     have:=uniq h1 hki
     have hc':c'≠c:=by rintro rfl;have:=uniq h2 hki;omega
     rw[getD_set hc']
     exact ahead 0 j c' (by omega) h2
    ·rw[getD_set e] at h3
     by_cases e':c'=i
     ·subst e';exact getD_same (by omega)
     ·rw[getD_set e'];exact hcl j c c' h1 h2 h3
   ·intro k' hk' h1 h2
    have hkk:k'=k+1:=by
     rcases Nat.lt_trichotomy k' (k+1) with h | h | h
     ·exfalso
      rcases Nat.lt_or_ge k' k with h' | h'
      ·have hx:ch[k']?=some ch[k']:=List.getElem?_eq_getElem (by omega)
       have h3:=h2 _ hx
       have hne':ch[k']≠i:=by intro e;rw[e] at hx;have:=uniq hx hki;omega
       rw[getD_set hne',ahead (k - k' - 1) k' _ (by omega) hx] at h3
       cases h3
      ·obtain rfl:k'=k:=by omega
       have h3:=h2 i hki
       rw[getD_same (by omega)] at h3
       cases h3
     ·exact h
     ·exfalso
      have hx:ch[k' - 1]?=some ch[k' - 1]:=List.getElem?_eq_getElem (by omega)
      have h3:=h1 (k' - 1) _ (by omega) hx
      have hne':ch[k' - 1]≠i:=by intro e;rw[e] at hx;have:=uniq hx hki;omega
      rw[getD_set hne',behind (k' - 1 - k) (k' - 1) _ (by omega) hx] at h3
      cases h3
    subst hkk
    exact hsg'
 ·rintro l val w ⟨hb,hF,hcl,hsgk,hAl,_⟩ hall
  have h1:∀ i,i < slots.length→slots[i]?=some (slotG slots (0+i)):=fun i hi=>by rw[Nat.zero_add];exact hS i (by omega)
  have h2:∀ i,i < slots.length→l.getD (0+i) false=true:=fun i hi=>by rw[Nat.zero_add];exact hall i (by omega)
  have e:(List.range slots.length).map (0+·)=List.range ops.size:=by rw[hlen];simp
  have:=puts_all (D:=slotG slots) (l:=l) (val:=val) slots 0 a0 h1 h2
  rw[e] at this
  rw[this]
  exact fin val w (fun j s hj=>hF j s hj (hall j (by rw[← hlen];exact (List.getElem?_eq_some_iff.1 hj).1))) hb
   (hsgk _ (Nat.le_refl _) (fun j c _ hj=>hall c (hin c (List.mem_of_getElem? hj))) (fun c hj=>by rw[List.getElem?_eq_none (Nat.le_refl _)] at hj;cases hj)) (fun h=>hAl (hall al h))
 ·intro j s hj h
  rw[repF] at h
  cases h
 ·intro j c c' _ _ h
  rw[repF] at h
  cases h
 ·intro k hk h1 h2
  cases k with
  | zero=>exact start
  | succ k=>
   have hx:ch[k]?=some ch[k]:=List.getElem?_eq_getElem (by omega)
   have:=h1 k _ rfl hx
   rw[repF] at this
   cases this
 ·intro h
  rw[repF] at h
  cases h
 ·intro c _ h
  rw[repF] at h
  cases h
end Go.Proofs.YtakpgcmfjlbcgaaGreatDoor

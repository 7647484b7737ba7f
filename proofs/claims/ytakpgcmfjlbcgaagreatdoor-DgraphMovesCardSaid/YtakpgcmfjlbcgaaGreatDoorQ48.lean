/- Ymv@3, Gm2@3, Gl@3, Chain@3 -/
import Derived.Test.YtakpgcmfjlbcgaaGreatDoorQ46
import Derived.Test.YtakpgcmfjlbcgaaGreatDoorQ47
set_option linter.unusedSimpArgs false
set_option linter.unusedVariables false
namespace Go.Proofs.YtakpgcmfjlbcgaaGreatDoor
open Go.RowKit
theorem swap_mem {α:Type} {l:List α} {m n:Nat} {x y:α} (hm:l[m]?=some x) (hn:l[n]?=some y) (z:α):z ∈ (l.set m y).set n x ↔ z ∈ l:=by
 have hml:=(List.getElem?_eq_some_iff.1 hm).1
 have hnl:=(List.getElem?_eq_some_iff.1 hn).1
 rw[List.mem_iff_getElem?,List.mem_iff_getElem?]
 have get:∀ i,((l.set m y).set n x)[i]?=if i=n then some x else if i=m then some y else l[i]?:=by
  intro i
  by_cases h1:i=n
  ·subst h1;rw[if_pos rfl,List.getElem?_set_self (by simp;exact hnl)]
  ·rw[if_neg h1,List.getElem?_set_ne (Ne.symm h1)]
   by_cases h2:i=m
   ·subst h2;rw[if_pos rfl,List.getElem?_set_self hml]
   ·rw[if_neg h2,List.getElem?_set_ne (Ne.symm h2)]
 constructor
 ·rintro⟨i,hi⟩
  rw[get] at hi
  split at hi
  ·cases hi;exact⟨m,hm⟩
  ·split at hi
   ·cases hi;exact⟨n,hn⟩
   ·exact⟨i,hi⟩
 ·rintro⟨i,hi⟩
  by_cases h1:i=m
  ·subst h1;rw[hm] at hi;cases hi;exact⟨n,by rw[get,if_pos rfl]⟩
  ·by_cases h2:i=n
   ·subst h2
    rw[hn] at hi
    cases hi
    exact⟨m,by rw[get,if_neg (Ne.symm h1),if_pos rfl]⟩
   ·exact⟨i,by rw[get,if_neg h2,if_neg h1];exact hi⟩
theorem rch_same {E E':Ed} (h:∀ x,x ∈ E ↔ x ∈ E'):Rch E=Rch E':=by
 funext a b
 exact propext ⟨Rch.mono fun x hx=>(h x).1 hx,Rch.mono fun x hx=>(h x).2 hx⟩
theorem mut_same {E E':Ed} (h:∀ x,x ∈ E ↔ x ∈ E'):Mut E=Mut E':=by
 funext a b
 unfold Mut
 rw[rch_same h]
theorem grpR_same {E E':Ed} (h:∀ x,x ∈ E ↔ x ∈ E') (n:Nat):GrpR E n=GrpR E' n:=by
 have hg:grpG E n=grpG E' n:=by
  funext a
  unfold grpG mutB
  rw[mut_same h]
 have hp:pickG E n=pickG E' n:=by
  funext D
  unfold pickG nextB NextG
  rw[mut_same h,rch_same h]
 have key:∀ {E E':Ed},grpG E n=grpG E' n→pickG E n=pickG E' n→∀ {D L},GrpR E n D L→GrpR E' n D L:=by
  intro E E' hg hp D L hR
  induction hR with
  | stop h1=>exact .stop (by rw[← hp];exact h1)
  | more h1 _ ih=>rw[hg] at ih ⊢;exact .more (by rw[← hp];exact h1) ih
 funext D L
 exact propext ⟨key hg hp,key hg.symm hp.symm⟩
theorem gra_moves {p:Pg} {l:List Ru} (hl:l.length=p.rules.length) (hm:∀ r,r ∈ l ↔ r ∈ p.rules) {L L':List (List Nat)} {ln ln' e e':Int} (h:GrA (ChA p) p L ln e) (h':GrA (ChA ⟨p.decls,l⟩) ⟨p.decls,l⟩ L' ln' e'):(e=0 ↔ e'=0)∧L=L':=by
 have h1:e=0→e'=0:=fun he=>by subst he;exact gra_less (by omega) (fun r hr=>(hm r).1 hr) h h'
 have h2:e'=0→e=0:=fun he=>by
  subst he
  exact gra_less (p:=⟨p.decls,l⟩) (l:=p.rules) (by show p.rules.length≤l.length;omega) (fun r hr=>(hm r).2 hr) h' h
 refine⟨⟨h1,h2⟩,?_⟩
 by_cases he:e=0
 ·have he':=h1 he
  subst he he'
  obtain⟨_,_,g1⟩:=gra_ok h
  obtain⟨_,_,g2⟩:=gra_ok h'
  have hE:∀ x,x ∈ edgesG p ↔ x ∈ edgesG ⟨p.decls,l⟩:=fun x=>⟨edgesG_sub (ds:=p.decls) (fun r hr=>(hm r).2 hr) x,edgesG_sub (ds:=p.decls) (fun r hr=>(hm r).1 hr) x⟩
  rw[grpR_same hE] at g1
  exact grpR_one g1 g2
 ·rw[gra_no h he,gra_no h' fun k=>he (h2 k)]
theorem wpAny_chain {P:Program} {ops:Array Oper} {Q:Exit→Act→World→Prop} (slots:List (Option Tmp)) (ch:List Nat) (a0:Act) (w0:World) (Rs:List (Value→Prop)) (Sg:Nat→(Nat→Value)→World→Prop) (T:Nat→Prop)
  (hdst:ops.toList.map (·.dst)=slots) (hok:slotsOk slots=true)
  (hac:(ops.toList.zipIdx.all fun q=>q.1.after.all fun e=>!Region.binds .any e || decide (e.on < q.2))=true) (hg:(ops.toList.all fun o=>o.guard.isNone)=true)
  (hsz:(slots.all fun d=>match d with | none=>true | some s=>decide (s < a0.tmps.size))=true) (hnd:ch.Nodup) (hin:∀ c ∈ ch,c < ops.size)
  (hsg:∀ k val val' w,(∀ c ∈ ch,val c=val' c)→Sg k val w→Sg k val' w) (start:Sg 0 (fun _=>undef) w0)
  (hst:AllG (XStep P Q slots ch Rs Sg T a0 w0) 0 ops.toList)
  (fin:∀ (val:Nat→Value) (w:World),(∀ j s,slots[j]?=some (some s)→factV Rs j (val j))→Kp T w0 w→Sg ch.length val w→Q .normal (putsA slots val 0 a0) w):wpAny P .any ops Q ops.size (Array.replicate ops.size false) a0 w0:=by
 have hat:∀ (i:Nat) (o:Oper),ops[i]?=some o→ops.toList[i]?=some o:=fun i o h=>(Array.getElem?_toList ..).trans h
 have hlen:slots.length=ops.size:=by rw[← hdst];simp
 have hD:∀ (i:Nat) (o:Oper),ops[i]?=some o→o.dst=slotG slots i:=by
  intro i o h
  unfold slotG
  rw[← hdst,List.getElem?_map,hat i o h]
  rfl
 have hS:∀ (i:Nat),i < ops.size→slots[i]?=some (slotG slots i):=by
  intro i hi
  unfold slotG
  rw[List.getElem?_eq_getElem (by omega)]
  rfl
 have hne:∀ i j,i < ops.size→j < ops.size→j≠i→slotG slots j≠slotG slots i∨slotG slots i=none:=by
  intro i j hi hj hji
  unfold slotsOk at hok
  have h1:=List.all_eq_true.1 hok i (List.mem_range.2 (by omega))
  have h2:=List.all_eq_true.1 h1 j (List.mem_range.2 (by omega))
  simp only[Bool.or_eq_true,decide_eq_true_eq,beq_iff_eq,Option.isNone_iff_eq_none] at h2
  rcases h2 with (h2 | h2) | h2
  ·exact absurd h2 hji
  ·exact .inl h2
  ·exact .inr h2
 have hlt:∀ (j:Nat) (s:Tmp),slots[j]?=some (some s)→s < a0.tmps.size:=fun j s h=>by
  have:=List.all_eq_true.1 hsz _ (List.mem_of_getElem? h)
  simpa using this
 have repF:∀ j,(Array.replicate ops.size false).getD j false=false:=by
  intro j
  simp[Array.getD_eq_getD_getElem?,Array.getElem?_replicate]
  split <;> simp
 have uniq:∀ {j k c:Nat},ch[j]?=some c→ch[k]?=some c→j=k:=by
  intro j k c h1 h2
  exact nodup_uniq hnd h1 h2
 refine wpAny_flow (slotG slots) hD hne ?_ ?_ a0 (fun l val w=>Kp T w0 w∧(∀ j s,slots[j]?=some (some s)→l.getD j false=true→factV Rs j (val j))∧(∀ j c c',ch[j+1]?=some c→ch[j]?=some c'→l.getD c false=true→l.getD c' false=true) ∧
   ∀ k,k≤ch.length→(∀ j c,k=j+1→ch[j]?=some c→l.getD c false=true)→(∀ c,ch[k]?=some c→l.getD c false=false)→Sg k val w) ?_ ?_ w0 (fun _=>undef) ⟨.refl _ _,?_,?_,?_⟩
 ·intro i o h e he hbn
  have hm:(o,i) ∈ ops.toList.zipIdx:=List.mem_zipIdx_iff_getElem?.2 (hat i o h)
  have:=List.all_eq_true.1 hac _ hm
  have:=Array.all_eq_true_iff_forall_mem.1 this e he
  rw[hbn] at this
  simpa using this
 ·intro i o h
  have:=List.all_eq_true.1 hg o (List.mem_of_getElem? (hat i o h))
  simpa using this
 ·rintro l val w i o ⟨hb,hF,hcl,hsgk⟩ hl ho hf hd A K hA hK
  have hs:=hst.at (hat i o ho)
  rw[Nat.zero_add] at hs
  have hi:i < ops.size:=(Array.getElem?_eq_some_iff.1 ho).1
  have ev:∀ (B:Act) (s:Tmp),B.tmps[s]?.getD undef=B.eval (.tmp s):=fun B s=>by rw[← Array.getD_eq_getD_getElem?];rfl
  have far:∀ s,(some s) ∉ slots→A.tmps[s]?.getD undef=a0.tmps[s]?.getD undef:=by
   intro s hs
   rw[ev,ev,hA]
   refine actsL_far _ _ fun j hj e=>hs ?_
   rw[← e]
   exact List.mem_of_getElem? (hS j (List.mem_range.1 hj))
  have near:∀ j s,slots[j]?=some (some s)→depG o j=true→A.tmps[s]?.getD undef=val j∧l.getD j false=true:=by
   intro j s hj hdep
   have hjl:=depG_of hdep hd
   have hjs:j < ops.size:=by rw[← hlen];exact (List.getElem?_eq_some_iff.1 hj).1
   have hsl:slotG slots j=some s:=by unfold slotG;rw[hj];rfl
   refine⟨?_,hjl⟩
   rw[ev,hA,actsL_eval hjl hsl _ _ (List.mem_range.2 hjs) List.nodup_range (fun k hk hkj e=>?_) (hlt j s hj)]
   rcases hne j k hjs (List.mem_range.1 hk) hkj with h | h
   ·exact h (e.trans hsl.symm)
   ·rw[hsl] at h;cases h
  have facts:∀ (v:Value),factV Rs i v→∀ j s,slots[j]?=some (some s)→(l.setIfInBounds i true).getD j false=true→factV Rs j (updV val i v j):=by
   intro v hv j s hj hjl
   by_cases e:j=i
   ·subst e;rw[updV_same];exact hv
   ·rw[getD_set e] at hjl
    rw[updV_other _ _ e]
    exact hF j s hj hjl
  cases hc:chIdx ch i with
  | none=>
   have hni:=chIdx_none hc
   have off:∀ c ∈ ch,(l.setIfInBounds i true).getD c false=l.getD c false:=fun c hm=>getD_set (by rintro rfl;exact hni hm)
   refine hs.1 hc A w K hb far (fun j s hj hdep=>by rw[(near j s hj hdep).1];exact hF j s hj (near j s hj hdep).2) fun v hv=>hK v w ⟨hb,facts v hv,?_,?_⟩
   ·intro j c c' h1 h2
    rw[off c (List.mem_of_getElem? h1),off c' (List.mem_of_getElem? h2)]
    exact hcl j c c' h1 h2
   ·intro k hk h1 h2
    refine hsg k val _ w (fun c hm=>(updV_other val v (by rintro rfl;exact hni hm)).symm) (hsgk k hk (fun j c e hj=>?_) (fun c hj=>?_))
    ·have:=h1 j c e hj
     rwa [off c (List.mem_of_getElem? hj)] at this
    ·have:=h2 c hj
     rwa [off c (List.mem_of_getElem? hj)] at this
  | some k=>
   obtain⟨hdep,hcs⟩:=hs.2 k hc
   have hki:=chIdx_some hc
   have hkl:k < ch.length:=(List.getElem?_eq_some_iff.1 hki).1
   have prev:∀ j c,k=j+1→ch[j]?=some c→l.getD c false=true:=fun j c e hj=>depG_of (hdep j c e hj) hd
   -- all that stands ahead of it in the chain has run, nothing behind it has
   have ahead:∀ d j c,j+d+1=k→ch[j]?=some c→l.getD c false=true:=by
    intro d
    induction d with
    | zero=>intro j c e hj;exact prev j c (by omega) hj
    | succ d ih=>
     intro j c e hj
     have hj1:j+1 < ch.length:=by omega
     have hx:ch[j+1]?=some ch[j+1]:=List.getElem?_eq_getElem hj1
     exact hcl j _ c hx hj (ih (j+1) _ (by omega) hx)
   have behind:∀ d j c,j=k+d→ch[j]?=some c→l.getD c false=false:=by
    intro d
    induction d with
    | zero=>
     intro j c e hj
     obtain rfl:j=k:=by omega
     rw[hki] at hj
     cases hj
     exact hf
    | succ d ih=>
     intro j c e hj
     cases hh:l.getD c false with
     | false=>rfl
     | true=>
      have hj1:k+d < ch.length:=by have:=(List.getElem?_eq_some_iff.1 hj).1;omega
      have hx:ch[k+d]?=some ch[k+d]:=List.getElem?_eq_getElem hj1
      have h1:=hcl (k+d) c _ (by rw[show k+d+1=j by omega];exact hj) hx hh
      rw[ih (k+d) _ rfl hx] at h1
      cases h1
   refine hcs A w val K hb far (fun j s hj hdep=>⟨by rw[(near j s hj hdep).1];exact hF j s hj (near j s hj hdep).2,(near j s hj hdep).1⟩) (hsgk k (by omega) prev (fun c hj=>behind 0 k c rfl hj)) fun v w' hb' hv hsg'=>hK v w' ⟨hb',facts v hv,?_,?_⟩
   ·intro j c c' h1 h2 h3
    by_cases e:c=i
    ·subst e
     have:=uniq h1 hki
     have hc':c'≠c:=by rintro rfl;have:=uniq h2 hki;omega
     rw[getD_set hc']
     exact ahead 0 j c' (by omega) h2
    ·rw[getD_set e] at h3
     by_cases e':c'=i
     ·subst e';exact getD_same (by omega)
     ·rw[getD_set e'];exact hcl j c c' h1 h2 h3
   ·intro k' hk' h1 h2
    have hkk:k'=k+1:=by
     rcases Nat.lt_trichotomy k' (k+1) with h | h | h
     ·exfalso
      rcases Nat.lt_or_ge k' k with h' | h'
      ·have hx:ch[k']?=some ch[k']:=List.getElem?_eq_getElem (by omega)
       have h3:=h2 _ hx
       have hne':ch[k']≠i:=by intro e;rw[e] at hx;have:=uniq hx hki;omega
       rw[getD_set hne',ahead (k - k' - 1) k' _ (by omega) hx] at h3
       cases h3
      ·obtain rfl:k'=k:=by omega
       have h3:=h2 i hki
       rw[getD_same (by omega)] at h3
       cases h3
     ·exact h
     ·exfalso
      have hx:ch[k' - 1]?=some ch[k' - 1]:=List.getElem?_eq_getElem (by omega)
      have h3:=h1 (k' - 1) _ (by omega) hx
      have hne':ch[k' - 1]≠i:=by intro e;rw[e] at hx;have:=uniq hx hki;omega
      rw[getD_set hne',behind (k' - 1 - k) (k' - 1) _ (by omega) hx] at h3
      cases h3
    subst hkk
    exact hsg'
 ·rintro l val w ⟨hb,hF,hcl,hsgk⟩ hall
  have h1:∀ i,i < slots.length→slots[i]?=some (slotG slots (0+i)):=fun i hi=>by rw[Nat.zero_add];exact hS i (by omega)
  have h2:∀ i,i < slots.length→l.getD (0+i) false=true:=fun i hi=>by rw[Nat.zero_add];exact hall i (by omega)
  have e:(List.range slots.length).map (0+·)=List.range ops.size:=by rw[hlen];simp
  have:=puts_all (D:=slotG slots) (l:=l) (val:=val) slots 0 a0 h1 h2
  rw[e] at this
  rw[this]
  exact fin val w (fun j s hj=>hF j s hj (hall j (by rw[← hlen];exact (List.getElem?_eq_some_iff.1 hj).1))) hb
   (hsgk _ (Nat.le_refl _) (fun j c _ hj=>hall c (hin c (List.mem_of_getElem? hj))) (fun c hj=>by rw[List.getElem?_eq_none (Nat.le_refl _)] at hj;cases hj))
 ·intro j s hj h
  rw[repF] at h
  cases h
 ·intro j c c' _ _ h
  rw[repF] at h
  cases h
 ·intro k hk h1 h2
  cases k with
  | zero=>exact start
  | succ k=>
   have hx:ch[k]?=some ch[k]:=List.getElem?_eq_getElem (by omega)
   have:=h1 k _ rfl hx
   rw[repF] at this
   cases this
end Go.Proofs.YtakpgcmfjlbcgaaGreatDoor

/- Yck@2, Yrt7@2, Yrt8@2 -/
import Derived.Test.YtfmldnbcjbflbaaGreatDoorQ46
set_option linter.unusedSimpArgs false
set_option linter.unusedVariables false
namespace Go.Proofs.YtfmldnbcjbflbaaGreatDoor
open Lib(hid)
open Go.RowKit
inductive ErrN (b c d a:Addr):Value→Int→Prop
 | ok:ErrN b c d a .nilIface 0
 | tw:ErrN b c d a (errV b) 50
 | no:ErrN b c d a (errV c) 51
 | ar:ErrN b c d a (errV d) 52
 | ty:ErrN b c d a (errV a) 53
theorem errN_c {e a b c d:Addr} {v:Value} {k:Int} {w:World} (h:ErrN b c d a v k) (E:EnvY e a b c d w):Calls Tryz.prog 32 #[v] w fun e w'=>e=.returned (.int .i64 k)∧w=w':=by
 cases h with
 | ok=>exact num_nil _ a b c d w E.y E.df
 | tw=>exact num_tw _ a b c d w E.y E.df
 | no=>exact num_no _ a b c d w E.y E.df
 | ar=>exact num_ar _ a b c d w E.y E.df
 | ty=>exact num_ty _ a b c d w E.y E.df
theorem typesOf_err {ds:List De} {r:Ru} {V:List (List UInt8)} {n0:Nat} {w w':World} {a b c d:Addr} {e:Ending} (hr:rightP ⟨ds,[r]⟩=true) (h:TypR V n0 w a c d ds r e w') :
  ∃ m v k l,e=.returned (.tuple #[m,v])∧ErrN b c d a v k∧TyA ds r l k∧Below n0 w w':=by
 have base:=base_ne (r:=r) (right_types hr)
 have TA:=types_all (p:=prsL r.body) base
 cases h with
 | atom h1 h2=>
  refine⟨_,_,atE (chkA ds (atomsR r)),[],rfl,?_,.atom hr h1,h2⟩
  cases h:chkA ds (atomsR r) with
  | zero=>exact absurd h h1
  | succ m=>cases m with
   | zero=>exact .no
   | succ m=>exact .ar
 | place h1 h2 h3=>exact⟨_,_,53,[],rfl,.ty,.none hr h1 (fun hf=>TA.1 h2 hf.1),h3⟩
 | other h1 h2 h3 h4=>exact⟨_,_,53,[],rfl,.ty,.none hr h1 (fun hf=>(TA.2 _ _ h2 h3).1 rfl hf.1),h4⟩
 | left h1 h2 h3 h4 h5=>
  refine⟨_,_,53,[],rfl,.ty,.none hr h1 (fun hf=>?_),h5⟩
  obtain⟨t,t1,t2,t3⟩:=h4
  obtain⟨k,k1,k2⟩:=hf.2 t t1 t2
  have:=(((TA.2 _ _ h2 h3).2 _ rfl).2.1 (nm t) k k1).2 k2
  rw[t3] at this
  exact k1 this.symm
 | @good _ K K' B h1 h2 h3 h4 h5 h6 h7=>
  obtain⟨n1,n2,n3'⟩:=(TA.2 _ _ h2 h3).2 _ rfl
  exact⟨_,_,0,_,rfl,.ok,.some (K:=K') hr h1 ⟨n1,fun t ht hv=>⟨look K' (nm t),h4 t ht hv,(n2 _ _ (h4 t ht hv)).1 rfl⟩⟩ n2 (look_ty h6.ty),h7⟩
def FewP (p:Pg):Prop:=∀ r ∈ p.rules,(termsR r).length≤1000000∧∀ t ∈ termsR r,t.s.size≤1000000
theorem findV_some (i:Nat):findV (some i)=.tuple #[.int .i64 i,.bool true]:=rfl
set_option maxRecDepth 100000 in
set_option maxHeartbeats 8000000 in
theorem check1_c (p:Pg) (cs:List Value) (e a b c d:Addr) (w:World) (hp:PgC w w.heap.size p cs) (hr:rightP p=true) (hf:FewP p) (E:EnvY e a b c d w) :
  Calls Tryz.prog 31 #[.agg cs.toArray] w fun e w'=>∃ ln v k,e=.returned (.tuple #[.int .i64 ln,v])∧ErrN b c d a v k∧ChA p ln k∧Below w.heap.size w w':=by
 obtain⟨p1,q1,r1,s1,rfl,H1,H2⟩:=hp.look
 obtain⟨o1,k1,e1,hc1,hm1,S1⟩:=SlOf.open H1
 cases e1
 obtain⟨o2,k2,e2,hc2,hm2,S2⟩:=SlOf.open H2
 cases e2
 have hb0:∀ C:Obj,Below w.heap.size w (w.alloc C):=fun C=>(Below.refl _ _).alloc (Nat.le_refl _) _
 have HB0:=hid hb0
 have HD:=hid H1
 have HE:=hid E
 have HR:=hid hr
 have HF:=hid hf
 clear H1 H2 hp E hb0 hf
 go_enter Tryz.func31,Tryz.ntmps31
 go_wp2_with fail
 go_loopw [15] (fun i wr=>∃ k:Nat,k≤p.decls.length∧i=.int .i64 k∧NoTw p.decls k∧Below (w.heap.size+1) (w.alloc (.cells #[.slice p1 p.decls.length q1,.slice r1 p.rules.length s1] 25)) wr) (fun i _=>p.decls.length - (intOf i).toNat)
 case atStart=>exact⟨0,Nat.zero_le _,rfl,fun i d h=>absurd h (Nat.not_lt_zero _),Below.refl _ _⟩
 case round=>
  obtain⟨k,hk,rfl,hn,hB2⟩:=hrel
  have hB:Below w.heap.size w wr:=(HB0.out _).trans (hB2.mono (by omega))
  have hBs:=hB2.size
  simp only[World.size_alloc] at hBs
  have hz0:w.heap.size < wr.heap.size:=by omega
  have Hn:=hid hn
  have HB2:=hid hB2
  have HB:=hid hB
  have x0:wr.cell? ⟨w.heap.size,0,none⟩=some (.slice p1 p.decls.length q1):=(hB2.cell (p:=⟨w.heap.size,0,none⟩) (by show w.heap.size < _;omega)).trans (by go_simp)
  have x1:wr.cell? ⟨w.heap.size,1,none⟩=some (.slice r1 p.rules.length s1):=(hB2.cell (p:=⟨w.heap.size,1,none⟩) (by show w.heap.size < _;omega)).trans (by go_simp)
  by_cases hlt:k < p.decls.length
  ·have hlt':(k:Int) < (p.decls.length:Int):=by omega
   obtain⟨xe,ht⟩:∃ xe,p.decls[k]?=some xe:=⟨p.decls[k],List.getElem?_eq_getElem hlt⟩
   obtain⟨j,hj,hjk⟩:=find_le ht
   obtain⟨ad,a3,b3,a4,b4,rfl,ha,Hc,c0,c1,c2,c3,c4,c5⟩:=de_at S1 hB ht
   have hal:(ad.add (k * 6)).block < wr.heap.size:=by rw[addBlock];omega
   have Ht:=hid ht
   have Hj:=hid hj
   have HF:=hid (fun (W:World) (hb:Below wr.heap.size wr W)=>find_c xe.rel W.heap.size p.decls _ W (SlOf.decl HD.out (hB.trans (hb.mono hB.size)) (by have:=hb.size;omega)) (Nat.le_refl _))
   clear ht hj hn hB2 hB
   rw[Hj.out] at HF
   go_wp2_with fail
   refine (HF.out _ ((Below.refl _ _).alloc (Nat.le_refl _) _)).mono ?_
   rintro e3 w3 ⟨rfl,b3'⟩
   have y5:w3.cell? ⟨wr.heap.size,5,none⟩=some (.int .i64 xe.line):=(b3'.cell (p:=⟨wr.heap.size,5,none⟩) (by simp)).trans (by go_simp)
   have hy:wr.heap.size < w3.heap.size:=by have:=b3'.size;simp at this;omega
   have b3:Below wr.heap.size wr w3:=((Below.refl _ _).alloc (Nat.le_refl _) _).trans (b3'.mono (by simp))
   have B3:=hid (HB2.out.trans (b3.mono (by omega)))
   have hT:=((HE.out.below HB.out).below b3).y.tw
   unfold errV at hT
   rw[findV_some]
   clear c0 c1 c2 c3 c4 c5 x0 x1 b3'
   by_cases hjlt:j < k
   ·have hjlt':(j:Int) < (k:Int):=by omega
    have Hf:Hid (findY xe.rel p.decls≠some k):=hid (by rw[Hj.out];intro h;have:=Option.some.inj h;omega)
    go_wp2_with fail
    go_quiet (fail)
    go_wp2
    go_ret2
    first | exact⟨_,_,_,rfl,.tw,.twice HR.out Ht.out Hf.out Hn.out,below_drewN ((HB0.out _).trans (B3.out.mono (by omega)))⟩ | exact⟨_,_,rfl,_,.tw,.twice HR.out Ht.out Hf.out Hn.out,below_drewN ((HB0.out _).trans (B3.out.mono (by omega)))⟩
   ·have hjlt':¬ (j:Int) < (k:Int):=by omega
    have Hn2:Hid (NoTw p.decls (k+1)):=hid fun i d hi hd=>by
     rcases Nat.lt_or_ge i k with h | h
     ·exact Hn.out i d h hd
     ·obtain rfl:i=k:=by omega
      rw[Ht.out] at hd
      cases hd
      rw[Hj.out]
      congr 1
      omega
    go_wp2
    go_roundw
    case rel=>exact⟨k+1,hlt,by go_num,Hn2.out,B3.out⟩
    case measure=>simp[intOf];omega
  ·have hlt':¬ (k:Int) < (p.decls.length:Int):=by omega
   obtain rfl:k=p.decls.length:=by omega
   clear hn hB2 hB
   go_wp2_with fail
   go_loopw [38] (fun i wv=>∃ k:Nat,k≤p.rules.length∧i=.int .i64 k∧(∀ (j:Nat) (r':Ru),j < k→p.rules[j]?=some r'→∃ l,TyA p.decls r' l 0)∧Below (w.heap.size+1) (w.alloc (.cells #[.slice p1 p.decls.length q1,.slice r1 p.rules.length s1] 25)) wv) (fun i _=>p.rules.length - (intOf i).toNat)
   case atStart=>exact⟨0,Nat.zero_le _,rfl,fun j r' h=>absurd h (Nat.not_lt_zero _),HB2.out⟩
   case round=>
    obtain⟨k,hk2,rfl,hg,hC2⟩:=hrel
    have hC:Below w.heap.size w wr:=(HB0.out _).trans (hC2.mono (by omega))
    have hCs:=hC2.size
    simp only[World.size_alloc] at hCs
    have hy0:w.heap.size < wr.heap.size:=by omega
    have Hg:=hid hg
    have HC2:=hid hC2
    have HC:=hid hC
    have x0:wr.cell? ⟨w.heap.size,0,none⟩=some (.slice p1 p.decls.length q1):=(hC2.cell (p:=⟨w.heap.size,0,none⟩) (by show w.heap.size < _;omega)).trans (by go_simp)
    by_cases hlt2:k < p.rules.length
    ·have hlt2':(k:Int) < (p.rules.length:Int):=by omega
     obtain⟨xe,ht⟩:∃ xe,p.rules[k]?=some xe:=⟨p.rules[k],List.getElem?_eq_getElem hlt2⟩
     obtain⟨ad,a3,b3,a4,b4,rfl,ha,Hc,c0,c1,c2,c3⟩:=ru_at S2 hC ht
     have hal:(ad.add (k * 4)).block < wr.heap.size:=by rw[addBlock];omega
     have Ht:=hid ht
     have Hm:=hid (List.mem_of_getElem? ht)
     have HRx:=hid (rightP_one HR.out Hm.out)
     have HFx:=hid (HF.out xe Hm.out)
     have HT:=hid (fun (W:World) (hb:Below wr.heap.size wr W)=>typesOf_all p.decls _ xe _ a b c d W.heap.size W rfl (SlOf.decl HD.out (HC.out.trans (hb.mono HC.out.size)) (by have:=hb.size;have:=HC.out.size;omega)) ((Hc.out.below hb).more hb.size) HFx.out.1 (fun t ht=>max_le (HFx.out.2 t ht)) (right_types HRx.out) ((HE.out.below HC.out).below hb).y)
     clear ht hg hC2 hC
     go_wp2_with fail
     refine (HT.out _ ((Below.refl _ _).alloc (Nat.le_refl _) _)).mono ?_
     intro e3 w3 hTR
     have hq:=typesOf_err (b:=b) HRx.out hTR
     clear hTR
     obtain⟨m,v,n,l,rfl,hE,hA,b3'⟩:=hq
     have y3:w3.cell? ⟨wr.heap.size,3,none⟩=some (.int .i64 xe.line):=(b3'.cell (p:=⟨wr.heap.size,3,none⟩) (by simp)).trans (by go_simp)
     have hy:wr.heap.size < w3.heap.size:=by have:=b3'.size;simp at this;omega
     have b3:Below wr.heap.size wr w3:=((Below.refl _ _).alloc (Nat.le_refl _) _).trans (b3'.mono (by simp))
     have B3:=hid (HC2.out.trans (b3.mono (by omega)))
     have HA:=hid hA
     have HEv:=hid hE
     clear c0 c1 c2 c3 x0 b3' hA
     cases hE with
     | ok=>
      have Hg2:Hid (∀ (j:Nat) (r':Ru),j < k+1→p.rules[j]?=some r'→∃ l,TyA p.decls r' l 0):=hid fun j r' hj hr'=>by
       rcases Nat.lt_or_ge j k with h | h
       ·exact Hg.out j r' h hr'
       ·obtain rfl:j=k:=by omega
        rw[Ht.out] at hr'
        cases hr'
        exact⟨l,HA.out⟩
      go_wp2
      go_roundw
      case rel=>exact⟨k+1,hlt2,by go_num,Hg2.out,B3.out⟩
      case measure=>simp[intOf];omega
     | tw=>
      unfold errV
      go_wp2
      go_ret2
      first | exact⟨_,_,_,rfl,HEv.out,.rule HR.out Hn.out Ht.out Hg.out HA.out (by decide),(HB0.out _).trans (B3.out.mono (by omega))⟩ | exact⟨_,_,rfl,_,HEv.out,.rule HR.out Hn.out Ht.out Hg.out HA.out (by decide),(HB0.out _).trans (B3.out.mono (by omega))⟩
     | no=>
      unfold errV
      go_wp2
      go_ret2
      first | exact⟨_,_,_,rfl,HEv.out,.rule HR.out Hn.out Ht.out Hg.out HA.out (by decide),(HB0.out _).trans (B3.out.mono (by omega))⟩ | exact⟨_,_,rfl,_,HEv.out,.rule HR.out Hn.out Ht.out Hg.out HA.out (by decide),(HB0.out _).trans (B3.out.mono (by omega))⟩
     | ar=>
      unfold errV
      go_wp2
      go_ret2
      first | exact⟨_,_,_,rfl,HEv.out,.rule HR.out Hn.out Ht.out Hg.out HA.out (by decide),(HB0.out _).trans (B3.out.mono (by omega))⟩ | exact⟨_,_,rfl,_,HEv.out,.rule HR.out Hn.out Ht.out Hg.out HA.out (by decide),(HB0.out _).trans (B3.out.mono (by omega))⟩
     | ty=>
      unfold errV
      go_wp2
      go_ret2
      first | exact⟨_,_,_,rfl,HEv.out,.rule HR.out Hn.out Ht.out Hg.out HA.out (by decide),(HB0.out _).trans (B3.out.mono (by omega))⟩ | exact⟨_,_,rfl,_,HEv.out,.rule HR.out Hn.out Ht.out Hg.out HA.out (by decide),(HB0.out _).trans (B3.out.mono (by omega))⟩
    ·have hlt2':¬ (k:Int) < (p.rules.length:Int):=by omega
     have Hall:Hid (∀ r ∈ p.rules,∃ l,TyA p.decls r l 0):=hid fun r hr=>by
      obtain⟨j,hj,e⟩:=List.getElem_of_mem hr
      exact Hg.out j r (by omega) (by rw[List.getElem?_eq_getElem hj,e])
     clear hg hC2 hC
     go_wp2
     go_ret2
     first | exact⟨_,_,_,rfl,.ok,.ok HR.out Hn.out Hall.out,HC.out⟩ | exact⟨_,_,rfl,_,.ok,.ok HR.out Hn.out Hall.out,HC.out⟩
set_option maxRecDepth 100000 in
set_option maxHeartbeats 8000000 in
theorem check_c (p:Pg) (cs:List Value) (e a b c d:Addr) (w:World) (hp:PgC w w.heap.size p cs) (hf:FewP p) (E:EnvY e a b c d w) :
  Calls Tryz.prog 9 #[.agg cs.toArray] w fun e w'=>∃ ln k,e=.returned (.tuple #[.int .i64 ln,.int .i64 k])∧ChA p ln k∧Below w.heap.size w w':=by
 have HP:=hid hp
 obtain⟨p1,q1,r1,s1,rfl,H1,H2⟩:=hp.look
 have hb0:∀ C:Obj,Below w.heap.size w (w.alloc C):=fun C=>(Below.refl _ _).alloc (Nat.le_refl _) _
 have HB0:=hid hb0
 have HR:=hid (fun C:Obj=>right_c p e (w.alloc C) _ ((hp.below (hb0 C)).more (hb0 C).size) (E.below (hb0 C)).tr)
 have HE:=hid E
 have HF:=hid hf
 clear H1 H2 hp E hb0 hf
 go_enter Tryz.func9,Tryz.ntmps9
 go_wp2_with fail
 refine (HR.out _).mono ?_
 rintro e3 w3 ⟨rfl,b3⟩
 have hz:w.heap.size < w3.heap.size:=by have:=b3.size;simp at this;omega
 have x0:w3.cell? ⟨w.heap.size,0,none⟩=some (.slice p1 p.decls.length q1):=(b3.cell (p:=⟨w.heap.size,0,none⟩) (by simp)).trans (by go_simp)
 have x1:w3.cell? ⟨w.heap.size,1,none⟩=some (.slice r1 p.rules.length s1):=(b3.cell (p:=⟨w.heap.size,1,none⟩) (by simp)).trans (by go_simp)
 have B3:=hid ((HB0.out _).trans (b3.mono (by simp)))
 clear b3
 cases hr:rightP p with
 | false=>
  have Hr:=hid hr
  clear hr
  go_wp2
  go_ret2
  exact⟨_,_,rfl,.tree Hr.out,B3.out⟩
 | true=>
  have HC:=hid (check1_c p _ e a b c d w3 ((HP.out.below B3.out).more B3.out.size) hr HF.out (HE.out.below B3.out))
  clear hr
  go_wp2_with fail
  refine HC.out.mono ?_
  rintro e4 w4 ⟨ln,v,k,rfl,hE,hA,b4⟩
  have B4:=hid (B3.out.trans (b4.mono B3.out.size))
  have HN:=hid (errN_c hE (HE.out.below B4.out))
  have HA:=hid hA
  clear hE hA x0 x1 b4
  go_wp2_with fail
  refine HN.out.mono ?_
  rintro e5 w5 ⟨rfl,rfl⟩
  go_wp2
  go_ret2
  exact⟨_,_,rfl,HA.out,B4.out⟩
theorem chkA_app (ds:List De):∀ l m:List Am,chkA ds (l++m)=if chkA ds l=0 then chkA ds m else chkA ds l
 | [],m=>by simp[chkA]
 | t::l,m=>by
  show (if badA ds t=0 then chkA ds (l++m) else badA ds t)=if (if badA ds t=0 then chkA ds l else badA ds t)=0 then chkA ds m else if badA ds t=0 then chkA ds l else badA ds t
  by_cases h:badA ds t=0
  ·rw[if_pos h,if_pos h,chkA_app ds l m]
  ·rw[if_neg h,if_neg h,if_neg h]
def chkK (ds:List De) (r:Ru) (k:Nat):Nat:=chkA ds (r.head::atomsL (r.body.take k))
theorem chkK_zero (ds:List De) (r:Ru):chkK ds r 0=badA ds r.head:=by
 unfold chkK
 show (if badA ds r.head=0 then chkA ds [] else badA ds r.head)=_
 split
 ·rename_i h;rw[h];rfl
 ·rfl
theorem chkK_all (ds:List De) (r:Ru):chkK ds r r.body.length=chkA ds (atomsR r):=by
 unfold chkK
 rw[List.take_of_length_le (Nat.le_refl _)]
 rfl
theorem chkK_step {ds:List De} {r:Ru} {k:Nat} {t:Lt} (ht:r.body[k]?=some t) (h:chkK ds r k=0):chkK ds r (k+1)=if duoB t=true then 0 else badA ds t.a:=by
 unfold chkK at *
 rw[atomsL_take ht,← List.cons_append,chkA_app,if_pos h]
 split
 ·rfl
 ·show (if badA ds t.a=0 then chkA ds [] else badA ds t.a)=_
  split
  ·rename_i h;rw[h];rfl
  ·rfl
theorem chkK_stop {ds:List De} {r:Ru} {k:Nat} (h:chkK ds r k≠0):chkA ds (atomsR r)=chkK ds r k:=by
 unfold chkK at *
 unfold atomsR
 have:atomsL r.body=atomsL (r.body.take k)++atomsL (r.body.drop k):=by rw[← atomsL_app,List.take_append_drop]
 rw[this,← List.cons_append,chkA_app,if_neg h]
theorem atE_zero {n:Nat}:(atE n == 0)=(n == 0):=by
 match n with
 | 0=>rfl
 | 1=>rfl
 | n+2=>rfl
def jR (ds:List De) (r:Ru):ByteArray→Int→Prop:=fun s k=>DerR ds r s.data.toList k
theorem jR_12 {ds:List De} {r:Ru} (h:rightP ⟨ds,[r]⟩=true):∀ s k,jR ds r s k→k=1∨k=2:=fun _ _ d=>der_ty (base_ty (right_types h)) d
theorem right_ru {ds:List De} {r:Ru} (h:rightP ⟨ds,[r]⟩=true):rightR r=true:=by
 unfold rightP at h
 simp only[Bool.and_eq_true,List.all_cons,List.all_nil] at h
 exact h.2.1
theorem jR_asks {ds:List De} {r:Ru} (hr:rightR r=true) (hc:chkA ds (atomsR r)=0):Asks (fun t k=>t.op=1→jR ds r t.s k) ds r:=
 (asks_base (P:=fun t k=>t.op=1→jR ds r t.s k) hr hc (fun t h0 h1=>by omega)).2 fun x hx h1=>.base (t:=x.1) (k:=x.2) hx h1
theorem pair_in {r:Ru} {t:Lt} (ht:t ∈ r.body) (hd:duoB t=true):(t.x,t.y) ∈ prsL r.body:=mem_prsL.2 ⟨t,ht,hd,rfl⟩
theorem jR_pair {ds:List De} {r:Ru} {t:Lt} (ht:t ∈ r.body) (hd:duoB t=true):PairJ (jR ds r) t.x t.y∧PairJ (jR ds r) t.y t.x:=by
 have hm:=pair_in ht hd
 exact⟨⟨fun h1 h2 h3=>.lc hm h1 h2 rfl h3,fun h1 h2 k d=>.lv hm h1 h2 d⟩,⟨fun h1 h2 h3=>.rc hm h1 h2 rfl h3,fun h1 h2 k d=>.rv hm h1 h2 d⟩⟩
theorem vars_in {r:Ru} (hr:rightR r=true):∀ u ∈ termsR r,u.op=1→u.s ∈ varsV (termsR r)∧u.l=[]:=fun u hu h1=>by
 refine⟨(mem_varsV _ _).2 ⟨u,hu,h1,rfl⟩,?_⟩
 unfold termsR at hu
 rcases List.mem_append.1 hu with hu | hu
 ·exact rightA_leaf1 (right_atoms hr _ (List.mem_cons_self ..)) u hu h1
 ·obtain⟨t,ht,hu⟩:=List.mem_flatMap.1 hu
  exact rightL_leaf1 (right_lits hr t ht) u hu h1
theorem rlearnHead_c (ds:List De) (r:Ru) (hR:rightP ⟨ds,[r]⟩=true) (hch:chkA ds (atomsR r)=0) (vv v:Value) (B g:Nat) (ts:List Int) (w:World) (cs:List Value) (hd:SlOf w B 6 (DeC w B) ds v) (hc:AmC w B r.head cs) (hT:TyS B g w (varsV (termsR r)) vv ts) :
  Calls Tryz.prog 65 #[v,.agg cs.toArray,vv,.slice (some ⟨g,0,none⟩) ts.length ts.length] w (LrnR (jR ds r) (varsV (termsR r)) (AllF (varsV (termsR r)) (plc ds r.head)) ts B g vv w):=by
 have hr:=right_ru hR
 have A:=jR_asks hr hch
 have hb:=chkA_iff.1 hch r.head (List.mem_cons_self ..)
 refine rlearnAtom_c (jR ds r) _ vv B g ds v r.head ts w cs hd hc hT hb (fun u hu=>vars_in hr u (List.mem_append_left _ hu)) (fun x hx h1 _=>(A.atom _ (List.mem_cons_self ..) x hx).1 h1) (fun x hx u hu h1=>?_)
 obtain⟨k,hk⟩:=(plc_mem hb).2 x hx
 exact (A.atom _ (List.mem_cons_self ..) _ hk).2 u hu h1
theorem rlearnLit_c (ds:List De) (r:Ru) (hR:rightP ⟨ds,[r]⟩=true) (hch:chkA ds (atomsR r)=0) (vv v:Value) (B g:Nat) (t:Lt) (ht:t ∈ r.body) (ts:List Int) (w:World) (cs:List Value) (hd:SlOf w B 6 (DeC w B) ds v) (hc:LtC w B t cs) (hT:TyS B g w (varsV (termsR r)) vv ts) (hS:SndT (jR ds r) (varsV (termsR r)) ts) :
  Calls Tryz.prog 66 #[v,.agg cs.toArray,vv,.slice (some ⟨g,0,none⟩) ts.length ts.length] w (LrnR (jR ds r) (varsV (termsR r)) (LitN ds (varsV (termsR r)) t) ts B g vv w):=by
 have hr:=right_ru hR
 have A:=jR_asks hr hch
 have hv:∀ u ∈ litTs t,u.op=1→u.s ∈ varsV (termsR r)∧u.l=[]:=fun u hu=>vars_in hr u (List.mem_append_right _ (List.mem_flatMap.2 ⟨t,ht,hu⟩))
 cases hdu:duoB t with
 | true=>
  obtain⟨j1,j2⟩:=jR_pair (ds:=ds) ht hdu
  exact rlearnDuo_c (jR ds r) (jR_12 hR) _ vv B g ds v t ts w cs hc hT hS (right_lits hr t ht) hdu hv j1 j2 (fun u hu h1=>hu.elim (fun h=>(A.duo t ht hdu).1 u h h1) (fun h=>(A.duo t ht hdu).2 u h h1))
 | false=>
  have hm:t.a ∈ atomsR r:=List.mem_cons_of_mem _ (mem_atomsL.2 ⟨t,ht,hdu,rfl⟩)
  have hb:=chkA_iff.1 hch t.a hm
  refine rlearnPart_c (jR ds r) _ vv B g ds v t ts w cs hd hc hT (right_lits hr t ht) hdu hb hv (fun x hx h1 _=>(A.atom _ hm x hx).1 h1) (fun x hx u hu h1=>?_) (fun hg u hu h1=>?_)
  ·obtain⟨k,hk⟩:=(plc_mem hb).2 x hx
   exact (A.atom _ hm _ hk).2 u hu h1
  ·obtain⟨f1,f2⟩:=A.agg t ht hg
   rcases hu with hu | hu
   ·rcases mem_subT.1 hu with rfl | hu
    ·exact f1.1 h1
    ·exact f1.2 u hu h1
   ·rcases mem_subT.1 hu with rfl | hu
    ·exact f2.1 h1
    ·exact f2.2 u hu h1
theorem still_of {ds:List De} {r:Ru} {vs:List ByteArray} {ts:List Int} (h1:AllF vs (plc ds r.head) ts) (h2:∀ l ∈ r.body,LitN ds vs l ts):StillR ds r vs ts:=by
 have duo:∀ l ∈ r.body,duoB l=true→nearP vs ts (l.x,l.y)∧(∀ u ∈ subTs l.x.l,knP vs ts u 1)∧(∀ u ∈ subTs l.y.l,knP vs ts u 1):=fun l hl hd=>by
  have:=h2 l hl
  unfold LitN at this
  rwa [if_pos hd] at this
 have part:∀ l ∈ r.body,duoB l=false→AllF vs (plc ds l.a) ts∧(aggB l=true→Full (knP vs ts) l.x 1∧Full (knP vs ts) l.y 1):=fun l hl hd=>by
  have:=h2 l hl
  unfold LitN at this
  rwa [if_neg (by rw[hd];decide)] at this
 refine⟨⟨fun a ha=>?_,fun l hl hd=>(duo l hl hd).2,fun l hl hg=>?_⟩,fun l hl hd=>(duo l hl hd).1⟩
 ·rcases List.mem_cons.1 ha with rfl | ha
  ·exact h1
  ·obtain⟨l,hl,hd,rfl⟩:=mem_atomsL.1 ha
   exact (part l hl hd).1
 ·have hd:duoB l=false:=by
   unfold aggB at hg
   simp only[Bool.and_eq_true,Bool.not_eq_true'] at hg
   exact hg.1.1
  exact (part l hl hd).2 hg
theorem zeros_le (ts:List Int):zerosL ts≤ts.length:=List.countP_le_length
theorem snd_zeros {J:ByteArray→Int→Prop} {vs:List ByteArray} {n:Nat}:SndT J vs (List.replicate n 0):=fun i s v _ h h0=>by
 obtain⟨_,h⟩:=List.getElem?_eq_some_iff.1 h
 rw[List.getElem_replicate] at h
 exact absurd h.symm h0
def RTypesR (ds:List De) (r:Ru) (n0:Nat) (w:World) (e:Ending) (w':World):Prop:=
 ∃ v l k,e=.returned (.tuple #[v,.int .i64 k])∧RefT ds r l k∧SlOf w' w'.heap.size 1 IntC l v∧Below n0 w w'
theorem rtypesR_nil {ds:List De} {r:Ru} {n0:Nat} {w w':World} {k:Int} (h:RefT ds r [] k) (hb:Below n0 w w'):RTypesR ds r n0 w (.returned (.tuple #[.slice none 0 0,.int .i64 k])) w':=⟨_,_,_,rfl,h,.inl ⟨rfl,rfl⟩,hb⟩
set_option maxRecDepth 100000 in
set_option maxHeartbeats 16000000 in
theorem rtypes_c (ds:List De) (v:Value) (r:Ru) (cs:List Value) (w:World) (hd:SlOf w w.heap.size 6 (DeC w w.heap.size) ds v) (hc:RuC w w.heap.size r cs) (hlen:(termsR r).length≤1000000) :
  Calls Tryz.prog 35 #[v,.agg cs.toArray] w (RTypesR ds r w.heap.size w):=by
 obtain⟨o0,k0,o1,k1,rfl,_,hh,hbd⟩:=hc.look
 obtain⟨od,kd,rfl,_⟩:=SlOf.uni hd
 obtain⟨o2,k2,e2,hc1,hm1,S1⟩:=SlOf.open hbd
 cases e2
 obtain⟨C,hC⟩:∃ C:Obj,.cells #[.string r.head.rel,.slice o0 r.head.l.length k0,.slice o1 r.body.length k1,.int .i64 r.line] 37=C:=⟨_,rfl⟩
 have b1:Below w.heap.size w (w.alloc C):=(Below.refl _ _).alloc (Nat.le_refl _) _
 have b2:Below w.heap.size w ((w.alloc C).alloc C):=b1.alloc (by simp) _
 have HSL:SlOf ((w.alloc C).alloc C) ((w.alloc C).alloc C).heap.size 4 (RuC ((w.alloc C).alloc C) ((w.alloc C).alloc C).heap.size) [r] (.slice (some ⟨w.heap.size+1,0,none⟩) 1 1):=by
  have:=rule_slice (w.alloc C) r ((hc.below b1).more b1.size)
  rw[hC] at this
  simpa using this
 have HR:=hid (rright_c ⟨ds,[r]⟩ _ [.slice od ds.length kd,.slice (some ⟨w.heap.size+1,0,none⟩) 1 1] ⟨_,_,rfl,SlOf.decl hd b2 b2.size,HSL⟩)
 have B2:=hid b2
 have HD:=hid hd
 have HC:=hid hc
 have HH:=hid hh
 have HLn:=hid hlen
 subst hC
 clear hd hc hlen b1 b2 HSL hh hbd
 go_enter Tryz.func35,Tryz.ntmps35
 go_wp2_with fail
 refine HR.out.mono ?_
 rintro e3 w3 ⟨rfl,b3⟩
 have hz2:w.heap.size+2≤w3.heap.size:=by have:=b3.size;simpa using this
 have r3:w3.heap[w.heap.size]?=some (.cells #[.string r.head.rel,.slice o0 r.head.l.length k0,.slice o1 r.body.length k1,.int .i64 r.line] 37 (0,0)):=by
  rw[b3.block _ (by simp;omega)]
  rw[Below.heap_alloc _ _ _ (by simp)]
  exact World.alloc_heap_new w _
 have B3:=hid (B2.out.trans (b3.mono B2.out.size))
 clear b3
 cases hr:rightP ⟨ds,[r]⟩ with
 | false=>
  have Ha:=hid (RefT.tree hr)
  clear hr
  go_wp2
  go_ret2
  exact rtypesR_nil Ha.out B3.out
 | true=>
 have HRt:=hid hr
 clear hr
 have R3:=hid r3
 have x0:w3.cell? ⟨w.heap.size,0,none⟩=some (.string r.head.rel):=row_cells R3.out 0
 have x1:w3.cell? ⟨w.heap.size,1,none⟩=some (.slice o0 r.head.l.length k0):=row_cells R3.out 1
 have hl3:w.heap.size < w3.heap.size:=by omega
 have HK:=hid (rknown_c ds _ r.head w3 _ (SlOf.decl HD.out B3.out B3.out.size) ((HH.out.below B3.out).more B3.out.size))
 clear r3
 go_wp2_with fail
 refine HK.out.mono ?_
 rintro e4 w4 ⟨rfl,b4⟩
 have B4:=hid (B3.out.trans (b4.mono B3.out.size))
 have R4:=hid ((b4.block _ hl3).trans R3.out)
 obtain⟨c0,hc0⟩:∃ c,badA ds r.head=c:=⟨_,rfl⟩
 rw[hc0]
 have HC0:Hid (chkK ds r 0=c0):=hid ((chkK_zero ds r).trans hc0)
 clear b4 HK x0 x1 hc0
 go_wp2
 go_loopw [7,8] (fun ev iv wr=>∃ (k:Nat),k≤r.body.length∧iv=.int .i64 k∧ev=.int .i64 (atE (chkK ds r k))∧Below w4.heap.size w4 wr) (fun _ iv _=>r.body.length - (intOf iv).toNat)
 case atStart=>exact⟨0,Nat.zero_le _,rfl,by rw[HC0.out],Below.refl _ _⟩
 case round=>
  obtain⟨k,hk,rfl,rfl,hB⟩:=hrel
  have hBw:Below w.heap.size w wr:=B4.out.trans (hB.mono B4.out.size)
  have qr:=(hB.block w.heap.size (heap_lt R4.out)).trans R4.out
  have hz0:w.heap.size < wr.heap.size:=heap_lt qr
  have y2:wr.cell? ⟨w.heap.size,2,none⟩=some (.slice o1 r.body.length k1):=row_cells qr 2
  have HB:=hid hB
  have HBw:=hid hBw
  have QR:=hid qr
  obtain⟨c,hcc⟩:∃ c,chkK ds r k=c:=⟨_,rfl⟩
  have HCk:=hid hcc
  rw[hcc]
  clear hB hBw qr hcc
  by_cases hgo:k < r.body.length∧c=0
  ·obtain⟨hlt,rfl⟩:=hgo
   have hlt3:(k:Int) < (r.body.length:Int):=by omega
   have hk0:(0:Int)≤(k:Int):=by omega
   have ec:(atE 0 == 0)=true:=rfl
   obtain⟨t,ht⟩:∃ t,r.body[k]?=some t:=⟨_,List.getElem?_eq_getElem hlt⟩
   have Hst:=hid (chkK_step ht HCk.out)
   have HLr:=hid (right_lits (right_ru HRt.out) t (List.mem_of_getElem? ht))
   obtain⟨a,p0,q0,p1,q1,p2,q2,rfl,ha,Hc,d0,d1,d2,d3,d4,d5,d6,d7,d8,d9,d10⟩:=lt_at S1 HBw.out ht
   have hal:(a.add (k * 11)).block < wr.heap.size:=by rw[addBlock];omega
   obtain⟨_,_,_,_,_,_,ecs,_,hAm,_,_⟩:=Hc.out.look
   simp only[List.cons.injEq,Value.slice.injEq,true_and,and_true] at ecs
   obtain⟨⟨rfl,rfl⟩,⟨rfl,rfl⟩,rfl,rfl⟩:=ecs
   have HKn:=hid (fun (W:World) (hb:Below wr.heap.size wr W)=>rknown_c ds _ t.a W _ (SlOf.decl HD.out (HBw.out.trans (hb.mono HBw.out.size)) (Nat.le_trans HBw.out.size hb.size)) ((hAm.below hb).more hb.size))
   clear ht hAm
   by_cases hop:t.op < 3
   ·have Hz:Hid (chkK ds r (k+1)=badA ds t.a):=hid (by
     rw[Hst.out,if_neg]
     intro h
     have:=duo_op h
     omega)
    go_wp2_with fail
    refine (HKn.out _ (Below.refl _ _)).mono ?_
    rintro e5 w5 ⟨rfl,b5⟩
    have HB5:=hid (HB.out.trans (b5.mono HB.out.size))
    clear b5 d0 d1 d2 d3 d4 d5 d6 d7 d8 d9 d10
    go_wp2
    go_roundw
    case rel=>exact⟨k+1,hlt,by go_num,by rw[Hz.out],HB5.out⟩
    case measure=>simp[intOf];omega
   ·by_cases hop6:6 < t.op
    ·have Hz:Hid (chkK ds r (k+1)=badA ds t.a):=hid (by
      rw[Hst.out,if_neg]
      intro h
      have:=duo_op h
      omega)
     go_wp2_with fail
     refine (HKn.out _ (Below.refl _ _)).mono ?_
     rintro e5 w5 ⟨rfl,b5⟩
     have HB5:=hid (HB.out.trans (b5.mono HB.out.size))
     clear b5 d0 d1 d2 d3 d4 d5 d6 d7 d8 d9 d10
     go_wp2
     go_roundw
     case rel=>exact⟨k+1,hlt,by go_num,by rw[Hz.out],HB5.out⟩
     case measure=>simp[intOf];omega
    ·have Hz:Hid (chkK ds r (k+1)=0):=hid (by
      rw[Hst.out,if_pos]
      unfold duoB
      simp only[Bool.or_eq_true,beq_iff_eq]
      omega)
     go_wp2
     go_roundw
     case rel=>exact⟨k+1,hlt,by go_num,by rw[Hz.out],HB.out⟩
     case measure=>simp[intOf];omega
  ·by_cases hc0:c=0
   ·subst hc0
    have hlt3:¬ (k:Int) < (r.body.length:Int):=by omega
    obtain rfl:k=r.body.length:=by omega
    have HCH:Hid (chkA ds (atomsR r)=0):=hid ((chkK_all ds r).symm.trans HCk.out)
    have ec:(atE 0 != 0)=false:=rfl
    have HV:=hid (vars5_c r wr _ ((HC.out.below HBw.out).more HBw.out.size) HLn.out)
    have z0:wr.cell? ⟨w.heap.size,0,none⟩=some (.string r.head.rel):=row_cells QR.out 0
    have z1:wr.cell? ⟨w.heap.size,1,none⟩=some (.slice o0 r.head.l.length k0):=row_cells QR.out 1
    have z3:wr.cell? ⟨w.heap.size,3,none⟩=some (.int .i64 r.line):=row_cells QR.out 3
    go_wp2_with fail
    refine HV.out.mono ?_
    rintro e5 w5 ⟨vv,rfl,hS5,b5⟩
    have B5:=hid (HBw.out.trans (b5.mono HBw.out.size))
    have R5:=hid ((b5.block _ (heap_lt QR.out)).trans QR.out)
    rw[show varsA r=varsV (termsR r) from if_pos (right_ru HRt.out)] at hS5
    obtain⟨vs,hvs⟩:∃ vs,varsV (termsR r)=vs:=⟨_,rfl⟩
    have Hvs:=hid hvs
    have hvl:vs.length≤1000000:=by rw[← hvs];exact Nat.le_trans (varsV_len _) HLn.out
    have Hvl:=hid hvl
    rw[hvs] at hS5
    have HS5:=hid hS5
    obtain⟨ov,kv,rfl,_⟩:=SlOf.uni hS5
    obtain⟨i0,hi,hy0,hy1,hy2⟩:=info_parts info_int
    have Kb:Hid (i0.bytes * vs.length≤281474976710656):=hid (by rw[hy2];omega)
    have Km:Hid (vs.length≤maxLen):=hid (by unfold maxLen;omega)
    obtain⟨B,hBe⟩:∃ B,w5.heap.size=B:=⟨_,rfl⟩
    have HBe:=hid hBe
    clear hS5 b5 HV z0 z1 z3 y2 hvs hvl
    go_wp2_with (first | (at_make;refine wpList_make_full _ rfl _ _ 39 rfl B 3 i0 _ 1 Tryz.underlying39 hi hy0 hy1 .i64 .i64 _ _ vs.length rfl rfl rfl rfl Kb.out Km.out (by rw[hBe];exact Nat.le_refl _) ?_;rw[hBe];intro w6 hown6 hg6;have O6:=hid hown6;have G6:=hid hg6;clear hown6 hg6))
    have hb6:Below B w5 w6:=(Below.refl _ _).grown G6.out (by rw[hBe];exact Nat.le_refl _) (fun q hq=>by cases hq)
    have hmc:(madeCells (Value.int .i64 0).cells (vs.length * 1)).toList=(List.replicate vs.length (0:Int)).map (Value.int .i64):=by
     rw[Nat.mul_one,List.map_replicate]
     exact toList_madeCells_one _ _
    have hT6:TyS B B w6 vs (.slice ov vs.length kv) (List.replicate vs.length 0):=by
     have h1:=O6.out
     rw[hmc] at h1
     refine⟨SlOf.str HS5.out (by rw[HBe.out];exact hb6) (by rw[HBe.out];exact Nat.le_refl _),by rw[List.length_replicate];exact h1,List.length_replicate,by have:=G6.out.size;omega⟩
    have B6:=hid (B5.out.trans (hb6.mono (by rw[← hBe];exact B5.out.size)))
    have HB56:=hid hb6
    have hw5:w.heap.size < B:=by rw[← hBe];exact heap_lt R5.out
    have R6:=hid ((hb6.block _ hw5).trans R5.out)
    have HT6:=hid hT6
    have Hin:Hid (∀ W,Kp (fun b=>b=B) w6 W→Below B w5 W):=hid fun W hk=>HB56.out.trans (hk.below (by have:=HB56.out.size;omega) fun i hi e=>by omega)
    have HLH:Hid (∀ (W:World) (ts:List Int),Kp (fun b=>b=B) w6 W→ts.length=vs.length→TyS B B W vs (.slice ov vs.length kv) ts→Calls Tryz.prog 65 #[.slice od ds.length kd,.agg #[.string r.head.rel,.slice o0 r.head.l.length k0],.slice ov vs.length kv,.slice (some ⟨B,0,none⟩) vs.length vs.length] W (LrnR (jR ds r) vs (AllF vs (plc ds r.head)) ts B B (.slice ov vs.length kv) W)):=hid fun W ts hk hl hT=>by
     have hb:=B5.out.trans ((Hin.out W hk).mono (by rw[← hBe];exact B5.out.size))
     have:=rlearnHead_c ds r HRt.out HCH.out (.slice ov vs.length kv) (.slice od ds.length kd) B B ts W _ (SlOf.decl HD.out hb (by omega)) ((HH.out.below hb).more (by omega)) (by rw[Hvs.out];exact hT)
     rw[Hvs.out,hl] at this
     exact this
    have HLL:Hid (∀ (W:World) (t:Lt) (cs:List Value) (ts:List Int),t ∈ r.body→Kp (fun b=>b=B) w6 W→ts.length=vs.length→LtC W B t cs→TyS B B W vs (.slice ov vs.length kv) ts→SndT (jR ds r) vs ts→Calls Tryz.prog 66 #[.slice od ds.length kd,.agg cs.toArray,.slice ov vs.length kv,.slice (some ⟨B,0,none⟩) vs.length vs.length] W (LrnR (jR ds r) vs (LitN ds vs t) ts B B (.slice ov vs.length kv) W)):=hid fun W t cs ts ht hk hl hc hT hS=>by
     have hb:=B5.out.trans ((Hin.out W hk).mono (by rw[← hBe];exact B5.out.size))
     have:=rlearnLit_c ds r HRt.out HCH.out (.slice ov vs.length kv) (.slice od ds.length kd) B B t ht ts W cs (SlOf.decl HD.out hb (by omega)) hc (by rw[Hvs.out];exact hT) (by rw[Hvs.out];exact hS)
     rw[Hvs.out,hl] at this
     exact this
    have HFR:Hid (∀ (W:World) (ts:List Int),Kp (fun b=>b=B) w6 W→ts.length=vs.length→TyS B B W vs (.slice ov vs.length kv) ts→Calls Tryz.prog 67 #[.slice od ds.length kd,.agg #[.string r.head.rel,.slice o0 r.head.l.length k0,.slice o1 r.body.length k1,.int .i64 r.line],.slice ov vs.length kv,.slice (some ⟨B,0,none⟩) vs.length vs.length] W fun e w'=>e=.returned (.bool (fitsRB ds vs ts r))∧Below W.heap.size W w'):=hid fun W ts hk hl hT=>by
     have hb:=B5.out.trans ((Hin.out W hk).mono (by rw[← hBe];exact B5.out.size))
     have:=rfitsRule_c vs (.slice ov vs.length kv) B B ds (.slice od ds.length kd) r ts W _ (SlOf.decl HD.out hb (by omega)) ((HC.out.below hb).more (by omega)) hT (right_ru HRt.out) HCH.out (by rw[← Hvs.out];exact vars_in (right_ru HRt.out))
     rw[hl] at this
     exact this
    have HSL1:Hid (SlIn w w.heap.size 11 (LtC w w.heap.size) r.body o1):=S1
    have HRk:Hid (∀ W,Kp (fun b=>b=B) w6 W→W.heap[w.heap.size]?=some (.cells #[.string r.head.rel,.slice o0 r.head.l.length k0,.slice o1 r.body.length k1,.int .i64 r.line] 37 (0,0))):=hid fun W hk=>(hk.block _ (heap_lt R6.out) (by omega)).trans R6.out
    have HBk:Hid (∀ W,Kp (fun b=>b=B) w6 W→Below w.heap.size w W):=hid fun W hk=>B5.out.trans ((Hin.out W hk).mono (by rw[← hBe];exact B5.out.size))
    clear hb6 hmc hT6 HR HC
    go_wp2_with fail
    go_loopg [11] (vs.length+1) (fun q mv wr=>∃ (ts:List Int) (m:Bool),mv=.bool m∧ts.length=vs.length∧TyS B B wr vs (.slice ov vs.length kv) ts∧SndT (jR ds r) vs ts∧(m=false→StillR ds r vs ts)∧Kp (fun b=>b=B) w6 wr∧zerosL ts+(if m then 1 else 0)≤q)
    case atStart=>exact⟨_,true,rfl,List.length_replicate,HT6.out,snd_zeros,fun h=>(by cases h),Kp.refl _ _,by have:=zeros_le (List.replicate vs.length (0:Int));rw[List.length_replicate] at this;simp;omega⟩
    case round=>
     obtain⟨ts,m,rfl,htl,hTs,hSn,hSt,hKw,hq⟩:=hrel
     have HTs:=hid hTs
     have HSn:=hid hSn
     have HKw:=hid hKw
     have Htl:=hid htl
     have Hq:=hid hq
     have qr:=HRk.out _ hKw
     have g0:wr.cell? ⟨w.heap.size,0,none⟩=some (.string r.head.rel):=row_cells qr 0
     have g1:wr.cell? ⟨w.heap.size,1,none⟩=some (.slice o0 r.head.l.length k0):=row_cells qr 1
     have g2:wr.cell? ⟨w.heap.size,2,none⟩=some (.slice o1 r.body.length k1):=row_cells qr 2
     have g3:wr.cell? ⟨w.heap.size,3,none⟩=some (.int .i64 r.line):=row_cells qr 3
     have hzr:w.heap.size < wr.heap.size:=heap_lt qr
     clear hTs hSn hKw htl hq qr
     cases m with
     | true=>
      have HCA:=hid (HLH.out wr ts HKw.out Htl.out HTs.out)
      clear hSt
      go_wp2_with fail
      refine HCA.out.mono ?_
      rintro e7 w7 ⟨ts7,m7,rfl,hL7,hT7,hK7⟩
      have HL7:=hid hL7
      have HT7:=hid hT7
      have HK7:=hid (HKw.out.trans hK7)
      clear hL7 hT7 hK7 HCA g0 g1 g2 g3
      go_wp2
      go_loopw [11,12] (fun mv iv wx=>∃ (ts2:List Int) (m2:Bool) (j:Nat),j≤r.body.length∧iv=.int .i64 j∧mv=.bool m2∧Lrn (jR ds r) vs (fun t=>AllF vs (plc ds r.head) t∧∀ l ∈ r.body.take j,LitN ds vs l t) ts ts2 m2∧TyS B B wx vs (.slice ov vs.length kv) ts2∧Kp (fun b=>b=B) w6 wx) (fun _ iv _=>r.body.length - (intOf iv).toNat)
      case atStart=>exact⟨ts7,m7,0,Nat.zero_le _,rfl,rfl,HL7.out.mono fun h=>⟨h,by simp⟩,HT7.out,HK7.out⟩
      case round=>
       obtain⟨ts2,m2,j,hj,rfl,rfl,hL2,hT2,hK2⟩:=hrel
       have HL2:=hid hL2
       have HT2:=hid hT2
       have HK2:=hid hK2
       have qr:=HRk.out _ hK2
       have g2:wr.cell? ⟨w.heap.size,2,none⟩=some (.slice o1 r.body.length k1):=row_cells qr 2
       have hzr:w.heap.size < wr.heap.size:=heap_lt qr
       clear hL2 hT2 hK2 qr
       by_cases hlt:j < r.body.length
       ·have hlt3:(j:Int) < (r.body.length:Int):=by omega
        obtain⟨t,ht⟩:∃ t,r.body[j]?=some t:=⟨_,List.getElem?_eq_getElem hlt⟩
        obtain⟨a,p0,q0,p1,q1,p2,q2,rfl,ha,Hc,d0,d1,d2,d3,d4,d5,d6,d7,d8,d9,d10⟩:=lt_in HSL1 (HBk.out _ HK2.out) ht
        have hal:(a.add (j * 11)).block < wr.heap.size:=by rw[addBlock];omega
        have HCL:=hid (HLL.out wr t _ ts2 (List.mem_of_getElem? ht) HK2.out (HL2.out.len.trans Htl.out) (Hc.out.more (by omega)) HT2.out (HL2.out.snd HSn.out))
        have Ht:=hid ht
        clear ht
        go_wp2_with fail
        refine HCL.out.mono ?_
        rintro e8 w8 ⟨ts8,m8,rfl,hL8,hT8,hK8⟩
        have hx:Lrn (jR ds r) vs (fun t=>AllF vs (plc ds r.head) t∧∀ l ∈ r.body.take (j+1),LitN ds vs l t) ts ts8 (m2 || m8):=(HL2.out.comp hL8).mono fun h=>⟨h.1.1,takes_all Ht.out h.1.2 h.2⟩
        have HL8:=hid hx
        have HT8:=hid hT8
        have HK8:=hid (HK2.out.trans hK8)
        clear hL8 hT8 hK8 HCL hx d0 d1 d2 d3 d4 d5 d6 d7 d8 d9 d10
        cases m2 with
        | true=>
         go_wp2
         go_roundw
         case rel=>exact⟨ts8,true,j+1,hlt,by go_num,rfl,HL8.out,HT8.out,HK8.out⟩
         case measure=>simp[intOf];omega
        | false=>
         go_wp2
         go_roundw
         case rel=>exact⟨ts8,m8,j+1,hlt,by go_num,rfl,HL8.out,HT8.out,HK8.out⟩
         case measure=>simp[intOf];omega
       ·have hlt3:¬ (j:Int) < (r.body.length:Int):=by omega
        obtain rfl:j=r.body.length:=by omega
        go_wp2
        go_roundg (zerosL ts2+(if m2 then 1 else 0))
        case measure=>
         have hq:=Hq.out
         simp only[if_true] at hq
         cases m2 with
         | true=>have:=HL2.out.less rfl;simp;omega
         | false=>have:=(HL2.out.still rfl).1;subst this;simp;omega
        case rel=>
         refine⟨ts2,m2,rfl,HL2.out.len.trans Htl.out,HT2.out,HL2.out.snd HSn.out,fun hm=>?_,HK2.out,Nat.le_refl _⟩
         obtain⟨e,h1,h2⟩:=HL2.out.still hm
         rw[e]
         exact still_of h1 fun l hl=>h2 l (by rw[List.take_of_length_le (Nat.le_refl _)];exact hl)
     | false=>
      have HSt:=hid (hSt rfl)
      clear hSt
      go_wp2
      go_loopw [14] (fun iv wx=>∃ (j:Nat),j≤ts.length∧iv=.int .i64 j∧(∀ x ∈ ts.take j,x≠0)∧wx=wr) (fun iv _=>ts.length - (intOf iv).toNat)
      case atStart=>exact⟨0,Nat.zero_le _,rfl,by simp,rfl⟩
      case round=>
       obtain⟨j,hj,rfl,hnz,rfl⟩:=hrel
       have Hnz:=hid hnz
       clear hnz
       by_cases hlt:j < ts.length
       ·have hltv:j < vs.length:=by have:=Htl.out;omega
        have hvl:=Hvl.out
        have hlt3:(j:Int) < (vs.length:Int):=by omega
        have hj0:(0:Int)≤(j:Int):=by omega
        obtain⟨x,hx⟩:∃ x,ts[j]?=some x:=⟨_,List.getElem?_eq_getElem hlt⟩
        have c0:=HTs.out.cell hx
        have hgl:B < wr.heap.size:=HTs.out.row.2
        by_cases h0:x=0
        ·subst h0
         have Ha:Hid (RefT ds r [] 53):=hid (RefT.unk (ts:=ts) HRt.out HCH.out (by rw[Hvs.out];exact Htl.out) (by rw[Hvs.out];exact HSn.out) (by rw[Hvs.out];exact HSt.out) (List.mem_of_getElem? hx))
         clear hx
         go_wp2
         go_ret2
         exact rtypesR_nil Ha.out (HBk.out _ HKw.out)
        ·have hb0:(x == 0)=false:=by simpa using h0
         have Hst:Hid (∀ y ∈ ts.take (j+1),y≠0):=hid (takes_all (P:=fun y:Int=>y≠0) hx Hnz.out h0)
         clear hx
         go_wp2
         go_roundw
         case rel=>exact⟨j+1,hlt,by go_num,Hst.out,trivial⟩
         case measure=>simp[intOf];omega
       ·obtain rfl:j=ts.length:=by omega
        have hlt3:¬ ((ts.length:Nat):Int) < (vs.length:Int):=by have:=Htl.out;omega
        have hn0:0 ∉ ts:=fun h=>Hnz.out 0 (by rw[List.take_of_length_le (Nat.le_refl _)];exact h) rfl
        have Hn0:=hid hn0
        have HCF:=hid (HFR.out wr ts HKw.out Htl.out HTs.out)
        obtain⟨b,hb⟩:∃ b,fitsRB ds vs ts r=b:=⟨_,rfl⟩
        have Hb:=hid hb
        rw[hb] at HCF
        clear hn0 hb
        go_wp2_with fail
        refine HCF.out.mono ?_
        rintro e9 w9 ⟨rfl,b9⟩
        have HB9:=hid ((HBk.out _ HKw.out).trans (b9.mono (HBk.out _ HKw.out).size))
        have HT9:=hid (HTs.out.kept b9)
        clear b9 HCF g0 g1 g2 g3
        cases b with
        | false=>
         have Ha:Hid (RefT ds r [] 53):=hid (RefT.bad (ts:=ts) HRt.out HCH.out (by rw[Hvs.out];exact Htl.out) (by rw[Hvs.out];exact HSn.out) (by rw[Hvs.out];exact HSt.out) Hn0.out (by rw[Hvs.out,← fitsRB_iff,Hb.out];decide))
         go_wp2
         go_ret2
         exact rtypesR_nil Ha.out HB9.out
        | true=>
         have Ha:Hid (RefT ds r ts 0):=hid (RefT.good HRt.out HCH.out (by rw[Hvs.out];exact Htl.out) (by rw[Hvs.out];exact HSn.out) (by rw[Hvs.out];exact HSt.out) Hn0.out (by rw[Hvs.out,← fitsRB_iff,Hb.out]))
         go_wp2
         go_ret2
         refine⟨_,_,_,rfl,Ha.out,?_,HB9.out⟩
         have hO:=HT9.out.own
         rw[Htl.out] at hO
         refine sl_row (l:=ts) (f:=Value.int .i64) (T:=3) (base:=B) (by rw[Htl.out];exact hO) (fun n hn=>⟨rfl,?_⟩)
         obtain⟨i,hi'⟩:=List.mem_iff_getElem?.1 hn
         have hil:=(List.getElem?_eq_some_iff.1 hi').1
         have:=jR_12 HRt.out _ _ (HSn.out i (vs[i]'(by have:=Htl.out;omega)) n (List.getElem?_eq_getElem (by have:=Htl.out;omega)) hi' (fun e=>Hn0.out (e ▸ hn)))
         unfold I64
         omega
   ·have ec:(atE c == 0)=false:=by rw[atE_zero];simpa using hc0
    have ec2:(atE c != 0)=true:=by unfold bne;rw[ec];rfl
    have Ha:Hid (RefT ds r [] (atE c)):=hid (by
     have h:=chkK_stop (ds:=ds) (r:=r) (k:=k) (by rw[HCk.out];exact hc0)
     rw[HCk.out] at h
     have:=RefT.atom HRt.out (by rw[h];exact hc0)
     rwa [h] at this)
    by_cases hlt:k < r.body.length
    ·have hlt3:(k:Int) < (r.body.length:Int):=by omega
     go_wp2
     go_ret2
     exact rtypesR_nil Ha.out HBw.out
    ·have hlt3:¬ (k:Int) < (r.body.length:Int):=by omega
     go_wp2
     go_ret2
     exact rtypesR_nil Ha.out HBw.out
end Go.Proofs.YtfmldnbcjbflbaaGreatDoor

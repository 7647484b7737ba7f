/- Sm2@012, Sa@012, Sm3@012 -/
import Derived.Test.YtfmldnbcjbflbaaGreatDoorQ21
import Derived.Test.YtfmldnbcjbflbaaGreatDoorQ28
set_option linter.unusedSimpArgs false
set_option linter.unusedVariables false
namespace Go.Proofs.YtfmldnbcjbflbaaGreatDoor
open Lib(hid)
open Go.RowKit
def Same6 (B:Bd) (bound:List ByteArray):Prop:=∀ s,hasZ B s=true ↔ s ∈ bound
theorem all_same {B:Bd} {bound l l':List ByteArray} (h:Same6 B bound) (hl:∀ s,s ∈ l ↔ s ∈ l'):allZ B l=within6 l' bound:=by
 refine bool_iff ?_
 unfold allZ
 rw[List.all_eq_true,within6_iff]
 exact⟨fun k s hs=>(h s).1 (k s ((hl s).2 hs)),fun k s hs=>(h s).2 (k s ((hl s).1 hs))⟩
theorem vz_one {t:Tm} {s:ByteArray}:s ∈ vz [t] ↔ s ∈ occ (subT t):=by
 rw[vz_mem,occ_subTs]
 exact⟨fun ⟨u,hu,h⟩=>by rw[List.mem_singleton.1 hu] at h;exact h,fun h=>⟨t,by simp,h⟩⟩
theorem has_same {B:Bd} {bound:List ByteArray} (h:Same6 B bound) (s:ByteArray):hasZ B s=in6 bound s:=bool_iff ((h s).trans in6_iff.symm)
theorem binds_same {B:Bd} {bound:List ByteArray} (h:Same6 B bound) (x y:Tm):(lacksZ B x && allZ B (vz [y]))=binds6 x y bound:=by
 unfold lacksZ binds6
 rw[has_same h,all_same h (fun s=>vz_one.trans varsV_occ.symm),Bool.and_assoc]
theorem plain_same {r:Ru} {k:Nat} {l:Lt} {B:Bd} {bound:List ByteArray} (h:Same6 B bound):plainZ B (ptZ r k l)=within6 (varsV (litTs l)) bound:=by
 refine bool_iff ?_
 unfold plainZ allZ
 rw[Bool.and_eq_true,Bool.and_eq_true,List.all_eq_true,List.all_eq_true,List.all_eq_true,within6_iff]
 constructor
 ·rintro⟨⟨h1,h2⟩,h3⟩ s hs
  rw[varsV_occ,occ_lit] at hs
  refine (h s).1 ?_
  rcases hs with hs | hs | hs
  ·exact h1 s (vz_one.2 hs)
  ·exact h2 s (vz_one.2 hs)
  ·exact h3 s (vz_mem.2 hs)
 ·intro h1
  have key:∀ s,s ∈ occ (litTs l)→hasZ B s=true:=fun s hs=>(h s).2 (h1 s (varsV_occ.2 hs))
  exact⟨⟨fun s hs=>key s (occ_lit.2 (.inl (vz_one.1 hs))),fun s hs=>key s (occ_lit.2 (.inr (.inl (vz_one.1 hs))))⟩,fun s hs=>key s (occ_lit.2 (.inr (.inr (vz_mem.1 hs))))⟩
theorem memB_in6 (l l':List ByteArray) (hl:∀ s,s ∈ l ↔ s ∈ l') (s:ByteArray):memB l s=in6 l' s:=by
 refine bool_iff ?_
 rw[in6_iff,← hl]
 unfold memB
 rw[List.any_eq_true]
 constructor
 ·rintro⟨x,hx,e⟩
  have e:s.toList=x.toList:=by simpa using e
  rw[ByteArray.toList_eq,ByteArray.toList_eq] at e
  rw[bytes_ext e]
  exact hx
 ·exact fun hs=>⟨s,hs,by simp⟩
theorem right_op6 {l:Lt} (h:rightL l=true):1≤l.op∧l.op≤10:=by
 unfold rightL at h
 split at h
 ·omega
 ·split at h
  ·omega
  ·split at h
   ·omega
   ·split at h
    ·omega
    ·cases h
theorem right_args {l:Lt} (h:rightL l=true):∀ t ∈ l.a.l,rightT 20 t=true:=by
 unfold rightL at h
 split at h
 ·simp only[Bool.and_eq_true] at h;exact right_arg h.1.1
 ·split at h
  ·simp only[Bool.and_eq_true] at h
   intro t ht
   rw[noA_l h.1.1.1.1] at ht
   cases ht
  ·split at h
   ·simp only[Bool.and_eq_true] at h;exact right_arg h.1.1.1
   ·split at h
    ·simp only[Bool.and_eq_true] at h;exact right_arg h.1.1.1.1
    ·cases h
theorem agg_op {l:Lt} (h:rightL l=true):aggO l.op=true ↔ 7≤l.op:=by
 have:=right_op6 h
 unfold aggO
 simp only[Bool.or_eq_true,beq_iff_eq]
 omega
theorem ready_same {r:Ru} {k:Nat} {l:Lt} {B:Bd} {bound:List ByteArray} (hk:r.body[k]?=some l) (hl:rightL l=true) (h:Same6 B bound):readyZ B (ptZ r k l)=ready6 r k l bound:=by
 have hop:=right_op6 hl
 have hrk:allZ B (ptZ r k l).rk=within6 (reck6 l.a.l) bound:=all_same h fun s=>(rck_same (right_args hl)).symm
 have hpl:plainZ B (ptZ r k l)=within6 (varsV (litTs l)) bound:=plain_same h
 have hou:aggO l.op=true→allZ B (ptZ r k l).ou=within6 (outer6 r k l) bound:=fun ha=>all_same h fun s=>by
  show s ∈ (if aggO l.op then outerZ r l.a.l else []) ↔ _
  rw[if_pos ha]
  exact (outer_same hk ha).symm
 have hin:inZ (ptZ r k l)=in6 (varsV (subTs l.a.l)) l.y.s:=memB_in6 _ _ (fun s=>vz_mem.trans varsV_occ.symm) _
 have heq:eqZ B (ptZ r k l)=(binds6 l.x l.y bound || binds6 l.y l.x bound):=by
  show (lacksZ B l.x && allZ B (vz [l.y]) || lacksZ B l.y && allZ B (vz [l.x]))=_
  rw[binds_same h,binds_same h]
 have hlit:(ptZ r k l).lit=l:=rfl
 unfold readyZ ready6
 rw[hlit,heq,hpl,hin,hrk]
 have hou':7≤l.op→allZ B (ptZ r k l).ou=within6 (outer6 r k l) bound:=fun h7=>hou ((agg_op hl).2 h7)
 have key:l.op=1∨l.op=2∨l.op=3∨l.op=4∨l.op=5∨l.op=6∨l.op=7∨l.op=8∨l.op=9∨l.op=10:=by omega
 clear hrk hpl hin heq hou h hk hlit
 generalize within6 (reck6 l.a.l) bound=A at *
 generalize within6 (varsV (litTs l)) bound=D at *
 generalize binds6 l.x l.y bound=E at *
 generalize binds6 l.y l.x bound=F at *
 generalize in6 (varsV (subTs l.a.l)) l.y.s=G at *
 generalize within6 (outer6 r k l) bound=O at *
 generalize allZ B (ptZ r k l).ou=U at *
 rcases key with e | e | e | e | e | e | e | e | e | e <;> rw[e] at hou' ⊢
 ·simp
 ·simp
 ·cases D <;> cases E <;> cases F <;> rfl
 ·simp
 ·simp
 ·simp
 ·have:=hou' (by decide);subst this;simp
 ·have:=hou' (by decide);subst this;cases A <;> cases G <;> cases U <;> rfl
 ·have:=hou' (by decide);subst this;cases A <;> cases G <;> cases U <;> rfl
 ·have:=hou' (by decide);subst this;cases A <;> cases G <;> cases U <;> rfl
theorem gains_same {r:Ru} {k:Nat} {l:Lt} {B:Bd} {bound:List ByteArray} {d:Int} (hd:0 < d) (hk:r.body[k]?=some l) (hl:rightL l=true) (h:Same6 B bound) (hr:ready6 r k l bound=true):Same6 (addZ d B (bindsZ (ptZ r k l))) (withV bound (gains6 r k l)):=by
 intro s
 rw[addZ_has hd,withV_mem,h s]
 by_cases ha:aggO l.op=true
 ·have h7:=(agg_op hl).1 ha
  have e1:s ∈ bindsZ (ptZ r k l) ↔ s ∈ occ (subT l.x):=by
   unfold bindsZ
   show s ∈ (if aggO l.op then _ else _) ↔ _
   rw[if_pos ha]
   exact vz_one
  have e2:s ∈ gains6 r k l ↔ s ∈ occ (subT l.x)∨s ∈ outer6 r k l:=by
   unfold gains6
   rw[if_pos h7,withV_mem,varsV_occ]
  have e3:s ∈ outer6 r k l→s ∈ bound:=by
   unfold ready6 at hr
   rw[if_neg (by omega),if_neg (by omega),if_neg (by omega),Bool.and_eq_true,Bool.and_eq_true] at hr
   exact within6_iff.1 hr.1.1 s
  rw[e1,e2]
  constructor
  ·rintro (h | h)
   ·exact .inl h
   ·exact .inr (.inl h)
  ·rintro (h | h | h)
   ·exact .inl h
   ·exact .inr h
   ·exact .inl (e3 h)
 ·have h7:¬ 7≤l.op:=fun h7=>ha ((agg_op hl).2 h7)
  have e1:s ∈ bindsZ (ptZ r k l) ↔ s ∈ gains6 r k l:=by
   unfold bindsZ gains6
   show s ∈ (if aggO l.op then _ else _) ↔ _
   rw[if_neg ha,if_neg h7,varsV_occ,occ_lit,List.mem_append,List.mem_append]
   exact or_congr vz_one (or_congr vz_one vz_mem)
  rw[e1]
set_option maxRecDepth 100000 in
set_option maxHeartbeats 4000000 in
theorem within6_c (l m:List ByteArray) (v u:Value) (w:World) (h1:SlOf w w.heap.size 1 StrC l v) (h2:SlOf w w.heap.size 1 StrC m u) :
  Calls Tryz.prog 42 #[v,u] w fun e w'=>e=.returned (.bool (within6 l m))∧Below w.heap.size w w':=by
 have HP:=hid (fun (s:ByteArray) (W:World) (hb:Below w.heap.size w W)=>place_c m u s W (SlOf.str h2 hb hb.size))
 obtain⟨o1,k1,rfl,_,_,S1⟩:=SlOf.open h1
 obtain⟨o2,k2,rfl,_⟩:=SlOf.uni h2
 clear h1 h2
 go_enter Tryz.func42,Tryz.ntmps42
 go_wp2
 go_loopw [5] (fun i wr=>∃ k:Nat,k≤l.length∧i=.int .i64 (k:Int)∧Hid (∀ s ∈ l.take k,in6 m s=true)∧Hid (Below w.heap.size w wr)) (fun i _=>l.length - (intOf i).toNat)
 case atStart=>exact⟨0,Nat.zero_le _,rfl,hid (fun s hs=>by simp at hs),hid (Below.refl _ _)⟩
 case round=>
  obtain⟨k,hk,rfl,HA,HB⟩:=hrel
  by_cases hlt:k < l.length
  ·have hlt':(k:Int) < (l.length:Int):=by omega
   obtain⟨x,hx⟩:∃ x,l[k]?=some x:=⟨l[k],List.getElem?_eq_getElem hlt⟩
   obtain⟨p,rfl,hp,_,c0⟩:=str_at S1 HB.out hx
   have hpl:(p.add k).block < wr.heap.size:=by rw[addBlock];have:=HB.out.size;omega
   have HC:=hid (HP.out x wr HB.out)
   have Hx:=hid hx
   clear hx
   go_wp2_with fail
   refine HC.out.mono ?_
   rintro e w3 ⟨rfl,b3⟩
   have HB3:=hid (HB.out.trans (b3.mono HB.out.size))
   clear b3 HC
   by_cases hneg:placeV m x < 0
   ·have HF:Hid (within6 l m=false):=hid (by
     unfold within6
     rw[List.all_eq_false]
     exact⟨x,List.mem_of_getElem? Hx.out,by rw[in6_neg hneg];decide⟩)
    go_wp2
    go_ret
    exact⟨by rw[HF.out];rfl,HB3.out⟩
   ·have HA2:Hid (∀ s ∈ l.take (k+1),in6 m s=true):=hid (fun s hs=>by
     rw[List.take_add_one,Hx.out] at hs
     rcases List.mem_append.1 hs with hs | hs
     ·exact HA.out s hs
     ·rw[show s=x by simpa using hs]
      exact in6_pos hneg)
    go_wp2
    go_roundw
    case rel=>exact⟨k+1,hlt,by go_num,HA2,HB3⟩
    case measure=>simp[intOf];omega
  ·have hlt':¬ (k:Int) < (l.length:Int):=by omega
   obtain rfl:k=l.length:=by omega
   have HT:Hid (within6 l m=true):=hid (by
    unfold within6
    rw[List.all_eq_true]
    intro s hs
    exact HA.out s (by rw[List.take_length];exact hs))
   go_wp2
   go_ret
   exact⟨by rw[HT.out];rfl,HB.out⟩
set_option maxRecDepth 100000 in
set_option maxHeartbeats 4000000 in
theorem with6_c (l m:List ByteArray) (v u:Value) (w:World) (h1:SlOf w w.heap.size 1 StrC l v) (h2:SlOf w w.heap.size 1 StrC m u) (hn:l.length+m.length≤1000000) :
  Calls Tryz.prog 77 #[v,u] w (VarsR (withV l m) w.heap.size w):=by
 obtain⟨xs,hlaid,hsp⟩:=sl_laid h1 str_one
 have hxs:=laid_str hlaid
 subst hxs
 have HSz:Hid (∀ s ∈ withV l m,s.size≤maxLen):=hid fun s hs=>((withV_mem _ _ _).1 hs).elim (str_sizes h1 s) (str_sizes h2 s)
 obtain⟨o1,k1,rfl,_,_,S1⟩:=SlOf.open h1
 obtain⟨o2,k2,rfl,_,_,S2⟩:=SlOf.open h2
 have HB0:Hid (Below w.heap.size w w):=hid (Below.refl _ _)
 have HSp:=hid hsp
 have Hn:=hid hn
 have HSzk:Hid (∀ k,∀ s ∈ withV l (m.take k),s.size≤maxLen):=hid fun k s hs=>HSz.out s ((withV_mem _ _ _).2 (((withV_mem _ _ _).1 hs).imp id fun h=>List.mem_of_mem_take h))
 have HLk:Hid (∀ k,k≤m.length→(withV l (m.take k)).length≤l.length+k):=hid fun k hk=>by
  have:=withV_len l (m.take k)
  rw[List.length_take] at this
  omega
 obtain⟨i0,hi,hz0,hz1,hz2⟩:=info_parts info_str
 have Kb:Hid (i0.bytes * (l.length+m.length)≤281474976710656):=hid (by rw[hz2];omega)
 have Km:Hid (l.length+m.length≤maxLen):=hid (by unfold maxLen;omega)
 have hw:IntKind.i64.wrap ((l.length:Int)+(m.length:Int))=(l.length:Int)+(m.length:Int):=IntWalk.i64_in _ (by omega)
 clear h1 h2 hlaid hsp hn
 go_enter Tryz.func77,Tryz.ntmps77
 go_wp2_with (first
  | (at_make;refine wpList_make_own _ rfl _ _ 45 rfl w.heap.size 9 i0 _ 1 Tryz.underlying45 hi hz0 hz1 .i64 .i64 _ (l.length+m.length) rfl rfl (by first | omega | go_num) Kb.out Km.out (Nat.le_refl _) ?_;intro w1 hown1 hg1;have O1:=hid hown1;have G1:=hid hg1;clear hown1 hg1)
  | (at_builtin;refine wpList_append_any _ rfl (.tmp 12) (.tmp 13) 45 rfl w.heap.size 9 i0 _ 1 16 Tryz.underlying45 hi hz0 hz1 hz2 rfl (by decide) _ 0 [] rfl O1.out _ l.length _ rfl (HSp.out.cells fun p c hc=>(World.cell?_of_block (G1.out.block _ (World.block_lt_of_cell? _ _ hc) (by simp))).trans hc) (by have:=Km.out;omega) (by have:=Km.out;have:=Hn.out;omega) (by have:=G1.out.size;omega) ?_;intro v2 w2 hown2 hg2 _;have O2:=hid hown2;have G2:=hid hg2;clear hown2 hg2))
 have hz12:w.heap.size≤w2.heap.size:=by have:=G1.out.size;have:=G2.out.size;omega
 have hb2:Below w.heap.size w w2:=((Below.refl _ _).grown G1.out (Nat.le_refl _) (fun q hq=>by cases hq)).grown G2.out (by have:=G1.out.size;exact this) (fun q hq=>(O1.out.lt q hq).1)
 have O3:Hid (w2.ownsRow w.heap.size 9 1 v2 l.length (l.map Value.string)):=hid (by have:=O2.out;simpa using this)
 have B2:=hid hb2
 clear O1 O2 G1 G2 hb2 HSp hw
 go_loopw [5,6] (fun lv i wr=>∃ k:Nat,k≤m.length∧i=.int .i64 k∧wr.ownsRow w.heap.size 9 1 lv (withV l (m.take k)).length ((withV l (m.take k)).map Value.string)∧Below w.heap.size w wr) (fun _ i _=>m.length - (intOf i).toNat)
 case atStart=>exact⟨0,Nat.zero_le _,rfl,O3.out,B2.out⟩
 case round=>
  obtain⟨k,hk,rfl,hown,hB⟩:=hrel
  have hsl:=sl_row (R:=StrC) hown (fun s hs=>⟨rfl,HSzk.out k s hs⟩)
  have hLk:=HLk.out k hk
  by_cases hlt:k < m.length
  ·have hlt':(k:Int) < (m.length:Int):=by omega
   obtain⟨x,hx⟩:∃ x,m[k]?=some x:=⟨m[k],List.getElem?_eq_getElem hlt⟩
   obtain⟨p,rfl,hp,hsz,c0⟩:=str_at S2 hB hx
   have htk:=withV_take (l:=l) hx
   obtain⟨cur,hcur⟩:∃ cur,withV l (m.take k)=cur:=⟨_,rfl⟩
   rw[hcur] at hown hsl hLk htk
   have HP:=hid (place_c cur _ x wr hsl)
   have HOWN:=hid hown
   have HB:=hid hB
   have Htk:=hid htk
   have HLc:=hid hLk
   have hpl:(p.add k).block < wr.heap.size:=by rw[addBlock];have:=hB.size;omega
   clear hsl hown hB htk hx hcur hLk
   go_wp2_with fail
   refine HP.out.mono ?_
   rintro e w3 ⟨rfl,b3⟩
   have HOWN3:=hid (own_below HOWN.out b3)
   have HB3:=hid (HB.out.trans (b3.mono HB.out.size))
   have c3:w3.cell? (p.add k)=some (.string x):=(World.cell?_of_block (b3.block _ hpl)).trans c0
   have hpl3:(p.add k).block < w3.heap.size:=by have:=b3.size;omega
   have hB3s:=HB3.out.size
   clear HP b3 c0
   by_cases hneg:placeV cur x < 0
   ·have Hz:Hid (withV l (m.take (k+1))=cur++[x]):=hid (by rw[Htk.out,if_pos hneg])
    have HS1:Hid (cur.length+1≤maxLen):=hid (by have:=HLc.out;have:=Hn.out;unfold maxLen;omega)
    have HS2:Hid ((cur.length+1) * 16≤140737488355328):=hid (by have:=HLc.out;have:=Hn.out;omega)
    clear Htk
    go_wp2_with (at_builtin;refine wpList_append_own _ rfl (.tmp 28) (.tmp 33) 45 rfl w.heap.size 9 i0 _ 1 16 Tryz.underlying45 hi hz0 hz1 hz2 rfl (by decide) _ cur.length _ rfl (HOWN3.out.alloc _) _ 1 1 [.string x] rfl rfl (news_one _ _ _) (one_str _) HS1.out HS2.out (by simp;omega) ?_;intro v' w6 hown' hgrow _;have HG:=hid (grown_past hgrow);have HOWN6:=hid hown';clear hgrow hown')
    go_wp2
    go_roundw
    case rel=>
     refine⟨k+1,hlt,by go_num,?_,?_⟩
     ·rw[Hz.out,List.length_append,List.map_append];exact HOWN6.out
     ·exact HB3.out.grown HG.out hB3s (fun q hq=>(HOWN3.out.lt q hq).1)
    case measure=>simp[intOf];omega
   ·have Hz:Hid (withV l (m.take (k+1))=cur):=hid (by rw[Htk.out,if_neg hneg])
    clear Htk
    go_wp2
    go_roundw
    case rel=>
     refine⟨k+1,hlt,by go_num,?_,HB3.out⟩
     rw[Hz.out];exact HOWN3.out
    case measure=>simp[intOf];omega
  ·have hlt':¬ (k:Int) < (m.length:Int):=by omega
   obtain rfl:k=m.length:=by omega
   rw[List.take_of_length_le (Nat.le_refl _)] at hsl hown
   have HSL:=hid hsl
   have HB:=hid hB
   obtain⟨oq,kq,rfl⟩:=own_shape hown
   clear hown hB hsl
   go_wp2
   go_ret
   exact⟨_,rfl,HSL.out,HB.out⟩
theorem reck_len (l:List Tm):(reck6 l).length≤(subTs l).length:=by
 refine rev_ind (P:=fun l=>(reck6 l).length≤(subTs l).length) (Nat.zero_le _) (fun l t ih=>?_) l
 have h1:=reck6_take (l:=l++[t]) (k:=l.length) (t:=t) (by simp)
 have h2:=subTs_app l [t]
 rw[List.take_of_length_le (by simp),List.take_left' rfl] at h1
 have h3:=varsV_len (subT t)
 have h4:=withV_len (reck6 l) (varsV (subT t))
 have h5:(subTs [t]).length=(subT t).length:=by simp[subTs]
 rw[h2,List.length_append,h5,h1]
 split <;> omega
theorem reck_sum {l:List Tm} {k:Nat} {t:Tm} (h:l[k]?=some t) (hn:(subTs l).length≤1000000):(reck6 (l.take k)).length+(varsV (subT t)).length≤1000000:=by
 have h1:=reck_len (l.take k)
 have h2:=varsV_len (subT t)
 have h3:=subTs_prel l (k+1)
 rw[subTs_one h,List.length_append] at h3
 omega
set_option maxRecDepth 100000 in
set_option maxHeartbeats 4000000 in
theorem reck6_c (t:Am) (w:World) (cs:List Value) (hc:AmC w w.heap.size t cs) (hv:∀ u ∈ subTs t.l,u.op=1→u.l=[]) (hn:(subTs t.l).length≤1000000) :
  Calls Tryz.prog 139 #[.agg cs.toArray] w (VarsR (reck6 t.l) w.heap.size w):=by
 have IH:=hid (fun (x:Tm) (hx:x ∈ t.l) (W:World) (cs:List Value) (hc:TmC W W.heap.size x cs)=>termVars_c _ x W cs (Nat.le_refl _) hc (fun u hu=>hv u (mem_subTs.2 ⟨x,hx,hu⟩)) (by
  obtain⟨k,hk⟩:=List.mem_iff_getElem?.1 hx
  have h3:=subTs_prel t.l (k+1)
  rw[subTs_one hk,List.length_append] at h3
  omega))
 obtain⟨rel,l⟩:=t
 obtain⟨v0,rfl,hzr,t1⟩:=hc
 simp only at IH hn t1
 have HB0:Hid (∀ (x:Obj),Below w.heap.size w (w.alloc x)):=hid fun x=>(Below.refl _ _).alloc (Nat.le_refl _) _
 obtain⟨p1,q1,rfl,hc1,hm1,S1⟩:=SlOf.open t1
 have HN:=hid hn
 clear t1 hn hv
 go_enter Tryz.func139,Tryz.ntmps139
 go_wp2
 go_loopw [3,4] (fun lv i wr=>∃ k:Nat,k≤l.length∧i=.int .i64 k∧SlOf wr wr.heap.size 1 StrC (reck6 (l.take k)) lv∧Below (w.heap.size+1) (w.alloc (.cells #[.string rel,.slice p1 l.length q1] 34)) wr) (fun _ i _=>l.length - (intOf i).toNat)
 case atStart=>exact⟨0,Nat.zero_le _,rfl,.inl ⟨rfl,rfl⟩,Below.refl _ _⟩
 case round=>
  obtain⟨k,hk,rfl,hsl,hB2⟩:=hrel
  have hB:Below w.heap.size w wr:=(HB0.out _).trans (hB2.mono (by omega))
  have HSl:=hid hsl
  have hBs:=hB2.size
  simp only[World.size_alloc] at hBs
  have hz0:w.heap.size < wr.heap.size:=by omega
  have x0:wr.cell? ⟨w.heap.size,1,none⟩=some (.slice p1 l.length q1):=(hB2.cell (p:=⟨w.heap.size,1,none⟩) (by show w.heap.size < _;omega)).trans (by go_simp)
  obtain⟨ov,kv,rfl,_⟩:=SlOf.uni hsl
  clear hsl
  by_cases hlt:k < l.length
  ·have hlt3:(k:Int) < (l.length:Int):=by omega
   obtain⟨t,ht⟩:∃ t,l[k]?=some t:=⟨l[k],List.getElem?_eq_getElem hlt⟩
   obtain⟨a,p3,q3,rfl,ha,Hc,c0,c1,c2,c3⟩:=tm_at S1 hB ht
   have hal:(a.add (k * 4)).block < wr.heap.size:=by rw[addBlock];omega
   have HC:=hid (IH.out t (List.mem_of_getElem? ht) wr _ Hc.out)
   have Hst:=hid (reck6_take ht)
   have Hsum:=hid (reck_sum ht HN.out)
   have HB:=hid hB2
   clear ht hB2 hB
   by_cases h5x:t.op ≥ 5
   ·have h5:Hid (5≤t.op):=hid h5x
    go_wp2_with fail
    refine HC.out.mono ?_
    rintro e3 w3 ⟨v3,rfl,hS3,b3⟩
    have HW:=hid (with6_c _ _ _ _ w3 (SlOf.str HSl.out b3 b3.size) hS3 Hsum.out)
    have HB3:=hid (HB.out.trans (b3.mono (by have:=HB.out.size;simp at this;omega)))
    obtain⟨o3,k3,rfl,_⟩:=SlOf.uni hS3
    clear hS3 b3 HC
    go_wp2_with fail
    refine HW.out.mono ?_
    rintro e4 w4 ⟨v4,rfl,hS4,b4⟩
    have HS4:=hid hS4
    have HB4:=hid (HB3.out.trans (b4.mono (by have:=HB3.out.size;simp at this;omega)))
    clear hS4 b4 HW
    go_wp2
    go_roundw
    case rel=>exact⟨k+1,hlt,by go_num,by rw[Hst.out,if_pos h5.out];exact HS4.out,HB4.out⟩
    case measure=>simp[intOf];omega
   ·have h5:Hid (¬ 5≤t.op):=hid (by omega)
    go_wp2
    go_roundw
    case rel=>exact⟨k+1,hlt,by go_num,by rw[Hst.out,if_neg h5.out];exact HSl.out,HB.out⟩
    case measure=>simp[intOf];omega
  ·have hlt3:¬ (k:Int) < (l.length:Int):=by omega
   obtain rfl:k=l.length:=by omega
   have HB:=hid hB
   have HS2:=hid HSl.out
   rw[List.take_of_length_le (Nat.le_refl _)] at HS2
   clear hB hB2
   go_wp2
   go_ret
   exact⟨_,rfl,HS2.out,HB.out⟩
set_option maxRecDepth 100000 in
set_option maxHeartbeats 4000000 in
theorem binds6_c (x y:Tm) (B:List ByteArray) (cx cy:List Value) (v:Value) (w:World) (hx:TmC w w.heap.size x cx) (hy:TmC w w.heap.size y cy) (hv:∀ u ∈ subT y,u.op=1→u.l=[]) (hn:(subT y).length≤1000000) (hb:SlOf w w.heap.size 1 StrC B v) :
  Calls Tryz.prog 44 #[.agg cx.toArray,.agg cy.toArray,v] w fun e w'=>e=.returned (.bool (binds6 x y B))∧Below w.heap.size w w':=by
 obtain⟨o1,k1,rfl,_⟩:=hx.look
 have HY:=hid hy
 obtain⟨o2,k2,rfl,_⟩:=hy.look
 have HT:=hid (fun (W:World) (hb:Below w.heap.size w W)=>termVars_c _ y W _ (Nat.le_refl _) ((HY.out.under hb).more hb.size) hv hn)
 have HB:=hid hb
 obtain⟨o3,k3,rfl,_⟩:=SlOf.uni hb
 clear hx hy hb hv hn
 go_enter Tryz.func44,Tryz.ntmps44
 go_wp2_with fail
 obtain⟨W1,hW1⟩:∃ W,w.alloc (.cells #[.int .i64 x.op,.string x.s,.int .i64 x.n,.slice o1 x.l.length k1] 51)=W:=⟨_,rfl⟩
 have q1:W1.heap[w.heap.size]?=some (.cells #[.int .i64 x.op,.string x.s,.int .i64 x.n,.slice o1 x.l.length k1] 51 (0,0)):=by rw[← hW1];exact World.alloc_heap_new w _
 have b1:Below w.heap.size w W1:=by rw[← hW1];exact (Below.refl _ _).alloc (Nat.le_refl _) _
 rw[hW1]
 have b2:∀ X,Below W1.heap.size W1 (W1.alloc X):=fun X=>(Below.refl _ _).alloc (Nat.le_refl _) _
 have B2:=hid (fun X=>b1.trans ((b2 X).mono b1.size))
 have Q2:=hid (fun X=>((b2 X).block _ (heap_lt q1)).trans q1)
 clear hW1 b2 q1 b1
 refine (HT.out _ (B2.out _)).mono ?_
 rintro e w3 ⟨v3,rfl,hS3,b3⟩
 have q3:=(b3.block _ (heap_lt (Q2.out _))).trans (Q2.out _)
 have B3:=hid ((B2.out _).trans (b3.mono (B2.out _).size))
 have HW:=hid (within6_c _ B v3 _ w3 hS3 (SlOf.str HB.out B3.out B3.out.size))
 have Q3:=hid q3
 clear hS3 b3 q3 Q2 B2 HT
 go_wp2_with fail
 refine HW.out.mono ?_
 rintro e w4 ⟨rfl,b4⟩
 have q4:=(b4.block _ (heap_lt Q3.out)).trans Q3.out
 have c0:w4.cell? ⟨w.heap.size,0,none⟩=some (.int .i64 x.op):=row_cells q4 0
 have c1:w4.cell? ⟨w.heap.size,1,none⟩=some (.string x.s):=row_cells q4 1
 have hl:=heap_lt q4
 have B4:=hid (B3.out.trans (b4.mono B3.out.size))
 have HP:=hid (place_c B _ x.s w4 (SlOf.str HB.out B4.out B4.out.size))
 clear b4 q4 HW Q3
 obtain⟨G,hG⟩:∃ G,within6 (varsV (subT y)) B=G:=⟨_,rfl⟩
 rw[hG]
 have HG:=hid hG
 clear hG
 by_cases h1:x.op=1
 ·have H1:=hid h1
  rw[h1] at c0
  clear h1
  go_wp2_with fail
  refine HP.out.mono ?_
  rintro e w5 ⟨rfl,b5⟩
  have B5:=hid (B4.out.trans (b5.mono B4.out.size))
  clear HP b5
  by_cases hneg:placeV B x.s < 0
  ·have HF:Hid (binds6 x y B=G):=hid (by unfold binds6;rw[H1.out,in6_neg hneg,HG.out];rfl)
   cases G with
   | true=>
    go_wp2
    go_ret
    exact⟨by rw[HF.out];rfl,B5.out⟩
   | false=>
    go_wp2
    go_ret
    exact⟨by rw[HF.out];rfl,B5.out⟩
  ·have HF:Hid (binds6 x y B=false):=hid (by unfold binds6;rw[in6_pos hneg];simp)
   go_wp2
   go_ret
   exact⟨by rw[HF.out];rfl,B5.out⟩
 ·have HF:Hid (binds6 x y B=false):=hid (by unfold binds6;simp[h1])
  have h1':(x.op == 1)=false:=by simpa using h1
  go_wp2
  go_ret
  exact⟨by rw[HF.out];rfl,B4.out⟩
def cand6 (r:Ru) (D:List Nat) (B:List ByteArray) (b:Bool) (k:Nat):Bool:=
 match r.body[k]? with
 | none=>false
 | some l=>!D.contains k && (((l.op == 1) == b) && ready6 r k l B)
def pick6 (r:Ru) (D:List Nat) (B:List ByteArray) (b:Bool):Option Nat:=(List.range r.body.length).find? (cand6 r D B b)
def next6 (r:Ru) (D:List Nat) (B:List ByteArray):Option Nat:=(pick6 r D B false).or (pick6 r D B true)
def walk6 (r:Ru):Nat→Option (List Nat × List ByteArray)
 | 0=>some ([],[])
 | n+1=>(walk6 r n).bind fun x=>(next6 r x.1 x.2).bind fun k=>(r.body[k]?).map fun l=>(x.1++[k],withV x.2 (gains6 r k l))
theorem find_idx {α:Type} (f:α→Bool):∀ l:List α,(l.findIdx? f).bind (fun i=>l[i]?)=l.find? f
 | []=>rfl
 | x::l=>by
  rw[List.findIdx?_cons,List.find?_cons]
  cases f x with
  | true=>rfl
  | false=>
   have:=find_idx f l
   rw[← this]
   cases l.findIdx? f <;> rfl
theorem find_congr {α:Type} {f g:α→Bool}:∀ {l:List α},(∀ x ∈ l,f x=g x)→l.find? f=l.find? g
 | [],_=>rfl
 | x::l,h=>by
  rw[List.find?_cons,List.find?_cons,h x (List.mem_cons_self ..),find_congr fun y hy=>h y (List.mem_cons_of_mem _ hy)]
theorem part_of {r:Ru} {p:Pt} (h:p ∈ partsZ r):∃ k l,r.body[k]?=some l∧p=ptZ r k l:=by
 obtain⟨k,hk,rfl⟩:=List.mem_mapIdx.1 h
 exact⟨k,_,List.getElem?_eq_getElem hk,rfl⟩
def leftOf (r:Ru) (D:List Nat):List Pt:=(partsZ r).filter fun p=>!D.contains p.place
theorem pick_same {r:Ru} (hr:rightR r=true) {D:List Nat} {B:Bd} {bound:List ByteArray} (h:Same6 B bound) (b:Bool):((pickZ B b (leftOf r D)).bind fun i=>(leftOf r D)[i]?).map Pt.place=pick6 r D bound b:=by
 unfold pickZ
 rw[find_idx]
 unfold leftOf pick6
 rw[List.find?_filter,← places_range,List.find?_map]
 congr 1
 refine find_congr fun p hp=>?_
 obtain⟨k,l,hk,rfl⟩:=part_of hp
 have hl:=right_lits hr l (List.mem_of_getElem? hk)
 rw[ready_same hk hl h]
 show _=cand6 r D bound b k
 unfold cand6
 rw[hk,Bool.decide_and,Bool.decide_eq_true,Bool.decide_eq_true]
 rfl
theorem findIdx_get {α:Type} {f:α→Bool} {l:List α} {i:Nat} (h:l.findIdx? f=some i):∃ p,l[i]?=some p:=by
 obtain⟨hi,_⟩:=List.findIdx?_eq_some_iff_getElem.1 h
 exact⟨_,List.getElem?_eq_getElem hi⟩
theorem go_same {r:Ru} (hr:rightR r=true) {D:List Nat} {s:ZS} {bound:List ByteArray} (h:Same6 s.B bound) (hl:s.left=leftOf r D):(goZ s).map (fun x=>x.1.place)=next6 r D bound:=by
 have e:(goZ s).map (fun x=>x.1.place)=((nextZ s).bind fun i=>s.left[i]?).map Pt.place:=by
  unfold goZ
  cases nextZ s with
  | none=>rfl
  | some i=>
   show ((s.left[i]?).map fun p=>(p,s.step i p)).map (fun x=>x.1.place)=(s.left[i]?).map Pt.place
   cases s.left[i]? <;> rfl
 rw[e]
 unfold next6
 rw[← pick_same hr h false,← pick_same hr h true,← hl]
 unfold nextZ
 cases h1:pickZ s.B false s.left with
 | none=>rfl
 | some i=>
  obtain⟨p,hp⟩:=findIdx_get h1
  show (s.left[i]?).map Pt.place=((s.left[i]?).map Pt.place).or _
  rw[hp]
  rfl
theorem erase_filter {α:Type} (f:α→Nat):∀ {l:List α} {i:Nat} {p:α},(l.map f).Nodup→l[i]?=some p→l.eraseIdx i=l.filter fun q=>f q != f p
 | x::l,0,p,hn,h=>by
  have e:x=p:=by simpa using h
  subst e
  rw[List.map_cons,List.nodup_cons] at hn
  rw[List.eraseIdx_cons_zero,List.filter_cons,if_neg (by simp)]
  refine (List.filter_eq_self.2 fun q hq=>?_).symm
  have:f q≠f x:=fun e=>hn.1 (by rw[← e];exact List.mem_map.2 ⟨q,hq,rfl⟩)
  simpa using this
 | x::l,i+1,p,hn,h=>by
  rw[List.map_cons,List.nodup_cons] at hn
  have h':l[i]?=some p:=by simpa using h
  have:f x≠f p:=fun e=>hn.1 (by rw[e];exact List.mem_map.2 ⟨p,List.mem_of_getElem? h',rfl⟩)
  rw[List.eraseIdx_cons_succ,List.filter_cons,if_pos (by simpa using this),erase_filter f hn.2 h']
theorem left_nodup (r:Ru) (D:List Nat):((leftOf r D).map Pt.place).Nodup:=by
 refine List.Nodup.sublist ((List.filter_sublist).map Pt.place) ?_
 rw[places_range]
 exact List.nodup_range
theorem left_step {r:Ru} {D:List Nat} {i:Nat} {p:Pt} (h:(leftOf r D)[i]?=some p):(leftOf r D).eraseIdx i=leftOf r (D++[p.place]):=by
 rw[erase_filter Pt.place (left_nodup r D) h]
 unfold leftOf
 rw[List.filter_filter]
 refine List.filter_congr fun q _=>?_
 by_cases e:q.place=p.place
 ·simp[e]
 ·by_cases e2:D.contains q.place=true <;> simp_all
theorem go_step {r:Ru} (hr:rightR r=true) {D:List Nat} {s u:ZS} {bound:List ByteArray} {p:Pt} (h:Same6 s.B bound) (hl:s.left=leftOf r D) (hg:goZ s=some (p,u)) :
  ∃ l,r.body[p.place]?=some l∧p=ptZ r p.place l∧Same6 u.B (withV bound (gains6 r p.place l))∧u.left=leftOf r (D++[p.place]):=by
 obtain⟨i,hn,hp,rfl⟩:=goZ_left hg
 have hmem:p ∈ partsZ r:=by
  have:=List.mem_of_getElem? hp
  rw[hl] at this
  exact (List.mem_filter.1 this).1
 obtain⟨k,l,hk,rfl⟩:=part_of hmem
 have hll:=right_lits hr l (List.mem_of_getElem? hk)
 refine⟨l,hk,rfl,?_,?_⟩
 ·refine gains_same (by omega) hk hll h ?_
  rw[← ready_same hk hll h]
  have key:∀ b,pickZ s.B b s.left=some i→readyZ s.B (ptZ r k l)=true:=fun b hb=>by
   obtain⟨hi,h1,_⟩:=List.findIdx?_eq_some_iff_getElem.1 hb
   rw[List.getElem?_eq_getElem hi] at hp
   rw[Option.some.inj hp] at h1
   exact (Bool.and_eq_true _ _ ▸ h1).2
  unfold nextZ at hn
  cases h1:pickZ s.B false s.left with
  | none=>rw[h1] at hn;exact key true hn
  | some j=>
   rw[h1] at hn
   have e:j=i:=by simpa using hn
   subst e
   exact key false h1
 ·show s.left.eraseIdx i=_
  rw[hl] at hp ⊢
  exact left_step hp
theorem walk_same {r:Ru} (hr:rightR r=true):∀ n,((seqZ n (zs0 r)).1.length=n∧∃ bound,walk6 r n=some ((seqZ n (zs0 r)).1.map (fun x=>x.1.place),bound)∧Same6 (seqZ n (zs0 r)).2.B bound∧(seqZ n (zs0 r)).2.left=leftOf r ((seqZ n (zs0 r)).1.map fun x=>x.1.place)) ∨
  ((seqZ n (zs0 r)).1.length < n∧walk6 r n=none∧goZ (seqZ n (zs0 r)).2=none)
 | 0=>by
  refine .inl ⟨rfl,[],rfl,fun s=>?_,?_⟩
  ·show hasZ (fun _=>0) s=true ↔ _
   unfold hasZ
   simp
  ·show partsZ r=leftOf r []
   unfold leftOf
   exact (List.filter_eq_self.2 fun q _=>rfl).symm
 | n+1=>by
  obtain⟨L,hL⟩:∃ L,(seqZ n (zs0 r)).1=L:=⟨_,rfl⟩
  obtain⟨t,ht⟩:∃ t,(seqZ n (zs0 r)).2=t:=⟨_,rfl⟩
  have hs:seqZ n (zs0 r)=(L,t):=by rw[← hL,← ht]
  have ih:=walk_same hr n
  rw[hL,ht] at ih
  rcases ih with ⟨h1,bound,h2,h3,h4⟩ | ⟨h1,h2,h3⟩
  ·have hgs:=go_same hr h3 h4
   cases hg:goZ t with
   | none=>
    rw[seqZ_stop n 1 _ _ _ hs hg]
    rw[hg] at hgs
    refine .inr ⟨by show L.length < n+1;omega,?_,hg⟩
    rw[walk6,h2]
    show (next6 r _ bound).bind _=none
    rw[← hgs]
    rfl
   | some q=>
    obtain⟨p,u⟩:=q
    rw[seqZ_snoc n _ _ _ _ _ hs h1 hg]
    obtain⟨l,e1,_,e3,e4⟩:=go_step hr h3 h4 hg
    rw[hg] at hgs
    refine .inl ⟨by simp[h1],withV bound (gains6 r p.place l),?_,e3,?_⟩
    ·rw[walk6,h2]
     show (next6 r _ bound).bind _=_
     rw[← hgs]
     show (r.body[p.place]?).map _=_
     rw[e1]
     simp
    ·rw[List.map_append]
     exact e4
  ·rw[seqZ_stop n 1 _ _ _ hs h3]
   refine .inr ⟨by show L.length < n+1;omega,?_,h3⟩
   rw[walk6,h2]
   rfl
theorem walk_some {r:Ru} (hr:rightR r=true) {D:List Nat} {bound:List ByteArray} (h:walk6 r r.body.length=some (D,bound)):comeZ r=true∧D=ordN r∧Same6 (boundZ r) bound:=by
 rcases walk_same hr r.body.length with ⟨h1,b,h2,h3,_⟩ | ⟨_,h2,_⟩
 ·rw[h] at h2
  cases h2
  refine⟨come_len.2 ?_,rfl,h3⟩
  unfold ordN walkZ
  rw[List.length_map]
  exact h1
 ·rw[h] at h2;cases h2
theorem walk_fail {r:Ru} (hr:rightR r=true) (h:walk6 r r.body.length=none):comeZ r=false:=by
 rcases walk_same hr r.body.length with ⟨_,b,h2,_⟩ | ⟨h1,_,_⟩
 ·rw[h] at h2;cases h2
 ·cases hc:comeZ r with
  | false=>rfl
  | true=>
   have:=come_len.1 hc
   unfold ordN walkZ at this
   rw[List.length_map] at this
   omega
theorem head_same {r:Ru} {bound:List ByteArray} (h:Same6 (boundZ r) bound):(occ (subTs r.head.l)).all (hasZ (boundZ r))=within6 (varsV (subTs r.head.l)) bound:=
 all_same h fun s=>varsV_occ.symm
theorem ord6_good {r:Ru} (hr:rightR r=true) {D:List Nat} {bound:List ByteArray} (h:walk6 r r.body.length=some (D,bound)):ordE r=(if within6 (varsV (subTs r.head.l)) bound=true then 0 else 60)∧orderZ r=D.map fun k:Nat=>(k:Int):=by
 obtain⟨h1,rfl,h3⟩:=walk_some hr h
 refine⟨?_,orderZ_eq r⟩
 unfold ordE safeZ
 rw[if_pos hr,h1,Bool.true_and,head_same h3]
theorem ord6_bad {r:Ru} (hr:rightR r=true) (h:walk6 r r.body.length=none):ordE r=60:=by
 unfold ordE safeZ
 rw[if_pos hr,walk_fail hr h,Bool.false_and,if_neg (by decide)]
end Go.Proofs.YtfmldnbcjbflbaaGreatDoor

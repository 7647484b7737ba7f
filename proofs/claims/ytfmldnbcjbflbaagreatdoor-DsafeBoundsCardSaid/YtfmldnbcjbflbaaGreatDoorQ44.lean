/- Si6@1, Sj6@1, Zframe@1, Zbd2@1, Zby@1 -/
import Derived.Test.YtfmldnbcjbflbaaGreatDoorQ39
import Derived.Test.YtfmldnbcjbflbaaGreatDoorQ43
set_option linter.unusedSimpArgs false
set_option linter.unusedVariables false
namespace Go.Proofs.YtfmldnbcjbflbaaGreatDoor
open Lib(hid)
open Go.RowKit
def OuR6 (r:Ru) (k:Int) (n0:Nat) (w:World) (e:Ending) (w':World):Prop:=
 ((rightR r=false∧e=.returned (.tuple #[.slice none 0 0,.int .i64 30]))∨(rightR r=true∧(∀ (n:Nat) (l:Lt),k=n→r.body[n]?=some l→l.op < 7)∧e=.returned (.tuple #[.slice none 0 0,.int .i64 2])) ∨
  ∃ (n:Nat) (l:Lt) (v:Value),rightR r=true∧k=n∧r.body[n]?=some l∧7≤l.op∧e=.returned (.tuple #[v,.int .i64 0])∧SlOf w' w'.heap.size 1 StrC (outer6 r n l) v)∧Below n0 w w'
set_option maxRecDepth 100000 in
set_option maxHeartbeats 16000000 in
theorem outerE6_c (r:Ru) (k:Int) (w:World) (cs:List Value) (hc:RuC w w.heap.size r cs) (hn:(termsR r).length+r.body.length≤10000) :
  Calls Tryz.prog 21 #[.agg cs.toArray,.int .i64 k] w (OuR6 r k w.heap.size w):=by
 have HR:=hid (fun (W:World) (hb:Below w.heap.size w W)=>rrightRule_c r W cs ((hc.below hb).more hb.size))
 have HOu:=hid (fun (hr:rightR r=true) (n:Nat) (l:Lt) (hl:r.body[n]?=some l) (W:World) (hb:Below w.heap.size w W)=>outer6_c r n l W cs ((hc.below hb).more hb.size) hr (by omega) hl)
 obtain⟨o0,k0,o1,k1,rfl,_,hh,hbd⟩:=hc.look
 obtain⟨o2,k2,e2,hc1,hm1,S1⟩:=SlOf.open hbd
 cases e2
 clear hc hh hbd hn
 go_enter Tryz.func21,Tryz.ntmps21
 go_wp2_with fail
 have B0:Hid (∀ X,Below w.heap.size w (w.alloc X)):=hid (fun X=>(Below.refl _ _).alloc (Nat.le_refl _) _)
 refine (HR.out _ (B0.out _)).mono ?_
 rintro e w1 ⟨rfl,b1⟩
 have Q1:=hid ((b1.block w.heap.size (by simp)).trans (World.alloc_heap_new w _))
 have B1:=hid ((B0.out _).trans (b1.mono (by simp)))
 have y0:w1.cell? ⟨w.heap.size,0,none⟩=some (.string r.head.rel):=row_cells Q1.out 0
 have y1:w1.cell? ⟨w.heap.size,1,none⟩=some (.slice o0 r.head.l.length k0):=row_cells Q1.out 1
 have y2:w1.cell? ⟨w.heap.size,2,none⟩=some (.slice o1 r.body.length k1):=row_cells Q1.out 2
 have y3:w1.cell? ⟨w.heap.size,3,none⟩=some (.int .i64 r.line):=row_cells Q1.out 3
 have hl1:w.heap.size < w1.heap.size:=heap_lt Q1.out
 clear b1
 cases hr:rightR r with
 | false=>
  have Hr:=hid hr
  clear hr
  go_wp2
  go_ret2
  exact⟨.inl ⟨Hr.out,rfl⟩,B1.out⟩
 | true=>
  have Hr:=hid hr
  clear hr
  by_cases hk0:k < 0
  ·go_wp2
   go_ret2
   exact⟨.inr (.inl ⟨Hr.out,fun n l e=>by omega,rfl⟩),B1.out⟩
  ·by_cases hk1:k ≥ (r.body.length:Int)
   ·go_wp2
    go_ret2
    exact⟨.inr (.inl ⟨Hr.out,fun n l e hl=>by have:=(List.getElem?_eq_some_iff.1 hl).1;omega,rfl⟩),B1.out⟩
   ·obtain⟨n,rfl⟩:=Int.eq_ofNat_of_zero_le (show 0≤k by omega)
    have hk1':(n:Int) < (r.body.length:Int):=by omega
    have hk0':(0:Int)≤(n:Int):=by omega
    obtain⟨l,hl⟩:∃ l,r.body[n]?=some l:=⟨_,List.getElem?_eq_getElem (show n < r.body.length by omega)⟩
    obtain⟨a,p0,q0,p1,q1,p2,q2,rfl,ha,Hc,c0,_⟩:=lt_at S1 B1.out hl
    have hal:(a.add (n * 11)).block < w1.heap.size:=by rw[addBlock];have:=B1.out.size;omega
    have Hl:=hid hl
    clear hl Hc
    by_cases h7:l.op < 7
    ·have H7:=hid h7
     go_wp2
     go_ret2
     exact⟨.inr (.inl ⟨Hr.out,fun m l' e hl'=>by
      have e2:n=m:=by omega
      subst e2
      rw[Hl.out] at hl'
      cases hl'
      exact H7.out,rfl⟩),B1.out⟩
    ·have H7:=hid (show 7≤l.op by omega)
     have HC:=hid (HOu.out Hr.out n l Hl.out w1 B1.out)
     go_wp2_with fail
     refine HC.out.mono ?_
     rintro e w2 ⟨v2,rfl,hS2,b2⟩
     have HS2:=hid hS2
     have B2:=hid (B1.out.trans (b2.mono B1.out.size))
     obtain⟨ov,qv,rfl,_⟩:=SlOf.uni hS2
     clear hS2 b2 HC
     go_wp2
     go_ret2
     exact⟨.inr (.inr ⟨n,l,_,Hr.out,rfl,Hl.out,H7.out,rfl,HS2.out⟩),B2.out⟩
end Go.Proofs.YtfmldnbcjbflbaaGreatDoor
namespace Go.Proofs.YtfmldnbcjbflbaaGreatDoor
open Lib(hid)
open Go.RowKit
def Bo6R (r:Ru) (k:Int) (n0:Nat) (w:World) (e:Ending) (w':World):Prop:=
 ((ordE r≠0∧e=.returned (.tuple #[.slice none 0 0,.int .i64 (ordE r)]))∨(ordE r=0∧(k < 0∨(r.body.length:Int) < k)∧e=.returned (.tuple #[.slice none 0 0,.int .i64 2])) ∨
  ∃ (n:Nat) (D:List Nat) (B:List ByteArray) (v:Value),ordE r=0∧k=n∧n≤r.body.length∧walk6 r n=some (D,B)∧e=.returned (.tuple #[v,.int .i64 0])∧SlOf w' w'.heap.size 1 StrC ((varsA r).filter (in6 B)) v)∧Below n0 w w'
set_option maxRecDepth 100000 in
set_option maxHeartbeats 16000000 in
theorem bound6_c (r:Ru) (k:Int) (w:World) (cs:List Value) (hc:RuC w w.heap.size r cs) (hn:(termsR r).length+r.body.length≤10000) :
  Calls Tryz.prog 19 #[.agg cs.toArray,.int .i64 k] w (Bo6R r k w.heap.size w):=by
 have HOr:=hid (fun (W:World) (hb:Below w.heap.size w W)=>order6_c r W cs ((hc.below hb).more hb.size) hn)
 have HWk:=hid (fun (hr:rightR r=true) (n:Nat) (hnn:n≤r.body.length) (W:World) (hb:Below w.heap.size w W)=>walk6_c r n W cs ((hc.below hb).more hb.size) hr hn hnn)
 have HVs:=hid (fun (W:World) (hb:Below w.heap.size w W)=>vars5_c r W cs ((hc.below hb).more hb.size) (by omega))
 have hlen:(varsA r).length≤1000000:=by
  unfold varsA
  split
  ·have:=varsV_len (termsR r);omega
  ·simp
 obtain⟨o0,k0,o1,k1,rfl,_,hh,hbd⟩:=hc.look
 obtain⟨i0,hi0,hz0,hz1,hz2⟩:=info_parts info_str
 clear hc hh hbd hn
 obtain⟨all,hall⟩:∃ all,varsA r=all:=⟨_,rfl⟩
 rw[hall] at HVs hlen
 have Hall:=hid hall
 clear hall
 go_enter Tryz.func19,Tryz.ntmps19
 go_wp2_with fail
 have B0:Hid (∀ X,Below w.heap.size w (w.alloc X)):=hid (fun X=>(Below.refl _ _).alloc (Nat.le_refl _) _)
 refine (HOr.out _ (B0.out _)).mono ?_
 rintro e w1 ⟨hR,b1⟩
 have Q1:=hid ((b1.block w.heap.size (by simp)).trans (World.alloc_heap_new w _))
 have B1:=hid ((B0.out _).trans (b1.mono (by simp)))
 have y0:w1.cell? ⟨w.heap.size,0,none⟩=some (.string r.head.rel):=row_cells Q1.out 0
 have y1:w1.cell? ⟨w.heap.size,1,none⟩=some (.slice o0 r.head.l.length k0):=row_cells Q1.out 1
 have y2:w1.cell? ⟨w.heap.size,2,none⟩=some (.slice o1 r.body.length k1):=row_cells Q1.out 2
 have y3:w1.cell? ⟨w.heap.size,3,none⟩=some (.int .i64 r.line):=row_cells Q1.out 3
 have hl1:w.heap.size < w1.heap.size:=heap_lt Q1.out
 clear b1
 rcases hR with ⟨he,rfl⟩ | ⟨he,v1,rfl,hS1⟩
 ·have HE:=hid he
  have hne:(ordE r == 0)=false:=by simpa using he
  obtain⟨oe,hoe⟩:∃ x,ordE r=x:=⟨_,rfl⟩
  have HOe:=hid hoe
  rw[hoe] at he hne
  rw[hoe]
  clear hoe
  go_wp2
  go_ret2
  exact⟨.inl ⟨HE.out,by rw[HOe.out];rfl⟩,B1.out⟩
 ·have HE:=hid he
  obtain⟨o3,q3,rfl,_⟩:=SlOf.uni hS1
  clear hS1 he
  by_cases hk0:k < 0
  ·go_wp2
   go_ret2
   exact⟨.inr (.inl ⟨HE.out,.inl hk0,rfl⟩),B1.out⟩
  ·by_cases hk1:k > (r.body.length:Int)
   ·go_wp2
    go_ret2
    exact⟨.inr (.inl ⟨HE.out,.inr (by omega),rfl⟩),B1.out⟩
   ·obtain⟨n,rfl⟩:=Int.eq_ofNat_of_zero_le (show 0≤k by omega)
    have hnl:n≤r.body.length:=by omega
    have hk0':(0:Int)≤(n:Int):=by omega
    have HC:=hid (HWk.out (ord_right HE.out) n hnl w1 B1.out)
    have HNl:=hid hnl
    go_wp2_with fail
    refine HC.out.mono ?_
    rintro e w2 hR
    rcases hR with ⟨hw,_,_⟩ | ⟨D,B,v,u,hw,rfl,hv,hu,b2⟩
    ·exact absurd hw (walk_pre HE.out HNl.out)
    ·have HW:=hid hw
     have HU:=hid hu
     have Q2:=hid ((b2.block _ (heap_lt Q1.out)).trans Q1.out)
     have B2:=hid (B1.out.trans (b2.mono B1.out.size))
     obtain⟨ou,qu,rfl,_⟩:=SlOf.uni hu
     obtain⟨ov,qv,rfl,_⟩:=SlOf.uni hv
     have z0:w2.cell? ⟨w.heap.size,0,none⟩=some (.string r.head.rel):=row_cells Q2.out 0
     have z1:w2.cell? ⟨w.heap.size,1,none⟩=some (.slice o0 r.head.l.length k0):=row_cells Q2.out 1
     have z2:w2.cell? ⟨w.heap.size,2,none⟩=some (.slice o1 r.body.length k1):=row_cells Q2.out 2
     have z3:w2.cell? ⟨w.heap.size,3,none⟩=some (.int .i64 r.line):=row_cells Q2.out 3
     have hl2:w.heap.size < w2.heap.size:=heap_lt Q2.out
     have HV:=hid (HVs.out w2 B2.out)
     clear hw hu hv b2 HC y0 y1 y2 y3
     go_wp2_with fail
     refine HV.out.mono ?_
     rintro e w4 ⟨v4,rfl,hS4,b4⟩
     have B4:=hid (B2.out.trans (b4.mono B2.out.size))
     have HU4:=hid (SlOf.str HU.out b4 b4.size)
     have HS4:=hid hS4
     obtain⟨oa,ka,rfl,_,_,SA⟩:=SlOf.open hS4
     obtain⟨f,hf⟩:∃ f:ByteArray→Bool,in6 B=f:=⟨_,rfl⟩
     have Hf:=hid hf
     clear hS4 b4 HV z0 z1 z2 z3 hf
     go_wp2_with fail
     go_loopw [11,13] (fun lv iv wr=>∃ i:Nat,i≤all.length∧iv=.int .i64 (i:Int)∧Hid (wr.ownsRow w4.heap.size 9 1 lv ((all.take i).filter f).length (((all.take i).filter f).map Value.string))∧Hid (Below w4.heap.size w4 wr)) (fun _ iv _=>all.length - (intOf iv).toNat)
     case atStart=>exact⟨0,Nat.zero_le _,rfl,hid (World.ownsRow_nil _ _ _ _),hid (Below.refl _ _)⟩
     case round=>
      obtain⟨i,hi,rfl,HOw,HBr⟩:=hrel
      have HB:=hid (B4.out.trans (HBr.out.mono B4.out.size))
      obtain⟨cur,hcur⟩:∃ cur,(all.take i).filter f=cur:=⟨_,rfl⟩
      have hcl:cur.length≤i:=by
       rw[← hcur]
       exact Nat.le_trans (List.length_filter_le ..) (by rw[List.length_take];omega)
      rw[hcur] at HOw
      by_cases hlt:i < all.length
      ·have hlt':(i:Int) < (all.length:Int):=by omega
       obtain⟨x,hx⟩:∃ x,all[i]?=some x:=⟨all[i],List.getElem?_eq_getElem hlt⟩
       obtain⟨p,rfl,hp,_,d0⟩:=str_at SA HBr.out hx
       have hpl:(p.add i).block < wr.heap.size:=by rw[addBlock];have:=HBr.out.size;omega
       have HP:=hid (place_c B _ x wr (SlOf.str HU4.out HBr.out HBr.out.size))
       have HNo:Hid (f x=false→(all.take (i+1)).filter f=cur):=hid (fun h=>by rw[filter_no hx h,hcur])
       have HYes:Hid (f x=true→(all.take (i+1)).filter f=cur++[x]):=hid (fun h=>by rw[filter_yes hx h,hcur])
       have HFx:Hid (f x=in6 B x):=hid (by rw[← Hf.out])
       clear hx hcur
       go_wp2_with fail
       refine HP.out.mono ?_
       rintro e w6 ⟨rfl,b6⟩
       have HB6r:=hid (HBr.out.trans (b6.mono HBr.out.size))
       have HOw6:=hid (own_below HOw.out b6)
       have d6:w6.cell? (p.add i)=some (.string x):=(World.cell?_of_block (b6.block _ hpl)).trans d0
       have hpl6:(p.add i).block < w6.heap.size:=by have:=b6.size;omega
       have HSz:=hid HB6r.out.size
       clear HP b6 d0
       by_cases h2:placeV B x ≥ 0
       ·have Hz:Hid ((all.take (i+1)).filter f=cur++[x]):=hid (HYes.out (by rw[HFx.out,in6_pos (by omega)]))
        have HS1:Hid (cur.length+1≤maxLen):=hid (by unfold maxLen;omega)
        have HS2:Hid ((cur.length+1) * 16≤140737488355328):=hid (by omega)
        go_wp2_with (at_builtin;refine wpList_append_own _ rfl (.tmp 53) (.tmp 58) 45 rfl w4.heap.size 9 i0 _ 1 16 Tryz.underlying45 hi0 hz0 hz1 hz2 rfl (by decide) _ cur.length _ rfl (HOw6.out.alloc _) _ 1 1 [.string x] rfl rfl (news_one _ _ _) (one_str _) HS1.out HS2.out (by have:=HSz.out;simp;omega) ?_;intro v' w7 hown' hgrow _;have HG:=hid (grown_past hgrow);have HOw7:=hid hown';clear hgrow hown')
        go_roundw
        case rel=>
         refine⟨i+1,hlt,by go_num,hid ?_,hid ?_⟩
         ·rw[Hz.out,List.length_append,List.map_append];exact HOw7.out
         ·exact HB6r.out.grown HG.out HB6r.out.size (fun q hq=>(HOw6.out.lt q hq).1)
        case measure=>simp[intOf];omega
       ·have Hz:Hid ((all.take (i+1)).filter f=cur):=hid (HNo.out (by rw[HFx.out,in6_neg (by omega)]))
        go_wp2
        go_roundw
        case rel=>exact⟨i+1,hlt,by go_num,hid (by rw[Hz.out];exact HOw6.out),HB6r⟩
        case measure=>simp[intOf];omega
      ·have hlt':¬ (i:Int) < (all.length:Int):=by omega
       obtain rfl:i=all.length:=by omega
       rw[List.take_of_length_le (Nat.le_refl _)] at hcur
       obtain⟨oq,kq,rfl⟩:=own_shape HOw.out
       have HR:Hid (SlOf wr wr.heap.size 1 StrC ((varsA r).filter (in6 B)) (.slice oq cur.length kq)):=hid (by
        rw[Hall.out,Hf.out,hcur]
        exact sl_row (R:=StrC) HOw.out (fun s hs=>⟨rfl,str_sizes HS4.out s (by rw[← hcur] at hs;exact (List.mem_filter.1 hs).1)⟩))
       clear hcur
       go_wp2
       go_ret2
       exact⟨.inr (.inr ⟨n,D,B,_,HE.out,rfl,HNl.out,HW.out,rfl,HR.out⟩),HB.out⟩
end Go.Proofs.YtfmldnbcjbflbaaGreatDoor
namespace Go.Proofs.YtfmldnbcjbflbaaGreatDoor
open Lib(hid)
open Go.ChangeShapes Go.WideShapes Go.ChangeAt Go.RowKit
theorem int64_bounds {n:Int} (h:(Lit.int .i64 n).wf=true):-9223372036854775808≤n∧n≤9223372036854775807:=by
 simp only[Lit.wf,Bool.and_eq_true,decide_eq_true_eq] at h
 exact h
end Go.Proofs.YtfmldnbcjbflbaaGreatDoor
namespace Go.Proofs.YtfmldnbcjbflbaaGreatDoor
open Lib(hid)
open Go.RowKit Go.Shelf
attribute [local go_sem] Oper.semAt_some
inductive BndR (n0:Nat) (w:World) (r:Ru) (k:Int):Ending→World→Prop
 | bad {w':World}:ordE r≠0→Below n0 w w'→BndR n0 w r k (.returned (.tuple #[.slice none 0 0,.int .i64 (ordE r)])) w'
 | arg {w':World}:ordE r=0→(k < 0∨((orderZ r).length:Int) < k)→Below n0 w w'→BndR n0 w r k (.returned (.tuple #[.slice none 0 0,.int .i64 2])) w'
 | good {w':World} {v:Value}:ordE r=0→0≤k→k≤((orderZ r).length:Int)→SlOf w' w'.heap.size 1 StrC ((varsA r).filter (byZ (boundZ r) k)) v→Below n0 w w'→BndR n0 w r k (.returned (.tuple #[v,.int .i64 0])) w'
set_option maxRecDepth 100000 in
set_option maxHeartbeats 8000000 in
theorem bound_c (r:Ru) (cs:List Value) (k:Int) (t a u:Addr) (w:World) (hc:RuC w w.heap.size r cs) (hf:FewR r) (hp:FewP' (partsZ r)) (hlen:(termsR r).length≤300000) (hS:∀ t ∈ termsR r,t.s.size≤1000000) (E:EnvZ t a u w) :
  Calls Tryz.prog 18 #[.agg cs.toArray,.int .i64 k] w (BndR w.heap.size w r k):=by
 obtain⟨o0,k0,o1,k1,rfl,_⟩:=hc.look
 obtain⟨q0,hq0⟩:∃ q,w.heap.size=q:=⟨_,rfl⟩
 obtain⟨W1,hW1⟩:∃ W,(w.alloc (.cells #[.string r.head.rel,.slice o0 r.head.l.length k0,.slice o1 r.body.length k1,.int .i64 r.line] 37)).alloc (.cells #[.int .i64 k] 3)=W:=⟨_,rfl⟩
 have b1:Below w.heap.size w W1:=by rw[← hW1];exact ((Below.refl _ _).alloc (Nat.le_refl _) _).alloc (by simp) _
 have rr1:W1.heap[q0]?=some (.cells #[.string r.head.rel,.slice o0 r.head.l.length k0,.slice o1 r.body.length k1,.int .i64 r.line] 37 (0,0)):=by rw[← hW1,← hq0];exact (Below.heap_alloc _ _ _ (by simp)).trans (World.alloc_heap_new w _)
 have rk1:W1.heap[q0+1]?=some (.cells #[.int .i64 k] 3 (0,0)):=by
  have h1:=World.alloc_heap_new (w.alloc (.cells #[.string r.head.rel,.slice o0 r.head.l.length k0,.slice o1 r.body.length k1,.int .i64 r.line] 37)) (.cells #[.int .i64 k] 3)
  rw[World.size_alloc,hW1,hq0] at h1
  exact h1
 have HK:=hid (callsIn_wide.1 (walkThrough_in r _ t a u W1.heap.size W1 rfl ((hc.below b1).more b1.size) hf hp (E.below b1).z (E.below b1).tr))
 have HE:=hid (E.below b1)
 have HCr:=hid (fun (W:World) (hb:Below W1.heap.size W1 W)=>(hc.below (b1.trans (hb.mono b1.size))).more (Nat.le_trans b1.size hb.size))
 have B1:=hid b1
 have RR1:=hid rr1
 have RK1:=hid rk1
 have HW1:=hid hW1
 have HSz:=hid hS
 have Hq0:=hid hq0
 clear hc hf hp E b1 hW1 rr1 rk1 hS
 go_enter Tryz.func18,Tryz.ntmps18
 go_wp2_with fail
 try rw[HW1.out]
 refine HK.out.mono ?_
 clear HK
 intro e2 w2 hT
 cases hT with
  | tree h1 h2=>
   have hbA:Below w2.heap.size w2 (w2.alloc (.cells #[.slice none 0 0,.map none,.bool false] 72)):=(Below.refl _ _).alloc (Nat.le_refl _) _
   have HN:=hid (numT_c _ a u _ ((HE.out.below h2).below hbA).z)
   have B2:=hid ((B1.out.trans (h2.mono B1.out.size)).trans (hbA.mono (Nat.le_trans B1.out.size h2.size)))
   have HO:=hid (ordE_tree h1)
   clear hbA
   clear h1 h2
   unfold errV at *
   go_wp2_with fail
   refine HN.out.mono ?_
   rintro e3 w3 ⟨rfl,b3⟩
   have B3:=hid (B2.out.trans (b3.mono B2.out.size))
   clear b3
   go_wp2
   go_ret2
   have hfin:BndR w.heap.size w r k (.returned (.tuple #[.slice none 0 0,.int .i64 (ordE r)])) w3:=.bad (by rw[HO.out];decide) B3.out
   rw[HO.out] at hfin
   exact hfin
  | ready kk h1 h0 h2=>
   have hbA:Below w2.heap.size w2 (w2.alloc (.cells #[.slice none 0 0,.map none,.bool false] 72)):=(Below.refl _ _).alloc (Nat.le_refl _) _
   have HN:=hid (numR_c kk _ a u _ ((HE.out.below h2).below hbA).z (Nat.le_refl _))
   have B2:=hid ((B1.out.trans (h2.mono B1.out.size)).trans (hbA.mono (Nat.le_trans B1.out.size h2.size)))
   have HO:=hid (ordE_un h1 h0)
   clear hbA
   clear h1 h2 h0
   go_wp2_with fail
   refine HN.out.mono ?_
   rintro e3 w3 ⟨rfl,b3⟩
   have B3:=hid (B2.out.trans (b3.mono B2.out.size))
   clear b3
   go_wp2
   go_ret2
   have hfin:BndR w.heap.size w r k (.returned (.tuple #[.slice none 0 0,.int .i64 (ordE r)])) w3:=.bad (by rw[HO.out];decide) B3.out
   rw[HO.out] at hfin
   exact hfin
  | bound s h1 h0 h2=>
   have hbA:Below w2.heap.size w2 (w2.alloc (.cells #[.slice none 0 0,.map none,.bool false] 72)):=(Below.refl _ _).alloc (Nat.le_refl _) _
   have HN:=hid (numB_c s _ a u _ ((HE.out.below h2).below hbA).z (Nat.le_refl _))
   have B2:=hid ((B1.out.trans (h2.mono B1.out.size)).trans (hbA.mono (Nat.le_trans B1.out.size h2.size)))
   have HO:=hid (ordE_un h1 h0)
   clear hbA
   clear h1 h2 h0
   go_wp2_with fail
   refine HN.out.mono ?_
   rintro e3 w3 ⟨rfl,b3⟩
   have B3:=hid (B2.out.trans (b3.mono B2.out.size))
   clear b3
   go_wp2
   go_ret2
   have hfin:BndR w.heap.size w r k (.returned (.tuple #[.slice none 0 0,.int .i64 (ordE r)])) w3:=.bad (by rw[HO.out];decide) B3.out
   rw[HO.out] at hfin
   exact hfin
  | @good _ v M n c h1 h0 hs hm hM h2=>
   obtain⟨ov,cv,rfl,_,_,_⟩:=SlOf.open hs
   obtain⟨W3,hW3⟩:∃ W,w2.alloc (.cells #[.slice ov (orderZ r).length cv,.map (some M),.bool (invZ r)] 72)=W:=⟨_,rfl⟩
   have b3:Below w2.heap.size w2 W3:=by rw[← hW3];exact (Below.refl _ _).alloc (Nat.le_refl _) _
   have h13:Below W1.heap.size W1 W3:=h2.trans (b3.mono h2.size)
   have rq3:W3.heap[w2.heap.size]?=some (.cells #[.slice ov (orderZ r).length cv,.map (some M),.bool (invZ r)] 72 (0,0)):=by rw[← hW3];exact World.alloc_heap_new w2 _
   have rr3:=(h13.block _ (heap_lt RR1.out)).trans RR1.out
   have rk3:=(h13.block _ (heap_lt RK1.out)).trans RK1.out
   have HPk:=hid (pick_c r _ t w2.heap.size (q0+1) M n c k (boundZ r) _ _ W3 (HCr.out W3 h13) hlen HSz.out (HE.out.below h13).tr rq3 rk3 (hm.below b3 hm.lt))
   obtain⟨⟨y0,_,_⟩,_⟩:=row3 rq3
   obtain⟨x0,x1,x2,x3⟩:=row4 rr3
   have z0:W3.cell? ⟨q0+1,0,none⟩=some (.int .i64 k):=row_cells rk3 0
   have lq:=heap_lt rq3
   have lr:=heap_lt rr3
   have lk:=heap_lt rk3
   have B3:=hid (B1.out.trans (h13.mono B1.out.size))
   have HO:=hid (ordE_ok h1 h0)
   have HW3:=hid hW3
   clear h1 h0 hs hm hM h2 b3 h13 rq3 rr3 rk3
   by_cases hk0:k < 0
   ·go_wp2
    go_ret2
    exact .arg HO.out (.inl hk0) B3.out
   ·by_cases hk1:((orderZ r).length:Int) < k
    ·have hk2:k > ((orderZ r).length:Int):=hk1
     go_wp2
     go_ret2
     exact .arg HO.out (.inr hk1) B3.out
    ·have hk2:¬ (k > ((orderZ r).length:Int)):=hk1
     go_wp2_with fail
     refine HPk.out.mono ?_
     rintro e4 w4 ⟨v4,rfl,hs4,b4⟩
     obtain⟨o4,c4,rfl,_⟩:=SlOf.uni hs4
     have HS4:=hid hs4
     have B4:=hid (B3.out.trans (b4.mono B3.out.size))
     clear hs4 b4
     go_wp2
     go_ret2
     exact .good HO.out (by omega) (by omega) HS4.out B4.out
end Go.Proofs.YtfmldnbcjbflbaaGreatDoor
namespace Go.Proofs.YtfmldnbcjbflbaaGreatDoor
open Lib(hid)
open Go.RowKit
theorem seqZ_len:∀ (k:Nat) (s:ZS),(seqZ k s).2.done=s.done+(seqZ k s).1.length
 | 0,s=>rfl
 | k+1,s=>by
  rw[seqZ]
  cases h:goZ s with
  | none=>rfl
  | some q=>
   obtain⟨p,u⟩:=q
   obtain⟨i,_,_,rfl⟩:=goZ_left h
   have:=seqZ_len k (s.step i p)
   simp only[List.length_cons]
   rw[this]
   show s.done+1+_=_
   omega
theorem seq_add:∀ (n j:Nat) (s:ZS),(seqZ (n+j) s).2=(seqZ j (seqZ n s).2).2
 | 0,j,s=>by rw[Nat.zero_add];rfl
 | n+1,j,s=>by
  rw[show n+1+j=(n+j)+1 by omega,seqZ,seqZ]
  cases h:goZ s with
  | none=>
   have:=seqZ_stop 0 j s s [] rfl h
   rw[Nat.zero_add] at this
   simp only[this]
  | some q=>exact seq_add n j q.2
theorem by_step {d k:Int} (h0:0≤d) (hk:k≤d) (l:List ByteArray) (B:Bd) (s:ByteArray):byZ (addZ (d+1) B l) k s=byZ B k s:=by
 cases hb:hasZ B s with
 | true=>unfold byZ hasZ;rw[addZ_old l B s hb]
 | false=>
  by_cases hm:s ∈ l
  ·unfold byZ
   rw[hb,addZ_new (by omega) l B s hb hm,decide_eq_false (by omega:¬ d+1≤k),Bool.and_false,Bool.false_and]
  ·unfold byZ hasZ;rw[addZ_not l B s hm]
theorem by_seq:∀ (j:Nat) (s:ZS) (k:Int),k≤s.done→∀ x,byZ (seqZ j s).2.B k x=byZ s.B k x
 | 0,_,_,_,_=>rfl
 | j+1,s,k,hk,x=>by
  rw[seqZ]
  cases h:goZ s with
  | none=>rfl
  | some q=>
   obtain⟨p,u⟩:=q
   obtain⟨i,_,_,rfl⟩:=goZ_left h
   have h1:=by_seq j (s.step i p) k (by show k≤((s.done+1:Nat):Int);omega) x
   simp only
   rw[h1]
   exact by_step (by omega) hk _ _ x
theorem addZ_le {d:Int}:∀ (l:List ByteArray) (B:Bd),(∀ x,B x≤d)→∀ x,addZ d B l x≤d
 | [],_,h,x=>h x
 | s::l,B,h,x=>by
  rw[addZ]
  refine addZ_le l _ (fun y=>?_) x
  split
  ·exact h y
  ·unfold updF;split
   ·exact Int.le_refl _
   ·exact h y
theorem seq_top:∀ (j:Nat) (s:ZS),(∀ x,s.B x≤s.done)→∀ x,(seqZ j s).2.B x≤(seqZ j s).2.done
 | 0,_,h,x=>h x
 | j+1,s,h,x=>by
  rw[seqZ]
  cases hg:goZ s with
  | none=>exact h x
  | some q=>
   obtain⟨p,u⟩:=q
   obtain⟨i,_,_,rfl⟩:=goZ_left hg
   exact seq_top j (s.step i p) (fun y=>addZ_le _ _ (fun z=>by have:=h z;omega) y) x
theorem by_walk {r:Ru} (hr:rightR r=true) {n:Nat} (hn:n≤r.body.length) {D:List Nat} {B:List ByteArray} (hw:walk6 r n=some (D,B)) (s:ByteArray):byZ (boundZ r) n s=in6 B s:=by
 rcases walk_same hr n with ⟨h1,bound,h2,h3,_⟩ | ⟨_,h2,_⟩
 ·rw[hw] at h2
  obtain⟨rfl,rfl⟩:D=_∧B=bound:=by simpa using h2
  have hd:(seqZ n (zs0 r)).2.done=n:=by rw[seqZ_len,h1];show 0+n=n;exact Nat.zero_add n
  have he:boundZ r=(seqZ (r.body.length - n) (seqZ n (zs0 r)).2).2.B:=by
   unfold boundZ walkZ
   rw[← seq_add,Nat.add_sub_cancel' hn]
  rw[he,by_seq _ _ _ (by rw[hd];exact Int.le_refl _),← has_same h3]
  have ht:=seq_top n (zs0 r) (fun _=>Int.le_refl _) s.data.toList
  rw[hd] at ht
  unfold byZ
  rw[decide_eq_true ht,Bool.and_true]
 ·rw[hw] at h2;cases h2
end Go.Proofs.YtfmldnbcjbflbaaGreatDoor

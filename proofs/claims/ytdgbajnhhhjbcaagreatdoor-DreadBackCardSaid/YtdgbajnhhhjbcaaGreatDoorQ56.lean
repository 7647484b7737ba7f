/- Rm24@1 -/
import Derived.Test.YtdgbajnhhhjbcaaGreatDoorQ54
import Derived.Test.YtdgbajnhhhjbcaaGreatDoorQ52
set_option linter.unusedSimpArgs false
set_option linter.unusedVariables false
namespace Go.Proofs.YtdgbajnhhhjbcaaGreatDoor
open Lib(hid)
open Go.RowKit
theorem okN_of:∀ t:Tm,N64 t→leastB t=false→okN t=true:=by
 intro t
 induction t using Tm.rec (motive_2:=fun l=>(∀ t ∈ l,N64 t)→leastBs l=false→okNs l=true) with
 | nil _ _=>rfl
 | cons t ts ih ihs hn hl=>
  unfold leastBs at hl
  rw[Bool.or_eq_false_iff] at hl
  unfold okNs
  rw[ih (hn t (by simp)) hl.1,ihs (fun u hu=>hn u (by simp[hu])) hl.2]
  rfl
 | mk o s n l ih=>
  intro hn hl
  rw[leastB_mk,Bool.or_eq_false_iff] at hl
  unfold okN
  rw[ih hn.l hl.1,Bool.true_and]
  have h64:I64 n:=hn.n
  unfold I64 at h64
  cases ho:(o == 2) with
  | false=>rfl
  | true=>
   rw[ho,Bool.true_and] at hl
   have hne:n ≠ -9223372036854775808:=by simpa using hl.2
   have:-9223372036854775808 < n∧n≤9223372036854775807:=by omega
   rw[decide_eq_true this]
   rfl
theorem okNs_of {l:List Tm} (h:∀ t ∈ l,N64 t) (hl:leastBs l=false):l.all okN=true:=by
 induction l with
 | nil=>rfl
 | cons t ts ih=>
  unfold leastBs at hl
  rw[Bool.or_eq_false_iff] at hl
  rw[List.all_cons,okN_of t (h t (by simp)) hl.1,ih (fun u hu=>h u (by simp[hu])) hl.2]
  rfl
theorem okP_of {p:Pg} (h:P64 p) (ho:∀ r ∈ p.rules,oddB r=false):okP p=true:=by
 unfold okP
 rw[List.all_eq_true]
 intro r hr
 have h1:=ho r hr
 obtain⟨h2,h3⟩:=h r hr
 unfold oddB leastA at h1
 rw[Bool.or_eq_false_iff] at h1
 unfold okR okA
 rw[okNs_of h2 h1.1,Bool.true_and,List.all_eq_true]
 intro l hl
 obtain⟨k1,k2,k3⟩:=h3 l hl
 have h4:=List.any_eq_false.1 h1.2 l hl
 have h5:oddL l=false:=by simpa using h4
 unfold oddL leastA at h5
 rw[Bool.or_eq_false_iff,Bool.or_eq_false_iff] at h5
 unfold okLt okA
 rw[okNs_of k1 h5.1.1,okN_of _ k2 h5.1.2,okN_of _ k3 h5.2]
 rfl
theorem dback_math {p:Pg} (hs:smallP p=true) (hr:rightP p=true) (h:P64 p) (hl:(showP p).length≤60000) (hd:(namesD p.decls).Nodup) (ho:∀ r ∈ p.rules,oddB r=false):∃ q,readR (showP p)=(q,0,0)∧sameP p q=true:=by
 obtain⟨ts,q,h1,h2,h3⟩:=foldP_keys hr (okP_of h ho) (by omega) (keysP_len hs hr) hd
 exact⟨q,by unfold readR;rw[h1];exact (if_pos rfl).trans (parseQ_of h2),h3⟩
set_option maxRecDepth 100000 in
set_option maxHeartbeats 4000000 in
theorem dreadBack_c (p:Pg) (a b c d:Addr) (w:World) (cs:List Value) (hp:PgC w w.heap.size p cs) (E:VEnv a b c d w) :
  Calls Tryz.prog 3 #[.agg cs.toArray] w fun e w'=>e=.returned (.bool true)∧Below w.heap.size w w':=by
 have HE:=hid E
 have H64:=hid hp.p64
 obtain⟨p1,q1,r1,s1,rfl,_,_⟩:=hp.look
 obtain⟨n0,hn0⟩:∃ n0,w.heap.size=n0:=⟨_,rfl⟩
 obtain⟨W0,hW0⟩:∃ W0,w.alloc (.cells #[.slice p1 p.decls.length q1,.slice r1 p.rules.length s1] 25)=W0:=⟨_,rfl⟩
 have hb0:Below w.heap.size w W0:=by rw[← hW0];exact (Below.refl _ _).alloc (Nat.le_refl _) _
 have r0:Row n0 25 [.slice p1 p.decls.length q1,.slice r1 p.rules.length s1] W0:=by
  have:=Row.new w 25 [.slice p1 p.decls.length q1,.slice r1 p.rules.length s1]
  rw[hn0] at this
  rw[← hW0]
  exact this
 have B0:=hid hb0
 have P0:=hid ((hp.below hb0).more hb0.size)
 have R0:=hid r0
 have HH:=hid (vshown_c a b c d W0 (E.below hb0))
 clear E hp hb0 r0
 subst hW0
 go_enter Tryz.func3,Tryz.ntmps3
 go_wp2_with fail
 refine HH.out.mono ?_
 rintro e w1 ⟨rfl,b1⟩
 have B1:=hid (B0.out.trans (b1.mono B0.out.size))
 have P1:=hid ((P0.out.below b1).more b1.size)
 have hr1:=R0.out.below b1 R0.out.lt
 have x0:w1.cell? ⟨n0,0,none⟩=some (.slice p1 p.decls.length q1):=hr1.at 0 _ rfl
 have x1:w1.cell? ⟨n0,1,none⟩=some (.slice r1 p.rules.length s1):=hr1.at 1 _ rfl
 have hl1:=hr1.lt
 have R1:=hid hr1
 have H1:=hid (small_c p w1 _ P1.out)
 clear b1 hr1
 go_wp2_with fail
 refine H1.out.mono ?_
 rintro e w2 ⟨rfl,b2⟩
 have B2:=hid (B1.out.trans (b2.mono B1.out.size))
 have P2:=hid ((P1.out.below b2).more b2.size)
 have hr2:=R1.out.below b2 R1.out.lt
 have R2:=hid hr2
 have y0:w2.cell? ⟨n0,0,none⟩=some (.slice p1 p.decls.length q1):=hr2.at 0 _ rfl
 have y1:w2.cell? ⟨n0,1,none⟩=some (.slice r1 p.rules.length s1):=hr2.at 1 _ rfl
 have hl2:=hr2.lt
 clear b2 hr2 x0 x1 hl1
 cases hsp:smallP p with
 | false=>
  rw[show smallI p=0 by unfold smallI;rw[hsp];rfl]
  clear hsp
  go_wp2
  go_ret
  exact⟨rfl,B2.out⟩
 | true=>
  rw[show smallI p=1 by unfold smallI;rw[hsp];rfl]
  have Hsp:=hid hsp
  have H2:=hid (pshow_c p d w2 _ P2.out (HE.out.below B2.out).par.env.env (fun hr=>by have:=prog_len H64.out hsp hr;omega))
  clear hsp
  go_wp2_with fail
  refine H2.out.mono ?_
  rintro e w3 ⟨rfl,b3⟩
  have B3:=hid (B2.out.trans (b3.mono B2.out.size))
  have P3:=hid ((P2.out.below b3).more b3.size)
  have hr3:=R2.out.below b3 R2.out.lt
  have R3:=hid hr3
  have z0:w3.cell? ⟨n0,0,none⟩=some (.slice p1 p.decls.length q1):=hr3.at 0 _ rfl
  have z1:w3.cell? ⟨n0,1,none⟩=some (.slice r1 p.rules.length s1):=hr3.at 1 _ rfl
  have hl3:=hr3.lt
  clear b3 hr3 y0 y1 hl2
  cases hrp:rightP p with
  | false=>
   rw[show ∀ x,shV false x=.tuple #[.string ⟨#[]⟩,.int .i64 30] from fun _=>rfl]
   clear hrp
   go_wp2
   go_ret
   exact⟨rfl,B3.out⟩
  | true=>
   rw[show ∀ x,shV true x=.tuple #[.string ⟨x.toArray⟩,.int .i64 0] from fun _=>rfl]
   have Hrp:=hid hrp
   obtain⟨S,hS⟩:∃ S:ByteArray,⟨(showP p).toArray⟩=S:=⟨_,rfl⟩
   have hSs:S.size=(showP p).length:=by rw[← hS];show (showP p).toArray.size=_;simp
   have HSd:Hid (S.data.toList=showP p):=hid (by rw[← hS])
   rw[hS]
   clear hrp hS
   by_cases hbig:60000 < S.size
   ·have hbig':(60000:Int) < (S.size:Int):=by omega
    go_wp2
    go_ret
    exact⟨rfl,B3.out⟩
   ·have hbig':¬ (60000:Int) < (S.size:Int):=by omega
    have HSs:=hid hSs
    have Hbig:=hid hbig
    have HS:SlOf w3 w3.heap.size 6 (DeC w3 w3.heap.size) p.decls (.slice p1 p.decls.length q1)∧SlOf w3 w3.heap.size 4 (RuC w3 w3.heap.size) p.rules (.slice r1 p.rules.length s1):=by
     obtain⟨v,u,hvu,h1,h2⟩:=P3.out
     have e1:v=.slice p1 p.decls.length q1:=(List.cons.inj hvu).1.symm
     have e2:u=.slice r1 p.rules.length s1:=(List.cons.inj (List.cons.inj hvu).2).1.symm
     rw[← e1,← e2];exact⟨h1,h2⟩
    obtain⟨o0',k0',e1,hcap,hcm,SD⟩:=SlOf.open HS.1
    cases e1
    obtain⟨o1',k1',e1,hcap1,hcm1,SR⟩:=SlOf.open HS.2
    cases e1
    have HB0:Hid (Below w3.heap.size w3 w3):=hid (Below.refl _ _)
    clear z0 z1 hl3 HS hSs hbig
    go_wp2
    go_loopw [6] (fun i wr=>∃ k:Nat,k≤p.decls.length∧i=.int .i64 (k:Int)∧(∀ (i j:Nat) (x y:De),i < j→j < k→p.decls[i]?=some x→p.decls[j]?=some y→(x.rel.toList == y.rel.toList)=false)∧Below w3.heap.size w3 wr) (fun i _=>p.decls.length - (intOf i).toNat)
    case atStart=>exact⟨0,Nat.zero_le _,rfl,fun _ _ _ _ _ h=>absurd h (Nat.not_lt_zero _),HB0.out⟩
    case round=>
     obtain⟨k,hk,rfl,hd,hB⟩:=hrel
     have hBs:=hB.size
     have Hd:=hid hd
     clear hd
     have hr:=R3.out.below hB R3.out.lt
     have x0:wr.cell? ⟨n0,0,none⟩=some (.slice p1 p.decls.length q1):=hr.at 0 _ rfl
     have x1:wr.cell? ⟨n0,1,none⟩=some (.slice r1 p.rules.length s1):=hr.at 1 _ rfl
     have hl:=hr.lt
     by_cases hlt:k < p.decls.length
     ·have hlt':(k:Int) < (p.decls.length:Int):=by omega
      have hk0:(0:Int)≤(k:Int):=by omega
      obtain⟨y,hy⟩:∃ y,p.decls[k]?=some y:=⟨p.decls[k],List.getElem?_eq_getElem hlt⟩
      obtain⟨W1,rfl⟩:∃ W1,W1=wr:=⟨_,rfl⟩
      have Hy:=hid hy
      have HB:=hid hB
      clear hr hy hB
      go_wp2
      go_loopw [7] (fun i wx=>∃ j:Nat,j≤k∧i=.int .i64 (j:Int)∧(∀ (i:Nat) (x:De),i < j→p.decls[i]?=some x→(x.rel.toList == y.rel.toList)=false)∧Below W1.heap.size W1 wx) (fun i _=>k - (intOf i).toNat)
      case atStart=>exact⟨0,Nat.zero_le _,rfl,fun _ _ h=>absurd h (Nat.not_lt_zero _),Below.refl _ _⟩
      case round=>
       obtain⟨j,hj,rfl,hf,hB2⟩:=hrel
       have Hf:=hid hf
       have hBw:Below w3.heap.size w3 wr:=HB.out.trans (hB2.mono hBs)
       have HBw:=hid hBw
       have HB2:=hid hB2
       have hr:=R3.out.below hBw R3.out.lt
       have y0:wr.cell? ⟨n0,0,none⟩=some (.slice p1 p.decls.length q1):=hr.at 0 _ rfl
       have hl2:=hr.lt
       have hBws:=hBw.size
       clear hf hr hB2 x0 x1
       by_cases hjt:j < k
       ·have hjt':(j:Int) < (k:Int):=by omega
        have hjl':(j:Int) < (p.decls.length:Int):=by omega
        have hj0:(0:Int)≤(j:Int):=by omega
        obtain⟨x,hx⟩:∃ x,p.decls[j]?=some x:=⟨p.decls[j],List.getElem?_eq_getElem (by omega)⟩
        obtain⟨bx,_,_,_,_,e1,hbb,_,z0,_⟩:=de_at SD hBw hx
        obtain⟨by',_,_,_,_,e2,_,_,z1,_⟩:=de_at SD hBw Hy.out
        subst e1
        cases e2
        have hzl:(bx.add (j * 6)).block < wr.heap.size:=by rw[addBlock];omega
        have hzl2:(bx.add (k * 6)).block < wr.heap.size:=by rw[addBlock];omega
        have Hx:=hid hx
        clear hx hBw
        cases hq:(x.rel.toList == y.rel.toList) with
        | true=>
         go_wp2
         go_quiet (fail)
         go_wp2
         go_ret
         exact⟨rfl,below_drewN (B3.out.trans (HBw.out.mono B3.out.size)) _⟩
        | false=>
         have Hq2:=hid hq
         go_wp2
         go_quiet (fail)
         go_wp2
         go_roundw
         case rel=>
          refine⟨j+1,hjt,by go_num,fun i z hi hz=>?_,below_drewN HB2.out _⟩
          rcases Nat.lt_or_ge i j with h | h
          ·exact Hf.out i z h hz
          ·have:i=j:=by omega
           subst this
           have hz2:=Hx.out.symm.trans hz
           cases hz2
           exact Hq2.out
         case measure=>simp[intOf];omega
       ·have hjt':¬ (j:Int) < (k:Int):=by omega
        have hjk:j=k:=by omega
        subst hjk
        clear hBw
        go_wp2
        go_roundw
        case rel=>
         refine⟨j+1,hlt,by go_num,fun i' j' x' y' h1 h2 h3 h4=>?_,HBw.out⟩
         rcases Nat.lt_or_ge j' j with h | h
         ·exact Hd.out i' j' x' y' h1 h h3 h4
         ·have:j'=j:=by omega
          subst this
          have hz2:=Hy.out.symm.trans h4
          cases hz2
          exact Hf.out i' x' h1 h3
        case measure=>simp[intOf];omega
     ·have hlt':¬ (k:Int) < (p.decls.length:Int):=by omega
      have hkl:k=p.decls.length:=by omega
      subst hkl
      have Hnd:=hid (names_nodup fun i j x y h1 h2 h3=>Hd.out i j x y h1 (List.getElem?_eq_some_iff.1 h3).1 h2 h3)
      have HB:=hid hB
      clear hr hB
      go_wp2
      clear x0 x1 hl
      go_loopw [8] (fun i wx=>∃ k:Nat,k≤p.rules.length∧i=.int .i64 (k:Int)∧(∀ (i:Nat) (x:Ru),i < k→p.rules[i]?=some x→oddB x=false)∧Below w3.heap.size w3 wx) (fun i _=>p.rules.length - (intOf i).toNat)
      case atStart=>exact⟨0,Nat.zero_le _,rfl,fun _ _ h=>absurd h (Nat.not_lt_zero _),HB.out⟩
      case round=>
       obtain⟨k,hk,rfl,hf,hB⟩:=hrel
       have Hf:=hid hf
       have hBs:=hB.size
       have hr:=R3.out.below hB R3.out.lt
       have x0:wr.cell? ⟨n0,0,none⟩=some (.slice p1 p.decls.length q1):=hr.at 0 _ rfl
       have x1:wr.cell? ⟨n0,1,none⟩=some (.slice r1 p.rules.length s1):=hr.at 1 _ rfl
       have hl:=hr.lt
       clear hf
       by_cases hlt:k < p.rules.length
       ·have hlt':(k:Int) < (p.rules.length:Int):=by omega
        have hk0:(0:Int)≤(k:Int):=by omega
        obtain⟨y,hy⟩:∃ y,p.rules[k]?=some y:=⟨p.rules[k],List.getElem?_eq_getElem hlt⟩
        obtain⟨bx,_,_,_,_,e1,hbb,Hc,c0,c1,c2,c3⟩:=ru_at SR hB hy
        subst e1
        have hzl:(bx.add (k * 4)).block < wr.heap.size:=by rw[addBlock];omega
        have Hy:=hid hy
        have HB2:=hid hB
        have HO:=hid (odd_c y wr [_,_,_,_] Hc.out)
        clear hr hy hB
        go_wp2_with fail
        refine HO.out.mono ?_
        rintro e w4 ⟨rfl,b4⟩
        have HB3:=hid (HB2.out.trans (b4.mono hBs))
        clear b4 x0 x1 c0 c1 c2 c3
        cases hq:oddB y with
        | true=>
         clear hq
         go_wp2
         go_ret
         exact⟨rfl,B3.out.trans (HB3.out.mono B3.out.size)⟩
        | false=>
         have Hq2:=hid hq
         clear hq
         go_wp2
         go_roundw
         case rel=>
          refine⟨k+1,hlt,by go_num,fun i z hi hz=>?_,HB3.out⟩
          rcases Nat.lt_or_ge i k with h | h
          ·exact Hf.out i z h hz
          ·have:i=k:=by omega
           subst this
           have hz2:=Hy.out.symm.trans hz
           cases hz2
           exact Hq2.out
         case measure=>simp[intOf];omega
       ·have hlt':¬ (k:Int) < (p.rules.length:Int):=by omega
        have hkl:k=p.rules.length:=by omega
        subst hkl
        obtain⟨q,hq1,hq2⟩:=dback_math Hsp.out Hrp.out H64.out (by have:=HSs.out;have:=Hbig.out;omega) Hnd.out (fun r hr=>by
         obtain⟨i,hi⟩:=List.mem_iff_getElem?.1 hr
         exact Hf.out i r (List.getElem?_eq_some_iff.1 hi).1 hi)
        have Bw:=hid (B3.out.trans (hB.mono B3.out.size))
        have HPg6:=hid ((P3.out.below hB).more hB.size)
        have Rw:=hid hr
        have Hq2:=hid hq2
        have H6:=hid (read_c S a b c d wr (by have:=Hbig.out;omega) (HE.out.below Bw.out))
        clear hr hq2 hB
        go_wp2_with fail
        refine H6.out.mono ?_
        intro e w6 h6
        rw[HSd.out] at h6
        replace h6:ParP (q,0,0) wr e w6:=by rw[← hq1];exact h6
        obtain⟨v,u,rfl,hp,b6⟩:=h6
        have hp1:=Vis.pg hp (vis_past _ _) (Nat.le_refl _)
        obtain⟨o2,k2,o3,k3,hvu,_,_⟩:=hp1.look
        obtain⟨rfl,rfl⟩:v=.slice o2 q.decls.length k2∧u=.slice o3 q.rules.length k3:=by simpa using hvu
        obtain⟨n6,hn6⟩:∃ n6,w6.heap.size=n6:=⟨_,rfl⟩
        obtain⟨W6,hW6⟩:∃ W6,w6.alloc (.cells #[.slice o2 q.decls.length k2,.slice o3 q.rules.length k3] 25)=W6:=⟨_,rfl⟩
        have hbW:Below w6.heap.size w6 W6:=by rw[← hW6];exact (Below.refl _ _).alloc (Nat.le_refl _) _
        have r6:Row n6 25 [.slice o2 q.decls.length k2,.slice o3 q.rules.length k3] W6:=by
         have:=Row.new w6 25 [.slice o2 q.decls.length k2,.slice o3 q.rules.length k3]
         rw[hn6] at this
         rw[← hW6]
         exact this
        have bw6:Below wr.heap.size wr W6:=b6.trans (hbW.mono b6.size)
        have s0:W6.cell? ⟨n6,0,none⟩=some (.slice o2 q.decls.length k2):=r6.at 0 _ rfl
        have s1':W6.cell? ⟨n6,1,none⟩=some (.slice o3 q.rules.length k3):=r6.at 1 _ rfl
        have rr:=Rw.out.below bw6 Rw.out.lt
        have s2:W6.cell? ⟨n0,0,none⟩=some (.slice p1 p.decls.length q1):=rr.at 0 _ rfl
        have s3:W6.cell? ⟨n0,1,none⟩=some (.slice r1 p.rules.length s1):=rr.at 1 _ rfl
        have l6:=r6.lt
        have l7:=rr.lt
        have B6:=hid (Bw.out.trans (bw6.mono Bw.out.size))
        have H7:=hid (same_c p q W6 _ _ ((HPg6.out.below bw6).more bw6.size) ((hp1.below hbW).more hbW.size))
        clear hp hp1 hvu b6 hbW r6 rr bw6 x0 x1
        subst hW6
        go_wp2_with fail
        refine H7.out.mono ?_
        rintro e w7 ⟨rfl,b7⟩
        rw[Hq2.out]
        have B7:=hid (B6.out.trans (b7.mono B6.out.size))
        clear b7 s0 s1' s2 s3
        go_wp2
        go_ret
        exact⟨rfl,B7.out⟩
end Go.Proofs.YtdgbajnhhhjbcaaGreatDoor

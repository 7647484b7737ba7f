/- Lg@0, Rm21@0 -/
import Derived.Test.YtdgbajnhhhjbcaaGreatDoorQ51
import Derived.Test.YtdgbajnhhhjbcaaGreatDoorQ48
import Derived.Test.YtdgbajnhhhjbcaaGreatDoorQ52
set_option linter.unusedSimpArgs false
set_option linter.unusedVariables false
namespace Go.Proofs.YtdgbajnhhhjbcaaGreatDoor
open Lib(hid)
open Go.RowKit
theorem lexU_cost (l:List UInt8):((lexU l).1.map fun t=>(textL t.1 t.2).length).sum≤l.length:=by
 induction h:l.length using Nat.strongRecOn generalizing l with
 | _ n ih=>
  subst h
  by_cases h:l.drop (gap false l)=[]
  ·rw[lexU_nil l h];simp
  cases ht:tokL (l.drop (gap false l)) with
  | none=>rw[lexU_bad l h ht];simp
  | some a=>
   obtain⟨k,s,z⟩:=a
   have hr:=rest_len h ht
   have hi:=ih _ hr _ rfl
   have hx:=tok_text ht
   rw[lexU_tok l h ht]
   simp only[List.map_cons,List.sum_cons,hx]
   simp only[List.length_take,List.length_drop] at hi hr ⊢
   omega
theorem cost_sum:∀ l:List TokI,cost l=(l.map tlen).sum
 | []=>rfl
 | t::l=>by rw[cost,cost_sum l,List.map_cons,List.sum_cons]
theorem lexL_cost (l:List UInt8):cost ((lexL l).1.map tokI)≤l.length:=by
 have h:=lexU_cost l
 rw[lexU_fst,List.map_map] at h
 rw[cost_sum,List.map_map]
 refine Nat.le_trans (Nat.le_of_eq ?_) h
 congr 1
 refine List.map_congr_left fun t _=>?_
 show tlen (tokI t)=(textL t.kind t.s).length
 unfold tlen textL tokI
 simp only
 by_cases h3:t.kind=3
 ·rw[if_pos h3,if_pos (by omega)]
 ·rw[if_neg h3,if_neg (by omega)]
theorem lexR_cost {l:List UInt8} {ts:List Tk} {a b:Nat} (h:lexR l=(ts,a,b)):cost (ts.map tokI)≤l.length:=by
 rcases lexR_mem h with ⟨rfl,_,_⟩ | rfl
 ·exact lexL_cost l
 ·exact Nat.zero_le _
theorem keyU_len (l:List UInt8):(keyU l).1.length≤l.length:=by
 unfold keyU
 rw[List.length_map]
 exact lexU_len l
theorem again_keys {l:List UInt8} {ts:List Tk} {p:Pg} (hl:l.length≤3000) (h:lexR l=(ts,0,0)) (h2:parseP (ts.map tokI)=(p,0,0)):rightP p=true∧(showP p).length≤18000∧((namesD p.decls).Nodup→∃ ts' q,lexR (showP p)=(ts',0,0)∧parseP (ts'.map tokI)=(q,0,0)∧sameP p q=true):=by
 obtain⟨_,_,g2,g3⟩:=lexR_tok h
 have hp:=parse_right g2 h2
 obtain⟨ho,hc⟩:=parse_cost g3 h2
 have h3:=show_lenP hp
 have h4:=lexR_cost h
 have hk:=reads_prog hp ho
 have h5:=keyU_len (showP p)
 rw[hk] at h5
 simp only at h5
 exact⟨hp,by omega,fun hd=>foldP_keys hp ho (by omega) (by omega) hd⟩
theorem lexR_fail {l:List UInt8} {ts:List Tk} {n e:Nat} (h:lexR l=(ts,n,e)):(n=0∧e=0)∨ts=[]:=by
 unfold lexR at h
 split at h
 ·cases h;exact .inr rfl
 ·split at h
  ·cases h;exact .inr rfl
  ·split at h
   ·cases h;exact .inr rfl
   ·cases h;exact .inl ⟨rfl,rfl⟩
theorem lexR_some {l:List UInt8} {ts:List Tk} {n e:Nat} (hl:l.length≤3000) (h:lexR l=(ts,n,e)):∃ l':List UInt8,l'.length≤3000∧lexR l'=(ts,0,0):=by
 rcases lexR_fail h with ⟨rfl,rfl⟩ | rfl
 ·exact⟨l,hl,h⟩
 ·exact⟨[],by simp,by decide +kernel⟩
theorem right_math {l:List UInt8} {ts:List Tk} {n e:Nat} {p:Pg} {m:Int} (hl:l.length≤3000) (h:lexR l=(ts,n,e)) (h2:parseQ (ts.map tokI)=(p,m,0)) :
  rightP p=true∧(showP p).length≤18000∧((namesD p.decls).Nodup→∃ q,readR (showP p)=(q,0,0)∧sameP p q=true):=by
 obtain⟨l',hl',h'⟩:=lexR_some hl h
 obtain⟨h3,rfl⟩:=parseQ_ok h2
 obtain⟨r1,r2,r3⟩:=again_keys hl' h' h3
 refine⟨r1,r2,fun hd=>?_⟩
 obtain⟨ts',q,k1,k2,k3⟩:=r3 hd
 exact⟨q,by unfold readR;rw[k1];exact (if_pos rfl).trans (parseQ_of k2),k3⟩
set_option maxRecDepth 100000 in
set_option maxHeartbeats 4000000 in
theorem dreadRight_c (s:ByteArray) (a b c d:Addr) (w:World) (_:s.size≤maxLen) (E:VEnv a b c d w) :
  Calls Tryz.prog 4 #[.string s] w fun e w'=>e=.returned (.bool true)∧Below w.heap.size w w':=by
 have HE:=hid E
 have HH:=hid (vshown_c a b c d w E)
 obtain⟨r,hr⟩:∃ r,lexR (cutS s).data.toList=r:=⟨_,rfl⟩
 obtain⟨ts,n,er⟩:=r
 obtain⟨r,hq⟩:∃ r,parseQ (ts.map tokI)=r:=⟨_,rfl⟩
 obtain⟨p,m,er2⟩:=r
 have Hr:=hid hr
 have Hq:=hid hq
 have Hlen:Hid ((cutS s).data.toList.length≤3000):=hid (by have:=cutS_size s;simpa using this)
 clear E hr hq
 go_enter Tryz.func4,Tryz.ntmps4
 go_wp2_with fail
 refine HH.out.mono ?_
 rintro e w1 ⟨rfl,b1⟩
 have B1:=hid b1
 have HL:=hid (lexed_c s a b c d w1 (HE.out.below b1))
 clear b1
 go_wp2_with fail
 refine HL.out.mono ?_
 rintro e w2 ⟨v,rfl,hown,b2⟩
 rw[Hr.out] at hown
 have B2:=hid (B1.out.trans (b2.mono B1.out.size))
 have HP:=hid (dparse_c (ts.map tokI) v d w2 (SliceOf.of_own hown) (lexR_tok Hr.out).2.1 (HE.out.below B2.out).par)
 clear hown b2
 go_wp2_with fail
 refine HP.out.mono ?_
 rintro e w3 ⟨v,u,rfl,hp,b3⟩
 rw[Hq.out] at hp ⊢
 have hp1:=Vis.pg hp (vis_past _ _) (Nat.le_refl _)
 obtain⟨o0,k0,o1,k1,hvu,_,_⟩:=hp1.look
 obtain⟨rfl,rfl⟩:v=.slice o0 p.decls.length k0∧u=.slice o1 p.rules.length k1:=by simpa using hvu
 have B3:=B2.out.trans (b3.mono B2.out.size)
 obtain⟨n3,hn3⟩:∃ n3,w3.heap.size=n3:=⟨_,rfl⟩
 obtain⟨W3,hW3⟩:∃ W3,w3.alloc (.cells #[.slice o0 p.decls.length k0,.slice o1 p.rules.length k1] 25)=W3:=⟨_,rfl⟩
 have hbW:Below w3.heap.size w3 W3:=by rw[← hW3];exact (Below.refl _ _).alloc (Nat.le_refl _) _
 have r3:Row n3 25 [.slice o0 p.decls.length k0,.slice o1 p.rules.length k1] W3:=by
  have:=Row.new w3 25 [.slice o0 p.decls.length k0,.slice o1 p.rules.length k1]
  rw[hn3] at this
  rw[← hW3]
  exact this
 have B3':=hid (B3.trans (hbW.mono B3.size))
 have HPg:=hid ((hp1.below hbW).more hbW.size)
 have R3:=hid r3
 have HW3:=hid hW3
 have c0:W3.cell? ⟨n3,0,none⟩=some (.slice o0 p.decls.length k0):=r3.at 0 _ rfl
 have c1:W3.cell? ⟨n3,1,none⟩=some (.slice o1 p.rules.length k1):=r3.at 1 _ rfl
 have hl3:=r3.lt
 clear hp hp1 hvu b3 B3 hbW r3
 by_cases he:er2=0
 ·subst he
  have HM:=hid (right_math Hlen.out Hr.out Hq.out)
  have H4:=hid (pshow_c p d W3 _ HPg.out (HE.out.below B3'.out).par.env.env (fun _=>by have:=HM.out.2.1;omega))
  subst hW3
  go_wp2_with fail
  refine H4.out.mono ?_
  rintro e w4 ⟨rfl,b4⟩
  rw[HM.out.1,show ∀ x,shV true x=.tuple #[.string ⟨x.toArray⟩,.int .i64 0] from fun _=>rfl]
  have r4:=R3.out.below b4 R3.out.lt
  have d0:w4.cell? ⟨n3,0,none⟩=some (.slice o0 p.decls.length k0):=r4.at 0 _ rfl
  have d1:w4.cell? ⟨n3,1,none⟩=some (.slice o1 p.rules.length k1):=r4.at 1 _ rfl
  have hl4:=r4.lt
  have B4:=hid (B3'.out.trans (b4.mono B3'.out.size))
  have HPg4:=hid ((HPg.out.below b4).more b4.size)
  have R4:=hid r4
  have H5:=hid (right_c p d w4 _ HPg4.out (HE.out.below B4.out).par.env.env.err)
  clear c0 c1 hl3 b4 r4
  go_wp2_with fail
  refine H5.out.mono ?_
  rintro e w5 ⟨rfl,b5⟩
  rw[HM.out.1]
  have r5:=R4.out.below b5 R4.out.lt
  have B5:=hid (B4.out.trans (b5.mono B4.out.size))
  have HPg5:=hid ((HPg4.out.below b5).more b5.size)
  have R5:=hid r5
  have HS:SlOf w5 w5.heap.size 6 (DeC w5 w5.heap.size) p.decls (.slice o0 p.decls.length k0):=by
   obtain⟨v,u,hvu,h1,_⟩:=HPg5.out
   have:v=.slice o0 p.decls.length k0:=(List.cons.inj hvu).1.symm
   rw[← this];exact h1
  obtain⟨o0',k0',e1,hcap,hcm,S⟩:=SlOf.open HS
  cases e1
  have HB0:Hid (Below w5.heap.size w5 w5):=hid (Below.refl _ _)
  clear d0 d1 hl4 b5 r5 HS
  go_wp2
  go_loopw [9] (fun i wr=>∃ k:Nat,k≤p.decls.length∧i=.int .i64 (k:Int)∧(∀ (i j:Nat) (x y:De),i < j→j < k→p.decls[i]?=some x→p.decls[j]?=some y→(x.rel.toList == y.rel.toList)=false)∧Below w5.heap.size w5 wr) (fun i _=>p.decls.length - (intOf i).toNat)
  case atStart=>exact⟨0,Nat.zero_le _,rfl,fun _ _ _ _ _ h=>absurd h (Nat.not_lt_zero _),HB0.out⟩
  case round=>
   obtain⟨k,hk,rfl,hd,hB⟩:=hrel
   have hBs:=hB.size
   have Hd:=hid hd
   clear hd
   have hr:=R5.out.below hB R5.out.lt
   have x0:wr.cell? ⟨n3,0,none⟩=some (.slice o0 p.decls.length k0):=hr.at 0 _ rfl
   have x1:wr.cell? ⟨n3,1,none⟩=some (.slice o1 p.rules.length k1):=hr.at 1 _ rfl
   have hl:=hr.lt
   by_cases hlt:k < p.decls.length
   ·have hlt':(k:Int) < (p.decls.length:Int):=by omega
    have hk0:(0:Int)≤(k:Int):=by omega
    obtain⟨y,hy⟩:∃ y,p.decls[k]?=some y:=⟨p.decls[k],List.getElem?_eq_getElem hlt⟩
    obtain⟨W1,rfl⟩:∃ W1,W1=wr:=⟨_,rfl⟩
    have Hy:=hid hy
    have HB:=hid hB
    clear hr hy hB
    go_wp2
    go_loopw [10] (fun i wx=>∃ j:Nat,j≤k∧i=.int .i64 (j:Int)∧(∀ (i:Nat) (x:De),i < j→p.decls[i]?=some x→(x.rel.toList == y.rel.toList)=false)∧Below W1.heap.size W1 wx) (fun i _=>k - (intOf i).toNat)
    case atStart=>exact⟨0,Nat.zero_le _,rfl,fun _ _ h=>absurd h (Nat.not_lt_zero _),Below.refl _ _⟩
    case round=>
     obtain⟨j,hj,rfl,hf,hB2⟩:=hrel
     have Hf:=hid hf
     have hBw:Below w5.heap.size w5 wr:=HB.out.trans (hB2.mono hBs)
     have HBw:=hid hBw
     have HB2:=hid hB2
     have hr:=R5.out.below hBw R5.out.lt
     have y0:wr.cell? ⟨n3,0,none⟩=some (.slice o0 p.decls.length k0):=hr.at 0 _ rfl
     have hl2:=hr.lt
     have hBws:=hBw.size
     clear hf hr hB2 x0 x1
     by_cases hjt:j < k
     ·have hjt':(j:Int) < (k:Int):=by omega
      have hjl':(j:Int) < (p.decls.length:Int):=by omega
      have hj0:(0:Int)≤(j:Int):=by omega
      obtain⟨x,hx⟩:∃ x,p.decls[j]?=some x:=⟨p.decls[j],List.getElem?_eq_getElem (by omega)⟩
      obtain⟨bx,_,_,_,_,e1,hbb,_,z0,_⟩:=de_at S hBw hx
      obtain⟨by',_,_,_,_,e2,_,_,z1,_⟩:=de_at S hBw Hy.out
      subst e1
      cases e2
      have hzl:(bx.add (j * 6)).block < wr.heap.size:=by rw[addBlock];omega
      have hzl2:(bx.add (k * 6)).block < wr.heap.size:=by rw[addBlock];omega
      have Hx:=hid hx
      clear hx hBw
      cases hq:(x.rel.toList == y.rel.toList) with
      | true=>
       go_wp2
       go_quiet (fail)
       go_wp2
       go_ret
       exact⟨rfl,below_drewN (B5.out.trans (HBw.out.mono B5.out.size)) _⟩
      | false=>
       have Hq2:=hid hq
       go_wp2
       go_quiet (fail)
       go_wp2
       go_roundw
       case rel=>
        refine⟨j+1,hjt,by go_num,fun i z hi hz=>?_,below_drewN HB2.out _⟩
        rcases Nat.lt_or_ge i j with h | h
        ·exact Hf.out i z h hz
        ·have:i=j:=by omega
         subst this
         have hz2:=Hx.out.symm.trans hz
         cases hz2
         exact Hq2.out
       case measure=>simp[intOf];omega
     ·have hjt':¬ (j:Int) < (k:Int):=by omega
      have hjk:j=k:=by omega
      subst hjk
      clear hBw
      go_wp2
      go_roundw
      case rel=>
       refine⟨j+1,hlt,by go_num,fun i' j' x' y' h1 h2 h3 h4=>?_,HBw.out⟩
       rcases Nat.lt_or_ge j' j with h | h
       ·exact Hd.out i' j' x' y' h1 h h3 h4
       ·have:j'=j:=by omega
        subst this
        have hz2:=Hy.out.symm.trans h4
        cases hz2
        exact Hf.out i' x' h1 h3
      case measure=>simp[intOf];omega
   ·have hlt':¬ (k:Int) < (p.decls.length:Int):=by omega
    have hkl:k=p.decls.length:=by omega
    subst hkl
    obtain⟨q,hq1,hq2⟩:=HM.out.2.2 (names_nodup fun i j x y h1 h2 h3=>Hd.out i j x y h1 (List.getElem?_eq_some_iff.1 h3).1 h2 h3)
    have Bw:=hid (B5.out.trans (hB.mono B5.out.size))
    have HPg6:=hid ((HPg5.out.below hB).more hB.size)
    have Rw:=hid hr
    have Hq2:=hid hq2
    have H6:=hid (read_c ⟨(showP p).toArray⟩ a b c d wr (by have:=HM.out.2.1;show (showP p).toArray.size≤_;simp;omega) (HE.out.below Bw.out))
    clear hr hq2 hB
    go_wp2_with fail
    refine H6.out.mono ?_
    intro e w6 h6
    replace h6:ParP (q,0,0) wr e w6:=by rw[← hq1];exact h6
    obtain⟨v,u,rfl,hp,b6⟩:=h6
    have hp1:=Vis.pg hp (vis_past _ _) (Nat.le_refl _)
    obtain⟨o2,k2,o3,k3,hvu,_,_⟩:=hp1.look
    obtain⟨rfl,rfl⟩:v=.slice o2 q.decls.length k2∧u=.slice o3 q.rules.length k3:=by simpa using hvu
    obtain⟨n6,hn6⟩:∃ n6,w6.heap.size=n6:=⟨_,rfl⟩
    obtain⟨W6,hW6⟩:∃ W6,w6.alloc (.cells #[.slice o2 q.decls.length k2,.slice o3 q.rules.length k3] 25)=W6:=⟨_,rfl⟩
    have hbW:Below w6.heap.size w6 W6:=by rw[← hW6];exact (Below.refl _ _).alloc (Nat.le_refl _) _
    have r6:Row n6 25 [.slice o2 q.decls.length k2,.slice o3 q.rules.length k3] W6:=by
     have:=Row.new w6 25 [.slice o2 q.decls.length k2,.slice o3 q.rules.length k3]
     rw[hn6] at this
     rw[← hW6]
     exact this
    have bw6:Below wr.heap.size wr W6:=b6.trans (hbW.mono b6.size)
    have s0:W6.cell? ⟨n6,0,none⟩=some (.slice o2 q.decls.length k2):=r6.at 0 _ rfl
    have s1:W6.cell? ⟨n6,1,none⟩=some (.slice o3 q.rules.length k3):=r6.at 1 _ rfl
    have rr:=Rw.out.below bw6 Rw.out.lt
    have s2:W6.cell? ⟨n3,0,none⟩=some (.slice o0 p.decls.length k0):=rr.at 0 _ rfl
    have s3:W6.cell? ⟨n3,1,none⟩=some (.slice o1 p.rules.length k1):=rr.at 1 _ rfl
    have l6:=r6.lt
    have l7:=rr.lt
    have B6:=hid (Bw.out.trans (bw6.mono Bw.out.size))
    have H7:=hid (same_c p q W6 _ _ ((HPg6.out.below bw6).more bw6.size) ((hp1.below hbW).more hbW.size))
    clear hp hp1 hvu b6 hbW r6 rr bw6 x0 x1
    subst hW6
    go_wp2_with fail
    refine H7.out.mono ?_
    rintro e w7 ⟨rfl,b7⟩
    rw[Hq2.out]
    have B7:=hid (B6.out.trans (b7.mono B6.out.size))
    clear b7 s0 s1 s2 s3
    go_wp2
    go_ret
    exact⟨rfl,B7.out⟩
 ·have hem:p=⟨[],[]⟩:=parseQ_fail he Hq.out
  subst hem
  have hne:((er2:Int) != 0)=true:=by simpa using he
  subst hW3
  go_wp2_with fail
  go_ret
  exact⟨rfl,B3'.out⟩
end Go.Proofs.YtdgbajnhhhjbcaaGreatDoor

/- So@0 -/
import Derived.Test.YtfmldnbcjbflbaaGreatDoorQ42
import Derived.Test.YtfmldnbcjbflbaaGreatDoorQ40
set_option linter.unusedSimpArgs false
set_option linter.unusedVariables false
namespace Go.Proofs.YtfmldnbcjbflbaaGreatDoor
open Lib(hid)
open Go.RowKit
theorem sl_next {α:Type} {R:α→List Value→Prop} {w w':World} {l:List α} {v:Value} (h:SlOf w w.heap.size 1 R l v) (hb:Below w.heap.size w w'):SlOf w' w'.heap.size 1 R l v:=
 (SlOf.below h hb fun _ _ _ h=>h).more hb.size fun _ _ _ h=>h
def ordO (r:Ru):List Int:=if ordE r=0 then orderZ r else []
def invO (r:Ru):Bool:=if ordE r=0 then invZ r else false
theorem sl_none {w:World} {n:Nat}:SlOf w n 1 IntC [] (.slice none 0 0):=.inl ⟨rfl,rfl⟩
theorem ordR_one {r:Ru} {n0:Nat} {w w':World} {e:Ending} (h:OrdR n0 w r e w'):∃ v,e=.returned (.tuple #[v,.int .i64 (ordE r)])∧SlOf w' w'.heap.size 1 IntC (ordO r) v∧Below n0 w w':=by
 cases h with
 | bad h0 hb=>exact⟨_,rfl,by unfold ordO;rw[if_neg h0];exact sl_none,hb⟩
 | good h0 hs hb=>exact⟨_,by rw[h0],by unfold ordO;rw[if_pos h0];exact hs,hb⟩
theorem or6R_one {r:Ru} {n0:Nat} {w w':World} {e:Ending} (h:Or6R n0 w r e w'):∃ v,e=.returned (.tuple #[v,.int .i64 (ordE r)])∧SlOf w' w'.heap.size 1 IntC (ordO r) v∧Below n0 w w':=by
 obtain⟨⟨h0,rfl⟩ | ⟨h0,v,rfl,hs⟩,hb⟩:=h
 ·exact⟨_,rfl,by unfold ordO;rw[if_neg h0];exact sl_none,hb⟩
 ·exact⟨_,by rw[h0],by unfold ordO;rw[if_pos h0];exact hs,hb⟩
theorem invR_one {r:Ru} {n0:Nat} {w w':World} {e:Ending} (h:InvR n0 w r e w'):e=.returned (.tuple #[.bool (invO r),.int .i64 (ordE r)])∧Below n0 w w':=by
 cases h with
 | bad h0 hb=>exact⟨by unfold invO;rw[if_neg h0],hb⟩
 | good h0 hb=>exact⟨by unfold invO;rw[if_pos h0,h0],hb⟩
theorem in6R_one {r:Ru} {n0:Nat} {w w':World} {e:Ending} (h:In6R r n0 w e w'):e=.returned (.tuple #[.bool (invO r),.int .i64 (ordE r)])∧Below n0 w w':=by
 obtain⟨⟨h0,rfl⟩ | ⟨h0,rfl⟩,hb⟩:=h
 ·exact⟨by unfold invO;rw[if_neg h0],hb⟩
 ·exact⟨by unfold invO;rw[if_pos h0,h0],hb⟩
set_option maxRecDepth 100000 in
set_option maxHeartbeats 16000000 in
theorem dsafeOrders_c (r:Ru) (t a u:Addr) (w:World) (cs:List Value) (hc:RuC w w.heap.size r cs) (E:EnvZ t a u w) :
  Calls Tryz.prog 4 #[.agg cs.toArray] w fun e w'=>e=.returned (.bool true)∧Below w.heap.size w w':=by
 have HR:=hid hc
 have HE:=hid E
 have hb0:∀ C:Obj,Below w.heap.size w (w.alloc C):=fun C=>(Below.refl _ _).alloc (Nat.le_refl _) _
 have HB0:=hid hb0
 have HH:=hid (fun (W:World) (hb:Below w.heap.size w W)=>shown6_c t a u W (E.below hb))
 have HS:=hid (fun (W:World) (hb:Below w.heap.size w W)=>small6_c r cs W ((hc.below hb).more hb.size))
 obtain⟨o0,k0,o1,k1,rfl,_⟩:=hc.look
 clear hc E hb0
 go_enter Tryz.func4,Tryz.ntmps4
 go_wp2_with fail
 refine (HH.out _ (HB0.out _)).mono ?_
 rintro e1 w1 ⟨rfl,b1⟩
 have r1':w1.heap[w.heap.size]?=some (.cells #[.string r.head.rel,.slice o0 r.head.l.length k0,.slice o1 r.body.length k1,.int .i64 r.line] 37 (0,0)):=(b1.block _ (by simp)).trans (World.alloc_heap_new w _)
 have R1:=hid r1'
 have hz1:=heap_lt r1'
 have B1:=hid ((HB0.out _).trans (b1.mono (by simp)))
 obtain⟨x0,x1,x2,x3⟩:=row4 r1'
 clear b1 r1'
 go_wp2_with fail
 refine (HS.out _ B1.out).mono ?_
 rintro e2 w2 ⟨rfl,b2⟩
 have r2':=(b2.block _ hz1).trans R1.out
 have B2:=hid (B1.out.trans (b2.mono B1.out.size))
 have R2:=hid r2'
 have hz2:=heap_lt r2'
 clear x0 x1 x2 x3 b2
 cases hs:smallP ⟨[],[r]⟩ with
 | false=>
  clear hs
  go_wp2
  go_ret
  exact⟨rfl,B2.out⟩
 | true=>
 have HT:=hid (small_terms hs r (List.mem_cons_self ..))
 have HFp:=hid (fewP_small HT.out.1)
 have HFr:=hid (few_small HT.out.1 fun t ht=>Nat.le_trans (HT.out.2 t ht) (by decide))
 have HN:Hid ((termsR r).length+r.body.length≤10000):=hid (by have:=body_len r;have:=HT.out.1;omega)
 have HP:=hid (fun (W:World) (hb:Below w.heap.size w W)=>order_c r _ t a u W ((HR.out.below hb).more hb.size) HFr.out HFp.out (HE.out.below hb))
 have HP6:=hid (fun (W:World) (hb:Below w.heap.size w W)=>order6_c r W _ ((HR.out.below hb).more hb.size) HN.out)
 have HI:=hid (fun (W:World) (hb:Below w.heap.size w W)=>invents6_c r _ t a u W ((HR.out.below hb).more hb.size) HFr.out HFp.out (HE.out.below hb))
 have HI6:=hid (fun (W:World) (hb:Below w.heap.size w W)=>invents6r_c r W _ ((HR.out.below hb).more hb.size) HN.out)
 obtain⟨x0,x1,x2,x3⟩:=row4 r2'
 clear hs r2'
 go_wp2_with fail
 refine (HP.out _ B2.out).mono ?_
 intro e3 w3 hR
 obtain⟨v3,rfl,hs3,b3⟩:=ordR_one hR
 have r3':=(b3.block _ hz2).trans R2.out
 have R3:=hid r3'
 have hz3:=heap_lt r3'
 have B3:=hid (B2.out.trans (b3.mono B2.out.size))
 have S3:=hid hs3
 clear x0 x1 x2 x3 b3 hs3 hR
 obtain⟨x0,x1,x2,x3⟩:=row4 r3'
 obtain⟨o3,c3,rfl,_⟩:=SlOf.open S3.out
 obtain⟨z,hz⟩:∃ z,ordE r=z:=⟨_,rfl⟩
 have Hz:=hid hz
 rw[hz]
 clear r3' hz
 go_wp2_with fail
 refine (HP6.out _ B3.out).mono ?_
 intro e4 w4 hR
 obtain⟨v4,rfl,hs4,b4⟩:=or6R_one hR
 have r4':=(b4.block _ hz3).trans R3.out
 have R4:=hid r4'
 have hz4:=heap_lt r4'
 have B4:=hid (B3.out.trans (b4.mono B3.out.size))
 have S4:=hid hs4
 have S34:=hid (sl_next S3.out b4)
 clear x0 x1 x2 x3 b4 hs4 hR
 obtain⟨x0,x1,x2,x3⟩:=row4 r4'
 obtain⟨o4,c4,rfl,_⟩:=SlOf.open S4.out
 rw[Hz.out]
 clear r4'
 go_wp2_with fail
 refine (HI.out _ B4.out).mono ?_
 intro e5 w5 hR
 obtain⟨rfl,b5⟩:=invR_one hR
 have r5':=(b5.block _ hz4).trans R4.out
 have R5:=hid r5'
 have hz5:=heap_lt r5'
 have B5:=hid (B4.out.trans (b5.mono B4.out.size))
 have S5:=hid (sl_next S34.out b5)
 have S45:=hid (sl_next S4.out b5)
 clear x0 x1 x2 x3 b5 hR
 obtain⟨x0,x1,x2,x3⟩:=row4 r5'
 obtain⟨q,hq⟩:∃ q,invO r=q:=⟨_,rfl⟩
 have Hq:=hid hq
 rw[Hz.out,hq]
 clear r5' hq
 go_wp2_with fail
 refine (HI6.out _ B5.out).mono ?_
 intro e6 w6 hR
 obtain⟨rfl,b6⟩:=in6R_one hR
 have B6:=hid (B5.out.trans (b6.mono B5.out.size))
 have hC:=sameInts_c (ordO r) (ordO r) _ _ w6 (sl_next S5.out b6) (sl_next S45.out b6)
 rw[decide_eq_true (rfl:ordO r=ordO r)] at hC
 have HC:=hid hC
 clear hC
 clear x0 x1 x2 x3 b6 hR
 rw[Hz.out,Hq.out]
 go_wp2_with fail
 refine HC.out.mono ?_
 rintro e7 w7 ⟨rfl,b7⟩
 have B7:=hid (B6.out.trans (b7.mono B6.out.size))
 clear b7
 cases q with
 | true=>
  go_wp2
  go_ret
  exact⟨rfl,B7.out⟩
 | false=>
  go_wp2
  go_ret
  exact⟨rfl,B7.out⟩
end Go.Proofs.YtfmldnbcjbflbaaGreatDoor

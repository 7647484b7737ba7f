/- Sbl@1 -/
import Derived.Test.YtfmldnbcjbflbaaGreatDoorQ44
import Derived.Test.YtfmldnbcjbflbaaGreatDoorQ42
import Derived.Test.YtfmldnbcjbflbaaGreatDoorQ49
set_option linter.unusedSimpArgs false
set_option linter.unusedVariables false
namespace Go.Proofs.YtfmldnbcjbflbaaGreatDoor
open Lib(hid)
open Go.RowKit
theorem ord_full6 {r:Ru} (h:ordE r=0):(orderZ r).length=r.body.length:=by
 rw[orderZ_eq,List.length_map]
 unfold ordE at h
 split at h
 ·split at h
  ·rename_i h2
   unfold safeZ at h2
   exact come_len.1 (Bool.and_eq_true_iff.1 h2).1
  ·cases h
 ·cases h
def bndE (r:Ru) (k:Int):Int:=if ordE r=0 then (if k < 0∨(r.body.length:Int) < k then 2 else 0) else ordE r
def bndO (r:Ru) (k:Int):List ByteArray:=if ordE r=0 then (if k < 0∨(r.body.length:Int) < k then [] else (varsA r).filter (byZ (boundZ r) k)) else []
theorem sl_noneS {w:World} {n:Nat}:SlOf w n 1 StrC [] (.slice none 0 0):=.inl ⟨rfl,rfl⟩
theorem bndR_one {r:Ru} {k:Int} {n0:Nat} {w w':World} {e:Ending} (h:BndR n0 w r k e w'):∃ v,e=.returned (.tuple #[v,.int .i64 (bndE r k)])∧SlOf w' w'.heap.size 1 StrC (bndO r k) v∧Below n0 w w':=by
 unfold bndE bndO
 cases h with
 | bad h0 hb=>rw[if_neg h0,if_neg h0];exact⟨_,rfl,sl_noneS,hb⟩
 | arg h0 h1 hb=>rw[ord_full6 h0] at h1;rw[if_pos h0,if_pos h0,if_pos h1,if_pos h1];exact⟨_,rfl,sl_noneS,hb⟩
 | good h0 h1 h2 hs hb=>rw[ord_full6 h0] at h2;rw[if_pos h0,if_pos h0,if_neg (by omega),if_neg (by omega)];exact⟨_,rfl,hs,hb⟩
theorem bo6R_one {r:Ru} {k:Int} {n0:Nat} {w w':World} {e:Ending} (h:Bo6R r k n0 w e w'):∃ v,e=.returned (.tuple #[v,.int .i64 (bndE r k)])∧SlOf w' w'.heap.size 1 StrC (bndO r k) v∧Below n0 w w':=by
 unfold bndE bndO
 obtain⟨⟨h0,rfl⟩ | ⟨h0,h1,rfl⟩ | ⟨n,D,B,v,h0,rfl,h2,h3,rfl,hs⟩,hb⟩:=h
 ·rw[if_neg h0,if_neg h0];exact⟨_,rfl,sl_noneS,hb⟩
 ·rw[if_pos h0,if_pos h0,if_pos h1,if_pos h1];exact⟨_,rfl,sl_noneS,hb⟩
 ·rw[if_pos h0,if_pos h0,if_neg (by omega),if_neg (by omega)]
  have e:(varsA r).filter (byZ (boundZ r) n)=(varsA r).filter (in6 B):=List.filter_congr fun s _=>by_walk (ord_right h0) h2 h3 s
  rw[e]
  exact⟨_,rfl,hs,hb⟩
def ouL (r:Ru) (k:Int):Option (Nat × Lt):=if 0≤k then (r.body[k.toNat]?).bind fun l=>if rightR r=true∧aggO l.op=true then some (k.toNat,l) else none else none
theorem ouL_some {r:Ru} {n:Nat} {l:Lt} (h0:rightR r=true) (h1:r.body[n]?=some l) (h2:aggO l.op=true):ouL r n=some (n,l):=by
 unfold ouL
 rw[if_pos (by omega),Int.toNat_natCast,h1]
 show (if _ then _ else _)=_
 rw[if_pos ⟨h0,h2⟩]
theorem ouL_none {r:Ru} {k:Int} (h:∀ (n:Nat) (l:Lt),rightR r=true→k=n→r.body[n]?=some l→aggO l.op=false):ouL r k=none:=by
 unfold ouL
 by_cases hk:0≤k
 ·rw[if_pos hk]
  cases hb:r.body[k.toNat]? with
  | none=>rfl
  | some l=>
   show (if _ then _ else _)=_
   rw[if_neg]
   rintro⟨h0,h2⟩
   rw[h k.toNat l h0 (by omega) hb] at h2
   cases h2
 ·rw[if_neg hk]
def ouE (r:Ru) (k:Int):Int:=if rightR r=true then (match ouL r k with | some _=>0 | none=>2) else 30
def ouO (r:Ru) (k:Int):List ByteArray:=match ouL r k with | some x=>(varsA r).filter (hasZ (outC r x.2)) | none=>[]
theorem ouZR_one {r:Ru} {k:Int} {n0:Nat} {w w':World} {e:Ending} (h:OuZR r k n0 w e w'):∃ v,e=.returned (.tuple #[v,.int .i64 (ouE r k)])∧SlOf w' w'.heap.size 1 StrC (ouO r k) v∧Below n0 w w':=by
 unfold ouE ouO
 obtain⟨⟨h0,rfl⟩ | ⟨h0,h1,rfl⟩ | ⟨n,l,v,h0,rfl,h2,h3,rfl,hs⟩,hb⟩:=h
 ·rw[ouL_none (fun n l hr=>by rw[h0] at hr;cases hr),if_neg (show ¬ rightR r=true by rw[h0];decide)];exact⟨_,rfl,sl_noneS,hb⟩
 ·rw[ouL_none (fun n l _=>h1 n l),if_pos h0];exact⟨_,rfl,sl_noneS,hb⟩
 ·rw[ouL_some h0 h2 h3,if_pos h0];exact⟨_,rfl,hs,hb⟩
theorem ouR6_one {r:Ru} {k:Int} {n0:Nat} {w w':World} {e:Ending} (h:OuR6 r k n0 w e w'):∃ v,e=.returned (.tuple #[v,.int .i64 (ouE r k)])∧SlOf w' w'.heap.size 1 StrC (ouO r k) v∧Below n0 w w':=by
 unfold ouE ouO
 obtain⟨⟨h0,rfl⟩ | ⟨h0,h1,rfl⟩ | ⟨n,l,v,h0,rfl,h2,h3,rfl,hs⟩,hb⟩:=h
 ·rw[ouL_none (fun n l hr=>by rw[h0] at hr;cases hr),if_neg (show ¬ rightR r=true by rw[h0];decide)];exact⟨_,rfl,sl_noneS,hb⟩
 ·rw[ouL_none (fun n l _ hk hl=>by
   have:=h1 n l hk hl
   cases ha:aggO l.op with
   | false=>rfl
   | true=>have:=(agg_op (right_lits h0 l (List.mem_of_getElem? hl))).1 ha;omega),if_pos h0];exact⟨_,rfl,sl_noneS,hb⟩
 ·have ha:=(agg_op (right_lits h0 l (List.mem_of_getElem? h2))).2 h3
  rw[ouL_some h0 h2 ha,if_pos h0]
  refine⟨_,rfl,?_,hb⟩
  have e1:(varsA r).filter (hasZ (outC r l))=outer6 r n l:=by
   have ev:varsA r=varsV (termsR r):=by unfold varsA;rw[if_pos h0]
   rw[ev]
   conv=>rhs;unfold outer6
   refine List.filter_congr fun s hs=>bool_iff ((has_out r l s).trans ((outer_same h2 ha (s:=s)).symm.trans ?_))
   unfold outer6
   rw[List.mem_filter]
   exact⟨fun h=>h.2,fun h=>⟨hs,h⟩⟩
  show SlOf w' w'.heap.size 1 StrC ((varsA r).filter (hasZ (outC r l))) v
  rw[e1]
  exact hs
set_option maxRecDepth 100000 in
set_option maxHeartbeats 16000000 in
theorem dsafeBounds_c (r:Ru) (k:Int) (t a u:Addr) (w:World) (cs:List Value) (hc:RuC w w.heap.size r cs) (_:-9223372036854775808≤k) (_:k≤9223372036854775807) (E:EnvZ t a u w) :
  Calls Tryz.prog 5 #[.agg cs.toArray,.int .i64 k] w fun e w'=>e=.returned (.bool true)∧Below w.heap.size w w':=by
 have HR:=hid hc
 have HE:=hid E
 have hb0:∀ C:Obj,Below w.heap.size w (w.alloc C):=fun C=>(Below.refl _ _).alloc (Nat.le_refl _) _
 have HB0:=hid hb0
 have HH:=hid (fun (W:World) (hb:Below w.heap.size w W)=>shown6_c t a u W (E.below hb))
 have HS:=hid (fun (W:World) (hb:Below w.heap.size w W)=>small6_c r cs W ((hc.below hb).more hb.size))
 obtain⟨o0,k0,o1,k1,rfl,_⟩:=hc.look
 clear hc E hb0
 go_enter Tryz.func5,Tryz.ntmps5
 go_wp2_with fail
 refine (HH.out _ (HB0.out _)).mono ?_
 rintro e1 w1 ⟨rfl,b1⟩
 have r1':w1.heap[w.heap.size]?=some (.cells #[.string r.head.rel,.slice o0 r.head.l.length k0,.slice o1 r.body.length k1,.int .i64 r.line] 37 (0,0)):=(b1.block _ (by simp)).trans (World.alloc_heap_new w _)
 have R1:=hid r1'
 have hz1:=heap_lt r1'
 have B1:=hid ((HB0.out _).trans (b1.mono (by simp)))
 obtain⟨x0,x1,x2,x3⟩:=row4 r1'
 clear b1 r1'
 go_wp2_with fail
 refine (HS.out _ B1.out).mono ?_
 rintro e2 w2 ⟨rfl,b2⟩
 have r2':=(b2.block _ hz1).trans R1.out
 have B2:=hid (B1.out.trans (b2.mono B1.out.size))
 have R2:=hid r2'
 have hz2:=heap_lt r2'
 clear x0 x1 x2 x3 b2
 cases hs:smallP ⟨[],[r]⟩ with
 | false=>
  clear hs
  go_wp2
  go_ret
  exact⟨rfl,B2.out⟩
 | true=>
 have HT:=hid (small_terms hs r (List.mem_cons_self ..))
 have HFp:=hid (fewP_small HT.out.1)
 have HFr:=hid (few_small HT.out.1 fun t ht=>Nat.le_trans (HT.out.2 t ht) (by decide))
 have HN:Hid ((termsR r).length+r.body.length≤10000):=hid (by have:=body_len r;have:=HT.out.1;omega)
 have HP:=hid (fun (W:World) (hb:Below w.heap.size w W)=>bound_c r _ k t a u W ((HR.out.below hb).more hb.size) HFr.out HFp.out (by have:=HT.out.1;omega) (fun t ht=>Nat.le_trans (HT.out.2 t ht) (by decide)) (HE.out.below hb))
 have HP6:=hid (fun (W:World) (hb:Below w.heap.size w W)=>bound6_c r k W _ ((HR.out.below hb).more hb.size) HN.out)
 have HI:=hid (fun (W:World) (hb:Below w.heap.size w W)=>outerZ_c r _ k t W ((HR.out.below hb).more hb.size) HFr.out (by have:=HT.out.1;omega) (fun t ht=>Nat.le_trans (HT.out.2 t ht) (by decide)) (HE.out.below hb).tr)
 have HI6:=hid (fun (W:World) (hb:Below w.heap.size w W)=>outerE6_c r k W _ ((HR.out.below hb).more hb.size) HN.out)
 obtain⟨x0,x1,x2,x3⟩:=row4 r2'
 clear hs r2'
 go_wp2_with fail
 refine (HP.out _ B2.out).mono ?_
 intro e3 w3 hR
 obtain⟨v3,rfl,hs3,b3⟩:=bndR_one hR
 have r3':=(b3.block _ hz2).trans R2.out
 have R3:=hid r3'
 have hz3:=heap_lt r3'
 have B3:=hid (B2.out.trans (b3.mono B2.out.size))
 have S3:=hid hs3
 clear x0 x1 x2 x3 b3 hs3 hR
 obtain⟨x0,x1,x2,x3⟩:=row4 r3'
 obtain⟨o3,c3,rfl,_⟩:=SlOf.open S3.out
 obtain⟨z,hz⟩:∃ z,bndE r k=z:=⟨_,rfl⟩
 have Hz:=hid hz
 rw[hz]
 clear r3' hz
 go_wp2_with fail
 refine (HP6.out _ B3.out).mono ?_
 intro e4 w4 hR
 obtain⟨v4,rfl,hs4,b4⟩:=bo6R_one hR
 have r4':=(b4.block _ hz3).trans R3.out
 have R4:=hid r4'
 have hz4:=heap_lt r4'
 have B4:=hid (B3.out.trans (b4.mono B3.out.size))
 have S4:=hid hs4
 have S34:=hid (sl_nextO S3.out b4)
 clear x0 x1 x2 x3 b4 hs4 hR
 obtain⟨x0,x1,x2,x3⟩:=row4 r4'
 obtain⟨o4,c4,rfl,_⟩:=SlOf.open S4.out
 rw[Hz.out]
 clear r4'
 go_wp2_with fail
 refine (HI.out _ B4.out).mono ?_
 intro e5 w5 hR
 obtain⟨v5,rfl,hs5,b5⟩:=ouZR_one hR
 have r5':=(b5.block _ hz4).trans R4.out
 have R5:=hid r5'
 have hz5:=heap_lt r5'
 have B5:=hid (B4.out.trans (b5.mono B4.out.size))
 have S35:=hid (sl_nextO S34.out b5)
 have S45:=hid (sl_nextO S4.out b5)
 have S5:=hid hs5
 clear x0 x1 x2 x3 b5 hR hs5
 obtain⟨x0,x1,x2,x3⟩:=row4 r5'
 obtain⟨o5,c5,rfl,_⟩:=SlOf.open S5.out
 obtain⟨q,hq⟩:∃ q,ouE r k=q:=⟨_,rfl⟩
 have Hq:=hid hq
 rw[hq]
 clear r5' hq
 go_wp2_with fail
 refine (HI6.out _ B5.out).mono ?_
 intro e6 w6 hR
 obtain⟨v6,rfl,hs6,b6⟩:=ouR6_one hR
 have B6:=hid (B5.out.trans (b6.mono B5.out.size))
 have HC:=hid (sameTexts_c _ _ _ w6 (sl_nextO S35.out b6) (sl_nextO S45.out b6))
 have HC2:=hid (fun (W:World) (hb:Below w6.heap.size w6 W)=>sameTexts_c _ _ _ W (sl_nextO (sl_nextO S5.out b6) hb) (sl_nextO hs6 hb))
 obtain⟨o6,c6,rfl,_⟩:=SlOf.open hs6
 clear x0 x1 x2 x3 b6 hR hs6
 rw[Hq.out]
 go_wp2_with fail
 refine HC.out.mono ?_
 rintro e7 w7 ⟨rfl,b7⟩
 have B7:=hid (B6.out.trans (b7.mono B6.out.size))
 have HC7:=hid (HC2.out w7 b7)
 clear b7
 go_wp2_with fail
 refine HC7.out.mono ?_
 rintro e8 w8 ⟨rfl,b8⟩
 have B8:=hid (B7.out.trans (b8.mono B7.out.size))
 clear b8
 go_wp2
 go_ret
 exact⟨rfl,B8.out⟩
end Go.Proofs.YtfmldnbcjbflbaaGreatDoor

/- Zn@012, Sf@012 -/
import Derived.Test.YtfmldnbcjbflbaaGreatDoorQ33
set_option linter.unusedSimpArgs false
set_option linter.unusedVariables false
namespace Go.Proofs.YtfmldnbcjbflbaaGreatDoor
open Lib(hid)
open Go.RowKit Go.Extern Go.Extern.Rtype Go.Extern.Stop Go.Stop
structure ZEnv (n:Nat) (a b:Addr) (w:World):Prop where
 tr:w.cell? ⟨5,0,none⟩=some (errV a)
 un:w.cell? ⟨6,0,none⟩=some (errV b)
 ne:a≠b
 ra:∃ cs t,w.heap[a.block]?=some (.cells cs t (0,0))
 rb:∃ cs t,w.heap[b.block]?=some (.cells cs t (0,0))
 big:5 < n∧6 < n∧a.block < n∧b.block < n
theorem ZEnv.below {n:Nat} {a b:Addr} {w w':World} (h:ZEnv n a b w) (k:Below n w w'):ZEnv n a b w':=by
 have hb:=h.big
 have e:∀ g v,g < n→w.cell? ⟨g,0,none⟩=some v→w'.cell? ⟨g,0,none⟩=some v:=fun g v hg h=>(k.cell (by show g < n;exact hg)).trans h
 obtain⟨ca,ta,ha⟩:=h.ra
 obtain⟨cb,tb,hb'⟩:=h.rb
 exact⟨e _ _ hb.1 h.tr,e _ _ hb.2.1 h.un,h.ne,⟨ca,ta,(k.block _ hb.2.2.1).trans ha⟩,⟨cb,tb,(k.block _ hb.2.2.2).trans hb'⟩,hb⟩
theorem ZEnv.more {n n':Nat} {a b:Addr} {w:World} (h:ZEnv n a b w) (hn:n≤n'):ZEnv n' a b w:=
 ⟨h.tr,h.un,h.ne,h.ra,h.rb,⟨Nat.lt_of_lt_of_le h.big.1 hn,Nat.lt_of_lt_of_le h.big.2.1 hn,Nat.lt_of_lt_of_le h.big.2.2.1 hn,Nat.lt_of_lt_of_le h.big.2.2.2 hn⟩⟩
theorem noIsR (v:Value) (xT:TypeId) (w:World):(Instr.typeAssert (.iface 109 v) xT 165 true).run Tryz.prog w=.ok (.tuple #[.nilIface,.bool false]) w:=run_typeAssert_lacksB Tryz.underlying165 (by kernel_rfl) (by kernel_rfl) v xT w
theorem hasUnwrapR (v:Value) (xT:TypeId) (w:World):(Instr.typeAssert (.iface 109 v) xT 168 true).run Tryz.prog w=.ok (.tuple #[.iface 109 v,.bool true]) w:=run_typeAssert_hasB Tryz.underlying168 (by kernel_rfl) v xT w
theorem methodUnwrapR (x : Value) (w : World) : (Go.method 328 109 (.agg #[x]) "Unwrap").run Tryz.prog w = .ok (172, .agg #[x]) w := by kernel_rfl
theorem unwrapR_c (x:Int) (b:Addr) (w:World) (hg:w.cell? ⟨6,0,none⟩=some (errV b)) (hl:6 < w.heap.size) :
  Calls Tryz.prog 172 #[.agg #[.int .i64 x]] w fun e w'=>e=.returned (errV b)∧Below w.heap.size w w':=by
 unfold errV at *
 go_enter Tryz.func172,Tryz.ntmps172
 go_wp2
 go_ret
 exact⟨rfl,(Below.refl _ _).alloc (Nat.le_refl _) _⟩
set_option maxRecDepth 100000 in
set_option maxHeartbeats 8000000 in
theorem isR_yes (x:Int) (b:Addr) (w:World) (hg:w.cell? ⟨6,0,none⟩=some (errV b)) (hl:6 < w.heap.size) :
  Calls Tryz.prog 60 #[.iface 109 (.agg #[.int .i64 x]),errV b] w fun e w'=>e=.returned (.bool true)∧Below w.heap.size w w':=by
 obtain⟨i,hi,hcmp⟩:=Option.map_eq_some_iff.1 isComp
 obtain⟨j,hj,hjs⟩:=Option.map_eq_some_iff.1 isSize
 have h39:=@run_callFunc_extern Tryz.prog 93 _ Extern.ReflectliteType.typeOf Tryz.func93 (by kernel_rfl) (by kernel_rfl) (by kernel_rfl) (by kernel_rfl)
 have tT:=isTypeOf
 have cT:=isCalled
 have mR:=isMethodComparable
 have nE:=noIsR
 have uE:=hasUnwrapR
 have mU:=methodUnwrapR
 have HU:=hid (fun (W:World) (hb:Below w.heap.size w W)=>unwrapR_c x b W ((hb.cell hl).trans hg) (Nat.lt_of_lt_of_le hl hb.size))
 have n1:=run_eql_iface_types (P:=Tryz.prog) 109 191 (.agg #[.int .i64 x]) (.pointer (some b)) Tryz.underlying62 (by decide)
 have heq:=fun W=>run_eql_iface_ptr_same (P:=Tryz.prog) W b Tryz.underlying62 Tryz.underlying191 hi hcmp hj
 unfold errV at *
 clear hg hl
 go_enter Tryz.func60,Tryz.ntmps60
 go_wp2
 refine wp_loop_rounds 2 ?_
 rw[rounds_succ]
 go_wp2_with (go_at_call 172;refine (HU.out w (Below.refl _ _)).mono ?_;rintro e w' ⟨rfl,hb⟩;have HB:=hid hb;clear hb)
 rw[rounds_succ]
 go_wp2
 go_ret
 exact⟨rfl,HB.out⟩
set_option maxRecDepth 100000 in
set_option maxHeartbeats 8000000 in
theorem isR_no (x:Int) (a b:Addr) (w:World) (hg:w.cell? ⟨6,0,none⟩=some (errV b)) (hl:6 < w.heap.size) (hne:a≠b) {ca cb:Array Value} {ta tb:TypeId} (ha:w.heap[a.block]?=some (.cells ca ta (0,0))) (hb:w.heap[b.block]?=some (.cells cb tb (0,0))) :
  Calls Tryz.prog 60 #[.iface 109 (.agg #[.int .i64 x]),errV a] w fun e w'=>e=.returned (.bool false)∧Below w.heap.size w w':=by
 obtain⟨i,hi,hcmp⟩:=Option.map_eq_some_iff.1 isComp
 obtain⟨j,hj,hjs⟩:=Option.map_eq_some_iff.1 isSize
 have h39:=@run_callFunc_extern Tryz.prog 93 _ Extern.ReflectliteType.typeOf Tryz.func93 (by kernel_rfl) (by kernel_rfl) (by kernel_rfl) (by kernel_rfl)
 have tT:=isTypeOf
 have cT:=isCalled
 have mR:=isMethodComparable
 have nE:=noIsR
 have uE:=hasUnwrapR
 have nE2:=noIsE
 have uE2:=noUnwrapE
 have vE2:=noUnwrapsE
 have mU:=methodUnwrapR
 have HU:=hid (fun (W:World) (hb:Below w.heap.size w W)=>unwrapR_c x b W ((hb.cell hl).trans hg) (Nat.lt_of_lt_of_le hl hb.size))
 have n1:=run_eql_iface_types (P:=Tryz.prog) 109 191 (.agg #[.int .i64 x]) (.pointer (some a)) Tryz.underlying62 (by decide)
 have HQ:=hid (fun (W:World) (hw:Below w.heap.size w W)=>run_eql_iface_ptr_other (P:=Tryz.prog) W Tryz.underlying62 Tryz.underlying191 hi hcmp hj (by rw[hjs];decide) (Ne.symm hne) ((hw.block _ (heap_lt hb)).trans hb) ((hw.block _ (heap_lt ha)).trans ha))
 unfold errV at *
 clear hg hl ha hb
 go_enter Tryz.func60,Tryz.ntmps60
 go_wp2
 refine wp_loop_rounds 2 ?_
 rw[rounds_succ]
 go_wp2_with (go_at_call 172;refine (HU.out w (Below.refl _ _)).mono ?_;rintro e w' ⟨rfl,hb⟩;have HB:=hid hb;have heq:=HQ.out w' hb;clear hb)
 rw[rounds_succ]
 go_wp2
 go_ret
 exact⟨rfl,HB.out⟩
set_option maxRecDepth 100000 in
set_option maxHeartbeats 8000000 in
theorem numR_c (x:Int) (n:Nat) (a b:Addr) (w:World) (E:ZEnv n a b w) (hn:n≤w.heap.size) :
  Calls Tryz.prog 39 #[.iface 109 (.agg #[.int .i64 x])] w fun e w'=>e=.returned (.int .i64 60)∧Below w.heap.size w w':=by
 obtain⟨ca,ta,ra⟩:=E.ra
 obtain⟨cb,tb,rb⟩:=E.rb
 have hl:6 < w.heap.size:=Nat.lt_of_lt_of_le E.big.2.1 hn
 have HN:=hid (isR_no x a b w E.un hl E.ne ra rb)
 have HY:=hid (fun (W:World) (hb:Below w.heap.size w W)=>isR_yes x b W ((hb.cell hl).trans E.un) (Nat.lt_of_lt_of_le hl hb.size))
 have HE2:=hid (fun (W:World) (hb:Below w.heap.size w W)=>(hb.cell (p:=⟨6,0,none⟩) hl).trans E.un)
 have h1:=E.tr
 have h2:=E.un
 have l1:5 < w.heap.size:=Nat.lt_of_lt_of_le E.big.1 hn
 clear ra rb E
 go_enter Tryz.func39,Tryz.ntmps39
 unfold errV at *
 go_wp2_with fail
 refine (HN.out).mono ?_
 rintro e w1 ⟨rfl,hb1⟩
 have B1:=hid hb1
 have h3:=HE2.out w1 hb1
 clear hb1
 go_wp2_with fail
 refine (HY.out w1 B1.out).mono ?_
 rintro e w2 ⟨rfl,hb2⟩
 have B2:=hid (B1.out.trans (hb2.mono B1.out.size))
 clear hb2
 go_wp2
 go_ret
 exact⟨rfl,B2.out⟩
theorem noIsB (v:Value) (xT:TypeId) (w:World):(Instr.typeAssert (.iface 114 v) xT 165 true).run Tryz.prog w=.ok (.tuple #[.nilIface,.bool false]) w:=run_typeAssert_lacksB Tryz.underlying165 (by kernel_rfl) (by kernel_rfl) v xT w
theorem hasUnwrapB (v:Value) (xT:TypeId) (w:World):(Instr.typeAssert (.iface 114 v) xT 168 true).run Tryz.prog w=.ok (.tuple #[.iface 114 v,.bool true]) w:=run_typeAssert_hasB Tryz.underlying168 (by kernel_rfl) v xT w
theorem methodUnwrapB (x : Value) (w : World) : (Go.method 328 114 (.agg #[x]) "Unwrap").run Tryz.prog w = .ok (174, .agg #[x]) w := by kernel_rfl
theorem unwrapB_c (x:ByteArray) (b:Addr) (w:World) (hg:w.cell? ⟨6,0,none⟩=some (errV b)) (hl:6 < w.heap.size) :
  Calls Tryz.prog 174 #[.agg #[.string x]] w fun e w'=>e=.returned (errV b)∧Below w.heap.size w w':=by
 unfold errV at *
 go_enter Tryz.func174,Tryz.ntmps174
 go_wp2
 go_ret
 exact⟨rfl,(Below.refl _ _).alloc (Nat.le_refl _) _⟩
set_option maxRecDepth 100000 in
set_option maxHeartbeats 8000000 in
theorem isB_yes (x:ByteArray) (b:Addr) (w:World) (hg:w.cell? ⟨6,0,none⟩=some (errV b)) (hl:6 < w.heap.size) :
  Calls Tryz.prog 60 #[.iface 114 (.agg #[.string x]),errV b] w fun e w'=>e=.returned (.bool true)∧Below w.heap.size w w':=by
 obtain⟨i,hi,hcmp⟩:=Option.map_eq_some_iff.1 isComp
 obtain⟨j,hj,hjs⟩:=Option.map_eq_some_iff.1 isSize
 have h39:=@run_callFunc_extern Tryz.prog 93 _ Extern.ReflectliteType.typeOf Tryz.func93 (by kernel_rfl) (by kernel_rfl) (by kernel_rfl) (by kernel_rfl)
 have tT:=isTypeOf
 have cT:=isCalled
 have mR:=isMethodComparable
 have nE:=noIsB
 have uE:=hasUnwrapB
 have mU:=methodUnwrapB
 have HU:=hid (fun (W:World) (hb:Below w.heap.size w W)=>unwrapB_c x b W ((hb.cell hl).trans hg) (Nat.lt_of_lt_of_le hl hb.size))
 have n1:=run_eql_iface_types (P:=Tryz.prog) 114 191 (.agg #[.string x]) (.pointer (some b)) Tryz.underlying62 (by decide)
 have heq:=fun W=>run_eql_iface_ptr_same (P:=Tryz.prog) W b Tryz.underlying62 Tryz.underlying191 hi hcmp hj
 unfold errV at *
 clear hg hl
 go_enter Tryz.func60,Tryz.ntmps60
 go_wp2
 refine wp_loop_rounds 2 ?_
 rw[rounds_succ]
 go_wp2_with (go_at_call 174;refine (HU.out w (Below.refl _ _)).mono ?_;rintro e w' ⟨rfl,hb⟩;have HB:=hid hb;clear hb)
 rw[rounds_succ]
 go_wp2
 go_ret
 exact⟨rfl,HB.out⟩
set_option maxRecDepth 100000 in
set_option maxHeartbeats 8000000 in
theorem isB_no (x:ByteArray) (a b:Addr) (w:World) (hg:w.cell? ⟨6,0,none⟩=some (errV b)) (hl:6 < w.heap.size) (hne:a≠b) {ca cb:Array Value} {ta tb:TypeId} (ha:w.heap[a.block]?=some (.cells ca ta (0,0))) (hb:w.heap[b.block]?=some (.cells cb tb (0,0))) :
  Calls Tryz.prog 60 #[.iface 114 (.agg #[.string x]),errV a] w fun e w'=>e=.returned (.bool false)∧Below w.heap.size w w':=by
 obtain⟨i,hi,hcmp⟩:=Option.map_eq_some_iff.1 isComp
 obtain⟨j,hj,hjs⟩:=Option.map_eq_some_iff.1 isSize
 have h39:=@run_callFunc_extern Tryz.prog 93 _ Extern.ReflectliteType.typeOf Tryz.func93 (by kernel_rfl) (by kernel_rfl) (by kernel_rfl) (by kernel_rfl)
 have tT:=isTypeOf
 have cT:=isCalled
 have mR:=isMethodComparable
 have nE:=noIsB
 have uE:=hasUnwrapB
 have nE2:=noIsE
 have uE2:=noUnwrapE
 have vE2:=noUnwrapsE
 have mU:=methodUnwrapB
 have HU:=hid (fun (W:World) (hb:Below w.heap.size w W)=>unwrapB_c x b W ((hb.cell hl).trans hg) (Nat.lt_of_lt_of_le hl hb.size))
 have n1:=run_eql_iface_types (P:=Tryz.prog) 114 191 (.agg #[.string x]) (.pointer (some a)) Tryz.underlying62 (by decide)
 have HQ:=hid (fun (W:World) (hw:Below w.heap.size w W)=>run_eql_iface_ptr_other (P:=Tryz.prog) W Tryz.underlying62 Tryz.underlying191 hi hcmp hj (by rw[hjs];decide) (Ne.symm hne) ((hw.block _ (heap_lt hb)).trans hb) ((hw.block _ (heap_lt ha)).trans ha))
 unfold errV at *
 clear hg hl ha hb
 go_enter Tryz.func60,Tryz.ntmps60
 go_wp2
 refine wp_loop_rounds 2 ?_
 rw[rounds_succ]
 go_wp2_with (go_at_call 174;refine (HU.out w (Below.refl _ _)).mono ?_;rintro e w' ⟨rfl,hb⟩;have HB:=hid hb;have heq:=HQ.out w' hb;clear hb)
 rw[rounds_succ]
 go_wp2
 go_ret
 exact⟨rfl,HB.out⟩
set_option maxRecDepth 100000 in
set_option maxHeartbeats 8000000 in
theorem numB_c (x:ByteArray) (n:Nat) (a b:Addr) (w:World) (E:ZEnv n a b w) (hn:n≤w.heap.size) :
  Calls Tryz.prog 39 #[.iface 114 (.agg #[.string x])] w fun e w'=>e=.returned (.int .i64 60)∧Below w.heap.size w w':=by
 obtain⟨ca,ta,ra⟩:=E.ra
 obtain⟨cb,tb,rb⟩:=E.rb
 have hl:6 < w.heap.size:=Nat.lt_of_lt_of_le E.big.2.1 hn
 have HN:=hid (isB_no x a b w E.un hl E.ne ra rb)
 have HY:=hid (fun (W:World) (hb:Below w.heap.size w W)=>isB_yes x b W ((hb.cell hl).trans E.un) (Nat.lt_of_lt_of_le hl hb.size))
 have HE2:=hid (fun (W:World) (hb:Below w.heap.size w W)=>(hb.cell (p:=⟨6,0,none⟩) hl).trans E.un)
 have h1:=E.tr
 have h2:=E.un
 have l1:5 < w.heap.size:=Nat.lt_of_lt_of_le E.big.1 hn
 clear ra rb E
 go_enter Tryz.func39,Tryz.ntmps39
 unfold errV at *
 go_wp2_with fail
 refine (HN.out).mono ?_
 rintro e w1 ⟨rfl,hb1⟩
 have B1:=hid hb1
 have h3:=HE2.out w1 hb1
 clear hb1
 go_wp2_with fail
 refine (HY.out w1 B1.out).mono ?_
 rintro e w2 ⟨rfl,hb2⟩
 have B2:=hid (B1.out.trans (hb2.mono B1.out.size))
 clear hb2
 go_wp2
 go_ret
 exact⟨rfl,B2.out⟩
set_option maxRecDepth 100000 in
set_option maxHeartbeats 8000000 in
theorem numT_c (n:Nat) (a b:Addr) (w:World) (E:ZEnv n a b w) :
  Calls Tryz.prog 39 #[errV a] w fun e w'=>e=.returned (.int .i64 30)∧Below w.heap.size w w':=by
 have h1:=E.tr
 clear E
 unfold errV at *
 go_enter Tryz.func39,Tryz.ntmps39
 go_wp2_with fail
 refine (is_same a w).mono ?_
 rintro e w' ⟨rfl,rfl⟩
 go_wp2
 go_ret
 exact⟨rfl,Below.refl _ _⟩
def slotsGa:List (Option Tmp):=[some 14,some 15,some 16,some 17,some 18,some 19,some 20,some 4]
def factsGa (n:Nat) (cx cr:Array Value) (k:Nat) (X O:List ByteArray):List (Value→World→Prop):=
 [fun v _=>v=.pointer (some ⟨n,3,none⟩),fun v _=>v=.agg cx,fun v w=>SlOf w w.heap.size 1 StrC X v,fun v _=>v=.agg cr,fun v _=>v=.int .i64 (k:Int),fun v w=>SlOf w w.heap.size 1 StrC O v,fun v w=>SlOf w w.heap.size 1 StrC (withV X O) v,fun v w=>SlOf w w.heap.size 1 StrC (withV X O) v]
theorem factsGa_mono (n:Nat) (cx cr:Array Value) (k:Nat) (X O:List ByteArray):∀ p ∈ factsGa n cx cr k X O,∀ v w w',p v w→Below w.heap.size w w'→p v w':=by
 intro p hp v w w' h hb
 unfold factsGa at hp
 simp only[List.mem_cons,List.not_mem_nil,or_false] at hp
 rcases hp with rfl | rfl | rfl | rfl | rfl | rfl | rfl | rfl
 ·exact h
 ·exact h
 ·exact SlOf.str h hb hb.size
 ·exact h
 ·exact h
 ·exact SlOf.str h hb hb.size
 ·exact SlOf.str h hb hb.size
 ·exact SlOf.str h hb hb.size
set_option maxRecDepth 100000 in
set_option maxHeartbeats 16000000 in
theorem gains6_c (r:Ru) (k:Nat) (l:Lt) (w:World) (cs:List Value) (hc:RuC w w.heap.size r cs) (hr:rightR r=true) (hn:(termsR r).length+r.body.length≤400000) (hk:r.body[k]?=some l) :
  Calls Tryz.prog 78 #[.agg cs.toArray,.int .i64 (k:Int)] w (VarsR (gains6 r k l) w.heap.size w):=by
 have HOu:=hid (fun (W:World) (hb:Below w.heap.size w W)=>outer6_c r k l W cs ((hc.below hb).more hb.size) hr (by omega) hk)
 obtain⟨o0,k0,o1,k1,rfl,_,hh,hbd⟩:=hc.look
 obtain⟨o2,k2,e2,hc1,hm1,S1⟩:=SlOf.open hbd
 cases e2
 have hkl:=(List.getElem?_eq_some_iff.1 hk).1
 have hkl':(k:Int) < (r.body.length:Int):=by omega
 have hk0:(0:Int)≤(k:Int):=by omega
 have hll:=right_lits hr l (List.mem_of_getElem? hk)
 have hlit:(litTs l).length≤400000:=by
  have h3:=(termsR_pre r.body (k+1)).length_le
  rw[termsR_take hk,List.length_append] at h3
  unfold termsR at hn
  rw[List.length_append] at hn
  omega
 have hlen:=litTs_len l
 have hv:=rightL_leaf1 hll
 have hXO:(varsV (subT l.x)).length+(outer6 r k l).length≤1000000:=by
  have h1:=varsV_len (subT l.x)
  have h2:(outer6 r k l).length≤(varsV (termsR r)).length:=List.length_filter_le ..
  have h3:=varsV_len (termsR r)
  omega
 obtain⟨a,p0,q0,p1,q1,p2,q2,rfl,ha,Hc,c0,c1,c2,c3,c4,c5,c6,c7,c8,c9,c10⟩:=lt_at S1 (Below.refl _ _) hk
 obtain⟨hAm,hX,hY⟩:=lt_parts Hc.out
 have hal:(a.add (k * 11)).block < w.heap.size:=by rw[addBlock];exact ha
 have HLV:=hid (fun (W:World) (hb:Below w.heap.size w W)=>litVars_c l W _ ((Hc.out.below hb).more hb.size) hv (by omega))
 have HX:=hid (fun (W:World) (hb:Below w.heap.size w W)=>termVars_c _ l.x W _ (Nat.le_refl _) ((hX.under hb).more hb.size) (fun u hu=>hv u (litTs_mem.2 (.inl hu))) (by omega))
 have HWX:=hid (fun (W:World) (v u:Value) (h1:SlOf W W.heap.size 1 StrC (varsV (subT l.x)) v) (h2:SlOf W W.heap.size 1 StrC (outer6 r k l) u)=>with6_c _ _ v u W h1 h2 hXO)
 clear hc hh hbd hn hr hll hlit hlen hv hk hAm hX hY Hc hXO
 go_enter Tryz.func78,Tryz.ntmps78
 by_cases h7:l.op ≥ 7
 ·have HF:Hid (gains6 r k l=withV (varsV (subT l.x)) (outer6 r k l)):=hid (by unfold gains6;rw[if_pos h7])
  obtain⟨X,hX⟩:∃ X,varsV (subT l.x)=X:=⟨_,rfl⟩
  obtain⟨O,hO⟩:∃ O,outer6 r k l=O:=⟨_,rfl⟩
  rw[hX] at HX HWX HF
  rw[hO] at HOu HWX HF
  clear hX hO
  go_wp2_with fail
  have HBA:Hid (Below w.heap.size w ((w.alloc (.cells #[.string r.head.rel,.slice o0 r.head.l.length k0,.slice (some a) r.body.length k1,.int .i64 r.line] 37)).alloc (.cells #[.int .i64 l.op,.string l.a.rel,.slice p0 l.a.l.length q0,.int .i64 l.x.op,.string l.x.s,.int .i64 l.x.n,.slice p1 l.x.l.length q1,.int .i64 l.y.op,.string l.y.s,.int .i64 l.y.n,.slice p2 l.y.l.length q2] 56))):=hid (((Below.refl _ _).alloc (Nat.le_refl _) _).alloc (by simp) _)
  have QL:Hid (((w.alloc (.cells #[.string r.head.rel,.slice o0 r.head.l.length k0,.slice (some a) r.body.length k1,.int .i64 r.line] 37)).alloc (.cells #[.int .i64 l.op,.string l.a.rel,.slice p0 l.a.l.length q0,.int .i64 l.x.op,.string l.x.s,.int .i64 l.x.n,.slice p1 l.x.l.length q1,.int .i64 l.y.op,.string l.y.s,.int .i64 l.y.n,.slice p2 l.y.l.length q2] 56)).heap[w.heap.size+1]?=some (.cells #[.int .i64 l.op,.string l.a.rel,.slice p0 l.a.l.length q0,.int .i64 l.x.op,.string l.x.s,.int .i64 l.x.n,.slice p1 l.x.l.length q1,.int .i64 l.y.op,.string l.y.s,.int .i64 l.y.n,.slice p2 l.y.l.length q2] 56 (0,0))):=hid (by
   have h:=World.alloc_heap_new (w.alloc (.cells #[.string r.head.rel,.slice o0 r.head.l.length k0,.slice (some a) r.body.length k1,.int .i64 r.line] 37)) (.cells #[.int .i64 l.op,.string l.a.rel,.slice p0 l.a.l.length q0,.int .i64 l.x.op,.string l.x.s,.int .i64 l.x.n,.slice p1 l.x.l.length q1,.int .i64 l.y.op,.string l.y.s,.int .i64 l.y.n,.slice p2 l.y.l.length q2] 56)
   rw[World.size_alloc] at h
   exact h)
  have QR:Hid (((w.alloc (.cells #[.string r.head.rel,.slice o0 r.head.l.length k0,.slice (some a) r.body.length k1,.int .i64 r.line] 37)).alloc (.cells #[.int .i64 l.op,.string l.a.rel,.slice p0 l.a.l.length q0,.int .i64 l.x.op,.string l.x.s,.int .i64 l.x.n,.slice p1 l.x.l.length q1,.int .i64 l.y.op,.string l.y.s,.int .i64 l.y.n,.slice p2 l.y.l.length q2] 56)).heap[w.heap.size]?=some (.cells #[.string r.head.rel,.slice o0 r.head.l.length k0,.slice (some a) r.body.length k1,.int .i64 r.line] 37 (0,0))):=hid ((((Below.refl _ (w.alloc (.cells #[.string r.head.rel,.slice o0 r.head.l.length k0,.slice (some a) r.body.length k1,.int .i64 r.line] 37))).alloc (Nat.le_refl _) _).block w.heap.size (by simp)).trans (World.alloc_heap_new w _))
  generalize (w.alloc (.cells #[.string r.head.rel,.slice o0 r.head.l.length k0,.slice (some a) r.body.length k1,.int .i64 r.line] 37)).alloc (.cells #[.int .i64 l.op,.string l.a.rel,.slice p0 l.a.l.length q0,.int .i64 l.x.op,.string l.x.s,.int .i64 l.x.n,.slice p1 l.x.l.length q1,.int .i64 l.y.op,.string l.y.s,.int .i64 l.y.n,.slice p2 l.y.l.length q2] 56)=W0 at *
  refine wp_region_any (by kernel_rfl) ?_
  (try (change wpAny _ _ _ _ _ _ _ (World.drew _)))
  refine wpAny_grow slotsGa _ _ (factsGa (w.heap.size+1) #[.int .i64 l.x.op,.string l.x.s,.int .i64 l.x.n,.slice p1 l.x.l.length q1] #[.string r.head.rel,.slice o0 r.head.l.length k0,.slice (some a) r.body.length k1,.int .i64 r.line] k X O) (by kernel_rfl) (by kernel_rfl) (by kernel_rfl) (by kernel_rfl) (by kernel_rfl) (factsGa_mono _ _ _ _ _ _) ⟨?s0,?s1,?s2,?s3,?s4,?s5,?s6,?s7,trivial⟩ ?fin
  case s0=>
   intro A w' K hb hfar hd hK
   have e1:A.tmps[5]?.getD undef=.pointer (some ⟨w.heap.size+1,0,none⟩):=hfar 5 (by decide)
   unfold Oper.wp
   simp[execOp,e1,go_sem,Result.andThen]
   exact hK _ _ (Below.refl _ _) (factG_mk rfl rfl)
  case s1=>
   intro A w' K hb hfar hd hK
   have e1:A.tmps[14]?.getD undef=.pointer (some ⟨w.heap.size+1,3,none⟩):=hd 0 14 rfl (by kernel_rfl) _ rfl
   have q:=(hb.block _ (heap_lt QL.out)).trans QL.out
   have c0:w'.cell? ⟨w.heap.size+1,3,none⟩=some (.int .i64 l.x.op):=row_cells q 3
   have c1:w'.cell? ⟨w.heap.size+1,4,none⟩=some (.string l.x.s):=row_cells q 4
   have c2:w'.cell? ⟨w.heap.size+1,5,none⟩=some (.int .i64 l.x.n):=row_cells q 5
   have c3:w'.cell? ⟨w.heap.size+1,6,none⟩=some (.slice p1 l.x.l.length q1):=row_cells q 6
   unfold Oper.wp
   simp[execOp,e1,c0,c1,c2,c3,go_sem,Result.andThen]
   exact hK _ _ (Below.refl _ _) (factG_mk rfl rfl)
  case s2=>
   intro A w' K hb hfar hd hK
   have e1:A.tmps[15]?.getD undef=.agg #[.int .i64 l.x.op,.string l.x.s,.int .i64 l.x.n,.slice p1 l.x.l.length q1]:=hd 1 15 rfl (by kernel_rfl) _ rfl
   have hb':=HBA.out.trans ((drewB hb).mono HBA.out.size)
   have hT:=HX.out w' hb'
   unfold Oper.wp
   simp[execOp,e1,go_sem,Result.andThen]
   refine hT.mono ?_
   rintro e3 w3 ⟨u,rfl,h2,b3⟩
   exact hK _ _ b3 (factG_mk rfl h2)
  case s3=>
   intro A w' K hb hfar hd hK
   have e1:A.tmps[2]?.getD undef=.pointer (some ⟨w.heap.size,0,none⟩):=hfar 2 (by decide)
   have q:=(hb.block _ (heap_lt QR.out)).trans QR.out
   have c0:w'.cell? ⟨w.heap.size,0,none⟩=some (.string r.head.rel):=row_cells q 0
   have c1:w'.cell? ⟨w.heap.size,1,none⟩=some (.slice o0 r.head.l.length k0):=row_cells q 1
   have c2:w'.cell? ⟨w.heap.size,2,none⟩=some (.slice (some a) r.body.length k1):=row_cells q 2
   have c3:w'.cell? ⟨w.heap.size,3,none⟩=some (.int .i64 r.line):=row_cells q 3
   unfold Oper.wp
   simp[execOp,e1,c0,c1,c2,c3,go_sem,Result.andThen]
   exact hK _ _ (Below.refl _ _) (factG_mk rfl rfl)
  case s4=>
   intro A w' K hb hfar hd hK
   have e1:A.tmps[1]?.getD undef=.int .i64 (k:Int):=hfar 1 (by decide)
   unfold Oper.wp
   simp[execOp,e1,go_sem,Result.andThen]
   exact hK _ _ (Below.refl _ _) (factG_mk rfl rfl)
  case s5=>
   intro A w' K hb hfar hd hK
   have e1:A.tmps[17]?.getD undef=.agg #[.string r.head.rel,.slice o0 r.head.l.length k0,.slice (some a) r.body.length k1,.int .i64 r.line]:=hd 3 17 rfl (by kernel_rfl) _ rfl
   have e2:A.tmps[18]?.getD undef=.int .i64 (k:Int):=hd 4 18 rfl (by kernel_rfl) _ rfl
   have hb':=HBA.out.trans ((drewB hb).mono HBA.out.size)
   have hT:=HOu.out w' hb'
   unfold Oper.wp
   simp[execOp,e1,e2,go_sem,Result.andThen]
   refine hT.mono ?_
   rintro e3 w3 ⟨u,rfl,h2,b3⟩
   exact hK _ _ b3 (factG_mk rfl h2)
  case s6=>
   intro A w' K hb hfar hd hK
   have e1:SlOf w' w'.heap.size 1 StrC X (A.tmps[16]?.getD undef):=hd 2 16 rfl (by kernel_rfl) _ rfl
   have e2:SlOf w' w'.heap.size 1 StrC O (A.tmps[19]?.getD undef):=hd 5 19 rfl (by kernel_rfl) _ rfl
   have hT:=HWX.out w' _ _ e1 e2
   unfold Oper.wp
   simp[execOp,go_sem,Result.andThen]
   refine hT.mono ?_
   rintro e3 w3 ⟨u,rfl,h2,b3⟩
   exact hK _ _ b3 (factG_mk rfl h2)
  case s7=>
   intro A w' K hb hfar hd hK
   have e1:SlOf w' w'.heap.size 1 StrC (withV X O) (A.tmps[20]?.getD undef):=hd 6 20 rfl (by kernel_rfl) _ rfl
   unfold Oper.wp
   simp[execOp,go_sem,Result.andThen]
   exact hK _ _ (Below.refl _ _) (factG_mk rfl e1)
  case fin=>
   intro val w4 hF hb
   have h7:SlOf w4 w4.heap.size 1 StrC (withV X O) (val 7):=hF 7 4 rfl _ rfl
   have H7:=hid h7
   have B4:=hid (HBA.out.trans ((drewB hb).mono HBA.out.size))
   obtain⟨o7,k7,e7,_⟩:=SlOf.uni h7
   simp only[slotsGa,putsA,Nat.zero_add,Nat.reduceAdd]
   rw[e7] at H7
   simp only[e7]
   clear hF hb h7 e7
   go_simp
   go_wp2
   go_ret
   exact⟨_,rfl,by rw[HF.out];exact H7.out,B4.out⟩
 ·have HF:Hid (gains6 r k l=varsV (litTs l)):=hid (by unfold gains6;rw[if_neg (by omega)])
  have HBA:Hid (∀ X Y,Below w.heap.size w ((w.alloc X).alloc Y)):=hid (fun X Y=>((Below.refl _ _).alloc (Nat.le_refl _) _).alloc (by simp) _)
  go_wp2_with fail
  refine (HLV.out _ (HBA.out _ _)).mono ?_
  rintro e w1 ⟨u1,rfl,hS1,b1⟩
  have B1:=hid ((HBA.out _ _).trans (b1.mono (HBA.out _ _).size))
  have HS1:=hid hS1
  clear hS1 b1
  go_wp2
  go_ret
  exact⟨_,rfl,by rw[HF.out];exact HS1.out,B1.out⟩
end Go.Proofs.YtfmldnbcjbflbaaGreatDoor

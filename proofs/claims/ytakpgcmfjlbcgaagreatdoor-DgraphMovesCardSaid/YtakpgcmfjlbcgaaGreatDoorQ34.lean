/- Zn@0123, Gg0@0123, Gx@0123, Ga@0123, Yck@0123 -/
import Derived.Test.YtakpgcmfjlbcgaaGreatDoorQ30
set_option linter.unusedSimpArgs false
set_option linter.unusedVariables false
namespace Go.Proofs.YtakpgcmfjlbcgaaGreatDoor
open Lib(hid)
open Go.RowKit Go.Extern Go.Extern.Rtype Go.Extern.Stop Go.Stop
structure ZEnv (n:Nat) (a b:Addr) (w:World):Prop where
 tr:w.cell? ⟨0,0,none⟩=some (errV a)
 un:w.cell? ⟨1,0,none⟩=some (errV b)
 ne:a≠b
 ra:∃ cs t,w.heap[a.block]?=some (.cells cs t (0,0))
 rb:∃ cs t,w.heap[b.block]?=some (.cells cs t (0,0))
 big:0 < n∧1 < n∧a.block < n∧b.block < n
theorem ZEnv.below {n:Nat} {a b:Addr} {w w':World} (h:ZEnv n a b w) (k:Below n w w'):ZEnv n a b w':=by
 have hb:=h.big
 have e:∀ g v,g < n→w.cell? ⟨g,0,none⟩=some v→w'.cell? ⟨g,0,none⟩=some v:=fun g v hg h=>(k.cell (by show g < n;exact hg)).trans h
 obtain⟨ca,ta,ha⟩:=h.ra
 obtain⟨cb,tb,hb'⟩:=h.rb
 exact⟨e _ _ hb.1 h.tr,e _ _ hb.2.1 h.un,h.ne,⟨ca,ta,(k.block _ hb.2.2.1).trans ha⟩,⟨cb,tb,(k.block _ hb.2.2.2).trans hb'⟩,hb⟩
theorem ZEnv.more {n n':Nat} {a b:Addr} {w:World} (h:ZEnv n a b w) (hn:n≤n'):ZEnv n' a b w:=
 ⟨h.tr,h.un,h.ne,h.ra,h.rb,⟨Nat.lt_of_lt_of_le h.big.1 hn,Nat.lt_of_lt_of_le h.big.2.1 hn,Nat.lt_of_lt_of_le h.big.2.2.1 hn,Nat.lt_of_lt_of_le h.big.2.2.2 hn⟩⟩
theorem noIsR (v:Value) (xT:TypeId) (w:World):(Instr.typeAssert (.iface 130 v) xT 208 true).run Tryz.prog w=.ok (.tuple #[.nilIface,.bool false]) w:=run_typeAssert_lacksB Tryz.underlying208 (by kernel_rfl) (by kernel_rfl) v xT w
theorem hasUnwrapR (v:Value) (xT:TypeId) (w:World):(Instr.typeAssert (.iface 130 v) xT 211 true).run Tryz.prog w=.ok (.tuple #[.iface 130 v,.bool true]) w:=run_typeAssert_hasB Tryz.underlying211 (by kernel_rfl) v xT w
theorem methodUnwrapR (x : Value) (w : World) : (Go.method 387 130 (.agg #[x]) "Unwrap").run Tryz.prog w = .ok (215, .agg #[x]) w := by kernel_rfl
theorem unwrapR_c (x:Int) (b:Addr) (w:World) (hg:w.cell? ⟨1,0,none⟩=some (errV b)) (hl:1 < w.heap.size) :
  Calls Tryz.prog 215 #[.agg #[.int .i64 x]] w fun e w'=>e=.returned (errV b)∧Below w.heap.size w w':=by
 unfold errV at *
 go_enter Tryz.func215,Tryz.ntmps215
 go_wp2
 go_ret
 exact⟨rfl,(Below.refl _ _).alloc (Nat.le_refl _) _⟩
set_option maxRecDepth 100000 in
set_option maxHeartbeats 8000000 in
theorem isR_yes (x:Int) (b:Addr) (w:World) (hg:w.cell? ⟨1,0,none⟩=some (errV b)) (hl:1 < w.heap.size) :
  Calls Tryz.prog 75 #[.iface 130 (.agg #[.int .i64 x]),errV b] w fun e w'=>e=.returned (.bool true)∧Below w.heap.size w w':=by
 obtain⟨i,hi,hcmp⟩:=Option.map_eq_some_iff.1 isComp
 obtain⟨j,hj,hjs⟩:=Option.map_eq_some_iff.1 isSize
 have h39:=@run_callFunc_extern Tryz.prog 111 _ Extern.ReflectliteType.typeOf Tryz.func111 (by kernel_rfl) (by kernel_rfl) (by kernel_rfl) (by kernel_rfl)
 have tT:=isTypeOf
 have cT:=isCalled
 have mR:=isMethodComparable
 have nE:=noIsR
 have uE:=hasUnwrapR
 have mU:=methodUnwrapR
 have HU:=hid (fun (W:World) (hb:Below w.heap.size w W)=>unwrapR_c x b W ((hb.cell hl).trans hg) (Nat.lt_of_lt_of_le hl hb.size))
 have n1:=run_eql_iface_types (P:=Tryz.prog) 130 250 (.agg #[.int .i64 x]) (.pointer (some b)) Tryz.underlying95 (by decide)
 have heq:=fun W=>run_eql_iface_ptr_same (P:=Tryz.prog) W b Tryz.underlying95 Tryz.underlying250 hi hcmp hj
 unfold errV at *
 clear hg hl
 go_enter Tryz.func75,Tryz.ntmps75
 go_wp2
 refine wp_loop_rounds 2 ?_
 rw[rounds_succ]
 go_wp2_with (go_at_call 215;refine (HU.out w (Below.refl _ _)).mono ?_;rintro e w' ⟨rfl,hb⟩;have HB:=hid hb;clear hb)
 rw[rounds_succ]
 go_wp2
 go_ret
 exact⟨rfl,HB.out⟩
set_option maxRecDepth 100000 in
set_option maxHeartbeats 8000000 in
theorem isR_no (x:Int) (a b:Addr) (w:World) (hg:w.cell? ⟨1,0,none⟩=some (errV b)) (hl:1 < w.heap.size) (hne:a≠b) {ca cb:Array Value} {ta tb:TypeId} (ha:w.heap[a.block]?=some (.cells ca ta (0,0))) (hb:w.heap[b.block]?=some (.cells cb tb (0,0))) :
  Calls Tryz.prog 75 #[.iface 130 (.agg #[.int .i64 x]),errV a] w fun e w'=>e=.returned (.bool false)∧Below w.heap.size w w':=by
 obtain⟨i,hi,hcmp⟩:=Option.map_eq_some_iff.1 isComp
 obtain⟨j,hj,hjs⟩:=Option.map_eq_some_iff.1 isSize
 have h39:=@run_callFunc_extern Tryz.prog 111 _ Extern.ReflectliteType.typeOf Tryz.func111 (by kernel_rfl) (by kernel_rfl) (by kernel_rfl) (by kernel_rfl)
 have tT:=isTypeOf
 have cT:=isCalled
 have mR:=isMethodComparable
 have nE:=noIsR
 have uE:=hasUnwrapR
 have nE2:=noIsE
 have uE2:=noUnwrapE
 have vE2:=noUnwrapsE
 have mU:=methodUnwrapR
 have HU:=hid (fun (W:World) (hb:Below w.heap.size w W)=>unwrapR_c x b W ((hb.cell hl).trans hg) (Nat.lt_of_lt_of_le hl hb.size))
 have n1:=run_eql_iface_types (P:=Tryz.prog) 130 250 (.agg #[.int .i64 x]) (.pointer (some a)) Tryz.underlying95 (by decide)
 have HQ:=hid (fun (W:World) (hw:Below w.heap.size w W)=>run_eql_iface_ptr_other (P:=Tryz.prog) W Tryz.underlying95 Tryz.underlying250 hi hcmp hj (by rw[hjs];decide) (Ne.symm hne) ((hw.block _ (heap_lt hb)).trans hb) ((hw.block _ (heap_lt ha)).trans ha))
 unfold errV at *
 clear hg hl ha hb
 go_enter Tryz.func75,Tryz.ntmps75
 go_wp2
 refine wp_loop_rounds 2 ?_
 rw[rounds_succ]
 go_wp2_with (go_at_call 215;refine (HU.out w (Below.refl _ _)).mono ?_;rintro e w' ⟨rfl,hb⟩;have HB:=hid hb;have heq:=HQ.out w' hb;clear hb)
 rw[rounds_succ]
 go_wp2
 go_ret
 exact⟨rfl,HB.out⟩
set_option maxRecDepth 100000 in
set_option maxHeartbeats 8000000 in
theorem numR_c (x:Int) (n:Nat) (a b:Addr) (w:World) (E:ZEnv n a b w) (hn:n≤w.heap.size) :
  Calls Tryz.prog 51 #[.iface 130 (.agg #[.int .i64 x])] w fun e w'=>e=.returned (.int .i64 60)∧Below w.heap.size w w':=by
 obtain⟨ca,ta,ra⟩:=E.ra
 obtain⟨cb,tb,rb⟩:=E.rb
 have hl:1 < w.heap.size:=Nat.lt_of_lt_of_le E.big.2.1 hn
 have HN:=hid (isR_no x a b w E.un hl E.ne ra rb)
 have HY:=hid (fun (W:World) (hb:Below w.heap.size w W)=>isR_yes x b W ((hb.cell hl).trans E.un) (Nat.lt_of_lt_of_le hl hb.size))
 have HE2:=hid (fun (W:World) (hb:Below w.heap.size w W)=>(hb.cell (p:=⟨1,0,none⟩) hl).trans E.un)
 have h1:=E.tr
 have h2:=E.un
 have l1:0 < w.heap.size:=Nat.lt_of_lt_of_le E.big.1 hn
 clear ra rb E
 go_enter Tryz.func51,Tryz.ntmps51
 unfold errV at *
 go_wp2_with fail
 refine (HN.out).mono ?_
 rintro e w1 ⟨rfl,hb1⟩
 have B1:=hid hb1
 have h3:=HE2.out w1 hb1
 clear hb1
 go_wp2_with fail
 refine (HY.out w1 B1.out).mono ?_
 rintro e w2 ⟨rfl,hb2⟩
 have B2:=hid (B1.out.trans (hb2.mono B1.out.size))
 clear hb2
 go_wp2
 go_ret
 exact⟨rfl,B2.out⟩
theorem noIsB (v:Value) (xT:TypeId) (w:World):(Instr.typeAssert (.iface 136 v) xT 208 true).run Tryz.prog w=.ok (.tuple #[.nilIface,.bool false]) w:=run_typeAssert_lacksB Tryz.underlying208 (by kernel_rfl) (by kernel_rfl) v xT w
theorem hasUnwrapB (v:Value) (xT:TypeId) (w:World):(Instr.typeAssert (.iface 136 v) xT 211 true).run Tryz.prog w=.ok (.tuple #[.iface 136 v,.bool true]) w:=run_typeAssert_hasB Tryz.underlying211 (by kernel_rfl) v xT w
theorem methodUnwrapB (x : Value) (w : World) : (Go.method 387 136 (.agg #[x]) "Unwrap").run Tryz.prog w = .ok (217, .agg #[x]) w := by kernel_rfl
theorem unwrapB_c (x:ByteArray) (b:Addr) (w:World) (hg:w.cell? ⟨1,0,none⟩=some (errV b)) (hl:1 < w.heap.size) :
  Calls Tryz.prog 217 #[.agg #[.string x]] w fun e w'=>e=.returned (errV b)∧Below w.heap.size w w':=by
 unfold errV at *
 go_enter Tryz.func217,Tryz.ntmps217
 go_wp2
 go_ret
 exact⟨rfl,(Below.refl _ _).alloc (Nat.le_refl _) _⟩
set_option maxRecDepth 100000 in
set_option maxHeartbeats 8000000 in
theorem isB_yes (x:ByteArray) (b:Addr) (w:World) (hg:w.cell? ⟨1,0,none⟩=some (errV b)) (hl:1 < w.heap.size) :
  Calls Tryz.prog 75 #[.iface 136 (.agg #[.string x]),errV b] w fun e w'=>e=.returned (.bool true)∧Below w.heap.size w w':=by
 obtain⟨i,hi,hcmp⟩:=Option.map_eq_some_iff.1 isComp
 obtain⟨j,hj,hjs⟩:=Option.map_eq_some_iff.1 isSize
 have h39:=@run_callFunc_extern Tryz.prog 111 _ Extern.ReflectliteType.typeOf Tryz.func111 (by kernel_rfl) (by kernel_rfl) (by kernel_rfl) (by kernel_rfl)
 have tT:=isTypeOf
 have cT:=isCalled
 have mR:=isMethodComparable
 have nE:=noIsB
 have uE:=hasUnwrapB
 have mU:=methodUnwrapB
 have HU:=hid (fun (W:World) (hb:Below w.heap.size w W)=>unwrapB_c x b W ((hb.cell hl).trans hg) (Nat.lt_of_lt_of_le hl hb.size))
 have n1:=run_eql_iface_types (P:=Tryz.prog) 136 250 (.agg #[.string x]) (.pointer (some b)) Tryz.underlying95 (by decide)
 have heq:=fun W=>run_eql_iface_ptr_same (P:=Tryz.prog) W b Tryz.underlying95 Tryz.underlying250 hi hcmp hj
 unfold errV at *
 clear hg hl
 go_enter Tryz.func75,Tryz.ntmps75
 go_wp2
 refine wp_loop_rounds 2 ?_
 rw[rounds_succ]
 go_wp2_with (go_at_call 217;refine (HU.out w (Below.refl _ _)).mono ?_;rintro e w' ⟨rfl,hb⟩;have HB:=hid hb;clear hb)
 rw[rounds_succ]
 go_wp2
 go_ret
 exact⟨rfl,HB.out⟩
set_option maxRecDepth 100000 in
set_option maxHeartbeats 8000000 in
theorem isB_no (x:ByteArray) (a b:Addr) (w:World) (hg:w.cell? ⟨1,0,none⟩=some (errV b)) (hl:1 < w.heap.size) (hne:a≠b) {ca cb:Array Value} {ta tb:TypeId} (ha:w.heap[a.block]?=some (.cells ca ta (0,0))) (hb:w.heap[b.block]?=some (.cells cb tb (0,0))) :
  Calls Tryz.prog 75 #[.iface 136 (.agg #[.string x]),errV a] w fun e w'=>e=.returned (.bool false)∧Below w.heap.size w w':=by
 obtain⟨i,hi,hcmp⟩:=Option.map_eq_some_iff.1 isComp
 obtain⟨j,hj,hjs⟩:=Option.map_eq_some_iff.1 isSize
 have h39:=@run_callFunc_extern Tryz.prog 111 _ Extern.ReflectliteType.typeOf Tryz.func111 (by kernel_rfl) (by kernel_rfl) (by kernel_rfl) (by kernel_rfl)
 have tT:=isTypeOf
 have cT:=isCalled
 have mR:=isMethodComparable
 have nE:=noIsB
 have uE:=hasUnwrapB
 have nE2:=noIsE
 have uE2:=noUnwrapE
 have vE2:=noUnwrapsE
 have mU:=methodUnwrapB
 have HU:=hid (fun (W:World) (hb:Below w.heap.size w W)=>unwrapB_c x b W ((hb.cell hl).trans hg) (Nat.lt_of_lt_of_le hl hb.size))
 have n1:=run_eql_iface_types (P:=Tryz.prog) 136 250 (.agg #[.string x]) (.pointer (some a)) Tryz.underlying95 (by decide)
 have HQ:=hid (fun (W:World) (hw:Below w.heap.size w W)=>run_eql_iface_ptr_other (P:=Tryz.prog) W Tryz.underlying95 Tryz.underlying250 hi hcmp hj (by rw[hjs];decide) (Ne.symm hne) ((hw.block _ (heap_lt hb)).trans hb) ((hw.block _ (heap_lt ha)).trans ha))
 unfold errV at *
 clear hg hl ha hb
 go_enter Tryz.func75,Tryz.ntmps75
 go_wp2
 refine wp_loop_rounds 2 ?_
 rw[rounds_succ]
 go_wp2_with (go_at_call 217;refine (HU.out w (Below.refl _ _)).mono ?_;rintro e w' ⟨rfl,hb⟩;have HB:=hid hb;have heq:=HQ.out w' hb;clear hb)
 rw[rounds_succ]
 go_wp2
 go_ret
 exact⟨rfl,HB.out⟩
set_option maxRecDepth 100000 in
set_option maxHeartbeats 8000000 in
theorem numB_c (x:ByteArray) (n:Nat) (a b:Addr) (w:World) (E:ZEnv n a b w) (hn:n≤w.heap.size) :
  Calls Tryz.prog 51 #[.iface 136 (.agg #[.string x])] w fun e w'=>e=.returned (.int .i64 60)∧Below w.heap.size w w':=by
 obtain⟨ca,ta,ra⟩:=E.ra
 obtain⟨cb,tb,rb⟩:=E.rb
 have hl:1 < w.heap.size:=Nat.lt_of_lt_of_le E.big.2.1 hn
 have HN:=hid (isB_no x a b w E.un hl E.ne ra rb)
 have HY:=hid (fun (W:World) (hb:Below w.heap.size w W)=>isB_yes x b W ((hb.cell hl).trans E.un) (Nat.lt_of_lt_of_le hl hb.size))
 have HE2:=hid (fun (W:World) (hb:Below w.heap.size w W)=>(hb.cell (p:=⟨1,0,none⟩) hl).trans E.un)
 have h1:=E.tr
 have h2:=E.un
 have l1:0 < w.heap.size:=Nat.lt_of_lt_of_le E.big.1 hn
 clear ra rb E
 go_enter Tryz.func51,Tryz.ntmps51
 unfold errV at *
 go_wp2_with fail
 refine (HN.out).mono ?_
 rintro e w1 ⟨rfl,hb1⟩
 have B1:=hid hb1
 have h3:=HE2.out w1 hb1
 clear hb1
 go_wp2_with fail
 refine (HY.out w1 B1.out).mono ?_
 rintro e w2 ⟨rfl,hb2⟩
 have B2:=hid (B1.out.trans (hb2.mono B1.out.size))
 clear hb2
 go_wp2
 go_ret
 exact⟨rfl,B2.out⟩
set_option maxRecDepth 100000 in
set_option maxHeartbeats 8000000 in
theorem numT_c (n:Nat) (a b:Addr) (w:World) (E:ZEnv n a b w) :
  Calls Tryz.prog 51 #[errV a] w fun e w'=>e=.returned (.int .i64 30)∧Below w.heap.size w w':=by
 have h1:=E.tr
 clear E
 unfold errV at *
 go_enter Tryz.func51,Tryz.ntmps51
 go_wp2_with fail
 refine (is_same a w).mono ?_
 rintro e w' ⟨rfl,rfl⟩
 go_wp2
 go_ret
 exact⟨rfl,Below.refl _ _⟩
end Go.Proofs.YtakpgcmfjlbcgaaGreatDoor
namespace Go.Proofs.YtakpgcmfjlbcgaaGreatDoor
open Lib(hid)
open Go.RowKit Go.Maps
def mapsL (Ms:List Nat):List Value:=Ms.map fun b:Nat=>.map (some b)
theorem own_blk {w w':World} {base e z n:Nat} {v:Value} {xs:List Value} (h:w.ownsRow base e z v n xs) (hk:∀ g,base≤g→g < w.heap.size→v.ownBlock=some g→w'.heap[g]?=w.heap[g]?):w'.ownsRow base e z v n xs:=by
 obtain⟨h0,h1 | ⟨g,cap,cur,rfl,hb,hg,h2⟩⟩:=h
 ·exact⟨h0,.inl h1⟩
 ·exact⟨h0,.inr ⟨g,cap,cur,rfl,hb,(hk g hb (heap_lt hg) rfl).trans hg,h2⟩⟩
structure GrO (W:World) (base:Nat) (v:Value) (Ms:List Nat) (c:Nat) (F:Nat→Nat→Prop):Prop where
 own:W.ownsRow base 66 1 v Ms.length (mapsL Ms)
 nd:Ms.Nodup
 set:∀ i b,Ms[i]?=some b→base≤b∧∃ m ms,SetG W b m ms∧m≤c∧∀ x,x ∈ ms ↔ F i x
section
variable {W W':World} {base:Nat} {v v':Value} {Ms:List Nat} {c c':Nat} {F F':Nat→Nat→Prop}
theorem GrO.nil (W:World) (base c:Nat) (F:Nat→Nat→Prop):GrO W base (.slice none 0 0) [] c F:=⟨World.ownsRow_nil _ _ _ _,by simp,fun i b h=>by simp at h⟩
theorem GrO.lt (h:GrO W base v Ms c F):∀ b ∈ Ms,base≤b∧b < W.heap.size:=fun b hb=>by
 obtain⟨i,hi⟩:=List.getElem?_of_mem hb
 obtain⟨h1,m,ms,h2,_⟩:=h.set i b hi
 exact⟨h1,h2.lt⟩
theorem GrO.same (h:GrO W base v Ms c F) (hk:∀ b,base≤b→b < W.heap.size→(b ∈ Ms∨v.ownBlock=some b)→W'.heap[b]?=W.heap[b]?):GrO W' base v Ms c F:=
 ⟨own_blk h.own fun g hg hl e=>hk g hg hl (.inr e),h.nd,fun i b hi=>by
  obtain⟨h1,m,ms,h2,h3⟩:=h.set i b hi
  exact⟨h1,m,ms,h2.same (hk b h1 h2.lt (.inl (List.mem_of_getElem? hi))),h3⟩⟩
theorem GrO.below (h:GrO W base v Ms c F) (hb:Below W.heap.size W W'):GrO W' base v Ms c F:=h.same fun b _ hl _=>hb.block b hl
theorem GrO.iff (h:GrO W base v Ms c F) (hc:c≤c') (hF:∀ i x,i < Ms.length→(F' i x ↔ F i x)):GrO W base v Ms c' F':=
 ⟨h.own,h.nd,fun i b hi=>by
  obtain⟨h1,m,ms,h2,h3,h4⟩:=h.set i b hi
  exact⟨h1,m,ms,h2,Nat.le_trans h3 hc,fun x=>(h4 x).trans (hF i x (List.getElem?_eq_some_iff.1 hi).1).symm⟩⟩
theorem GrO.push (h:GrO W base v Ms c F) {M m:Nat} {ms:List Nat} (hM:base≤M) (hn:M ∉ Ms) (hs:SetG W' M m ms) (hm:m≤c) (hF:∀ x,x ∈ ms ↔ F Ms.length x) (ho:W'.ownsRow base 66 1 v' (Ms.length+1) (mapsL Ms++[.map (some M)])) (hk:∀ b ∈ Ms,W'.heap[b]?=W.heap[b]?):GrO W' base v' (Ms++[M]) c F:=by
 refine⟨by simpa[mapsL] using ho,?_,fun i b hi=>?_⟩
 ·rw[List.nodup_append]
  exact⟨h.nd,by simp,fun u hu x hx e=>by rw[List.mem_singleton.1 hx] at e;exact hn (e ▸ hu)⟩
 ·rcases Nat.lt_or_ge i Ms.length with hl | hl
  ·rw[List.getElem?_append_left hl] at hi
   obtain⟨h1,m',ms',h2,h3⟩:=h.set i b hi
   exact⟨h1,m',ms',h2.same (hk b (List.mem_of_getElem? hi)),h3⟩
  ·rw[List.getElem?_append_right hl] at hi
   have h0:i - Ms.length=0:=by have:=(List.getElem?_eq_some_iff.1 hi).1;simp at this;omega
   rw[h0] at hi
   obtain rfl:M=b:=by simpa using hi
   obtain rfl:i=Ms.length:=by omega
   exact⟨hM,m,ms,hs,hm,hF⟩
theorem GrO.add (h:GrO W base v Ms c F) {i b m y:Nat} {ms:List Nat} (hi:Ms[i]?=some b) (hm:m≤c) (hF:∀ x,x ∈ ms ↔ F i x) (hs:SetG W' b (m+1) (ms++[y])) (hg:W.grownBy W' (some b)) (hF':∀ j x,F' j x ↔ F j x∨(j=i∧x=y)):GrO W' base v Ms (c+1) F':=by
 have hmap:∃ es cl,W.heap[b]?=some (.map es cl):=by
  obtain⟨_,_,_,⟨es,cl,h1,_⟩,_⟩:=h.set i b hi
  exact⟨es,cl,h1⟩
 refine⟨own_blk h.own fun g _ hl e=>hg.block g hl fun e2=>?_,h.nd,fun j b' hj=>?_⟩
 ·obtain rfl:g=b:=Option.some.inj e2
  obtain⟨es,cl,h1⟩:=hmap
  rcases h.own.2 with ⟨h0,_⟩ | ⟨g',cap,cur,h2,_,h3,_⟩
  ·rw[h0] at e;cases e
  ·rw[h2] at e
   obtain rfl:g'=g:=Option.some.inj e
   rw[h1] at h3
   cases h3
 ·obtain⟨h1,m',ms',h2,h3,h4⟩:=h.set j b' hj
  by_cases e:j=i
  ·subst e
   rw[hi] at hj
   cases hj
   exact⟨h1,m+1,ms++[y],hs,by omega,fun x=>by rw[hF',List.mem_append,List.mem_singleton,hF x];simp⟩
  ·have hne:b'≠b:=fun e2=>e ((List.getElem?_inj (List.getElem?_eq_some_iff.1 hj).1 h.nd).1 (by rw[hj,hi,e2]))
   exact⟨h1,m',ms',h2.same (hg.block b' h2.lt fun e2=>hne (Option.some.inj e2)),by omega,fun x=>by rw[hF',h4 x];simp[e]⟩
theorem GrO.at_ (h:GrO W base v Ms c F) {i b:Nat} (hi:Ms[i]?=some b):∃ g cap,v=.slice (some ⟨g,0,none⟩) Ms.length cap∧W.cell? ⟨g,i,none⟩=some (.map (some b))∧g < W.heap.size∧base≤g:=by
 rcases h.own.2 with ⟨h0,h1⟩ | ⟨g,cap,cur,h2,hb,_⟩
 ·have:=(List.getElem?_eq_some_iff.1 hi).1;omega
 ·have ho:=h.own
  rw[h2] at ho
  obtain⟨_,_,h5,h6⟩:=own_cellG ho
  exact⟨g,cap,h2,h6 i _ (by unfold mapsL;rw[List.getElem?_map,hi];rfl),h5,hb⟩
theorem GrO.gr {n:Nat} (h:GrO W base v Ms c F) (hl:Ms.length=n) (hn:n≤1000) (hc:c≤1000000) (hF:∀ i x,i < n→F i x→x < n):GrN W v Ms n F:=
 ⟨sl_row (R:=MapR) h.own (fun _ _=>rfl),hl,hn,fun i b hi=>by
  obtain⟨_,m,ms,h2,h3,h4⟩:=h.set i b hi
  have:=(List.getElem?_eq_some_iff.1 hi).1
  exact⟨m,ms,h2,by omega,fun x hx=>hF i x (by omega) ((h4 x).1 hx),h4⟩⟩
def GrK (N:Nat) (w:World) (v:Value) (bs:List Nat) (n:Nat) (F:Nat→Nat→Prop):Prop:=∀ W:World,(∀ b,N≤b→b < w.heap.size→W.heap[b]?=w.heap[b]?)→GrN W v bs n F
theorem GrK.gr {N:Nat} {w:World} {v:Value} {bs:List Nat} {n:Nat} {F:Nat→Nat→Prop} (h:GrK N w v bs n F):GrN w v bs n F:=h w fun _ _ _=>rfl
theorem GrO.grK {n N:Nat} (h:GrO W base v Ms c F) (hN:N≤base) (hl:Ms.length=n) (hn:n≤1000) (hc:c≤1000000) (hF:∀ i x,i < n→F i x→x < n):GrK N W v Ms n F:=
 fun _ hk=>(h.same fun b h1 h2 _=>hk b (Nat.le_trans hN h1) h2).gr hl hn hc hF
end
end Go.Proofs.YtakpgcmfjlbcgaaGreatDoor
namespace Go.Proofs.YtakpgcmfjlbcgaaGreatDoor
open Lib(hid)
open Go.RowKit
def Deaf (n:Nat) (S:World→Prop):Prop:=∀ W W',S W→Below n W W'→KC W W'→S W'
theorem Deaf.put {n:Nat} {S:World→Prop} (h:Deaf n S) {W:World} {l:Nat} {o o':Obj} (hs:S W) (hl:n≤l) (ho:W.heap[l]?=some o) (hc:o.isCells=false):S (W.putObj l o'):=
 h W _ hs ((Below.refl n W).grown (grownBy_putObj' W l o') (by have:=(Array.getElem?_eq_some_iff.1 ho).1;omega) (fun k e=>by cases e;exact hl)) (KC.put W l o o' ho hc)
def SeqNest {α:Type} (F:Fence) (n:Nat) (P:Program) (gf:Nat) (lb:Array Value) (encs:α→Array Value) (ys:List α) (m:Nat) (w:World):Prop:=
 ∀ (l:Nat) (J Jx:Nat→World→Prop) (W:World),Below w.heap.size w W→(∀ k,Deaf W.heap.size (J k))→(∀ k,Deaf W.heap.size (Jx k)) →
  (∀ k x W1,ys[k]?=some x→J k W1→YieldAt F (n - 1) P l (encs x) W1 fun e W'=>(e=.returned (.bool true)∧J (k+1) W'∧KC W1 W'∧KeepsFrom W.heap.size W1 W'∧Below m W1 W')∨(e=.returned (.bool false)∧Jx k W'∧KeepsFrom W.heap.size W1 W')) →
  J 0 W→CallsIn F n P gf (#[.func (.yield l) #[] #[]]++lb) W fun e W'=>(∃ v,e=.returned v)∧(J ys.length W'∨∃ k,Jx k W')
def nestEnd (B m:Nat) (W:World) (I:World→Prop) (Ix:Code→World→Prop):Exit→Act→World→Prop
 | .normal,_,W'=>KeepsFrom B W W'∧KC W W'∧Below m W W'∧I W'
 | .ret,_,W'=>KeepsFrom B W W'∧Ix .ret W'
 | .exit id,_,W'=>KeepsFrom B W W'∧Ix (.exit id) W'
 | .goto t,_,W'=>KeepsFrom B W W'∧Ix (.goto t) W'
 | .panic _,_,_=>False
 | .outgrown,_,_=>False
theorem keepsFrom_up {B B':Nat} {W W':World} (h:KeepsFrom B W W') (hB:B≤B'):KeepsFrom B' W W':=⟨h.size,fun k o hk=>h.same k o (Nat.le_trans hB hk)⟩
theorem range_nest {α:Type} {F:Fence} {n:Nat} {P:Program} {g:Operand} {ps:Array Tmp} {assign body:Code} {Q:Exit→Act→World→Prop} {a:Act} {w:World}
  (hro:F.round=none) (h1:1≤n) {gf:Nat} {lb:Array Value} (hg:a.eval g=.func (.func gf) #[] lb) (hFg:F.fn gf) (eg:∀ args w,(callFunc gf args).run P w=.ok (.enter gf args) w)
  {encs:α→Array Value} {ys:List α} {m:Nat} {w0:World} (hseq:SeqNest F (n - 1) P gf lb encs ys m w0) (hmw:m≤w.heap.size) (hb0:Below w0.heap.size w0 w) (hps:∀ x,(encs x).size=ps.size)
  (I:Nat→World→Prop) (Ix:Nat→Code→World→Prop) (hI:∀ k,Deaf w.heap.size (I k)) (hIx:∀ k c,Deaf w.heap.size (Ix k c)) (h0:I 0 w) (M:Nat→α→Act→World→Prop) (hM:∀ k x a',Deaf w.heap.size (M k x a'))
  (hassign:∀ (l k:Nat) (x:α) (W:World),ys[k]?=some x→I k W→assign.wpIn (F.inRound l) (n - 1 - 1) P (Exit.then (fun a' W'=>KeepsFrom w.heap.size W W'∧KC W W'∧Below m W W'∧M k x a' W') (fun _ _ _=>False)) { tmps:=(ps.zip (encs x)).foldl (fun t (p,v)=>t.setIfInBounds p v) a.tmps,defers:=[] } W)
  (hbody:∀ (l k:Nat) (x:α) (a':Act) (W:World),ys[k]?=some x→M k x a' W→body.wpIn (F.inRound l) (n - 1 - 1) P (nestEnd w.heap.size m W (I (k+1)) (Ix k)) a' W)
  (hdone:∀ (D:Nat) (W:World),w.heap.size≤D→I ys.length W→W.heap[D]?=some (.deferred (some []))→Q .normal { a with defers:={ target:=.collected D,args:=#[] }::a.defers } W)
  (hstop:∀ (D k:Nat) (c:Code) (W:World),w.heap.size≤D→Ix k c W→W.heap[D]?=some (.deferred (some []))→c.wpIn F n P Q { a with defers:={ target:=.collected D,args:=#[] }::a.defers } W) :
  (Code.rangeFunc g ps assign body).wpIn F n P Q a w:=by
 refine wpIn_rangeFunc fun fn hfn=>?_
 rw[hro]
 let rec_:LoopState→Option Code→Loop:=fun st pe=>{ state:=st,pending:=pe,fn,tmps:=a.tmps,params:=ps,assign,body,defers:=w.heap.size }
 obtain⟨W1,hW1⟩:∃ W1,(w.alloc (.deferred (some []))).alloc (.loop (rec_ .ready none))=W1:=⟨_,rfl⟩
 have hb1:Below w.heap.size w W1:=by rw[← hW1];exact ((Below.refl _ _).alloc (Nat.le_refl _) _).alloc (by simp) _
 have hs1:W1.heap.size=w.heap.size+2:=by rw[← hW1];simp
 have h01:I 0 W1:=hI 0 _ _ h0 hb1 (KC.of_below hb1)
 have hl1:((w.alloc (.deferred (some []))).alloc (.loop (rec_ .ready none))).heap[w.heap.size+1]?=some (.loop (rec_ .ready none)):=by
  have:=World.alloc_heap_new (w.alloc (.deferred (some []))) (.loop (rec_ .ready none))
  rwa [World.size_alloc] at this
 have hd1:((w.alloc (.deferred (some []))).alloc (.loop (rec_ .ready none))).heap[w.heap.size]?=some (.deferred (some [])):=
  (Below.heap_alloc _ _ _ (by simp)).trans (World.alloc_heap_new w _)
 rw[hW1] at hl1 hd1
 have deaf:∀ {S:World→Prop} {o1 o2:Obj},Deaf w.heap.size S→Deaf W1.heap.size (fun W=>S W∧W.heap[w.heap.size+1]?=some o1∧W.heap[w.heap.size]?=some o2):=fun hS W W' h hb hk=>
  ⟨hS W W' h.1 (hb.mono (by omega)) hk,(hb.block _ (by omega)).trans h.2.1,(hb.block _ (by omega)).trans h.2.2⟩
 refine⟨w.heap.size+1,[{ target:=.collected w.heap.size,args:=#[] }],W1,{ target:=.fn (.func gf) lb,args:=#[.func (.yield (w.heap.size+1)) #[] #[]] },W1,gf,#[.func (.yield (w.heap.size+1)) #[] #[]]++lb,W1,
  by rw[← hW1];exact run_enterLoop_outer _ _ _ _ _,?_,?_,?_,fun _=>h1,?_⟩
 ·simp only[resolve,hg]
  simp[go_sem]
 ·intro f' hf'
  simp[Target.leads] at hf'
  subst hf'
  exact hFg
 ·simp[invoke,go_sem,eg]
 ·refine (hseq (w.heap.size+1)
   (fun k W=>I k W∧W.heap[w.heap.size+1]?=some (.loop (rec_ .ready none))∧W.heap[w.heap.size]?=some (.deferred (some [])))
   (fun k W=>∃ c,Ix k c W∧W.heap[w.heap.size+1]?=some (.loop (rec_ .done (some c)))∧W.heap[w.heap.size]?=some (.deferred (some [])))
   W1 (hb0.trans (hb1.mono hb0.size)) (fun k=>deaf (hI k)) (fun k W W' ⟨c,h⟩ hb hk=>⟨c,deaf (hIx k c) W W' h hb hk⟩) ?_ ⟨h01,hl1,hd1⟩).mono ?_
  ·rintro k x W hx ⟨hA,hl,hd⟩
   have hy:=run_yield (P:=P) (args:=encs x) hl (hps x)
   refine⟨fn,_,assign,body,hy,roundIn_of_wpIn hfn (wpIn_mono (hassign (w.heap.size+1) k x W hx hA) ?_)⟩
   rintro e a' W2 hp
   cases e with
   | normal=>
    obtain⟨hk,hkc,hbm,hMa⟩:=hp
    have hl2:=hk.same _ _ (by omega) hl rfl
    have hd2:=hk.same _ _ (Nat.le_refl _) hd rfl
    have hlt:=(Array.getElem?_eq_some_iff.1 hl2).1
    refine⟨_,run_beginRound hl2 rfl,?_⟩
    have hl3:(W2.putObj (w.heap.size+1) (.loop { rec_ .ready none with state:=.busy })).heap[w.heap.size+1]?=some (.loop { rec_ .ready none with state:=.busy }):=World.putObj_heap_same hlt
    have hd3:(W2.putObj (w.heap.size+1) (.loop { rec_ .ready none with state:=.busy })).heap[w.heap.size]?=some (.deferred (some [])):=(World.putObj_heap_other (by omega)).trans hd2
    have kup:∀ (Wx:World) (o o':Obj),Wx.heap[w.heap.size+1]?=some o→KeepsFrom W1.heap.size Wx (Wx.putObj (w.heap.size+1) o'):=fun Wx o o' ho=>
     ⟨by simp[World.putObj],fun j x hj hx _=>(World.putObj_heap_other (by omega)).trans hx⟩
    refine wpIn_mono (hbody (w.heap.size+1) k x a' _ hx ((hM k x a').put hMa (by omega) hl2 rfl)) ?_
    have fin:∀ (jump:Option Code) (W4:World),KeepsFrom w.heap.size (W2.putObj (w.heap.size+1) (.loop { rec_ .ready none with state:=.busy })) W4 →
      (Instr.endRound (w.heap.size+1) jump).run P W4=.ok (.bool jump.isNone) (W4.putObj (w.heap.size+1) (.loop (rec_ (if jump.isNone then .ready else .done) jump))) ∧
      W4.heap[w.heap.size+1]?=some (.loop { rec_ .ready none with state:=.busy }) ∧
      (W4.putObj (w.heap.size+1) (.loop (rec_ (if jump.isNone then .ready else .done) jump))).heap[w.heap.size+1]?=some (.loop (rec_ (if jump.isNone then .ready else .done) jump)) ∧
      (W4.putObj (w.heap.size+1) (.loop (rec_ (if jump.isNone then .ready else .done) jump))).heap[w.heap.size]?=some (.deferred (some [])) ∧
      KeepsFrom W1.heap.size W (W4.putObj (w.heap.size+1) (.loop (rec_ (if jump.isNone then .ready else .done) jump))):=fun jump W4 hk4=>by
     have hl4:=hk4.same _ _ (by omega) hl3 rfl
     exact⟨run_endRound (P:=P) jump hl4,hl4,World.putObj_heap_same (Array.getElem?_eq_some_iff.1 hl4).1,(World.putObj_heap_other (by omega)).trans (hk4.same _ _ (Nat.le_refl _) hd3 rfl),
      (((keepsFrom_up hk (by omega)).trans (kup _ _ _ hl2)).trans (keepsFrom_up hk4 (by omega))).trans (kup _ _ _ hl4)⟩
    rintro e a3 W4 hp
    cases e with
    | normal=>
     obtain⟨r1,r2,r3,r4,r5⟩:=fin none W4 hp.1
     have bput:∀ (Wx:World) (o o':Obj),Wx.heap[w.heap.size+1]?=some o→Below m Wx (Wx.putObj (w.heap.size+1) o'):=fun Wx o o' ho=>(Below.refl m Wx).grown (grownBy_putObj' Wx _ o') (by have:=(Array.getElem?_eq_some_iff.1 ho).1;omega) (fun j e=>by cases e;omega)
     exact⟨_,_,r1,.inl ⟨rfl,⟨(hI (k+1)).put hp.2.2.2 (by omega) r2 rfl,r3,r4⟩,((hkc.trans (KC.put _ _ _ _ hl2 rfl)).trans hp.2.1).trans (KC.put _ _ _ _ r2 rfl),r5,((hbm.trans (bput _ _ _ hl2)).trans hp.2.2.1).trans (bput _ _ _ r2)⟩⟩
    | ret=>
     obtain⟨r1,r2,r3,r4,r5⟩:=fin (some .ret) W4 hp.1
     exact⟨_,_,r1,.inr ⟨rfl,⟨.ret,(hIx k .ret).put hp.2 (by omega) r2 rfl,r3,r4⟩,r5⟩⟩
    | exit id=>
     obtain⟨r1,r2,r3,r4,r5⟩:=fin (some (.exit id)) W4 hp.1
     exact⟨_,_,r1,.inr ⟨rfl,⟨.exit id,(hIx k (.exit id)).put hp.2 (by omega) r2 rfl,r3,r4⟩,r5⟩⟩
    | goto t=>
     obtain⟨r1,r2,r3,r4,r5⟩:=fin (some (.goto t)) W4 hp.1
     exact⟨_,_,r1,.inr ⟨rfl,⟨.goto t,(hIx k (.goto t)).put hp.2 (by omega) r2 rfl,r3,r4⟩,r5⟩⟩
    | panic ch=>exact hp.elim
    | outgrown=>exact hp.elim
   | ret=>exact hp.elim
   | exit id=>exact hp.elim
   | goto t=>exact hp.elim
   | panic ch=>exact hp.elim
   | outgrown=>exact hp.elim
  ·rintro e W2 ⟨⟨v,rfl⟩,(⟨hZ,hl,hd⟩ | ⟨k,c,hX,hl,hd⟩)⟩
   ·exact⟨none,_,run_endLoop (P:=P) hl (by simp[rec_]),hdone _ _ (Nat.le_refl _) ((hI _).put hZ (by omega) hl rfl) ((World.putObj_heap_other (by omega)).trans hd)⟩
   ·exact⟨some c,_,run_endLoop (P:=P) hl (by simp[rec_]),hstop _ k c _ (Nat.le_refl _) ((hIx k c).put hX (by omega) hl rfl) ((World.putObj_heap_other (by omega)).trans hd)⟩
end Go.Proofs.YtakpgcmfjlbcgaaGreatDoor
namespace Go.Proofs.YtakpgcmfjlbcgaaGreatDoor
open Lib(hid)
open Go.RowKit Go.Shelf
attribute [local go_sem] Oper.semAt_some
def encA (x:Int × Nat):Array Value:=#[.int .i64 x.1,.int .i64 (x.2:Int)]
theorem gatom_in (n:Nat) (o:Option Addr) (len cap:Nat) (r:Ru) (cs:List Value) (w:World) (hc:RuC w w.heap.size r cs) :
  CallsIn Fence.wide n Tryz.prog 78 #[.slice o len cap,.agg cs.toArray] w fun e w'=>e=.returned (.func (.func 115) #[] #[.pointer (some ⟨w.heap.size+1,0,none⟩),.pointer (some ⟨w.heap.size,0,none⟩)])∧w'=(w.alloc (.cells #[.slice o len cap] 22)).alloc (.cells cs.toArray 47):=by
 obtain⟨o0,k0,o1,k1,rfl,_⟩:=hc.look
 clear hc
 refine callsIn_of_wp Tryz.func78 rfl trivial ?_ rfl
 simp only[Tryz.ntmps78,List.size_toArray,List.length_cons,List.length_nil,Nat.reduceAdd,Nat.reduceSub,Array.replicate_succ,Array.replicate_zero,List.push_toArray,List.append_toArray,List.nil_append,List.cons_append]
 gi_wp2
 go_ret
 exact⟨rfl,rfl⟩
set_option maxRecDepth 100000 in
set_option maxHeartbeats 8000000 in
theorem gatom_nest (n m Bd Br:Nat) (ds:List De) (dv:Value) (r:Ru) (cs:List Value) (w:World) (hd:w.heap[Bd]?=some (.cells #[dv] 22 (0,0))) (hr:w.heap[Br]?=some (.cells cs.toArray 47 (0,0)))
  (hD:SlOf w w.heap.size 6 (DeC w w.heap.size) ds dv) (hc:RuC w w.heap.size r cs) :
  SeqNest Fence.wide n Tryz.prog 115 #[.pointer (some ⟨Br,0,none⟩),.pointer (some ⟨Bd,0,none⟩)] encA (atomsG ds r.body) m w:=by
 intro l J Jx W hW hJ _ hY h0
 have hKW:KC w W:=KC.of_below hW
 have hJg:∀ k W1 W',W.heap.size≤W1.heap.size→J k W1→Below W1.heap.size W1 W'→J k W':=fun k W1 W' hs h hb=>hJ k W1 W' h (hb.mono hs) (KC.of_below hb)
 obtain⟨o0,k0,o1,k1,rfl,_,hA,hL⟩:=hc.look
 have HJg:=hid hJg
 have HY:=hid hY
 have HD:=hid hD
 have HC:=hid hc
 have Hd:=hid hd
 have Hr:=hid hr
 have HW:=hid hKW
 have q1:W.heap[Br]?=some (.cells #[.string r.head.rel,.slice o0 r.head.l.length k0,.slice o1 r.body.length k1,.int .i64 r.line] 47 (0,0)):=hKW.same _ _ hr rfl
 have x2:W.cell? ⟨Br,2,none⟩=some (.slice o1 r.body.length k1):=row_cells q1 2
 have lr:=heap_lt q1
 have hJ0:=hid h0
 clear hJg hJ hY h0 hd hr hD hc hA hL hW hKW q1
 refine callsIn_of_wp Tryz.func115 rfl trivial ?_ rfl
 simp only[Tryz.ntmps115,List.size_toArray,List.length_cons,List.length_nil,Nat.reduceAdd,Nat.reduceSub,Array.replicate_succ,Array.replicate_zero,List.push_toArray,List.append_toArray,List.nil_append,List.cons_append]
 gi_wp2
 gi_loopw [11] (fun i wr=>∃ (k:Nat),k≤r.body.length∧i=.int .i64 k∧J (atomsG ds (r.body.take k)).length wr∧KC w wr∧W.heap.size≤wr.heap.size) (fun i _=>r.body.length - (intOf i).toNat)
 case atStart=>exact⟨0,Nat.zero_le _,rfl,hJ0.out,HW.out,Nat.le_refl _⟩
 case round=>
  obtain⟨k,hk,rfl,hJk,hkk,hsz⟩:=hrel
  have HJk:=hid hJk
  have Hkk:=hid hkk
  clear hJk
  by_cases hlt:k < r.body.length
  ·have hlt':(k:Int) < (r.body.length:Int):=by omega
   have hk0:(0:Int)≤(k:Int):=by omega
   obtain⟨u,hu⟩:∃ u,r.body[k]?=some u:=⟨r.body[k],List.getElem?_eq_getElem hlt⟩
   have hcr:=HC.out.kc hkk hkk.size
   obtain⟨_,_,_,_,e1,_,_,hL⟩:=hcr.look
   simp only[List.cons.injEq,Value.slice.injEq,true_and,and_true] at e1
   obtain⟨_,rfl,rfl⟩:=e1
   obtain⟨_,_,e2,_,_,SL⟩:=SlOf.open hL
   cases e2
   obtain⟨a,p0,q0,p1,q1,p2,q2,rfl,hal,Hc,c0,c1,c2,c3,c4,c5,c6,c7,c8,c9,c10⟩:=lt_at SL (Below.refl _ _) hu
   have hbl:(a.add (k * 11)).block < wr.heap.size:=by rw[addBlock];exact hal
   have yd:wr.heap[Bd]?=some (.cells #[dv] 22 (0,0)):=hkk.same _ _ Hd.out rfl
   have ld:=heap_lt yd
   have Htk:=hid (atomsG_take (ds:=ds) hu)
   have Hpre:=hid (atomsG_pre ds r.body (k+1))
   obtain⟨V1,hV1⟩:∃ V1,wr.alloc (.cells #[.int .i64 u.op,.string u.a.rel,.slice p0 u.a.l.length q0,.int .i64 u.x.op,.string u.x.s,.int .i64 u.x.n,.slice p1 u.x.l.length q1,.int .i64 u.y.op,.string u.y.s,.int .i64 u.y.n,.slice p2 u.y.l.length q2] 53)=V1:=⟨_,rfl⟩
   have hb1:Below wr.heap.size wr V1:=by rw[← hV1];exact (Below.refl _ _).alloc (Nat.le_refl _) _
   have hrow1:V1.heap[wr.heap.size]?=some (.cells #[.int .i64 u.op,.string u.a.rel,.slice p0 u.a.l.length q0,.int .i64 u.x.op,.string u.x.s,.int .i64 u.x.n,.slice p1 u.x.l.length q1,.int .i64 u.y.op,.string u.y.s,.int .i64 u.y.n,.slice p2 u.y.l.length q2] 53 (0,0)):=by rw[← hV1];exact World.alloc_heap_new wr _
   have hKV:KC w V1:=hkk.trans (KC.of_below hb1)
   obtain⟨od,cd,rfl,_⟩:=SlOf.uni HD.out
   have HF:=hid (find_c u.a.rel V1.heap.size ds _ V1 (SlOf.declK HD.out hKV hKV.size) (Nat.le_refl _))
   have d0:V1.cell? ⟨Bd,0,none⟩=some (.slice od ds.length cd):=row_cells ((hb1.block _ ld).trans yd) 0
   have r0:V1.cell? ⟨wr.heap.size,0,none⟩=some (.int .i64 u.op):=row_cells hrow1 0
   have r1:V1.cell? ⟨wr.heap.size,1,none⟩=some (.string u.a.rel):=row_cells hrow1 1
   have ld1:Bd < V1.heap.size:=Nat.lt_of_lt_of_le ld hb1.size
   have lr1:=heap_lt hrow1
   have Hrow1:=hid hrow1
   have hs1:wr.heap.size < V1.heap.size:=lr1
   have Hb1:=hid hb1
   have HKV:=hid hKV
   clear hcr hL hu hb1 hrow1 hKV yd hkk
   subst hV1
   gi_wp2_with fail
   refine⟨trivial,fun h=>(by cases h),(callsIn_wide.2 HF.out).mono ?_⟩
   rintro e W2 ⟨rfl,b2⟩
   have Hb2:=hid b2
   have JJ:=hid (HJg.out _ _ _ hsz HJk.out (Hb1.out.trans (b2.mono Hb1.out.size)))
   have Hsz2:Hid (W.heap.size≤W2.heap.size):=hid (Nat.le_trans hsz (Nat.le_trans Hb1.out.size b2.size))
   have KK:=hid (HKV.out.trans (KC.of_below b2))
   have s0:W2.cell? ⟨wr.heap.size,0,none⟩=some (.int .i64 u.op):=(b2.cell (p:=⟨wr.heap.size,0,none⟩) lr1).trans r0
   have ls:wr.heap.size < W2.heap.size:=Nat.lt_of_lt_of_le lr1 b2.size
   clear b2 d0 r0 r1 HF
   cases hf:findY u.a.rel ds with
   | none=>
    have Htk2:Hid (atomsG ds (r.body.take (k+1))=atomsG ds (r.body.take k)):=hid (by rw[Htk.out,hf,List.append_nil])
    clear hf
    unfold findV
    gi_wp2
    refine⟨fun f h=>(by cases h),?_⟩
    gi_wp2
    go_roundw
    case rel=>exact⟨k+1,hlt,by go_num,by rw[Htk2.out];exact JJ.out,KK.out,Hsz2.out⟩
    case measure=>simp[intOf];omega
   | some b=>
    have Htk2:Hid (atomsG ds (r.body.take (k+1))=atomsG ds (r.body.take k)++[(u.op,b)]):=hid (by rw[Htk.out,hf])
    clear hf
    unfold findV
    obtain⟨fn2,tmps2,assign2,body2,hy2,hR2⟩:=HY.out _ (u.op,b) W2 (by
     obtain⟨q,hq⟩:=Hpre.out
     rw[Htk2.out] at hq
     rw[← hq,List.append_assoc,List.getElem?_append_right (Nat.le_refl _)]
     simp) JJ.out
    unfold encA at hy2
    gi_wp2
    refine⟨fun h=>(by cases h),hR2.mono ?_⟩
    rintro e W3 (⟨rfl,hJ3,hk3,hf3,_⟩ | ⟨rfl,hx3,hf3⟩)
    ·have HJ3:=hid hJ3
     have K33:=hid (KK.out.trans hk3)
     have Hsz3:Hid (W.heap.size≤W3.heap.size):=hid (Nat.le_trans Hsz2.out hk3.size)
     clear hJ3 hk3 hf3
     gi_wp2
     go_roundw
     case rel=>exact⟨k+1,hlt,by go_num,by rw[Htk2.out,List.length_append];exact HJ3.out,K33.out,Hsz3.out⟩
     case measure=>simp[intOf];omega
    ·have HX3:=hid hx3
     clear hx3
     gi_wp2
     refine bodyPost_ret (results_none rfl _ _ _) rfl ?_
     exact⟨⟨_,rfl⟩,.inr ⟨_,HX3.out⟩⟩
  ·have hlt':¬ (k:Int) < (r.body.length:Int):=by omega
   have Hall:Hid (atomsG ds (r.body.take k)=atomsG ds r.body):=hid (by rw[List.take_of_length_le (by omega)])
   clear hkk
   gi_wp2
   go_end0
   exact⟨⟨_,rfl⟩,.inl (by rw[← Hall.out];exact HJk.out)⟩
end Go.Proofs.YtakpgcmfjlbcgaaGreatDoor
namespace Go.Proofs.YtakpgcmfjlbcgaaGreatDoor
open Lib(hid)
open Go.RowKit
inductive ErrN (b c d a:Addr):Value→Int→Prop
 | ok:ErrN b c d a .nilIface 0
 | tw:ErrN b c d a (errV b) 50
 | no:ErrN b c d a (errV c) 51
 | ar:ErrN b c d a (errV d) 52
 | ty:ErrN b c d a (errV a) 53
theorem errN_c {e a b c d:Addr} {v:Value} {k:Int} {w:World} (h:ErrN b c d a v k) (E:EnvY e a b c d w):Calls Tryz.prog 67 #[v] w fun e w'=>e=.returned (.int .i64 k)∧w=w':=by
 cases h with
 | ok=>exact num_nil _ a b c d w E.y E.df
 | tw=>exact num_tw _ a b c d w E.y E.df
 | no=>exact num_no _ a b c d w E.y E.df
 | ar=>exact num_ar _ a b c d w E.y E.df
 | ty=>exact num_ty _ a b c d w E.y E.df
theorem typesOf_err {ds:List De} {r:Ru} {V:List (List UInt8)} {n0:Nat} {w w':World} {a b c d:Addr} {e:Ending} (hr:rightP ⟨ds,[r]⟩=true) (h:TypR V n0 w a c d ds r e w') :
  ∃ m v k l,e=.returned (.tuple #[m,v])∧ErrN b c d a v k∧TyA ds r l k∧Below n0 w w':=by
 have base:=base_ne (r:=r) (right_types hr)
 have TA:=types_all (p:=prsL r.body) base
 cases h with
 | atom h1 h2=>
  refine⟨_,_,atE (chkA ds (atomsR r)),[],rfl,?_,.atom hr h1,h2⟩
  cases h:chkA ds (atomsR r) with
  | zero=>exact absurd h h1
  | succ m=>cases m with
   | zero=>exact .no
   | succ m=>exact .ar
 | place h1 h2 h3=>exact⟨_,_,53,[],rfl,.ty,.none hr h1 (fun hf=>TA.1 h2 hf.1),h3⟩
 | other h1 h2 h3 h4=>exact⟨_,_,53,[],rfl,.ty,.none hr h1 (fun hf=>(TA.2 _ _ h2 h3).1 rfl hf.1),h4⟩
 | left h1 h2 h3 h4 h5=>
  refine⟨_,_,53,[],rfl,.ty,.none hr h1 (fun hf=>?_),h5⟩
  obtain⟨t,t1,t2,t3⟩:=h4
  obtain⟨k,k1,k2⟩:=hf.2 t t1 t2
  have:=(((TA.2 _ _ h2 h3).2 _ rfl).2.1 (nm t) k k1).2 k2
  rw[t3] at this
  exact k1 this.symm
 | @good _ K K' B h1 h2 h3 h4 h5 h6 h7=>
  obtain⟨n1,n2,n3'⟩:=(TA.2 _ _ h2 h3).2 _ rfl
  exact⟨_,_,0,_,rfl,.ok,.some (K:=K') hr h1 ⟨n1,fun t ht hv=>⟨look K' (nm t),h4 t ht hv,(n2 _ _ (h4 t ht hv)).1 rfl⟩⟩ n2 (look_ty h6.ty),h7⟩
def FewP (p:Pg):Prop:=∀ r ∈ p.rules,(termsR r).length≤1000000∧∀ t ∈ termsR r,t.s.size≤1000000
theorem findV_some (i:Nat):findV (some i)=.tuple #[.int .i64 i,.bool true]:=rfl
set_option maxRecDepth 100000 in
set_option maxHeartbeats 8000000 in
theorem check1_c (p:Pg) (cs:List Value) (e a b c d:Addr) (w:World) (hp:PgC w w.heap.size p cs) (hr:rightP p=true) (hf:FewP p) (E:EnvY e a b c d w) :
  Calls Tryz.prog 66 #[.agg cs.toArray] w fun e w'=>∃ ln v k,e=.returned (.tuple #[.int .i64 ln,v])∧ErrN b c d a v k∧ChA p ln k∧Below w.heap.size w w':=by
 obtain⟨p1,q1,r1,s1,rfl,H1,H2⟩:=hp.look
 obtain⟨o1,k1,e1,hc1,hm1,S1⟩:=SlOf.open H1
 cases e1
 obtain⟨o2,k2,e2,hc2,hm2,S2⟩:=SlOf.open H2
 cases e2
 have hb0:∀ C:Obj,Below w.heap.size w (w.alloc C):=fun C=>(Below.refl _ _).alloc (Nat.le_refl _) _
 have HB0:=hid hb0
 have HD:=hid H1
 have HE:=hid E
 have HR:=hid hr
 have HF:=hid hf
 clear H1 H2 hp E hb0 hf
 go_enter Tryz.func66,Tryz.ntmps66
 go_wp2_with fail
 go_loopw [15] (fun i wr=>∃ k:Nat,k≤p.decls.length∧i=.int .i64 k∧NoTw p.decls k∧Below (w.heap.size+1) (w.alloc (.cells #[.slice p1 p.decls.length q1,.slice r1 p.rules.length s1] 25)) wr) (fun i _=>p.decls.length - (intOf i).toNat)
 case atStart=>exact⟨0,Nat.zero_le _,rfl,fun i d h=>absurd h (Nat.not_lt_zero _),Below.refl _ _⟩
 case round=>
  obtain⟨k,hk,rfl,hn,hB2⟩:=hrel
  have hB:Below w.heap.size w wr:=(HB0.out _).trans (hB2.mono (by omega))
  have hBs:=hB2.size
  simp only[World.size_alloc] at hBs
  have hz0:w.heap.size < wr.heap.size:=by omega
  have Hn:=hid hn
  have HB2:=hid hB2
  have HB:=hid hB
  have x0:wr.cell? ⟨w.heap.size,0,none⟩=some (.slice p1 p.decls.length q1):=(hB2.cell (p:=⟨w.heap.size,0,none⟩) (by show w.heap.size < _;omega)).trans (by go_simp)
  have x1:wr.cell? ⟨w.heap.size,1,none⟩=some (.slice r1 p.rules.length s1):=(hB2.cell (p:=⟨w.heap.size,1,none⟩) (by show w.heap.size < _;omega)).trans (by go_simp)
  by_cases hlt:k < p.decls.length
  ·have hlt':(k:Int) < (p.decls.length:Int):=by omega
   obtain⟨xe,ht⟩:∃ xe,p.decls[k]?=some xe:=⟨p.decls[k],List.getElem?_eq_getElem hlt⟩
   obtain⟨j,hj,hjk⟩:=find_le ht
   obtain⟨ad,a3,b3,a4,b4,rfl,ha,Hc,c0,c1,c2,c3,c4,c5⟩:=de_at S1 hB ht
   have hal:(ad.add (k * 6)).block < wr.heap.size:=by rw[addBlock];omega
   have Ht:=hid ht
   have Hj:=hid hj
   have HF:=hid (fun (W:World) (hb:Below wr.heap.size wr W)=>find_c xe.rel W.heap.size p.decls _ W (SlOf.decl HD.out (hB.trans (hb.mono hB.size)) (by have:=hb.size;omega)) (Nat.le_refl _))
   clear ht hj hn hB2 hB
   rw[Hj.out] at HF
   go_wp2_with fail
   refine (HF.out _ ((Below.refl _ _).alloc (Nat.le_refl _) _)).mono ?_
   rintro e3 w3 ⟨rfl,b3'⟩
   have y5:w3.cell? ⟨wr.heap.size,5,none⟩=some (.int .i64 xe.line):=(b3'.cell (p:=⟨wr.heap.size,5,none⟩) (by simp)).trans (by go_simp)
   have hy:wr.heap.size < w3.heap.size:=by have:=b3'.size;simp at this;omega
   have b3:Below wr.heap.size wr w3:=((Below.refl _ _).alloc (Nat.le_refl _) _).trans (b3'.mono (by simp))
   have B3:=hid (HB2.out.trans (b3.mono (by omega)))
   have hT:=((HE.out.below HB.out).below b3).y.tw
   unfold errV at hT
   rw[findV_some]
   clear c0 c1 c2 c3 c4 c5 x0 x1 b3'
   by_cases hjlt:j < k
   ·have hjlt':(j:Int) < (k:Int):=by omega
    have Hf:Hid (findY xe.rel p.decls≠some k):=hid (by rw[Hj.out];intro h;have:=Option.some.inj h;omega)
    go_wp2_with fail
    go_quiet (fail)
    go_wp2
    go_ret2
    first | exact⟨_,_,_,rfl,.tw,.twice HR.out Ht.out Hf.out Hn.out,below_drewN ((HB0.out _).trans (B3.out.mono (by omega)))⟩ | exact⟨_,_,rfl,_,.tw,.twice HR.out Ht.out Hf.out Hn.out,below_drewN ((HB0.out _).trans (B3.out.mono (by omega)))⟩
   ·have hjlt':¬ (j:Int) < (k:Int):=by omega
    have Hn2:Hid (NoTw p.decls (k+1)):=hid fun i d hi hd=>by
     rcases Nat.lt_or_ge i k with h | h
     ·exact Hn.out i d h hd
     ·obtain rfl:i=k:=by omega
      rw[Ht.out] at hd
      cases hd
      rw[Hj.out]
      congr 1
      omega
    go_wp2
    go_roundw
    case rel=>exact⟨k+1,hlt,by go_num,Hn2.out,B3.out⟩
    case measure=>simp[intOf];omega
  ·have hlt':¬ (k:Int) < (p.decls.length:Int):=by omega
   obtain rfl:k=p.decls.length:=by omega
   clear hn hB2 hB
   go_wp2_with fail
   go_loopw [38] (fun i wv=>∃ k:Nat,k≤p.rules.length∧i=.int .i64 k∧(∀ (j:Nat) (r':Ru),j < k→p.rules[j]?=some r'→∃ l,TyA p.decls r' l 0)∧Below (w.heap.size+1) (w.alloc (.cells #[.slice p1 p.decls.length q1,.slice r1 p.rules.length s1] 25)) wv) (fun i _=>p.rules.length - (intOf i).toNat)
   case atStart=>exact⟨0,Nat.zero_le _,rfl,fun j r' h=>absurd h (Nat.not_lt_zero _),HB2.out⟩
   case round=>
    obtain⟨k,hk2,rfl,hg,hC2⟩:=hrel
    have hC:Below w.heap.size w wr:=(HB0.out _).trans (hC2.mono (by omega))
    have hCs:=hC2.size
    simp only[World.size_alloc] at hCs
    have hy0:w.heap.size < wr.heap.size:=by omega
    have Hg:=hid hg
    have HC2:=hid hC2
    have HC:=hid hC
    have x0:wr.cell? ⟨w.heap.size,0,none⟩=some (.slice p1 p.decls.length q1):=(hC2.cell (p:=⟨w.heap.size,0,none⟩) (by show w.heap.size < _;omega)).trans (by go_simp)
    by_cases hlt2:k < p.rules.length
    ·have hlt2':(k:Int) < (p.rules.length:Int):=by omega
     obtain⟨xe,ht⟩:∃ xe,p.rules[k]?=some xe:=⟨p.rules[k],List.getElem?_eq_getElem hlt2⟩
     obtain⟨ad,a3,b3,a4,b4,rfl,ha,Hc,c0,c1,c2,c3⟩:=ru_at S2 hC ht
     have hal:(ad.add (k * 4)).block < wr.heap.size:=by rw[addBlock];omega
     have Ht:=hid ht
     have Hm:=hid (List.mem_of_getElem? ht)
     have HRx:=hid (rightP_one HR.out Hm.out)
     have HFx:=hid (HF.out xe Hm.out)
     have HT:=hid (fun (W:World) (hb:Below wr.heap.size wr W)=>typesOf_all p.decls _ xe _ a b c d W.heap.size W rfl (SlOf.decl HD.out (HC.out.trans (hb.mono HC.out.size)) (by have:=hb.size;have:=HC.out.size;omega)) ((Hc.out.below hb).more hb.size) HFx.out.1 (fun t ht=>max_le (HFx.out.2 t ht)) (right_types HRx.out) ((HE.out.below HC.out).below hb).y)
     clear ht hg hC2 hC
     go_wp2_with fail
     refine (HT.out _ ((Below.refl _ _).alloc (Nat.le_refl _) _)).mono ?_
     intro e3 w3 hTR
     have hq:=typesOf_err (b:=b) HRx.out hTR
     clear hTR
     obtain⟨m,v,n,l,rfl,hE,hA,b3'⟩:=hq
     have y3:w3.cell? ⟨wr.heap.size,3,none⟩=some (.int .i64 xe.line):=(b3'.cell (p:=⟨wr.heap.size,3,none⟩) (by simp)).trans (by go_simp)
     have hy:wr.heap.size < w3.heap.size:=by have:=b3'.size;simp at this;omega
     have b3:Below wr.heap.size wr w3:=((Below.refl _ _).alloc (Nat.le_refl _) _).trans (b3'.mono (by simp))
     have B3:=hid (HC2.out.trans (b3.mono (by omega)))
     have HA:=hid hA
     have HEv:=hid hE
     clear c0 c1 c2 c3 x0 b3' hA
     cases hE with
     | ok=>
      have Hg2:Hid (∀ (j:Nat) (r':Ru),j < k+1→p.rules[j]?=some r'→∃ l,TyA p.decls r' l 0):=hid fun j r' hj hr'=>by
       rcases Nat.lt_or_ge j k with h | h
       ·exact Hg.out j r' h hr'
       ·obtain rfl:j=k:=by omega
        rw[Ht.out] at hr'
        cases hr'
        exact⟨l,HA.out⟩
      go_wp2
      go_roundw
      case rel=>exact⟨k+1,hlt2,by go_num,Hg2.out,B3.out⟩
      case measure=>simp[intOf];omega
     | tw=>
      unfold errV
      go_wp2
      go_ret2
      first | exact⟨_,_,_,rfl,HEv.out,.rule HR.out Hn.out Ht.out Hg.out HA.out (by decide),(HB0.out _).trans (B3.out.mono (by omega))⟩ | exact⟨_,_,rfl,_,HEv.out,.rule HR.out Hn.out Ht.out Hg.out HA.out (by decide),(HB0.out _).trans (B3.out.mono (by omega))⟩
     | no=>
      unfold errV
      go_wp2
      go_ret2
      first | exact⟨_,_,_,rfl,HEv.out,.rule HR.out Hn.out Ht.out Hg.out HA.out (by decide),(HB0.out _).trans (B3.out.mono (by omega))⟩ | exact⟨_,_,rfl,_,HEv.out,.rule HR.out Hn.out Ht.out Hg.out HA.out (by decide),(HB0.out _).trans (B3.out.mono (by omega))⟩
     | ar=>
      unfold errV
      go_wp2
      go_ret2
      first | exact⟨_,_,_,rfl,HEv.out,.rule HR.out Hn.out Ht.out Hg.out HA.out (by decide),(HB0.out _).trans (B3.out.mono (by omega))⟩ | exact⟨_,_,rfl,_,HEv.out,.rule HR.out Hn.out Ht.out Hg.out HA.out (by decide),(HB0.out _).trans (B3.out.mono (by omega))⟩
     | ty=>
      unfold errV
      go_wp2
      go_ret2
      first | exact⟨_,_,_,rfl,HEv.out,.rule HR.out Hn.out Ht.out Hg.out HA.out (by decide),(HB0.out _).trans (B3.out.mono (by omega))⟩ | exact⟨_,_,rfl,_,HEv.out,.rule HR.out Hn.out Ht.out Hg.out HA.out (by decide),(HB0.out _).trans (B3.out.mono (by omega))⟩
    ·have hlt2':¬ (k:Int) < (p.rules.length:Int):=by omega
     have Hall:Hid (∀ r ∈ p.rules,∃ l,TyA p.decls r l 0):=hid fun r hr=>by
      obtain⟨j,hj,e⟩:=List.getElem_of_mem hr
      exact Hg.out j r (by omega) (by rw[List.getElem?_eq_getElem hj,e])
     clear hg hC2 hC
     go_wp2
     go_ret2
     first | exact⟨_,_,_,rfl,.ok,.ok HR.out Hn.out Hall.out,HC.out⟩ | exact⟨_,_,rfl,_,.ok,.ok HR.out Hn.out Hall.out,HC.out⟩
set_option maxRecDepth 100000 in
set_option maxHeartbeats 8000000 in
theorem check_c (p:Pg) (cs:List Value) (e a b c d:Addr) (w:World) (hp:PgC w w.heap.size p cs) (hf:FewP p) (E:EnvY e a b c d w) :
  Calls Tryz.prog 49 #[.agg cs.toArray] w fun e w'=>∃ ln k,e=.returned (.tuple #[.int .i64 ln,.int .i64 k])∧ChA p ln k∧Below w.heap.size w w':=by
 have HP:=hid hp
 obtain⟨p1,q1,r1,s1,rfl,H1,H2⟩:=hp.look
 have hb0:∀ C:Obj,Below w.heap.size w (w.alloc C):=fun C=>(Below.refl _ _).alloc (Nat.le_refl _) _
 have HB0:=hid hb0
 have HR:=hid (fun C:Obj=>right_c p e (w.alloc C) _ ((hp.below (hb0 C)).more (hb0 C).size) (E.below (hb0 C)).tr)
 have HE:=hid E
 have HF:=hid hf
 clear H1 H2 hp E hb0 hf
 go_enter Tryz.func49,Tryz.ntmps49
 go_wp2_with fail
 refine (HR.out _).mono ?_
 rintro e3 w3 ⟨rfl,b3⟩
 have hz:w.heap.size < w3.heap.size:=by have:=b3.size;simp at this;omega
 have x0:w3.cell? ⟨w.heap.size,0,none⟩=some (.slice p1 p.decls.length q1):=(b3.cell (p:=⟨w.heap.size,0,none⟩) (by simp)).trans (by go_simp)
 have x1:w3.cell? ⟨w.heap.size,1,none⟩=some (.slice r1 p.rules.length s1):=(b3.cell (p:=⟨w.heap.size,1,none⟩) (by simp)).trans (by go_simp)
 have B3:=hid ((HB0.out _).trans (b3.mono (by simp)))
 clear b3
 cases hr:rightP p with
 | false=>
  have Hr:=hid hr
  clear hr
  go_wp2
  go_ret2
  exact⟨_,_,rfl,.tree Hr.out,B3.out⟩
 | true=>
  have HC:=hid (check1_c p _ e a b c d w3 ((HP.out.below B3.out).more B3.out.size) hr HF.out (HE.out.below B3.out))
  clear hr
  go_wp2_with fail
  refine HC.out.mono ?_
  rintro e4 w4 ⟨ln,v,k,rfl,hE,hA,b4⟩
  have B4:=hid (B3.out.trans (b4.mono B3.out.size))
  have HN:=hid (errN_c hE (HE.out.below B4.out))
  have HA:=hid hA
  clear hE hA x0 x1 b4
  go_wp2_with fail
  refine HN.out.mono ?_
  rintro e5 w5 ⟨rfl,rfl⟩
  go_wp2
  go_ret2
  exact⟨_,_,rfl,HA.out,B4.out⟩
end Go.Proofs.YtakpgcmfjlbcgaaGreatDoor

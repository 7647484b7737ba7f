/- Derr@012, Toks@012, Twterm@012 -/
import Derived.Stop.Asserts
import Derived.Test.YtdgbajnhhhjbcaaGreatDoorQ9
import Derived.Test.YtdgbajnhhhjbcaaGreatDoorQ14
set_option linter.unusedSimpArgs false
namespace Go.Proofs.YtdgbajnhhhjbcaaGreatDoor
open Lib(hid)
open Go.RowKit Go.Extern Go.Extern.Rtype Go.Extern.Stop Go.Stop
abbrev leV (n:Int) (x:Addr):Value:=.iface 91 (.agg #[.int .i64 n,.iface 295 (.pointer (some x))])
abbrev leO (n:Int) (x:Addr):Obj:=.cells #[.int .i64 n,.iface 295 (.pointer (some x))] 91
theorem noIsE (v:Value) (xT:TypeId) (w:World):(Instr.typeAssert (.iface 295 v) xT 165 true).run Tryz.prog w=.ok (.tuple #[.nilIface,.bool false]) w:=run_typeAssert_lacksB Tryz.underlying165 (by kernel_rfl) (by kernel_rfl) v xT w
theorem noUnwrapE (v:Value) (xT:TypeId) (w:World):(Instr.typeAssert (.iface 295 v) xT 161 true).run Tryz.prog w=.ok (.tuple #[.nilIface,.bool false]) w:=run_typeAssert_lacksB Tryz.underlying161 (by kernel_rfl) (by kernel_rfl) v xT w
theorem noUnwrapsE (v:Value) (xT:TypeId) (w:World):(Instr.typeAssert (.iface 295 v) xT 162 true).run Tryz.prog w=.ok (.tuple #[.nilIface,.bool false]) w:=run_typeAssert_lacksB Tryz.underlying162 (by kernel_rfl) (by kernel_rfl) v xT w
theorem noIsL (v:Value) (xT:TypeId) (w:World):(Instr.typeAssert (.iface 91 v) xT 165 true).run Tryz.prog w=.ok (.tuple #[.nilIface,.bool false]) w:=run_typeAssert_lacksB Tryz.underlying165 (by kernel_rfl) (by kernel_rfl) v xT w
theorem hasUnwrapL (v:Value) (xT:TypeId) (w:World):(Instr.typeAssert (.iface 91 v) xT 161 true).run Tryz.prog w=.ok (.tuple #[.iface 91 v,.bool true]) w:=run_typeAssert_hasB Tryz.underlying161 (by kernel_rfl) v xT w
theorem methodUnwrapL (x y : Value) (w : World) : (Go.method 424 91 (.agg #[x, y]) "Unwrap").run Tryz.prog w = .ok (267, .agg #[x, y]) w := by kernel_rfl
theorem cell_row {w:World} {k:Nat} {cs:Array Value} {t:TypeId} (h:w.heap[k]?=some (.cells cs t (0,0))) (i:Nat):w.cell? ⟨k,i,none⟩=cs[i]?∧w.frozen? ⟨k,i,none⟩=false:=by
 simp[World.cell?,World.frozen?,h]
set_option maxHeartbeats 1000000 in
theorem unwrap_c (n:Int) (x:Addr) (w:World) :
  Calls Tryz.prog 267 #[.agg #[.int .i64 n,.iface 295 (.pointer (some x))]] w fun e w'=>e=.returned (.iface 295 (.pointer (some x)))∧w'=w.alloc (leO n x):=by
 go_enter Tryz.func267,Tryz.ntmps267
 go_wp2
 go_ret
 exact⟨rfl,rfl⟩
set_option maxRecDepth 100000 in
set_option maxHeartbeats 2000000 in
theorem is_wrap_same (n:Int) (c:Addr) (w:World) :
  Calls Tryz.prog 31 #[leV n c,.iface 295 (.pointer (some c))] w fun e w'=>e=.returned (.bool true)∧Below w.heap.size w w':=by
 obtain⟨i,hi,hcmp⟩:=Option.map_eq_some_iff.1 isComp
 obtain⟨j,hj,hjs⟩:=Option.map_eq_some_iff.1 isSize
 have h39:=@run_callFunc_extern Tryz.prog 54 _ Extern.ReflectliteType.typeOf Tryz.func54 (by kernel_rfl) (by kernel_rfl) (by kernel_rfl) (by kernel_rfl)
 have tT:=isTypeOf
 have cT:=isCalled
 have mR:=isMethodComparable
 have nL:=noIsL
 have uL:=hasUnwrapL
 have mU:=methodUnwrapL
 have hdiff:=fun (x y:Value) (w:World)=>run_eql_iface_types (P:=Tryz.prog) 91 295 x y Tryz.underlying75 (by decide) w
 have heq:=run_eql_iface_ptr_same (P:=Tryz.prog) (w.alloc (leO n c)) c Tryz.underlying75 Tryz.underlying295 hi hcmp hj
 go_enter Tryz.func31,Tryz.ntmps31
 go_wp2
 refine wp_loop_rounds 2 ?_
 rw[rounds_succ]
 go_wp2_with (go_at_call 267;refine (unwrap_c _ _ _).mono ?_;rintro e w' ⟨rfl,rfl⟩)
 rw[rounds_succ]
 go_wp2
 go_ret
 exact⟨rfl,(Below.refl _ _).alloc (Nat.le_refl _) _⟩
set_option maxRecDepth 100000 in
set_option maxHeartbeats 2000000 in
theorem is_wrap_other (n:Int) (b c:Addr) (w:World) (hne:b≠c) {cb cc:Array Value} {tb tc:TypeId} (hb:w.heap[b.block]?=some (.cells cb tb (0,0))) (hc:w.heap[c.block]?=some (.cells cc tc (0,0))) :
  Calls Tryz.prog 31 #[leV n b,.iface 295 (.pointer (some c))] w fun e w'=>e=.returned (.bool false)∧Below w.heap.size w w':=by
 obtain⟨i,hi,hcmp⟩:=Option.map_eq_some_iff.1 isComp
 obtain⟨j,hj,hjs⟩:=Option.map_eq_some_iff.1 isSize
 have h39:=@run_callFunc_extern Tryz.prog 54 _ Extern.ReflectliteType.typeOf Tryz.func54 (by kernel_rfl) (by kernel_rfl) (by kernel_rfl) (by kernel_rfl)
 have tT:=isTypeOf
 have cT:=isCalled
 have mR:=isMethodComparable
 have nL:=noIsL
 have uL:=hasUnwrapL
 have mU:=methodUnwrapL
 have nE:=noIsE
 have uE:=noUnwrapE
 have vE:=noUnwrapsE
 have hdiff:=fun (x y:Value) (w:World)=>run_eql_iface_types (P:=Tryz.prog) 91 295 x y Tryz.underlying75 (by decide) w
 have hb1:(w.alloc (leO n b)).heap[b.block]?=some (.cells cb tb (0,0)):=(Below.heap_alloc w _ _ (Array.getElem?_eq_some_iff.1 hb).1).trans hb
 have hc1:(w.alloc (leO n b)).heap[c.block]?=some (.cells cc tc (0,0)):=(Below.heap_alloc w _ _ (Array.getElem?_eq_some_iff.1 hc).1).trans hc
 have heq:=run_eql_iface_ptr_other (P:=Tryz.prog) (w.alloc (leO n b)) Tryz.underlying75 Tryz.underlying295 hi hcmp hj (by rw[hjs];decide) hne hb1 hc1
 clear hb hc hb1 hc1
 go_enter Tryz.func31,Tryz.ntmps31
 go_wp2
 refine wp_loop_rounds 2 ?_
 rw[rounds_succ]
 go_wp2_with (go_at_call 267;refine (unwrap_c _ _ _).mono ?_;rintro e w' ⟨rfl,rfl⟩)
 rw[rounds_succ]
 go_wp2
 go_ret
 exact⟨rfl,(Below.refl _ _).alloc (Nat.le_refl _) _⟩
theorem as_nil (t:Value) (w:World):Calls Tryz.prog 30 #[.nilIface,t] w fun e w'=>e=.returned (.bool false)∧w=w':=by
 go_enter Tryz.func30,Tryz.ntmps30
 go_wp2
 go_ret
 exact⟨rfl,rfl⟩
theorem lexF_nil (f n:Nat) (l:List UInt8) (h:l.drop (gap false l)=[]):lexF (f+1) n l=([],none):=by
 unfold lexF
 rw[if_pos h]
theorem lexF_bad (f n:Nat) (l:List UInt8) (h:l.drop (gap false l)≠[]) (ht:tokL (l.drop (gap false l))=none):lexF (f+1) n l=([],some (n+lines (l.take (gap false l)))):=by
 unfold lexF
 rw[if_neg h,ht]
theorem lexF_tok (f n:Nat) (l:List UInt8) (h:l.drop (gap false l)≠[]) {k:Nat} {s:List UInt8} {z:Nat} (ht:tokL (l.drop (gap false l))=some (k,s,z)) :
  lexF (f+1) n l=(⟨k,s,n+lines (l.take (gap false l))⟩::(lexF f (n+lines (l.take (gap false l))) ((l.drop (gap false l)).drop z)).1,
   (lexF f (n+lines (l.take (gap false l))) ((l.drop (gap false l)).drop z)).2):=by
 unfold lexF
 rw[if_neg h,ht]
 cases f <;> rfl
theorem rest_len {l s:List UInt8} {k z:Nat} (h:l.drop (gap false l)≠[]) (ht:tokL (l.drop (gap false l))=some (k,s,z)):((l.drop (gap false l)).drop z).length < l.length:=by
 have:=tok_pos h ht
 simp only[List.length_drop] at this ⊢
 omega
theorem lexF_more:∀ (f g n:Nat) (l:List UInt8),l.length < f→l.length < g→lexF f n l=lexF g n l
 | 0,_,_,_,h,_=>by omega
 | _,0,_,_,_,h=>by omega
 | f+1,g+1,n,l,hf,hg=>by
  by_cases h:l.drop (gap false l)=[]
  ·rw[lexF_nil f n l h,lexF_nil g n l h]
  cases ht:tokL (l.drop (gap false l)) with
  | none=>rw[lexF_bad f n l h ht,lexF_bad g n l h ht]
  | some a=>
   obtain⟨k,s,z⟩:=a
   have hr:=rest_len h ht
   rw[lexF_tok f n l h ht,lexF_tok g n l h ht,lexF_more f g _ _ (by omega) (by omega)]
def pairs (x:List Tk × Option Nat):List (Nat × List UInt8) × Bool:=(x.1.map fun t=>(t.kind,t.s),x.2.isSome)
def lexU (l:List UInt8):List (Nat × List UInt8) × Bool:=pairs (lexF (l.length+1) 0 l)
theorem pairs_line:∀ (f n m:Nat) (l:List UInt8),pairs (lexF f n l)=pairs (lexF f m l)
 | 0,_,_,_=>rfl
 | f+1,n,m,l=>by
  by_cases h:l.drop (gap false l)=[]
  ·rw[lexF_nil f n l h,lexF_nil f m l h]
  cases ht:tokL (l.drop (gap false l)) with
  | none=>rw[lexF_bad f n l h ht,lexF_bad f m l h ht];rfl
  | some a=>
   obtain⟨k,s,z⟩:=a
   have ih:=pairs_line f (n+lines (l.take (gap false l))) (m+lines (l.take (gap false l))) ((l.drop (gap false l)).drop z)
   rw[lexF_tok f n l h ht,lexF_tok f m l h ht]
   simp only[pairs,Prod.mk.injEq,List.map_cons] at ih ⊢
   rw[ih.1,ih.2]
   exact⟨rfl,rfl⟩
theorem pairs_lexL (l:List UInt8):pairs (lexL l)=lexU l:=pairs_line _ _ _ _
theorem lexU_nil (l:List UInt8) (h:l.drop (gap false l)=[]):lexU l=([],false):=by
 unfold lexU
 rw[lexF_nil _ _ l h]
 rfl
theorem lexU_bad (l:List UInt8) (h:l.drop (gap false l)≠[]) (ht:tokL (l.drop (gap false l))=none):lexU l=([],true):=by
 unfold lexU
 rw[lexF_bad _ _ l h ht]
 rfl
theorem lexU_tok (l:List UInt8) (h:l.drop (gap false l)≠[]) {k:Nat} {s:List UInt8} {z:Nat} (ht:tokL (l.drop (gap false l))=some (k,s,z)) :
  lexU l=((k,s)::(lexU ((l.drop (gap false l)).drop z)).1,(lexU ((l.drop (gap false l)).drop z)).2):=by
 have hr:=rest_len h ht
 have e:=pairs_line l.length (0+lines (l.take (gap false l))) 0 ((l.drop (gap false l)).drop z)
 rw[lexF_more l.length (((l.drop (gap false l)).drop z).length+1) 0 _ hr (by omega)] at e
 change _=lexU _ at e
 unfold lexU at *
 rw[lexF_tok _ _ l h ht,← e]
 rfl
def Good (t:Nat × List UInt8):Prop:=∃ l z,l≠[]∧tokL l=some (t.1,t.2,z)
theorem lexU_good (l:List UInt8):∀ t ∈ (lexU l).1,Good t:=by
 induction h:l.length using Nat.strongRecOn generalizing l with
 | _ n ih=>
  subst h
  by_cases h:l.drop (gap false l)=[]
  ·rw[lexU_nil l h];simp
  cases ht:tokL (l.drop (gap false l)) with
  | none=>rw[lexU_bad l h ht];simp
  | some a=>
   obtain⟨k,s,z⟩:=a
   have hr:=rest_len h ht
   rw[lexU_tok l h ht]
   intro t hm
   rcases List.mem_cons.1 hm with rfl | hm
   ·exact⟨_,z,h,ht⟩
   ·exact ih _ hr _ rfl t hm
theorem lines_app (a b:List UInt8):lines (a++b)=lines a+lines b:=by simp[lines]
theorem lines_split (l:List UInt8) (g z:Nat):lines (l.take g)+lines ((l.drop g).drop z)≤lines l:=by
 have h1:lines l=lines (l.take g)+lines (l.drop g):=by rw[← lines_app,List.take_append_drop]
 have h2:lines (l.drop g)=lines ((l.drop g).take z)+lines ((l.drop g).drop z):=by rw[← lines_app,List.take_append_drop]
 omega
def Rise:Nat→Nat→List Tk→Prop
 | _,_,[]=>True
 | n,m,t::ts=>n≤t.line∧t.line≤m∧Rise t.line m ts
theorem Rise.max {n m k:Nat} (h:m≤k):∀ {ts:List Tk},Rise n m ts→Rise n k ts
 | [],_=>trivial
 | _::_,⟨h1,h2,h3⟩=>⟨h1,Nat.le_trans h2 h,Rise.max h h3⟩
theorem lexF_rise:∀ (f n:Nat) (l:List UInt8),Rise n (n+lines l) (lexF f n l).1∧∀ e,(lexF f n l).2=some e→n≤e∧e≤n+lines l
 | 0,n,l=>⟨trivial,fun e h=>by cases h⟩
 | f+1,n,l=>by
  by_cases h:l.drop (gap false l)=[]
  ·rw[lexF_nil f n l h]
   exact⟨trivial,fun e h=>by cases h⟩
  have hs:=lines_split l (gap false l)
  cases ht:tokL (l.drop (gap false l)) with
  | none=>
   rw[lexF_bad f n l h ht]
   have:=hs 0
   exact⟨trivial,fun e h=>by cases h;omega⟩
  | some a=>
   obtain⟨k,s,z⟩:=a
   rw[lexF_tok f n l h ht]
   have:=hs z
   obtain⟨h1,h2⟩:=lexF_rise f (n+lines (l.take (gap false l))) ((l.drop (gap false l)).drop z)
   refine⟨⟨by simp,by simp;omega,h1.max (by omega)⟩,fun e he=>?_⟩
   have:=h2 e he
   omega
theorem lexF_kinds:∀ (f n:Nat) (l:List UInt8),∀ t ∈ (lexF f n l).1,1≤t.kind∧t.kind≤5
 | 0,n,l=>by simp[lexF]
 | f+1,n,l=>by
  by_cases h:l.drop (gap false l)=[]
  ·rw[lexF_nil f n l h];simp
  cases ht:tokL (l.drop (gap false l)) with
  | none=>rw[lexF_bad f n l h ht];simp
  | some a=>
   obtain⟨k,s,z⟩:=a
   rw[lexF_tok f n l h ht]
   intro t hm
   rcases List.mem_cons.1 hm with rfl | hm
   ·have:=tok_pos h ht
    exact⟨this.2.2.1,this.2.2.2⟩
   ·exact lexF_kinds f _ _ t hm
def WTermAt (h:Nat):Prop:=∀ (t:Tm) (B b:Nat) (l:List UInt8) (w:World) (cs:List Value) (a:Addr),rightT h t=true→Bd B b l w→TmC w B t cs→TEnv a w→14≤B→B≤w.heap.size→l.length+(showT h t).length≤1073741824 →
  Calls Tryz.prog 114 #[.pointer (some ⟨b,0,none⟩),.agg cs.toArray] w (Wrote B b l (showT h t) w)
theorem sign_ge (c:UInt8):1≤(sign c).length:=by
 unfold sign
 split
 ·simp
 ·split
  ·simp
  ·split <;> simp
theorem quote_ge (s:List UInt8):s.length≤(quoteL s).length:=by
 have:s.length≤(s.flatMap sign).length:=by
  induction s with
  | nil=>simp
  | cons c s ih=>have:=sign_ge c;simp only[List.flatMap_cons,List.length_append,List.length_cons];omega
 unfold quoteL
 simp only[List.length_cons,List.length_append,List.length_nil]
 omega
theorem leaf_ops {t:Tm} (h:leafB t=true):t.op=1∨t.op=2∨t.op=3∨t.op=4:=by
 unfold leafB at h
 by_cases h1:t.op=1
 ·exact .inl h1
 ·rw[if_neg h1] at h
  by_cases h2:t.op=2
  ·exact .inr (.inl h2)
  ·rw[if_neg h2] at h
   by_cases h3:t.op=3
   ·exact .inr (.inr (.inl h3))
   ·rw[if_neg h3] at h
    by_cases h4:t.op=4
    ·exact .inr (.inr (.inr h4))
    ·rw[if_neg h4] at h
     cases h
set_option maxRecDepth 100000 in
set_option maxHeartbeats 4000000 in
theorem wterm_leaf (h:Nat) (op:Int) (s:ByteArray) (n:Int) (ts:List Tm) (B b:Nat) (l:List UInt8) (w:World) (cs:List Value) (a:Addr) (hops:op=1∨op=2∨op=3∨op=4) (hb:Bd B b l w) (hc:TmC w B (.mk op s n ts) cs) (E:TEnv a w) (hV:14≤B) (hB:B≤w.heap.size) (hl:l.length+(showT (h+1) (.mk op s n ts)).length≤1073741824) :
  Calls Tryz.prog 114 #[.pointer (some ⟨b,0,none⟩),.agg cs.toArray] w (Wrote B b l (showT (h+1) (.mk op s n ts)) w):=by
 obtain⟨p1,q1,rfl,_,hz,hn,_⟩:=hc.look
 simp only[Tm.op_mk,Tm.s_mk,Tm.n_mk,Tm.l_mk] at hz hn ⊢
 have b0:=hb.alloc (.cells #[.int .i64 op,.string s,.int .i64 n,.slice p1 ts.length q1] 64)
 have k0:Kp B b w (w.alloc (.cells #[.int .i64 op,.string s,.int .i64 n,.slice p1 ts.length q1] 64)):=Kp.alloc hB _
 have hsz:s.data.toList.length=s.size:=by simp
 have htab:=(E.belowB hV k0.below).tab
 have Htab:=hid htab
 have Hn:=hid hn
 clear hc htab hn
 rcases hops with rfl | rfl | rfl | rfl
 ·have Hx:Hid (showT (h+1) (.mk 1 s n ts)=s.data.toList):=hid rfl
  rw[Hx.out] at hl ⊢
  go_enter Tryz.func114,Tryz.ntmps114
  go_wp2_with fail
  refine (writeString_c B b l s _ b0 (by omega) (by simp;omega)).mono ?_
  rintro e w1 ⟨rfl,b1,k1⟩
  go_wp2
  go_end0
  exact⟨rfl,b1,k0.trans k1⟩
 ·have Hx:Hid (showT (h+1) (.mk 2 s n ts)=Lib.itoa n):=hid rfl
  rw[Hx.out] at hl ⊢
  have hsz2:=bs_size (Lib.itoa n)
  go_enter Tryz.func114,Tryz.ntmps114
  go_wp2_with fail
  refine (num_c n Hn.out.1 Hn.out.2 _ Htab.out).mono ?_
  rintro e w1 ⟨rfl,k1⟩
  have b1:=b0.past k1
  have k2:=k0.trans (Kp.past (b:=b) (by simp;omega) k1)
  have hs1:=k1.size
  simp only[World.size_alloc] at hs1
  go_wp2_with fail
  refine (writeString_c B b l _ _ b1 (by omega) (by omega)).mono ?_
  rintro e w2 ⟨rfl,b2,k3⟩
  go_wp2
  go_end0
  exact⟨rfl,b2,k2.trans k3⟩
 ·have Hx:Hid (showT (h+1) (.mk 3 s n ts)=quoteL s.data.toList):=hid rfl
  rw[Hx.out] at hl ⊢
  have hq:=quote_ge s.data.toList
  have hsz2:=bs_size (quoteL s.data.toList)
  go_enter Tryz.func114,Tryz.ntmps114
  go_wp2_with fail
  refine (quote_c s (by omega) _).mono ?_
  rintro e w1 ⟨rfl,k1⟩
  have b1:=b0.past k1
  have k2:=k0.trans (Kp.past (b:=b) (by simp;omega) k1)
  have hs1:=k1.size
  simp only[World.size_alloc] at hs1
  go_wp2_with fail
  refine (writeString_c B b l _ _ b1 (by omega) (by omega)).mono ?_
  rintro e w2 ⟨rfl,b2,k3⟩
  go_wp2
  go_end0
  exact⟨rfl,b2,k2.trans k3⟩
 ·have Hx:Hid (showT (h+1) (.mk 4 s n ts)=[95]):=hid rfl
  rw[Hx.out] at hl ⊢
  go_enter Tryz.func114,Tryz.ntmps114
  go_wp2_with fail
  refine (writeByte_c B b l 95 95 rfl _ b0 (by simp at hl;omega) (by simp;omega)).mono ?_
  rintro e w1 ⟨rfl,b1,k1⟩
  go_wp2
  go_end0
  exact⟨rfl,b1,k0.trans k1⟩
theorem sgn_cell (op:Int) (h:op=5∨op=6∨op=7):signTab[op.toNat]?=some (bs [sgnT op]):=by rcases h with rfl | rfl | rfl <;> rfl
set_option maxRecDepth 100000 in
set_option maxHeartbeats 4000000 in
theorem wterm_two (h:Nat) (H:WTermAt h) (op:Int) (s:ByteArray) (n:Int) (x y:Tm) (B b:Nat) (l:List UInt8) (w:World) (cs:List Value) (a:Addr) (hops:op=5∨op=6∨op=7) (hx:rightT h x=true) (hy:rightT h y=true) (hb:Bd B b l w) (hc:TmC w B (.mk op s n [x,y]) cs) (E:TEnv a w) (hV:14≤B) (hB:B≤w.heap.size) (hl:l.length+(showT (h+1) (.mk op s n [x,y])).length≤1073741824) :
  Calls Tryz.prog 114 #[.pointer (some ⟨b,0,none⟩),.agg cs.toArray] w (Wrote B b l (showT (h+1) (.mk op s n [x,y])) w):=by
 obtain⟨p1,q1,rfl,_,hz,hn,t1⟩:=hc.look
 simp only[Tm.op_mk,Tm.s_mk,Tm.n_mk,Tm.l_mk] at hz hn t1 ⊢
 obtain⟨o1,cap1,e1,hc1,hm1,S1⟩:=SlOf.open t1
 cases e1
 have Hx:Hid (showT (h+1) (.mk op s n [x,y])=[40]++showT h x++([32]++[sgnT op]++[32])++showT h y++[41]):=hid (by
  have:showT (h+1) (.mk op s n [x,y])=[40]++showT h x++[32]++[sgnT op]++[32]++showT h y++[41]:=by rcases hops with rfl | rfl | rfl <;> rfl
  rw[this];simp)
 rw[Hx.out] at hl ⊢
 simp only[List.length_append,List.length_cons,List.length_nil] at hl
 have hbl:=bdLt hb
 obtain⟨oc,hoc⟩:∃ o:Obj,o=.cells #[.int .i64 op,.string s,.int .i64 n,.slice p1 2 q1] 64:=⟨_,rfl⟩
 have R0:Row w.heap.size 64 [.int .i64 op,.string s,.int .i64 n,.slice p1 2 q1] (w.alloc oc):=by rw[hoc];exact Row.new w _ _
 have b0:=hb.alloc oc
 have k0:Kp B b w (w.alloc oc):=Kp.alloc hB _
 obtain⟨ax,p3,q3,rfl,ha,Hc,c0,c1,c2,c3⟩:=tm_atB S1 k0.below (show [x,y][0]?=some x from rfl)
 obtain⟨ay,p4,q4,e2,ha',Hd,d0,d1,d2,d3⟩:=tm_atB S1 k0.below (show [x,y][1]?=some y from rfl)
 cases e2
 have hal:(ax.add (0 * 4)).block < B:=by rw[addBlock];omega
 have hal':(ax.add (1 * 4)).block < B:=by rw[addBlock];omega
 simp only[Nat.zero_mul,Nat.one_mul] at c0 c1 c2 c3 d0 d1 d2 d3 hal hal'
 have ea:ax.add 0=ax:=by unfold Addr.add;simp
 rw[ea] at c0 c1 c2 c3 hal
 have e4:ax.add 4=⟨ax.block,ax.off+4,none⟩:=by unfold Addr.add;simp
 simp only[e4] at d0 d1 d2 d3 hal'
 have HK:Hid (∀ W,Kp B b (w.alloc oc) W→(W.cell? ⟨w.heap.size,0,none⟩=some (.int .i64 op)∧W.cell? ⟨w.heap.size,3,none⟩=some (.slice (some ax) 2 q1)) ∧
   (W.cell? ax=some (.int .i64 x.op)∧W.cell? ⟨ax.block,ax.off+1,none⟩=some (.string x.s)∧W.cell? ⟨ax.block,ax.off+2,none⟩=some (.int .i64 x.n)∧W.cell? ⟨ax.block,ax.off+3,none⟩=some (.slice p3 x.l.length q3)) ∧
   (W.cell? ⟨ax.block,ax.off+4,none⟩=some (.int .i64 y.op)∧W.cell? ⟨ax.block,ax.off+4+1,none⟩=some (.string y.s)∧W.cell? ⟨ax.block,ax.off+4+2,none⟩=some (.int .i64 y.n)∧W.cell? ⟨ax.block,ax.off+4+3,none⟩=some (.slice p4 y.l.length q4)) ∧
   W.cell? ⟨8,op.toNat,none⟩=some (bs [sgnT op])∧w.heap.size < W.heap.size):=hid (by
  intro W K
  have R:=R0.kp K (by omega) (by decide)
  have kb:=K.below
  refine⟨⟨R.at 0 _ rfl,R.at 3 _ rfl⟩,⟨(kb.cell hal).trans c0,(kb.cell (p:=⟨ax.block,ax.off+1,none⟩) hal).trans c1,(kb.cell (p:=⟨ax.block,ax.off+2,none⟩) hal).trans c2,(kb.cell (p:=⟨ax.block,ax.off+3,none⟩) hal).trans c3⟩,⟨(kb.cell (p:=⟨ax.block,ax.off+4,none⟩) hal').trans d0,(kb.cell (p:=⟨ax.block,ax.off+4+1,none⟩) hal').trans d1,(kb.cell (p:=⟨ax.block,ax.off+4+2,none⟩) hal').trans d2,(kb.cell (p:=⟨ax.block,ax.off+4+3,none⟩) hal').trans d3⟩,((E.belowB hV (k0.below.trans kb)).signs _ _ (sgn_cell op hops)),?_⟩
  have:=kb.size
  simp only[World.size_alloc] at this
  omega)
 have HX:Hid (∀ (W:World) (l:List UInt8),Bd B b l W→Kp B b (w.alloc oc) W→l.length+(showT h x).length≤1073741824→_):=hid fun W l hb k hl=>H x B b l W _ a hx hb (Hc.out.under k.below) (E.belowB hV (k0.below.trans k.below)) hV (Nat.le_of_lt (Nat.lt_of_le_of_lt hB (HK.out W k).2.2.2.2)) hl
 have HY:Hid (∀ (W:World) (l:List UInt8),Bd B b l W→Kp B b (w.alloc oc) W→l.length+(showT h y).length≤1073741824→_):=hid fun W l hb k hl=>H y B b l W _ a hy hb (Hd.out.under k.below) (E.belowB hV (k0.below.trans k.below)) hV (Nat.le_of_lt (Nat.lt_of_le_of_lt hB (HK.out W k).2.2.2.2)) hl
 have K0:=hid k0
 clear c0 c1 c2 c3 d0 d1 d2 d3 hc S1 Hc Hd E R0 hb t1 k0 hn hz hx hy H
 subst hoc
 rcases hops with rfl | rfl | rfl
 all_goals
  go_enter Tryz.func114,Tryz.ntmps114
  obtain⟨⟨x0,x1⟩,⟨c0,c1,c2,c3⟩,⟨d0,d1,d2,d3⟩,sg,hz0⟩:=HK.out _ (Kp.refl _ _ _)
  go_wp2_with fail
  refine (writeByte_c B b l 40 40 rfl _ b0 (by omega) (by simp;omega)).mono ?_
  clear c0 c1 c2 c3 d0 d1 d2 d3 x0 x1 sg hz0
  rintro e w1 ⟨rfl,b1,k1⟩
  obtain⟨⟨x0,x1⟩,⟨c0,c1,c2,c3⟩,⟨d0,d1,d2,d3⟩,sg,hz0⟩:=HK.out _ k1
  go_wp2_with fail
  refine (HX.out _ _ b1 k1 (by simp;omega)).mono ?_
  clear c0 c1 c2 c3 d0 d1 d2 d3 x0 x1 sg hz0
  rintro e w2 ⟨rfl,b2,k2'⟩
  have k2:=k1.trans k2'
  obtain⟨⟨x0,x1⟩,⟨c0,c1,c2,c3⟩,⟨d0,d1,d2,d3⟩,sg,hz0⟩:=HK.out _ k2
  simp only[show Int.toNat 5=5 from rfl,show Int.toNat 6=6 from rfl,show Int.toNat 7=7 from rfl,show sgnT 5=43 from rfl,show sgnT 6=45 from rfl,show sgnT 7=42 from rfl,show bs [43]=.string ⟨#[43]⟩ from rfl,show bs [45]=.string ⟨#[45]⟩ from rfl,show bs [42]=.string ⟨#[42]⟩ from rfl] at sg
  go_wp2_with fail
  have hs2:∀ c:UInt8,((⟨#[32]⟩:ByteArray)++⟨#[c]⟩++⟨#[32]⟩).data.toList=[32]++[c]++[32]:=fun c=>by simp
  refine (writeString_c B b _ _ _ b2 (by simp[ByteArray.size];omega) (by omega)).mono ?_
  clear c0 c1 c2 c3 d0 d1 d2 d3 x0 x1 sg hz0
  rintro e w3 ⟨rfl,b3,k3'⟩
  simp only[hs2] at b3
  clear hs2
  have k3:=k2.trans k3'
  obtain⟨⟨x0,x1⟩,⟨c0,c1,c2,c3⟩,⟨d0,d1,d2,d3⟩,sg,hz0⟩:=HK.out _ k3
  go_wp2_with fail
  refine (HY.out _ _ b3 k3 (by simp;omega)).mono ?_
  clear c0 c1 c2 c3 d0 d1 d2 d3 x0 x1 sg hz0
  rintro e w4 ⟨rfl,b4,k4'⟩
  have k4:=k3.trans k4'
  have hz0:=(HK.out _ k4).2.2.2.2
  go_wp2_with fail
  refine (writeByte_c B b _ 41 41 rfl _ b4 (by simp;omega) (by omega)).mono ?_
  rintro e w5 ⟨rfl,b5,k5'⟩
  have Hb5:=hid b5
  have Hk5:=hid (K0.out.trans (k4.trans k5'))
  go_wp2
  go_end0
  exact⟨rfl,by simpa[show sgnT 5=43 from rfl,show sgnT 6=45 from rfl,show sgnT 7=42 from rfl] using Hb5.out,Hk5.out⟩
theorem writeTerm_c:∀ h:Nat,WTermAt h:=by
 intro h
 induction h with
 | zero=>intro t B b l w cs a hr;exact absurd hr (by unfold rightT;decide)
 | succ h ih=>
  intro t B b l w cs a hr hb hc E hV hB hl
  obtain⟨op,s,n,ts⟩:=t
  unfold rightT at hr
  cases h2:twoB op with
  | false=>
   rw[if_neg (show ¬ twoB (Tm.mk op s n ts).op=true by rw[Tm.op_mk,h2];decide)] at hr
   exact wterm_leaf h op s n ts B b l w cs a (leaf_ops hr) hb hc E hV hB hl
  | true=>
   rw[if_pos (show twoB (Tm.mk op s n ts).op=true from h2)] at hr
   simp only[Tm.l_mk] at hr
   have ho:op=5∨op=6∨op=7:=by unfold twoB at h2;simpa[or_assoc] using h2
   match ts,hr,hc,hl with
   | [x,y],hr,hc,hl=>
    simp only[Bool.and_eq_true] at hr
    exact wterm_two h ih op s n x y B b l w cs a ho hr.2.1.2 hr.2.2.2 hb hc E hV hB hl
   | [],hr,_,_=>simp at hr
   | [_],hr,_,_=>simp at hr
   | _::_::_::_,hr,_,_=>simp at hr
end Go.Proofs.YtdgbajnhhhjbcaaGreatDoor

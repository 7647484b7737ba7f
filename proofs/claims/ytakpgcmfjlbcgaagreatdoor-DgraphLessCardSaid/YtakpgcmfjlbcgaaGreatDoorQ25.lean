/- Zmv@0123, Chain@0123, Zg@0123, Zc@0123 -/
import Derived.Lib.AppendZeros
import Derived.RangeFuncCalls
import Derived.Test.YtakpgcmfjlbcgaaGreatDoorQ23
import Derived.Test.YtakpgcmfjlbcgaaGreatDoorQ24
set_option linter.unusedSimpArgs false
set_option linter.unusedVariables false
namespace Go.Proofs.YtakpgcmfjlbcgaaGreatDoor
open Lib(hid)
open Go.RowKit
def Put (B:Nat) (W W':World):Prop:=∃ (l:Nat) (o o':Obj),B≤l∧W.heap[l]?=some o∧o.isCells=false∧o'.isCells=false∧W'=W.putObj l o'
def Firm (B:Nat) (S:World→Prop):Prop:=∀ W W',Put B W W'→S W→S W'
def roundEnd (B:Nat) (W:World) (S:World→Prop) (X:Code→World→Prop):Exit→Act→World→Prop
 | .normal,_,W'=>KeepsFrom B W W'∧S W'
 | .ret,_,W'=>KeepsFrom B W W'∧X .ret W'
 | .exit id,_,W'=>KeepsFrom B W W'∧X (.exit id) W'
 | .goto t,_,W'=>KeepsFrom B W W'∧X (.goto t) W'
 | .panic _,_,_=>False
 | .outgrown,_,_=>False
def Moves2 {α:Type} (F:Fence) (n:Nat) (P:Program) (gf:Nat) (args:Nat→Array Value) (enc:α→Array Value) (G:α→World→Prop) (T:α→World→α→World→Prop) (E:α→World→World→Prop) (x0:α):Prop:=
 ∀ (l:Nat) (A B:α→World→Prop) (X Z:World→Prop) (W:World),
  (∀ x W1,A x W1→YieldAt F (n - 1) P l (enc x) W1 fun e W'=>(e=.returned (.bool true)∧B x W')∨(e=.returned (.bool false)∧X W')) →
  (∀ x W1,B x W1→G x W1∧(∀ x' W2,T x W1 x' W2→A x' W2)∧(∀ W2,E x W1 W2→Z W2)) →
  B x0 W→CallsIn F n P gf (args l) W fun e W'=>(∃ v,e=.returned v)∧(X W'∨Z W')
theorem range_moves2 {α:Type} {F:Fence} {n:Nat} {P:Program} {g:Operand} {ps:Array Tmp} {assign body:Code} {Q:Exit→Act→World→Prop} {a:Act} {w:World}
  (hro:F.round=none) (h1:1≤n) {gf:Nat} {bd lb:Array Value} (hg:a.eval g=.func (.func gf) bd lb) (hFg:F.fn gf) (eg:∀ args w,(callFunc gf args).run P w=.ok (.enter gf args) w)
  {enc:α→Array Value} {G:α→World→Prop} {T:α→World→α→World→Prop} {E:α→World→World→Prop} {x0:α}
  (hit:Moves2 F (n - 1) P gf (fun l=>bd++#[.func (.yield l) #[] #[]]++lb) enc G T E x0) (hps:∀ x,(enc x).size=ps.size)
  (A B:α→World→Prop) (X:Code→World→Prop) (Z:World→Prop) (M:α→Act→World→Prop)
  (fB:∀ x,Firm w.heap.size (B x)) (fX:∀ c,Firm w.heap.size (X c)) (fZ:Firm w.heap.size Z) (fM:∀ x a',Firm w.heap.size (M x a'))
  (h0:∀ o o',B x0 ((w.alloc o).alloc o'))
  (hB:∀ x W1,B x W1→G x W1∧(∀ x' W2,T x W1 x' W2→KeepsFrom w.heap.size W1 W2∧A x' W2)∧(∀ W2,E x W1 W2→KeepsFrom w.heap.size W1 W2∧Z W2))
  (hassign:∀ (l:Nat) (x:α) (W:World),A x W→assign.wpIn (F.inRound l) (n - 1 - 1) P (Exit.then (fun a' W'=>KeepsFrom w.heap.size W W'∧M x a' W') (fun _ _ _=>False)) { tmps:=(ps.zip (enc x)).foldl (fun t (p,v)=>t.setIfInBounds p v) a.tmps,defers:=[] } W)
  (hbody:∀ (l:Nat) (x:α) (a':Act) (W:World),M x a' W→body.wpIn (F.inRound l) (n - 1 - 1) P (roundEnd w.heap.size W (B x) X) a' W)
  (hdone:∀ (D:Nat) (W:World),w.heap.size≤D→Z W→W.heap[D]?=some (.deferred (some []))→Q .normal { a with defers:={ target:=.collected D,args:=#[] }::a.defers } W)
  (hstop:∀ (D:Nat) (c:Code) (W:World),w.heap.size≤D→X c W→W.heap[D]?=some (.deferred (some []))→c.wpIn F n P Q { a with defers:={ target:=.collected D,args:=#[] }::a.defers } W) :
  (Code.rangeFunc g ps assign body).wpIn F n P Q a w:=by
 refine wpIn_rangeFunc fun fn hfn=>?_
 rw[hro]
 let rec_:LoopState→Option Code→Loop:=fun st pe=>{ state:=st,pending:=pe,fn,tmps:=a.tmps,params:=ps,assign,body,defers:=w.heap.size }
 obtain⟨W1,hW1⟩:∃ W1,(w.alloc (.deferred (some []))).alloc (.loop (rec_ .ready none))=W1:=⟨_,rfl⟩
 have h01:B x0 W1:=by rw[← hW1];exact h0 _ _
 have hl1:((w.alloc (.deferred (some []))).alloc (.loop (rec_ .ready none))).heap[w.heap.size+1]?=some (.loop (rec_ .ready none)):=by
  have:=World.alloc_heap_new (w.alloc (.deferred (some []))) (.loop (rec_ .ready none))
  rwa [World.size_alloc] at this
 have hd1:((w.alloc (.deferred (some []))).alloc (.loop (rec_ .ready none))).heap[w.heap.size]?=some (.deferred (some [])):=
  (Below.heap_alloc _ _ _ (by simp)).trans (World.alloc_heap_new w _)
 rw[hW1] at hl1 hd1
 refine⟨w.heap.size+1,[{ target:=.collected w.heap.size,args:=#[] }],W1,{ target:=.fn (.func gf) lb,args:=bd++#[.func (.yield (w.heap.size+1)) #[] #[]] },W1,gf,bd++#[.func (.yield (w.heap.size+1)) #[] #[]]++lb,W1,
  by rw[← hW1];exact run_enterLoop_outer _ _ _ _ _,?_,?_,?_,fun _=>h1,?_⟩
 ·simp only[resolve,hg]
  simp[go_sem]
 ·intro f' hf'
  simp[Target.leads] at hf'
  subst hf'
  exact hFg
 ·simp[invoke,go_sem,eg]
 ·refine (hit (w.heap.size+1)
   (fun x W=>A x W∧W.heap[w.heap.size+1]?=some (.loop (rec_ .ready none))∧W.heap[w.heap.size]?=some (.deferred (some [])))
   (fun x W=>B x W∧W.heap[w.heap.size+1]?=some (.loop (rec_ .ready none))∧W.heap[w.heap.size]?=some (.deferred (some [])))
   (fun W=>∃ c,X c W∧W.heap[w.heap.size+1]?=some (.loop (rec_ .done (some c)))∧W.heap[w.heap.size]?=some (.deferred (some [])))
   (fun W=>Z W∧W.heap[w.heap.size+1]?=some (.loop (rec_ .ready none))∧W.heap[w.heap.size]?=some (.deferred (some [])))
   W1 ?_ ?_ ⟨h01,hl1,hd1⟩).mono ?_
  ·rintro x W ⟨hA,hl,hd⟩
   have hy:=run_yield (P:=P) (args:=enc x) hl (hps x)
   refine⟨fn,_,assign,body,hy,roundIn_of_wpIn hfn (wpIn_mono (hassign (w.heap.size+1) x W hA) ?_)⟩
   rintro e a' W2 hp
   cases e with
   | normal=>
    obtain⟨hk,hM⟩:=hp
    have hl2:=hk.same _ _ (by omega) hl rfl
    have hd2:=hk.same _ _ (Nat.le_refl _) hd rfl
    have hlt:=(Array.getElem?_eq_some_iff.1 hl2).1
    refine⟨_,run_beginRound hl2 rfl,?_⟩
    have hl3:(W2.putObj (w.heap.size+1) (.loop { rec_ .ready none with state:=.busy })).heap[w.heap.size+1]?=some (.loop { rec_ .ready none with state:=.busy }):=World.putObj_heap_same hlt
    have hd3:(W2.putObj (w.heap.size+1) (.loop { rec_ .ready none with state:=.busy })).heap[w.heap.size]?=some (.deferred (some [])):=(World.putObj_heap_other (by omega)).trans hd2
    refine wpIn_mono (hbody (w.heap.size+1) x a' _ (fM x a' W2 _ ⟨_,_,_,by omega,hl2,rfl,rfl,rfl⟩ hM)) ?_
    have fin:∀ (jump:Option Code) (W4:World),KeepsFrom w.heap.size (W2.putObj (w.heap.size+1) (.loop { rec_ .ready none with state:=.busy })) W4 →
      (Instr.endRound (w.heap.size+1) jump).run P W4=.ok (.bool jump.isNone) (W4.putObj (w.heap.size+1) (.loop (rec_ (if jump.isNone then .ready else .done) jump))) ∧
      Put w.heap.size W4 (W4.putObj (w.heap.size+1) (.loop (rec_ (if jump.isNone then .ready else .done) jump))) ∧
      (W4.putObj (w.heap.size+1) (.loop (rec_ (if jump.isNone then .ready else .done) jump))).heap[w.heap.size+1]?=some (.loop (rec_ (if jump.isNone then .ready else .done) jump)) ∧
      (W4.putObj (w.heap.size+1) (.loop (rec_ (if jump.isNone then .ready else .done) jump))).heap[w.heap.size]?=some (.deferred (some [])):=fun jump W4 hk4=>by
     have hl4:=hk4.same _ _ (by omega) hl3 rfl
     exact⟨run_endRound (P:=P) jump hl4,⟨_,_,_,by omega,hl4,rfl,rfl,rfl⟩,World.putObj_heap_same (Array.getElem?_eq_some_iff.1 hl4).1,(World.putObj_heap_other (by omega)).trans (hk4.same _ _ (Nat.le_refl _) hd3 rfl)⟩
    rintro e a3 W4 hp
    cases e with
    | normal=>
     obtain⟨r1,r2,r3,r4⟩:=fin none W4 hp.1
     exact⟨_,_,r1,.inl ⟨rfl,fB x _ _ r2 hp.2,r3,r4⟩⟩
    | ret=>
     obtain⟨r1,r2,r3,r4⟩:=fin (some .ret) W4 hp.1
     exact⟨_,_,r1,.inr ⟨rfl,.ret,fX _ _ _ r2 hp.2,r3,r4⟩⟩
    | exit id=>
     obtain⟨r1,r2,r3,r4⟩:=fin (some (.exit id)) W4 hp.1
     exact⟨_,_,r1,.inr ⟨rfl,.exit id,fX _ _ _ r2 hp.2,r3,r4⟩⟩
    | goto t=>
     obtain⟨r1,r2,r3,r4⟩:=fin (some (.goto t)) W4 hp.1
     exact⟨_,_,r1,.inr ⟨rfl,.goto t,fX _ _ _ r2 hp.2,r3,r4⟩⟩
    | panic ch=>exact hp.elim
    | outgrown=>exact hp.elim
   | ret=>exact hp.elim
   | exit id=>exact hp.elim
   | goto t=>exact hp.elim
   | panic ch=>exact hp.elim
   | outgrown=>exact hp.elim
  ·rintro x W ⟨hb,hl,hd⟩
   obtain⟨h2,h3,h4⟩:=hB x W hb
   refine⟨h2,fun x' W2 ht=>?_,fun W2 he=>?_⟩
   ·obtain⟨k,hA⟩:=h3 x' W2 ht
    exact⟨hA,k.same _ _ (by omega) hl rfl,k.same _ _ (Nat.le_refl _) hd rfl⟩
   ·obtain⟨k,hZ⟩:=h4 W2 he
    exact⟨hZ,k.same _ _ (by omega) hl rfl,k.same _ _ (Nat.le_refl _) hd rfl⟩
  ·rintro e W2 ⟨⟨v,rfl⟩,(⟨c,hX,hl,hd⟩ | ⟨hZ,hl,hd⟩)⟩
   ·exact⟨some c,_,run_endLoop (P:=P) hl (by simp[rec_]),hstop _ c _ (Nat.le_refl _) (fX c _ _ ⟨_,_,_,by omega,hl,rfl,rfl,rfl⟩ hX) ((World.putObj_heap_other (by omega)).trans hd)⟩
   ·exact⟨none,_,run_endLoop (P:=P) hl (by simp[rec_]),hdone _ _ (Nat.le_refl _) (fZ _ _ ⟨_,_,_,by omega,hl,rfl,rfl,rfl⟩ hZ) ((World.putObj_heap_other (by omega)).trans hd)⟩
section
variable {P:Program} {F:Fence} {nF:Nat} (w:World)
theorem wpListIn_append_any {ops:Array Oper} {rest:List Oper} {o:Oper} {a:Act} {Q:Exit→Act→World→Prop} (hgd:o.guard=none) (s x:Operand) (t:TypeId)
  (ho:o.op=.call { callee:=.builtin .append,args:=#[s,x],argTypes:=#[t,t] })
  (base:Nat) (e:TypeId) (i:TypeInfo) (z:Value) (size bytes:Nat) (ht:P.underlying t=some (.slice e)) (hi:P.info? e=some i) (hz:i.zero=some z)
  (hsize:i.size=size) (hby:i.bytes=bytes) (hzs:z.cells.size=size) (hsz:0 < size)
  (v:Value) (n:Nat) (xs:List Value) (hs:a.eval s=v) (hown:w.ownsRow base e size v n xs) (u:Value) (m:Nat) (news:List Value) (hx:a.eval x=u) (hu:Spread w size u m news)
  (h63:n+m≤maxLen) (hbytes:(n+m) * bytes≤140737488355328) (hbase:base≤w.heap.size)
  (h:∀ v' w',w'.ownsRow base e size v' (n+m) (xs++news)→w.grownBy w' v.ownBlock→(v'.ownBlock=v.ownBlock∨v'.ownBlock=some w.heap.size)→wpListIn F nF P ops Q rest (a.put o.dst v') w'):wpListIn F nF P ops Q (o::rest) a w:=by
 refine wpListIn_plain hgd fun K hK=>?_
 obtain⟨v',w',hr,h2,h3,h4⟩:=run_append_any (P:=P) w base t o.type e i z size bytes ht hi hz hsize hby hzs hsz v n xs hown u m news hu h63 hbytes hbase
 unfold Oper.wpIn
 refine⟨by simp[Oper.about,ho,resolve,Target.leads,Sem.run_pure],?_⟩
 rw[Oper.semAt_plain F _ _ (by rw[ho];intro c hc';cases hc')]
 simp[execOp,ho,resolve,invoke,builtin,hs,hx,hr,Result.andThen]
 exact hK _ _ (h v' w' h2 h3 h4)
end
theorem own_built {W:World} {T:TypeId} {b z n:Nat} {cs:List Value} (h:W.heap[b]?=some (.cells cs.toArray T (0,0))) (hz:cs.length=n * z) (hn:n≤maxLen) (base:Nat) (hb:base≤b):W.ownsRow base T z (.slice (some ⟨b,0,none⟩) n n) n cs:=
 ⟨hz,.inr ⟨b,n,cs.toArray,rfl,hb,h,Nat.le_refl _,hn,by simp[hz],by rw[List.take_of_length_le (by simp[hz])]⟩⟩
theorem put_cell {B:Nat} {W W':World} (h:Put B W W') {p:Addr} {c:Value} (hc:W.cell? p=some c):W'.cell? p=some c:=by
 obtain⟨l,o,o',_,ho,h1,h2,rfl⟩:=h
 obtain⟨x,hx,hxc⟩:=cells_of_cell hc
 have hne:p.block≠l:=fun e=>by rw[e,ho] at hx;cases hx;rw[h1] at hxc;cases hxc
 exact (World.cell?_of_block (World.putObj_heap_other hne)).trans hc
theorem put_block {B:Nat} {W W':World} (h:Put B W W') {i:Nat} {o:Obj} (ho:W.heap[i]?=some o) (hc:o.isCells=true∨i < B):W'.heap[i]?=some o:=by
 obtain⟨l,x,y,hl,hx,h1,h2,rfl⟩:=h
 have hne:i≠l:=by
  rcases hc with hc | hc
  ·rintro rfl
   rw[ho] at hx;cases hx;rw[h1] at hc;cases hc
  ·omega
 exact (World.putObj_heap_other hne).trans ho
theorem put_bel {B n:Nat} {w W W':World} (h:Put B W W') (hb:Below n w W) (hn:n≤B):Below n w W':=by
 obtain⟨l,x,y,hl,hx,h1,h2,rfl⟩:=h
 exact⟨hb.os,hb.tape,hb.output,by simpa using hb.size,fun i hi=>(World.putObj_heap_other (by omega)).trans (hb.block i hi)⟩
theorem put_sz {B:Nat} {W W':World} (h:Put B W W'):W'.heap.size=W.heap.size:=by
 obtain⟨l,x,y,hl,hx,h1,h2,rfl⟩:=h
 simp
theorem sl_cellsTo {α:Type} {W W':World} {B B' z:Nat} {R:α→List Value→Prop} {l:List α} {v:Value} (h:SlOf W B z R l v) (hk:∀ p c,W.cell? p=some c→W'.cell? p=some c) (hB:B≤B'):SlOf W' B' z R l v:=by
 rcases h with h | ⟨a,cap,h1,h2,h3,h4,h5⟩
 ·exact .inl h
 ·refine .inr ⟨a,cap,h1,h2,h3,fun h=>Nat.lt_of_lt_of_le (h4 h) hB,fun i x hx=>?_⟩
  obtain⟨cs,c1,c2,c3⟩:=h5 i x hx
  exact⟨cs,c1,c2,fun j c hj=>hk _ _ (c3 j c hj)⟩
end Go.Proofs.YtakpgcmfjlbcgaaGreatDoor
namespace Go.Proofs.YtakpgcmfjlbcgaaGreatDoor
open Lib(hid)
open Go.RowKit
structure Kp (T:Nat→Prop) (w0 w:World):Prop where
 os:w.os=w0.os
 tape:w.tape=w0.tape
 output:w.output=w0.output
 size:w0.heap.size≤w.heap.size
 block:∀ i,i < w0.heap.size→¬ T i→w.heap[i]?=w0.heap[i]?
theorem Kp.refl (T:Nat→Prop) (w:World):Kp T w w:=⟨rfl,rfl,rfl,Nat.le_refl _,fun _ _ _=>rfl⟩
theorem Kp.grown {T:Nat→Prop} {w0 w w':World} {row:Option Nat} (h:Kp T w0 w) (g:w.grownBy w' row) (hr:∀ b,row=some b→w0.heap.size≤b∨T b):Kp T w0 w':=
 ⟨g.os.trans h.os,g.tape.trans h.tape,g.output.trans h.output,Nat.le_trans h.size g.size,fun i hi ht=>(g.block i (Nat.lt_of_lt_of_le hi h.size) (fun e=>(hr i e.symm).elim (fun h=>absurd hi (by omega)) ht)).trans (h.block i hi ht)⟩
def chIdx (ch:List Nat) (i:Nat):Option Nat:=ch.findIdx? fun c=>c == i
def factV (Rs:List (Value→Prop)) (j:Nat) (v:Value):Prop:=∀ p,Rs[j]?=some p→p v
def PStep (P:Program) (Q:Exit→Act→World→Prop) (slots:List (Option Tmp)) (Rs:List (Value→Prop)) (T:Nat→Prop) (a0:Act) (w0:World) (i:Nat) (o:Oper):Prop:=
 ∀ (A:Act) (w:World) (K:Act→World→Prop),Kp T w0 w→(∀ s,(some s) ∉ slots→A.tmps[s]?.getD undef=a0.tmps[s]?.getD undef) →
  (∀ j s,slots[j]?=some (some s)→depG o j=true→factV Rs j (A.tmps[s]?.getD undef))→(∀ v,factV Rs i v→K (A.put o.dst v) w)→o.wp P A w K Q
def CStep (P:Program) (Q:Exit→Act→World→Prop) (slots:List (Option Tmp)) (ch:List Nat) (Rs:List (Value→Prop)) (Sg:Nat→(Nat→Value)→World→Prop) (T:Nat→Prop) (a0:Act) (w0:World) (k i:Nat) (o:Oper):Prop:=
 ∀ (A:Act) (w:World) (val:Nat→Value) (K:Act→World→Prop),Kp T w0 w→(∀ s,(some s) ∉ slots→A.tmps[s]?.getD undef=a0.tmps[s]?.getD undef) →
  (∀ j s,slots[j]?=some (some s)→depG o j=true→factV Rs j (A.tmps[s]?.getD undef)∧A.tmps[s]?.getD undef=val j)→Sg k val w →
  (∀ v w',Kp T w0 w'→factV Rs i v→Sg (k+1) (updV val i v) w'→K (A.put o.dst v) w')→o.wp P A w K Q
def XStep (P:Program) (Q:Exit→Act→World→Prop) (slots:List (Option Tmp)) (ch:List Nat) (Rs:List (Value→Prop)) (Sg:Nat→(Nat→Value)→World→Prop) (T:Nat→Prop) (a0:Act) (w0:World) (i:Nat) (o:Oper):Prop:=
 (chIdx ch i=none→PStep P Q slots Rs T a0 w0 i o)∧∀ k,chIdx ch i=some k→(∀ j c,k=j+1→ch[j]?=some c→depG o c=true)∧CStep P Q slots ch Rs Sg T a0 w0 k i o
theorem XStep.p {P:Program} {Q:Exit→Act→World→Prop} {slots:List (Option Tmp)} {ch:List Nat} {Rs:List (Value→Prop)} {Sg:Nat→(Nat→Value)→World→Prop} {T:Nat→Prop} {a0:Act} {w0:World} {i:Nat} {o:Oper} (h:chIdx ch i=none) (hp:PStep P Q slots Rs T a0 w0 i o):XStep P Q slots ch Rs Sg T a0 w0 i o:=
 ⟨fun _=>hp,fun k hk=>by rw[h] at hk;cases hk⟩
end Go.Proofs.YtakpgcmfjlbcgaaGreatDoor
namespace Go.Proofs.YtakpgcmfjlbcgaaGreatDoor
open Lib(hid)
open Go.RowKit
set_option maxRecDepth 100000 in
set_option maxHeartbeats 4000000 in
theorem grow_c (n:Nat) (hn:n≤1000000) (w:World) :
  Calls Tryz.prog 182 #[.slice none 0 0,.int .i64 n] w fun e w'=>∃ v,e=.returned v∧w'.ownsRow w.heap.size 9 1 v 0 []∧Below w.heap.size w w':=by
 obtain⟨i0,hi,hz0,hz1,hz2⟩:=info_parts info_str
 have h1:¬ ((n:Int) < 0):=by omega
 have h2:wrap64 ((0:Int) - (0:Int))=0:=by unfold wrap64;rfl
 have h3:wrap64 ((n:Int) - 0)=(n:Int):=by unfold wrap64;omega
 by_cases h0:n=0
 ·subst h0
  go_enter Tryz.func182,Tryz.ntmps182
  go_wp2
  go_ret
  exact⟨_,rfl,World.ownsRow_nil _ _ _ _,Below.refl _ _⟩
 ·have h4:(n:Int) > 0:=by omega
  have hcap:grownCap w n 0 9≤maxLen:=grownCap_le_maxLen w n 0 9 (by unfold maxLen;omega)
  have hge:n≤grownCap w n 0 9:=grownCap_ge w _ _ _
  have hrz:∀ ty,(Builtin.append_ #[55,3] ty #[.slice none 0 0,.int .i64 n]).run Tryz.prog w=.ok (.slice (some ⟨w.heap.size,0,none⟩) n (grownCap w n 0 9)) (w.drew.alloc (.cells (Builtin.zeroCells (Value.string ⟨#[]⟩).cells n++Builtin.zeroCells (Value.string ⟨#[]⟩).cells (grownCap w n 0 9 - n)) 9)):=fun ty=>
   Lib.run_append_nil_zeros w 55 3 ty 9 i0 (.string ⟨#[]⟩) .i64 .i64 Tryz.underlying55 Tryz.underlying3 hi hz0 n (by omega) (by rw[hz1];decide) (by omega) (by rw[hz2];omega)
  obtain⟨G,hG⟩:∃ G,G=grownCap w n 0 9:=⟨_,rfl⟩
  rw[← hG] at hrz hge hcap
  obtain⟨cur,hcur⟩:∃ cur,cur=Builtin.zeroCells (Value.string ⟨#[]⟩).cells n++Builtin.zeroCells (Value.string ⟨#[]⟩).cells (G - n):=⟨_,rfl⟩
  have hsz:cur.size=G:=by
   rw[hcur]
   simp[size_zeroCells,Value.cells]
   omega
  rw[← hcur] at hrz
  have Own:Hid ((w.drew.alloc (.cells cur 9)).ownsRow w.heap.size 9 1 (.slice (some ⟨w.heap.size,0,none⟩) 0 G) 0 []):=hid ⟨by simp,.inr ⟨w.heap.size,G,cur,rfl,Nat.le_refl _,World.alloc_heap_new w.drew _,Nat.zero_le _,hcap,by rw[hsz];omega,by simp⟩⟩
  have HB:Hid (Below w.heap.size w (w.drew.alloc (.cells cur 9))):=hid ((Below.refl _ _).drew.alloc (Nat.le_refl _) _)
  have hG63:G≤9223372036854775807:=by unfold maxLen at hcap;omega
  clear hG hcur hcap hsz
  go_enter Tryz.func182,Tryz.ntmps182
  go_wp2_with (at_builtin;refine Lib.wpList_append_run _ rfl _ _ _ _ rfl _ _ rfl rfl _ _ (hrz _) ?_)
  go_ret
  exact⟨_,rfl,Own.out,HB.out⟩
end Go.Proofs.YtakpgcmfjlbcgaaGreatDoor
namespace Go.Proofs.YtakpgcmfjlbcgaaGreatDoor
open Lib(hid)
open Go.RowKit
def LlC (w:World) (B:Nat) (l:List ByteArray) (cs:List Value):Prop:=∃ v,cs=[v]∧SlOf w B 1 StrC l v
def catL (ls:List (List ByteArray)):List ByteArray:=ls.flatten
theorem flat_take {ls:List (List ByteArray)} {k:Nat} {l:List ByteArray} (h:ls[k]?=some l):catL (ls.take (k+1))=catL (ls.take k)++l:=by
 unfold catL
 rw[List.take_add_one,h];simp
theorem flat_len (ls:List (List ByteArray)) (k:Nat):(catL (ls.take k)).length≤(catL ls).length:=by
 unfold catL
 have:ls.flatten=(ls.take k).flatten++(ls.drop k).flatten:=by rw[← List.flatten_append,List.take_append_drop]
 rw[this,List.length_append];omega
set_option maxRecDepth 100000 in
set_option maxHeartbeats 8000000 in
theorem concat_c (ls:List (List ByteArray)) (v:Value) (w:World) (h:SlOf w w.heap.size 1 (LlC w w.heap.size) ls v) (hn:(catL ls).length≤1000000) :
  Calls Tryz.prog 150 #[v] w fun e w'=>∃ u,e=.returned u∧w'.ownsRow w.heap.size 9 1 u (catL ls).length ((catL ls).map Value.string)∧Below w.heap.size w w':=by
 obtain⟨o1,k1,rfl,_,_,S1⟩:=SlOf.open h
 have HN:=hid hn
 obtain⟨i0,hi,hz0,hz1,hz2⟩:=info_parts info_str
 clear h hn
 go_enter Tryz.func150,Tryz.ntmps150
 go_wp2
 go_loopw [3,11] (fun sz i wr=>∃ (k m:Nat),k≤ls.length∧i=.int .i64 k∧sz=.int .i64 m∧(catL (ls.take k)).length=m∧w=wr) (fun _ i _=>ls.length - (intOf i).toNat)
 case atStart=>exact⟨0,0,Nat.zero_le _,rfl,rfl,rfl,rfl⟩
 case round=>
  obtain⟨k,m,hk,rfl,rfl,hm,rfl⟩:=hrel
  by_cases hlt:k < ls.length
  ·have hlt':(k:Int) < (ls.length:Int):=by omega
   obtain⟨x,hx⟩:∃ x,ls[k]?=some x:=⟨ls[k],List.getElem?_eq_getElem hlt⟩
   obtain⟨p,cs,rfl,hp,_,⟨u,rfl,hu⟩,h2⟩:=S1.out k x hx
   obtain⟨o2,k2,rfl,_⟩:=SlOf.uni hu
   have c0:=h2.n1
   rw[Nat.mul_one] at c0
   have hpl:(p.add k).block < w.heap.size:=by rw[addBlock];exact hp
   have Hst:Hid ((catL (ls.take (k+1))).length=m+x.length):=hid (by rw[flat_take hx,List.length_append,hm])
   have hle:=flat_len ls (k+1)
   rw[Hst.out] at hle
   have hle2:m+x.length≤1000000:=Nat.le_trans hle HN.out
   have hw:IntKind.i64.wrap ((m:Int)+(x.length:Int))=(m:Int)+(x.length:Int):=IntWalk.i64_in _ (by omega)
   have hneg:¬ ((m:Int)+(x.length:Int) < 0):=by omega
   clear hle h2 hu hx hm
   go_wp2
   go_roundw
   case rel=>exact⟨k+1,m+x.length,hlt,by go_num,by go_num,Hst.out,by trivial⟩
   case measure=>simp[intOf];omega
  ·have hlt':¬ (k:Int) < (ls.length:Int):=by omega
   obtain rfl:(catL ls).length=m:=by rw[← hm,List.take_of_length_le (by omega)]
   have HG:=hid (grow_c (catL ls).length HN.out w)
   clear hlt hm
   go_wp2_with fail
   refine HG.out.mono ?_
   rintro e1 w1 ⟨v1,rfl,hO,b1⟩
   have HO:=hid hO
   have B1:=hid b1
   clear HG hO b1
   go_wp2_with fail
   go_loopw [6,27] (fun lv i wq=>∃ (k:Nat) (M:List ByteArray),k≤ls.length∧i=.int .i64 k∧catL (ls.take k)=M∧wq.ownsRow w.heap.size 9 1 lv M.length (M.map Value.string)∧Below w.heap.size w wq) (fun _ i _=>ls.length - (intOf i).toNat)
   case atStart=>exact⟨0,[],Nat.zero_le _,rfl,rfl,HO.out,B1.out⟩
   case round=>
    obtain⟨k,Mk,hk,rfl,hMk,hO,hB⟩:=hrel
    have HMk:=hid hMk
    have HO2:=hid hO
    have HB:=hid hB
    have hsz:=hB.size
    clear hMk hO hB
    by_cases hlt:k < ls.length
    ·have hlt2:(k:Int) < (ls.length:Int):=by omega
     obtain⟨x,hx⟩:∃ x,ls[k]?=some x:=⟨ls[k],List.getElem?_eq_getElem hlt⟩
     obtain⟨p,cs,rfl,hp,_,⟨u,rfl,hu⟩,h2⟩:=S1.out k x hx
     have hu2:=hu.str HB.out hsz
     obtain⟨xs,hlaid,hsp⟩:=sl_laid hu2 str_one
     have hxs:=laid_str hlaid
     subst hxs
     have HSp:=hid hsp
     have c0:=(h2.below hp HB.out).n1
     rw[Nat.mul_one] at c0
     have hpl:(p.add k).block < wr.heap.size:=by rw[addBlock];omega
     have Hst:Hid (catL (ls.take (k+1))=Mk++x):=hid (by rw[flat_take hx,HMk.out])
     have hle:=flat_len ls (k+1)
     rw[Hst.out,List.length_append] at hle
     have HS1:Hid (Mk.length+x.length≤maxLen):=hid (by have:=HN.out;unfold maxLen;omega)
     have HS2:Hid ((Mk.length+x.length) * 16≤140737488355328):=hid (by have:=HN.out;omega)
     clear hle h2 hu hu2 hx hlaid hsp
     go_wp2_with (at_builtin;refine wpList_append_any _ rfl (.tmp 31) (.tmp 32) 55 rfl w.heap.size 9 i0 _ 1 16 Tryz.underlying55 hi hz0 hz1 hz2 rfl (by decide) _ Mk.length _ rfl HO2.out _ x.length _ rfl HSp.out HS1.out HS2.out hsz ?_;intro v2 w2 hown2 hg2 _;have O2:=hid hown2;have G2:=hid hg2;clear hown2 hg2)
     go_roundw
     case rel=>
      refine⟨k+1,Mk++x,hlt,by go_num,Hst.out,?_,?_⟩
      ·rw[List.length_append,List.map_append];exact O2.out
      ·exact HB.out.grown G2.out hsz (fun q hq=>(HO2.out.lt q hq).1)
     case measure=>simp[intOf];omega
    ·have hlt2:¬ (k:Int) < (ls.length:Int):=by omega
     obtain rfl:Mk=catL ls:=by rw[← HMk.out,List.take_of_length_le (by omega)]
     obtain⟨oq,kq,rfl⟩:=own_shape HO2.out
     go_wp2
     go_ret
     exact⟨_,rfl,HO2.out,HB.out⟩
end Go.Proofs.YtakpgcmfjlbcgaaGreatDoor

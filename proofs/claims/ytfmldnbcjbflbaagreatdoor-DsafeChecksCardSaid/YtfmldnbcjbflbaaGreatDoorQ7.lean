/- Zmv@012, Yatom@012, Yround@012, Yfind@012, Ychk@012, Yplc@012, Ytypes@012, Yvars@012, Ymem@012, Yans@012, Yrm@012, Zin@012 -/
import Derived.Deep.LoopGhost
import Derived.Deep.RegionHeld3
import Derived.OrdersIn
import Derived.RangeFuncCalls
import Derived.StillTailTactics
import Derived.WalkMore
import Derived.Test.YtfmldnbcjbflbaaGreatDoorQ5
import Derived.Test.YtfmldnbcjbflbaaGreatDoorQ6
set_option linter.unusedSimpArgs false
set_option linter.unusedVariables false
namespace Go.Proofs.YtfmldnbcjbflbaaGreatDoor
open Lib(hid)
open Go.RowKit
def Put (B:Nat) (W W':World):Prop:=∃ (l:Nat) (o o':Obj),B≤l∧W.heap[l]?=some o∧o.isCells=false∧o'.isCells=false∧W'=W.putObj l o'
def Firm (B:Nat) (S:World→Prop):Prop:=∀ W W',Put B W W'→S W→S W'
def roundEnd (B:Nat) (W:World) (S:World→Prop) (X:Code→World→Prop):Exit→Act→World→Prop
 | .normal,_,W'=>KeepsFrom B W W'∧S W'
 | .ret,_,W'=>KeepsFrom B W W'∧X .ret W'
 | .exit id,_,W'=>KeepsFrom B W W'∧X (.exit id) W'
 | .goto t,_,W'=>KeepsFrom B W W'∧X (.goto t) W'
 | .panic _,_,_=>False
 | .outgrown,_,_=>False
def Moves2 {α:Type} (F:Fence) (n:Nat) (P:Program) (gf:Nat) (args:Nat→Array Value) (enc:α→Array Value) (G:α→World→Prop) (T:α→World→α→World→Prop) (E:α→World→World→Prop) (x0:α):Prop:=
 ∀ (l:Nat) (A B:α→World→Prop) (X Z:World→Prop) (W:World),
  (∀ x W1,A x W1→YieldAt F (n - 1) P l (enc x) W1 fun e W'=>(e=.returned (.bool true)∧B x W')∨(e=.returned (.bool false)∧X W')) →
  (∀ x W1,B x W1→G x W1∧(∀ x' W2,T x W1 x' W2→A x' W2)∧(∀ W2,E x W1 W2→Z W2)) →
  B x0 W→CallsIn F n P gf (args l) W fun e W'=>(∃ v,e=.returned v)∧(X W'∨Z W')
theorem range_moves2 {α:Type} {F:Fence} {n:Nat} {P:Program} {g:Operand} {ps:Array Tmp} {assign body:Code} {Q:Exit→Act→World→Prop} {a:Act} {w:World}
  (hro:F.round=none) (h1:1≤n) {gf:Nat} {bd lb:Array Value} (hg:a.eval g=.func (.func gf) bd lb) (hFg:F.fn gf) (eg:∀ args w,(callFunc gf args).run P w=.ok (.enter gf args) w)
  {enc:α→Array Value} {G:α→World→Prop} {T:α→World→α→World→Prop} {E:α→World→World→Prop} {x0:α}
  (hit:Moves2 F (n - 1) P gf (fun l=>bd++#[.func (.yield l) #[] #[]]++lb) enc G T E x0) (hps:∀ x,(enc x).size=ps.size)
  (A B:α→World→Prop) (X:Code→World→Prop) (Z:World→Prop) (M:α→Act→World→Prop)
  (fB:∀ x,Firm w.heap.size (B x)) (fX:∀ c,Firm w.heap.size (X c)) (fZ:Firm w.heap.size Z) (fM:∀ x a',Firm w.heap.size (M x a'))
  (h0:∀ o o',B x0 ((w.alloc o).alloc o'))
  (hB:∀ x W1,B x W1→G x W1∧(∀ x' W2,T x W1 x' W2→KeepsFrom w.heap.size W1 W2∧A x' W2)∧(∀ W2,E x W1 W2→KeepsFrom w.heap.size W1 W2∧Z W2))
  (hassign:∀ (l:Nat) (x:α) (W:World),A x W→assign.wpIn (F.inRound l) (n - 1 - 1) P (Exit.then (fun a' W'=>KeepsFrom w.heap.size W W'∧M x a' W') (fun _ _ _=>False)) { tmps:=(ps.zip (enc x)).foldl (fun t (p,v)=>t.setIfInBounds p v) a.tmps,defers:=[] } W)
  (hbody:∀ (l:Nat) (x:α) (a':Act) (W:World),M x a' W→body.wpIn (F.inRound l) (n - 1 - 1) P (roundEnd w.heap.size W (B x) X) a' W)
  (hdone:∀ (D:Nat) (W:World),w.heap.size≤D→Z W→W.heap[D]?=some (.deferred (some []))→Q .normal { a with defers:={ target:=.collected D,args:=#[] }::a.defers } W)
  (hstop:∀ (D:Nat) (c:Code) (W:World),w.heap.size≤D→X c W→W.heap[D]?=some (.deferred (some []))→c.wpIn F n P Q { a with defers:={ target:=.collected D,args:=#[] }::a.defers } W) :
  (Code.rangeFunc g ps assign body).wpIn F n P Q a w:=by
 refine wpIn_rangeFunc fun fn hfn=>?_
 rw[hro]
 let rec_:LoopState→Option Code→Loop:=fun st pe=>{ state:=st,pending:=pe,fn,tmps:=a.tmps,params:=ps,assign,body,defers:=w.heap.size }
 obtain⟨W1,hW1⟩:∃ W1,(w.alloc (.deferred (some []))).alloc (.loop (rec_ .ready none))=W1:=⟨_,rfl⟩
 have h01:B x0 W1:=by rw[← hW1];exact h0 _ _
 have hl1:((w.alloc (.deferred (some []))).alloc (.loop (rec_ .ready none))).heap[w.heap.size+1]?=some (.loop (rec_ .ready none)):=by
  have:=World.alloc_heap_new (w.alloc (.deferred (some []))) (.loop (rec_ .ready none))
  rwa [World.size_alloc] at this
 have hd1:((w.alloc (.deferred (some []))).alloc (.loop (rec_ .ready none))).heap[w.heap.size]?=some (.deferred (some [])):=
  (Below.heap_alloc _ _ _ (by simp)).trans (World.alloc_heap_new w _)
 rw[hW1] at hl1 hd1
 refine⟨w.heap.size+1,[{ target:=.collected w.heap.size,args:=#[] }],W1,{ target:=.fn (.func gf) lb,args:=bd++#[.func (.yield (w.heap.size+1)) #[] #[]] },W1,gf,bd++#[.func (.yield (w.heap.size+1)) #[] #[]]++lb,W1,
  by rw[← hW1];exact run_enterLoop_outer _ _ _ _ _,?_,?_,?_,fun _=>h1,?_⟩
 ·simp only[resolve,hg]
  simp[go_sem]
 ·intro f' hf'
  simp[Target.leads] at hf'
  subst hf'
  exact hFg
 ·simp[invoke,go_sem,eg]
 ·refine (hit (w.heap.size+1)
   (fun x W=>A x W∧W.heap[w.heap.size+1]?=some (.loop (rec_ .ready none))∧W.heap[w.heap.size]?=some (.deferred (some [])))
   (fun x W=>B x W∧W.heap[w.heap.size+1]?=some (.loop (rec_ .ready none))∧W.heap[w.heap.size]?=some (.deferred (some [])))
   (fun W=>∃ c,X c W∧W.heap[w.heap.size+1]?=some (.loop (rec_ .done (some c)))∧W.heap[w.heap.size]?=some (.deferred (some [])))
   (fun W=>Z W∧W.heap[w.heap.size+1]?=some (.loop (rec_ .ready none))∧W.heap[w.heap.size]?=some (.deferred (some [])))
   W1 ?_ ?_ ⟨h01,hl1,hd1⟩).mono ?_
  ·rintro x W ⟨hA,hl,hd⟩
   have hy:=run_yield (P:=P) (args:=enc x) hl (hps x)
   refine⟨fn,_,assign,body,hy,roundIn_of_wpIn hfn (wpIn_mono (hassign (w.heap.size+1) x W hA) ?_)⟩
   rintro e a' W2 hp
   cases e with
   | normal=>
    obtain⟨hk,hM⟩:=hp
    have hl2:=hk.same _ _ (by omega) hl rfl
    have hd2:=hk.same _ _ (Nat.le_refl _) hd rfl
    have hlt:=(Array.getElem?_eq_some_iff.1 hl2).1
    refine⟨_,run_beginRound hl2 rfl,?_⟩
    have hl3:(W2.putObj (w.heap.size+1) (.loop { rec_ .ready none with state:=.busy })).heap[w.heap.size+1]?=some (.loop { rec_ .ready none with state:=.busy }):=World.putObj_heap_same hlt
    have hd3:(W2.putObj (w.heap.size+1) (.loop { rec_ .ready none with state:=.busy })).heap[w.heap.size]?=some (.deferred (some [])):=(World.putObj_heap_other (by omega)).trans hd2
    refine wpIn_mono (hbody (w.heap.size+1) x a' _ (fM x a' W2 _ ⟨_,_,_,by omega,hl2,rfl,rfl,rfl⟩ hM)) ?_
    have fin:∀ (jump:Option Code) (W4:World),KeepsFrom w.heap.size (W2.putObj (w.heap.size+1) (.loop { rec_ .ready none with state:=.busy })) W4 →
      (Instr.endRound (w.heap.size+1) jump).run P W4=.ok (.bool jump.isNone) (W4.putObj (w.heap.size+1) (.loop (rec_ (if jump.isNone then .ready else .done) jump))) ∧
      Put w.heap.size W4 (W4.putObj (w.heap.size+1) (.loop (rec_ (if jump.isNone then .ready else .done) jump))) ∧
      (W4.putObj (w.heap.size+1) (.loop (rec_ (if jump.isNone then .ready else .done) jump))).heap[w.heap.size+1]?=some (.loop (rec_ (if jump.isNone then .ready else .done) jump)) ∧
      (W4.putObj (w.heap.size+1) (.loop (rec_ (if jump.isNone then .ready else .done) jump))).heap[w.heap.size]?=some (.deferred (some [])):=fun jump W4 hk4=>by
     have hl4:=hk4.same _ _ (by omega) hl3 rfl
     exact⟨run_endRound (P:=P) jump hl4,⟨_,_,_,by omega,hl4,rfl,rfl,rfl⟩,World.putObj_heap_same (Array.getElem?_eq_some_iff.1 hl4).1,(World.putObj_heap_other (by omega)).trans (hk4.same _ _ (Nat.le_refl _) hd3 rfl)⟩
    rintro e a3 W4 hp
    cases e with
    | normal=>
     obtain⟨r1,r2,r3,r4⟩:=fin none W4 hp.1
     exact⟨_,_,r1,.inl ⟨rfl,fB x _ _ r2 hp.2,r3,r4⟩⟩
    | ret=>
     obtain⟨r1,r2,r3,r4⟩:=fin (some .ret) W4 hp.1
     exact⟨_,_,r1,.inr ⟨rfl,.ret,fX _ _ _ r2 hp.2,r3,r4⟩⟩
    | exit id=>
     obtain⟨r1,r2,r3,r4⟩:=fin (some (.exit id)) W4 hp.1
     exact⟨_,_,r1,.inr ⟨rfl,.exit id,fX _ _ _ r2 hp.2,r3,r4⟩⟩
    | goto t=>
     obtain⟨r1,r2,r3,r4⟩:=fin (some (.goto t)) W4 hp.1
     exact⟨_,_,r1,.inr ⟨rfl,.goto t,fX _ _ _ r2 hp.2,r3,r4⟩⟩
    | panic ch=>exact hp.elim
    | outgrown=>exact hp.elim
   | ret=>exact hp.elim
   | exit id=>exact hp.elim
   | goto t=>exact hp.elim
   | panic ch=>exact hp.elim
   | outgrown=>exact hp.elim
  ·rintro x W ⟨hb,hl,hd⟩
   obtain⟨h2,h3,h4⟩:=hB x W hb
   refine⟨h2,fun x' W2 ht=>?_,fun W2 he=>?_⟩
   ·obtain⟨k,hA⟩:=h3 x' W2 ht
    exact⟨hA,k.same _ _ (by omega) hl rfl,k.same _ _ (Nat.le_refl _) hd rfl⟩
   ·obtain⟨k,hZ⟩:=h4 W2 he
    exact⟨hZ,k.same _ _ (by omega) hl rfl,k.same _ _ (Nat.le_refl _) hd rfl⟩
  ·rintro e W2 ⟨⟨v,rfl⟩,(⟨c,hX,hl,hd⟩ | ⟨hZ,hl,hd⟩)⟩
   ·exact⟨some c,_,run_endLoop (P:=P) hl (by simp[rec_]),hstop _ c _ (Nat.le_refl _) (fX c _ _ ⟨_,_,_,by omega,hl,rfl,rfl,rfl⟩ hX) ((World.putObj_heap_other (by omega)).trans hd)⟩
   ·exact⟨none,_,run_endLoop (P:=P) hl (by simp[rec_]),hdone _ _ (Nat.le_refl _) (fZ _ _ ⟨_,_,_,by omega,hl,rfl,rfl,rfl⟩ hZ) ((World.putObj_heap_other (by omega)).trans hd)⟩
section
variable {P:Program} {F:Fence} {nF:Nat} (w:World)
theorem wpListIn_append_any {ops:Array Oper} {rest:List Oper} {o:Oper} {a:Act} {Q:Exit→Act→World→Prop} (hgd:o.guard=none) (s x:Operand) (t:TypeId)
  (ho:o.op=.call { callee:=.builtin .append,args:=#[s,x],argTypes:=#[t,t] })
  (base:Nat) (e:TypeId) (i:TypeInfo) (z:Value) (size bytes:Nat) (ht:P.underlying t=some (.slice e)) (hi:P.info? e=some i) (hz:i.zero=some z)
  (hsize:i.size=size) (hby:i.bytes=bytes) (hzs:z.cells.size=size) (hsz:0 < size)
  (v:Value) (n:Nat) (xs:List Value) (hs:a.eval s=v) (hown:w.ownsRow base e size v n xs) (u:Value) (m:Nat) (news:List Value) (hx:a.eval x=u) (hu:Spread w size u m news)
  (h63:n+m≤maxLen) (hbytes:(n+m) * bytes≤140737488355328) (hbase:base≤w.heap.size)
  (h:∀ v' w',w'.ownsRow base e size v' (n+m) (xs++news)→w.grownBy w' v.ownBlock→(v'.ownBlock=v.ownBlock∨v'.ownBlock=some w.heap.size)→wpListIn F nF P ops Q rest (a.put o.dst v') w'):wpListIn F nF P ops Q (o::rest) a w:=by
 refine wpListIn_plain hgd fun K hK=>?_
 obtain⟨v',w',hr,h2,h3,h4⟩:=run_append_any (P:=P) w base t o.type e i z size bytes ht hi hz hsize hby hzs hsz v n xs hown u m news hu h63 hbytes hbase
 unfold Oper.wpIn
 refine⟨by simp[Oper.about,ho,resolve,Target.leads,Sem.run_pure],?_⟩
 rw[Oper.semAt_plain F _ _ (by rw[ho];intro c hc';cases hc')]
 simp[execOp,ho,resolve,invoke,builtin,hs,hx,hr,Result.andThen]
 exact hK _ _ (h v' w' h2 h3 h4)
end
theorem own_built {W:World} {T:TypeId} {b z n:Nat} {cs:List Value} (h:W.heap[b]?=some (.cells cs.toArray T (0,0))) (hz:cs.length=n * z) (hn:n≤maxLen) (base:Nat) (hb:base≤b):W.ownsRow base T z (.slice (some ⟨b,0,none⟩) n n) n cs:=
 ⟨hz,.inr ⟨b,n,cs.toArray,rfl,hb,h,Nat.le_refl _,hn,by simp[hz],by rw[List.take_of_length_le (by simp[hz])]⟩⟩
theorem put_cell {B:Nat} {W W':World} (h:Put B W W') {p:Addr} {c:Value} (hc:W.cell? p=some c):W'.cell? p=some c:=by
 obtain⟨l,o,o',_,ho,h1,h2,rfl⟩:=h
 obtain⟨x,hx,hxc⟩:=cells_of_cell hc
 have hne:p.block≠l:=fun e=>by rw[e,ho] at hx;cases hx;rw[h1] at hxc;cases hxc
 exact (World.cell?_of_block (World.putObj_heap_other hne)).trans hc
theorem put_block {B:Nat} {W W':World} (h:Put B W W') {i:Nat} {o:Obj} (ho:W.heap[i]?=some o) (hc:o.isCells=true∨i < B):W'.heap[i]?=some o:=by
 obtain⟨l,x,y,hl,hx,h1,h2,rfl⟩:=h
 have hne:i≠l:=by
  rcases hc with hc | hc
  ·rintro rfl
   rw[ho] at hx;cases hx;rw[h1] at hc;cases hc
  ·omega
 exact (World.putObj_heap_other hne).trans ho
theorem put_bel {B n:Nat} {w W W':World} (h:Put B W W') (hb:Below n w W) (hn:n≤B):Below n w W':=by
 obtain⟨l,x,y,hl,hx,h1,h2,rfl⟩:=h
 exact⟨hb.os,hb.tape,hb.output,by simpa using hb.size,fun i hi=>(World.putObj_heap_other (by omega)).trans (hb.block i hi)⟩
theorem put_sz {B:Nat} {W W':World} (h:Put B W W'):W'.heap.size=W.heap.size:=by
 obtain⟨l,x,y,hl,hx,h1,h2,rfl⟩:=h
 simp
theorem sl_cellsTo {α:Type} {W W':World} {B B' z:Nat} {R:α→List Value→Prop} {l:List α} {v:Value} (h:SlOf W B z R l v) (hk:∀ p c,W.cell? p=some c→W'.cell? p=some c) (hB:B≤B'):SlOf W' B' z R l v:=by
 rcases h with h | ⟨a,cap,h1,h2,h3,h4,h5⟩
 ·exact .inl h
 ·refine .inr ⟨a,cap,h1,h2,h3,fun h=>Nat.lt_of_lt_of_le (h4 h) hB,fun i x hx=>?_⟩
  obtain⟨cs,c1,c2,c3⟩:=h5 i x hx
  exact⟨cs,c1,c2,fun j c hj=>hk _ _ (c3 j c hj)⟩
end Go.Proofs.YtfmldnbcjbflbaaGreatDoor
namespace Go.Proofs.YtfmldnbcjbflbaaGreatDoor
open Lib(hid)
open Go.RowKit Go.Shelf
attribute [local go_sem] Oper.semAt_some
def atomsL:List Lt→List Am
 | []=>[]
 | t::l=>if duoB t then atomsL l else t.a::atomsL l
def atomsR (r:Ru):List Am:=r.head::atomsL r.body
structure Na (w:World) (B:Nat) (G:Am→Prop) where
 t:Am
 cs:List Value
 ok:AmC w B t cs
 good:G t
def Na.enc {w:World} {B:Nat} {G:Am→Prop} (x:Na w B G):Array Value:=#[.agg x.cs.toArray]
end Go.Proofs.YtfmldnbcjbflbaaGreatDoor
namespace Go.Proofs.YtfmldnbcjbflbaaGreatDoor
open Lib(hid)
open Go.RowKit
def prsL:List Lt→List (Tm × Tm)
 | []=>[]
 | t::l=>if duoB t then (t.x,t.y)::prsL l else prsL l
end Go.Proofs.YtfmldnbcjbflbaaGreatDoor
namespace Go.Proofs.YtfmldnbcjbflbaaGreatDoor
open Lib(hid)
open Go.RowKit
def relY (s:ByteArray) (d:De):Bool:=d.rel.toList == s.toList
def ixY (s:ByteArray):Nat→List De→Int
 | _,[] => -1
 | k,d::l=>if relY s d then k else ixY s (k+1) l
def findY (s:ByteArray) (l:List De):Option Nat:=if ixY s 0 l < 0 then none else some (ixY s 0 l).toNat
end Go.Proofs.YtfmldnbcjbflbaaGreatDoor
namespace Go.Proofs.YtfmldnbcjbflbaaGreatDoor
open Lib(hid)
open Go.RowKit Go.Shelf
attribute [local go_sem] Oper.semAt_some
theorem loadVar_err {W:World} {b:Nat} {v:Value} (h:W.cell? ⟨b,0,none⟩=some v):(loadVar 62 ⟨b,0,none⟩).run Tryz.prog W=.ok v W:=by
 have ha:∀ w:World,(isAgg 62).run Tryz.prog w=.ok false w:=fun w=>by kernel_rfl
 have hl:b < W.heap.size:=World.block_lt_of_cell? _ _ h
 unfold loadVar
 go_simp
theorem below_drewN {B n:Nat} {W W':World} (h:Below B W W'):Below B W (W'.drewN n):=⟨h.os,h.tape,h.output,h.size,h.block⟩
def badA (ds:List De) (t:Am):Nat:=
 match findY t.rel ds with
 | none=>1
 | some i=>match ds[i]? with
  | none=>1
  | some d=>if d.types.length=t.l.length then 0 else 2
def chkA (ds:List De):List Am→Nat
 | []=>0
 | t::l=>if badA ds t=0 then chkA ds l else badA ds t
end Go.Proofs.YtfmldnbcjbflbaaGreatDoor
namespace Go.Proofs.YtfmldnbcjbflbaaGreatDoor
open Lib(hid)
open Go.RowKit Go.Shelf
attribute [local go_sem] Oper.semAt_some
def plc (ds:List De) (t:Am):List (Tm × Int):=
 match findY t.rel ds with
 | none=>[]
 | some i=>match ds[i]? with
  | none=>[]
  | some d=>t.l.zip d.types
def plcs (ds:List De) (l:List Am):List (Tm × Int):=l.flatMap (plc ds)
def aggT (l:List Lt):List Tm:=l.flatMap fun t=>if duoB t then [] else [t.x,t.y]
def baseL (ds:List De) (r:Ru):List (Tm × Int):=plcs ds (atomsR r)++(nums (aggT r.body)++nums ((termsR r).flatMap fun t=>t.l))
end Go.Proofs.YtfmldnbcjbflbaaGreatDoor
namespace Go.Proofs.YtfmldnbcjbflbaaGreatDoor
open Lib(hid)
open Go.RowKit Go.Shelf Go.Maps Go.WideMaps
attribute [local go_sem] Oper.semAt_some
theorem results_cell2 {P:Program} {fn:Func} {p q:Tmp} {ty tz:TypeId} (h:fn.results=#[.cell p ty,.cell q tz]) (tmps:Array Value) (w:World) (b b2:Nat) (v v2:Value) (hp:tmps.getD p undef=.pointer (some ⟨b,0,none⟩)) (hr:(loadVar ty ⟨b,0,none⟩).run P w=.ok v w)
  (hq:tmps.getD q undef=.pointer (some ⟨b2,0,none⟩)) (hr2:(loadVar tz ⟨b2,0,none⟩).run P w=.ok v2 w) :
  (results fn tmps).run P w=.ok (.tuple #[v,v2]) w:=by
 have hp':tmps[p]?.getD undef=.pointer (some ⟨b,0,none⟩):=by simpa using hp
 have hq':tmps[q]?.getD undef=.pointer (some ⟨b2,0,none⟩):=by simpa using hq
 simp[results,h,hp',hq',asAddr,hr,hr2,Sem.run_bind,Result.andThen]
end Go.Proofs.YtfmldnbcjbflbaaGreatDoor
namespace Go.Proofs.YtfmldnbcjbflbaaGreatDoor
open Lib(hid)
open Go.RowKit Go.Shelf
attribute [local go_sem] Oper.semAt_some
def SV (M L:Nat) (W:World) (i:Nat):Prop:=i=M∨i=L∨∃ v,W.cell? ⟨L,0,none⟩=some v∧v.ownBlock=some i
theorem sv_cell {M L:Nat} {W W':World} (h:W'.cell? ⟨L,0,none⟩=W.cell? ⟨L,0,none⟩) (i:Nat) (hi:SV M L W' i):SV M L W i:=by
 rcases hi with h1 | h1 | ⟨v,h1,h2⟩
 ·exact .inl h1
 ·exact .inr (.inl h1)
 ·exact .inr (.inr ⟨v,h ▸ h1,h2⟩)
theorem sv_grow (M L:Nat):SGrow (SV M L):=fun W W' hw hb i hi=>by
 have hL:L < W.heap.size:=hw L (.inr (.inl rfl))
 exact sv_cell (World.cell?_of_block (hb.block L hL)) i hi
theorem sv_put {M L:Nat} (W:World) (l:Nat) (o o':Obj) (hl:L < l) (ho:W.heap[l]?=some o) (hc:o.isCells=false):KO (SV M L) W (W.putObj l o'):=by
 have hsz:(W.putObj l o').heap.size=W.heap.size:=by simp
 have hcell:(W.putObj l o').cell? ⟨L,0,none⟩=W.cell? ⟨L,0,none⟩:=World.cell?_of_block (World.putObj_heap_other (by show L≠l;omega))
 refine⟨by rw[hsz];exact Nat.le_refl _,fun i x hi hx _=>?_,fun i h=>.inl (sv_cell hcell i h),fun h i hi=>by rw[hsz];exact h i (sv_cell hcell i hi)⟩
 have hne:i≠l:=by rintro rfl;rw[ho] at hi;cases hi;rw[hc] at hx;cases hx
 exact (World.putObj_heap_other hne).trans hi
theorem sv_step {M L:Nat} {W W':World} {v v':Value} (hsz:W.heap.size≤W'.heap.size) (hb:∀ i,i < W.heap.size→i≠M→i≠L→some i≠v.ownBlock→W'.heap[i]?=W.heap[i]?) (hv:W.cell? ⟨L,0,none⟩=some v) (hv':W'.cell? ⟨L,0,none⟩=some v')
  (hown:v'.ownBlock=v.ownBlock∨∃ g,v'.ownBlock=some g∧W.heap.size≤g∧g < W'.heap.size):KO (SV M L) W W':=by
 have key:∀ i,SV M L W' i→SV M L W i∨(W.heap.size≤i∧i < W'.heap.size):=by
  rintro i (h1 | h1 | ⟨u,h1,h2⟩)
  ·exact .inl (.inl h1)
  ·exact .inl (.inr (.inl h1))
  ·rw[hv'] at h1
   cases h1
   rcases hown with h | ⟨g,h,g1,g2⟩
   ·exact .inl (.inr (.inr ⟨v,hv,h ▸ h2⟩))
   ·rw[h] at h2;cases h2;exact .inr ⟨g1,g2⟩
 refine⟨hsz,fun i o ho _ hs=>?_,fun i h=>(key i h).imp id (·.1),fun hw i hi=>?_⟩
 ·have hi:=(Array.getElem?_eq_some_iff.1 ho).1
  exact (hb i hi (fun e=>hs (.inl e)) (fun e=>hs (.inr (.inl e))) (fun e=>hs (.inr (.inr ⟨v,hv,e.symm⟩)))).trans ho
 ·rcases key i hi with h | h
  ·exact Nat.lt_of_lt_of_le (hw i h) hsz
  ·exact h.2
theorem mapI_block {P:Program} {w w':World} {kT eT:TypeId} {B n:Nat} {f:List UInt8→Int} {c:Nat} (h:MapI P w kT eT B n f c) (hb:w'.heap[B]?=w.heap[B]?):MapI P w' kT eT B n f c:=by
 obtain⟨D,⟨es,clock,h1,h2⟩,h3⟩:=h
 exact⟨D,⟨es,clock,hb.trans h1,h2⟩,h3⟩
def veil (b:Nat) (W:World):World:=W.putObj b (.map #[] 0)
theorem veil_cell {b:Nat} {W:World} {p:Addr} {c:Value} (h:(veil b W).cell? p=some c):p.block≠b∧W.cell? p=some c:=by
 by_cases e:p.block=b
 ·exfalso
  obtain⟨o,ho,hc⟩:=cells_of_cell h
  have hlt:b < W.heap.size:=by
   have:=(Array.getElem?_eq_some_iff.1 ho).1
   unfold veil at this
   simp at this
   omega
  unfold veil at ho
  rw[e,World.putObj_heap_same hlt] at ho
  cases ho
  cases hc
 ·exact⟨e,(World.cell?_of_block (World.putObj_heap_other e)).symm.trans h⟩
theorem cell_veil {b:Nat} {W:World} {p:Addr} {c:Value} (h:W.cell? p=some c) (e:p.block≠b):(veil b W).cell? p=some c:=(World.cell?_of_block (World.putObj_heap_other e)).trans h
def cntV:List Tm→List UInt8→Nat
 | [],_=>0
 | t::ts,s=>cntV ts s+(if t.op=1∧nm t=s then 1 else 0)
def stepV (ts:List Tm) (acc:List ByteArray) (t:Tm):List ByteArray:=if t.op=1∧cntV ts (nm t)=0 then acc++[t.s] else acc
def namesV:List Tm→List Tm→List ByteArray→List ByteArray
 | _,[],acc=>acc
 | past,t::ts,acc=>namesV (past++[t]) ts (stepV past acc t)
def varsV (ts:List Tm):List ByteArray:=namesV [] ts []
theorem namesV_snoc:∀ (ts past:List Tm) (acc:List ByteArray) (t:Tm),namesV past (ts++[t]) acc=stepV (past++ts) (namesV past ts acc) t
 | [],past,acc,t=>by simp[namesV]
 | u::ts,past,acc,t=>by
  show namesV (past++[u]) (ts++[t]) _=_
  rw[namesV_snoc ts]
  simp[namesV]
theorem varsV_snoc (ts:List Tm) (t:Tm):varsV (ts++[t])=stepV ts (varsV ts) t:=by
 unfold varsV
 rw[namesV_snoc]
 simp
theorem varsV_len (ts:List Tm):(varsV ts).length≤ts.length:=by
 have key:∀ (ts past:List Tm) (acc:List ByteArray),(namesV past ts acc).length≤acc.length+ts.length:=by
  intro ts
  induction ts with
  | nil=>intro past acc;simp[namesV]
  | cons t ts ih=>
   intro past acc
   refine Nat.le_trans (ih _ _) ?_
   unfold stepV
   split <;> simp <;> omega
 have:=key ts [] []
 simpa[varsV] using this
end Go.Proofs.YtfmldnbcjbflbaaGreatDoor
namespace Go.Proofs.YtfmldnbcjbflbaaGreatDoor
open Lib(hid)
open Go.RowKit
theorem sub_mem {u:Tm}:∀ {l:List Tm},u ∈ l→u ∈ subTs l
 | t::l,h=>by
  unfold subTs
  rcases List.mem_cons.1 h with rfl | h
  ·exact List.mem_append_left _ (by rw[subT_eq];exact List.mem_cons_self ..)
  ·exact List.mem_append_right _ (sub_mem h)
mutual
theorem subT_child (u:Tm):∀ (t s:Tm),s ∈ subT t→u ∈ s.l→u ∈ subT t
 | .mk o b n l,s,hs,hu=>by
  unfold subT at hs ⊢
  rcases List.mem_cons.1 hs with rfl | hs
  ·exact List.mem_cons_of_mem _ (sub_mem hu)
  ·exact List.mem_cons_of_mem _ (subTs_child u l s hs hu)
theorem subTs_child (u:Tm):∀ (l:List Tm) (s:Tm),s ∈ subTs l→u ∈ s.l→u ∈ subTs l
 | [],s,hs,_=>by unfold subTs at hs;cases hs
 | t::l,s,hs,hu=>by
  unfold subTs at hs ⊢
  rcases List.mem_append.1 hs with hs | hs
  ·exact List.mem_append_left _ (subT_child u t s hs hu)
  ·exact List.mem_append_right _ (subTs_child u l s hs hu)
end
theorem lit_terms {r:Ru} {l:Lt} (h:l ∈ r.body) {u:Tm} (hu:u ∈ litTs l):u ∈ termsR r:=List.mem_append_right _ (List.mem_flatMap.2 ⟨l,h,hu⟩)
theorem terms_child {r:Ru} {t u:Tm} (ht:t ∈ termsR r) (hu:u ∈ t.l):u ∈ termsR r:=by
 rcases List.mem_append.1 ht with ht | ht
 ·exact List.mem_append_left _ (subTs_child u _ t ht hu)
 ·obtain⟨l,hl,ht⟩:=List.mem_flatMap.1 ht
  refine lit_terms hl ?_
  unfold litTs at ht ⊢
  rcases List.mem_append.1 ht with ht | ht
  ·exact List.mem_append_left _ (subTs_child u _ t ht hu)
  ·exact List.mem_append_right _ (subTs_child u _ t ht hu)
theorem terms_xy {r:Ru} {l:Lt} (h:l ∈ r.body):l.x ∈ termsR r∧l.y ∈ termsR r:=
 ⟨lit_terms h (List.mem_append_left _ (sub_mem (List.mem_cons_self ..))),lit_terms h (List.mem_append_left _ (sub_mem (List.mem_cons_of_mem _ (List.mem_cons_self ..))))⟩
end Go.Proofs.YtfmldnbcjbflbaaGreatDoor
namespace Go.Proofs.YtfmldnbcjbflbaaGreatDoor
open Lib(hid)
open Go.RowKit
theorem cntV_zero {ts:List Tm} {s:List UInt8}:cntV ts s=0 ↔ ∀ t ∈ ts,t.op=1→nm t≠s:=by
 induction ts with
 | nil=>simp[cntV]
 | cons t ts ih=>
  unfold cntV
  by_cases h:t.op=1∧nm t=s
  ·rw[if_pos h]
   exact⟨fun e=>by omega,fun e=>absurd h.2 (e t (List.mem_cons_self ..) h.1)⟩
  ·rw[if_neg h,Nat.add_zero,ih]
   refine⟨fun e x hx h1=>?_,fun e x hx=>e x (List.mem_cons_of_mem _ hx)⟩
   rcases List.mem_cons.1 hx with rfl | hx
   ·exact fun h2=>h ⟨h1,h2⟩
   ·exact e x hx h1
theorem bytes_ext {s t:ByteArray} (h:s.data.toList=t.data.toList):s=t:=by
 cases s;cases t;congr 1;exact Array.toList_inj.1 h
theorem rev_ind {α:Type} {P:List α→Prop} (h0:P []) (h1:∀ l x,P l→P (l++[x])) (l:List α):P l:=by
 have:∀ m:List α,P m.reverse:=by
  intro m
  induction m with
  | nil=>exact h0
  | cons x m ih=>rw[List.reverse_cons];exact h1 _ _ ih
 rw[← List.reverse_reverse l]
 exact this _
theorem mem_varsV (ts:List Tm):∀ s:ByteArray,s ∈ varsV ts ↔ ∃ t ∈ ts,t.op=1∧t.s=s:=by
 refine rev_ind (P:=fun ts=>∀ s:ByteArray,s ∈ varsV ts ↔ ∃ t ∈ ts,t.op=1∧t.s=s) (fun s=>?_) (fun l t ih s=>?_) ts
 ·exact⟨fun h=>(by cases h),fun ⟨t,h,_⟩=>by cases h⟩
 ·rw[varsV_snoc]
  unfold stepV
  by_cases h:t.op=1∧cntV l (nm t)=0
  ·rw[if_pos h,List.mem_append,ih,List.mem_singleton]
   refine⟨?_,?_⟩
   ·rintro (⟨u,h1,h2⟩ | rfl)
    ·exact⟨u,List.mem_append_left _ h1,h2⟩
    ·exact⟨t,List.mem_append_right _ (List.mem_cons_self ..),h.1,rfl⟩
   ·rintro⟨u,h1,h2,h3⟩
    rcases List.mem_append.1 h1 with h1 | h1
    ·exact .inl ⟨u,h1,h2,h3⟩
    ·rw[List.mem_singleton.1 h1] at h3;exact .inr h3.symm
  ·rw[if_neg h,ih]
   refine⟨fun ⟨u,h1,h2⟩=>⟨u,List.mem_append_left _ h1,h2⟩,?_⟩
   rintro⟨u,h1,h2,h3⟩
   rcases List.mem_append.1 h1 with h1 | h1
   ·exact⟨u,h1,h2,h3⟩
   ·have e:=List.mem_singleton.1 h1
    subst e
    have hc:¬ cntV l (nm u)=0:=fun hz=>h ⟨h2,hz⟩
    rw[cntV_zero] at hc
    have:∃ x ∈ l,x.op=1∧nm x=nm u:=by
     refine Classical.byContradiction fun hn=>hc fun x hx h1 h2=>hn ⟨x,hx,h1,h2⟩
    obtain⟨x,hx,x1,x2⟩:=this
    exact⟨x,hx,x1,(bytes_ext x2).trans h3⟩
structure Sub (r r':Ru):Prop where
 head:r.head=r'.head
 body:∀ l ∈ r.body,l ∈ r'.body
theorem mem_atomsL {t:Am} {l:List Lt}:t ∈ atomsL l ↔ ∃ x ∈ l,duoB x=false∧x.a=t:=by
 induction l with
 | nil=>exact⟨fun h=>(by cases h),fun ⟨_,h,_⟩=>by cases h⟩
 | cons y l ih=>
  unfold atomsL
  cases hd:duoB y with
  | true=>
   simp only[if_true]
   rw[ih]
   refine⟨fun ⟨x,h1,h2⟩=>⟨x,List.mem_cons_of_mem _ h1,h2⟩,fun ⟨x,h1,h2,h3⟩=>?_⟩
   rcases List.mem_cons.1 h1 with rfl | h1
   ·rw[hd] at h2;cases h2
   ·exact⟨x,h1,h2,h3⟩
  | false=>
   simp only[Bool.false_eq_true,if_false]
   rw[List.mem_cons,ih]
   refine⟨?_,fun ⟨x,h1,h2,h3⟩=>?_⟩
   ·rintro (rfl | ⟨x,h1,h2⟩)
    ·exact⟨y,List.mem_cons_self ..,hd,rfl⟩
    ·exact⟨x,List.mem_cons_of_mem _ h1,h2⟩
   ·rcases List.mem_cons.1 h1 with rfl | h1
    ·exact .inl h3.symm
    ·exact .inr ⟨x,h1,h2,h3⟩
theorem mem_prsL {p:Tm × Tm} {l:List Lt}:p ∈ prsL l ↔ ∃ x ∈ l,duoB x=true∧(x.x,x.y)=p:=by
 induction l with
 | nil=>exact⟨fun h=>(by cases h),fun ⟨_,h,_⟩=>by cases h⟩
 | cons y l ih=>
  unfold prsL
  cases hd:duoB y with
  | false=>
   simp only[Bool.false_eq_true,if_false]
   rw[ih]
   refine⟨fun ⟨x,h1,h2⟩=>⟨x,List.mem_cons_of_mem _ h1,h2⟩,fun ⟨x,h1,h2,h3⟩=>?_⟩
   rcases List.mem_cons.1 h1 with rfl | h1
   ·rw[hd] at h2;cases h2
   ·exact⟨x,h1,h2,h3⟩
  | true=>
   simp only[if_true]
   rw[List.mem_cons,ih]
   refine⟨?_,fun ⟨x,h1,h2,h3⟩=>?_⟩
   ·rintro (rfl | ⟨x,h1,h2⟩)
    ·exact⟨y,List.mem_cons_self ..,hd,rfl⟩
    ·exact⟨x,List.mem_cons_of_mem _ h1,h2⟩
   ·rcases List.mem_cons.1 h1 with rfl | h1
    ·exact .inl h3.symm
    ·exact .inr ⟨x,h1,h2,h3⟩
theorem Sub.atoms {r r':Ru} (h:Sub r r'):∀ t ∈ atomsR r,t ∈ atomsR r':=fun t ht=>by
 rcases List.mem_cons.1 ht with rfl | ht
 ·rw[h.head];exact List.mem_cons_self ..
 ·obtain⟨x,h1,h2⟩:=mem_atomsL.1 ht
  exact List.mem_cons_of_mem _ (mem_atomsL.2 ⟨x,h.body x h1,h2⟩)
theorem Sub.prs {r r':Ru} (h:Sub r r'):∀ t ∈ prsL r.body,t ∈ prsL r'.body:=fun t ht=>by
 obtain⟨x,h1,h2⟩:=mem_prsL.1 ht
 exact mem_prsL.2 ⟨x,h.body x h1,h2⟩
theorem Sub.terms {r r':Ru} (h:Sub r r'):∀ t ∈ termsR r,t ∈ termsR r':=fun t ht=>by
 rcases List.mem_append.1 ht with ht | ht
 ·rw[h.head] at ht;exact List.mem_append_left _ ht
 ·obtain⟨l,h1,h2⟩:=List.mem_flatMap.1 ht
  exact List.mem_append_right _ (List.mem_flatMap.2 ⟨l,h.body l h1,h2⟩)
theorem mem_nums {l m:List Tm} (h:∀ t ∈ l,t ∈ m):∀ x ∈ nums l,x ∈ nums m:=fun x hx=>by
 unfold nums at hx ⊢
 obtain⟨t,h1,h2⟩:=List.mem_map.1 hx
 exact List.mem_map.2 ⟨t,h t h1,h2⟩
theorem Sub.base {r r':Ru} (h:Sub r r') (ds:List De):∀ t ∈ baseL ds r,t ∈ baseL ds r':=fun t ht=>by
 unfold baseL at ht ⊢
 rcases List.mem_append.1 ht with ht | ht
 ·obtain⟨a,h1,h2⟩:=List.mem_flatMap.1 ht
  exact List.mem_append_left _ (List.mem_flatMap.2 ⟨a,h.atoms a h1,h2⟩)
 ·refine List.mem_append_right _ ?_
  rcases List.mem_append.1 ht with ht | ht
  ·refine List.mem_append_left _ (mem_nums (fun u hu=>?_) t ht)
   obtain⟨l,h1,h2⟩:=List.mem_flatMap.1 hu
   exact List.mem_flatMap.2 ⟨l,h.body l h1,h2⟩
  ·refine List.mem_append_right _ (mem_nums (fun u hu=>?_) t ht)
   obtain⟨l,h1,h2⟩:=List.mem_flatMap.1 hu
   exact List.mem_flatMap.2 ⟨l,h.terms l h1,h2⟩
abbrev DerR (ds:List De) (r:Ru):List UInt8→Int→Prop:=Der (baseL ds r) (prsL r.body)
def Fits (ds:List De) (r:Ru):Prop:=NoConf (baseL ds r) (prsL r.body)∧∀ t ∈ termsR r,t.op=1→∃ k,k≠0∧DerR ds r (nm t) k
def atE:Nat→Int
 | 0=>0
 | 1=>51
 | _=>52
theorem atE_ne {n:Nat} (h:n≠0):atE n=51∨atE n=52:=by
 cases n with
 | zero=>exact absurd rfl h
 | succ n=>cases n with
  | zero=>exact .inl rfl
  | succ n=>exact .inr rfl
inductive TyA (ds:List De) (r:Ru):List Int→Int→Prop
 | tree:rightP ⟨ds,[r]⟩=false→TyA ds r [] 30
 | atom:rightP ⟨ds,[r]⟩=true→chkA ds (atomsR r)≠0→TyA ds r [] (atE (chkA ds (atomsR r)))
 | none:rightP ⟨ds,[r]⟩=true→chkA ds (atomsR r)=0→¬ Fits ds r→TyA ds r [] 53
 | some {K:Kn}:rightP ⟨ds,[r]⟩=true→chkA ds (atomsR r)=0→Fits ds r→(∀ s k,k≠0→(look K s=k ↔ DerR ds r s k))→(∀ s,look K s=0∨look K s=1∨look K s=2)→TyA ds r ((varsV (termsR r)).map fun s=>look K s.data.toList) 0
theorem TyA.len {ds:List De} {r:Ru} {l:List Int} (h:TyA ds r l 0):l.length=(varsV (termsR r)).length:=by
 generalize he:(0:Int)=e at h
 cases h with
 | tree h=>cases he
 | atom h1 h2=>rcases atE_ne h2 with h | h <;> rw[h] at he <;> cases he
 | none h1 h2 h3=>cases he
 | some h1 h2 h3 h4 h5=>simp
theorem TyA.nil {ds:List De} {r:Ru} {l:List Int} {e:Int} (h:TyA ds r l e) (he:e≠0):l=[]:=by
 cases h with
 | tree h=>rfl
 | atom h1 h2=>rfl
 | none h1 h2 h3=>rfl
 | some h1 h2 h3 h4 h5=>exact absurd rfl he
def placeV (l:List ByteArray) (s:ByteArray):Int:=
 match l.findIdx? fun x=>x.toList == s.toList with
 | none => -1
 | some i=>i
def typedV (vars:List ByteArray) (types:List Int) (s:ByteArray):Int:=if placeV vars s < 0∨(types.length:Int)≤placeV vars s then 0 else types.getD (placeV vars s).toNat 0
theorem place_mem {l:List ByteArray} {s:ByteArray} (h:s ∈ l):∃ i:Nat,placeV l s=i∧l[i]?=some s:=by
 unfold placeV
 cases hf:l.findIdx? fun x=>x.toList == s.toList with
 | none=>
  rw[List.findIdx?_eq_none_iff] at hf
  have:=hf s h
  simp at this
 | some i=>
  obtain⟨hi,h1,_⟩:=List.findIdx?_eq_some_iff_getElem.1 hf
  refine⟨i,rfl,?_⟩
  rw[List.getElem?_eq_getElem hi]
  congr 1
  have h1:l[i].toList=s.toList:=by simpa using h1
  rw[ByteArray.toList_eq,ByteArray.toList_eq] at h1
  exact bytes_ext h1
theorem Fits.of {ds:List De} {r r':Ru} (h:Sub r r') (k:Sub r' r) (hf:Fits ds r'):Fits ds r:=
 ⟨hf.1.sub (h.base ds) h.prs,fun t ht hv=>by
  obtain⟨n,h1,h2⟩:=hf.2 t (h.terms t ht) hv
  exact⟨n,h1,h2.sub (k.base ds) k.prs⟩⟩
end Go.Proofs.YtfmldnbcjbflbaaGreatDoor
namespace Go.Proofs.YtfmldnbcjbflbaaGreatDoor
open Lib(hid)
open Go.RowKit
end Go.Proofs.YtfmldnbcjbflbaaGreatDoor
namespace Go.Proofs.YtfmldnbcjbflbaaGreatDoor
open Lib(hid)
def withV (l:List ByteArray):List ByteArray→List ByteArray
 | []=>l
 | s::m=>withV (if placeV l s < 0 then l++[s] else l) m
theorem place_neg {l:List ByteArray} {s:ByteArray}:placeV l s < 0 ↔ s ∉ l:=by
 constructor
 ·intro h hm
  obtain⟨i,h1,_⟩:=place_mem hm
  omega
 ·intro h
  unfold placeV
  have:l.findIdx? (fun x=>x.toList == s.toList)=none:=by
   rw[List.findIdx?_eq_none_iff]
   intro x hx
   by_cases e:x.toList=s.toList
   ·rw[ByteArray.toList_eq,ByteArray.toList_eq] at e
    exact absurd (bytes_ext e ▸ hx) h
   ·simpa using e
  rw[this]
  decide
theorem withV_snoc (l m:List ByteArray) (s:ByteArray):withV l (m++[s])=if placeV (withV l m) s < 0 then withV l m++[s] else withV l m:=by
 induction m generalizing l with
 | nil=>rfl
 | cons x m ih=>exact ih _
theorem withV_take {l m:List ByteArray} {k:Nat} {s:ByteArray} (h:m[k]?=some s):withV l (m.take (k+1))=if placeV (withV l (m.take k)) s < 0 then withV l (m.take k)++[s] else withV l (m.take k):=by
 rw[List.take_succ_eq_append_getElem (List.getElem?_eq_some_iff.1 h).1,(List.getElem?_eq_some_iff.1 h).2,withV_snoc]
theorem withV_mem (l m:List ByteArray):∀ s,s ∈ withV l m ↔ s ∈ l∨s ∈ m:=by
 refine rev_ind (P:=fun m=>∀ s,s ∈ withV l m ↔ s ∈ l∨s ∈ m) (fun s=>by simp[withV]) (fun m x ih s=>?_) m
 rw[withV_snoc]
 split
 ·rw[List.mem_append,ih,List.mem_append]
  exact or_assoc
 ·rename_i h
  have hx:x ∈ withV l m:=Classical.not_not.1 fun hn=>h (place_neg.2 hn)
  rw[ih,List.mem_append]
  constructor
  ·rintro (h | h)
   ·exact .inl h
   ·exact .inr (.inl h)
  ·rintro (h' | h' | h')
   ·exact .inl h'
   ·exact .inr h'
   ·rw[show s=x by simpa using h'];exact (ih x).1 hx
theorem withV_len (l m:List ByteArray):(withV l m).length≤l.length+m.length:=by
 induction m generalizing l with
 | nil=>simp[withV]
 | cons s m ih=>
  have:=ih (if placeV l s < 0 then l++[s] else l)
  show (withV (if placeV l s < 0 then l++[s] else l) m).length≤_
  split at this
  ·rename_i h;rw[if_pos h];simp at this ⊢;omega
  ·rename_i h;rw[if_neg h];simp at this ⊢;omega
theorem stepV_mem (ts:List Tm) (t:Tm):stepV ts (varsV ts) t=if t.op=1 then (if placeV (varsV ts) t.s < 0 then varsV ts++[t.s] else varsV ts) else varsV ts:=by
 unfold stepV
 by_cases h1:t.op=1
 ·rw[if_pos h1]
  have hc:cntV ts (nm t)=0 ↔ t.s ∉ varsV ts:=by
   rw[cntV_zero,mem_varsV]
   constructor
   ·rintro h ⟨u,h2,h3,h4⟩
    exact h u h2 h3 (by unfold nm;rw[h4])
   ·intro h u h2 h3 h4
    exact h ⟨u,h2,h3,bytes_ext h4⟩
  by_cases h2:placeV (varsV ts) t.s < 0
  ·rw[if_pos h2,if_pos ⟨h1,hc.2 (place_neg.1 h2)⟩]
  ·rw[if_neg h2,if_neg (fun e=>h2 (place_neg.2 (hc.1 e.2)))]
 ·rw[if_neg h1,if_neg (fun e=>h1 e.1)]
theorem varsV_app (a b:List Tm):varsV (a++b)=withV (varsV a) (varsV b):=by
 refine rev_ind (P:=fun b=>varsV (a++b)=withV (varsV a) (varsV b)) (by rw[List.append_nil];rfl) (fun b t ih=>?_) b
 rw[← List.append_assoc,varsV_snoc,varsV_snoc,stepV_mem,stepV_mem,ih]
 by_cases h1:t.op=1
 ·rw[if_pos h1,if_pos h1]
  by_cases h2:placeV (varsV b) t.s < 0
  ·rw[if_pos h2,withV_snoc]
  ·have hm:t.s ∈ varsV b:=Classical.not_not.1 fun hn=>h2 (place_neg.2 hn)
   rw[if_neg h2,if_neg (fun e=>place_neg.1 e ((withV_mem _ _ _).2 (.inr hm)))]
 ·rw[if_neg h1,if_neg h1]
def zerosL (ts:List Int):Nat:=ts.countP (· == 0)
def SndT (J:ByteArray→Int→Prop) (vs:List ByteArray) (ts:List Int):Prop:=∀ (i:Nat) (s:ByteArray) (v:Int),vs[i]?=some s→ts[i]?=some v→v≠0→J s v
structure Lrn (J:ByteArray→Int→Prop) (vs:List ByteArray) (N:List Int→Prop) (ts ts':List Int) (more:Bool):Prop where
 len:ts'.length=ts.length
 snd:SndT J vs ts→SndT J vs ts'
 less:more=true→zerosL ts' < zerosL ts
 still:more=false→ts'=ts∧N ts
theorem Lrn.mono {J:ByteArray→Int→Prop} {vs:List ByteArray} {N M:List Int→Prop} {ts a:List Int} {m:Bool} (h:Lrn J vs N ts a m) (hN:N ts→M ts):Lrn J vs M ts a m:=
 ⟨h.len,h.snd,h.less,fun e=>⟨(h.still e).1,hN (h.still e).2⟩⟩
theorem zeros_set:∀ {ts:List Int} {i:Nat} {k:Int},ts[i]?=some 0→k≠0→zerosL (ts.set i k) < zerosL ts
 | [],i,k,h,_=>by simp at h
 | x::ts,0,k,h,hk=>by
  have hx:x=0:=by simpa using h
  subst hx
  show (k::ts).countP (· == 0) < ((0:Int)::ts).countP (· == 0)
  rw[List.countP_cons_of_neg (by simpa using hk),List.countP_cons_of_pos (by rfl)]
  exact Nat.lt_succ_self _
 | x::ts,i+1,k,h,hk=>by
  have:=zeros_set (ts:=ts) (i:=i) (by simpa using h) hk
  unfold zerosL at this
  show (x::ts.set i k).countP (· == 0) < (x::ts).countP (· == 0)
  rw[List.countP_cons,List.countP_cons]
  omega
theorem Lrn.set {J:ByteArray→Int→Prop} {vs:List ByteArray} {N:List Int→Prop} {ts:List Int} {i:Nat} {s:ByteArray} {k:Int} (hs:vs[i]?=some s) (h0:ts[i]?=some 0) (hk:k≠0) (hJ:J s k):Lrn J vs N ts (ts.set i k) true:=by
 refine⟨List.length_set,fun h j u v h1 h2 h3=>?_,fun _=>zeros_set h0 hk,fun e=>(by cases e)⟩
 rw[List.getElem?_set] at h2
 split at h2
 ·rename_i e
  subst e
  split at h2
  ·rw[hs] at h1
   cases h1;cases h2;exact hJ
  ·cases h2
 ·exact h j u v h1 h2 h3
mutual
def fitsR (vs:List ByteArray) (ts:List Int):Tm→Int→Bool
 | .mk o s _ l,k=>if o=1 then typedV vs ts s == k else if o=2 then k == 1 else if o=3 then k == 2 else if o=4 then true else k == 1 && fitsRs vs ts l
def fitsRs (vs:List ByteArray) (ts:List Int):List Tm→Bool
 | []=>true
 | t::l=>fitsR vs ts t 1 && fitsRs vs ts l
end
theorem mem_subTs {u:Tm}:∀ {l:List Tm},u ∈ subTs l ↔ ∃ t ∈ l,u ∈ subT t
 | []=>by simp[subTs]
 | t::l=>by
  rw[subTs,List.mem_append,mem_subTs (l:=l)]
  simp
theorem mem_subT {u t:Tm}:u ∈ subT t ↔ u=t∨u ∈ subTs t.l:=by rw[subT_eq,List.mem_cons]
theorem mem_self {t:Tm}:t ∈ subT t:=mem_subT.2 (.inl rfl)
theorem size_part {t c:Tm} (h:c ∈ t.l):SizeOf.sizeOf c < SizeOf.sizeOf t:=by
 obtain⟨o,s,n,l⟩:=t
 have h1:SizeOf.sizeOf c < SizeOf.sizeOf l:=List.sizeOf_lt_of_mem h
 simp only[Tm.mk.sizeOf_spec]
 omega
def aggB (l:Lt):Bool:=!(duoB l) && !(l.op == 1) && !(l.op == 2)
theorem noT_op {t:Tm} (h:noT t=true):t.op=0∧t.l=[]:=by
 unfold noT at h
 simp only[Bool.and_eq_true,beq_iff_eq,List.isEmpty_iff] at h
 exact⟨h.1.1.1,h.2⟩
theorem noA_l {a:Am} (h:noA a=true):a.l=[]:=by
 unfold noA at h
 simp only[Bool.and_eq_true,List.isEmpty_iff] at h
 exact h.2
theorem duo_op {l:Lt} (h:duoB l=true):3≤l.op∧l.op≤6:=by
 unfold duoB at h
 simp only[Bool.or_eq_true,beq_iff_eq] at h
 omega
theorem duo_no {l:Lt} (h:duoB l=false):¬ (3≤l.op∧l.op≤6):=by
 unfold duoB at h
 simp only[Bool.or_eq_false_iff,beq_eq_false_iff_ne] at h
 omega
theorem right_duo {l:Lt} (h:rightL l=true) (hd:duoB l=true):noA l.a=true∧rightT 20 l.x=true∧rightT 20 l.y=true:=by
 have:=duo_op hd
 unfold rightL at h
 rw[if_neg (by omega),if_pos this] at h
 simp only[Bool.and_eq_true] at h
 exact⟨h.1.1.1.1,h.1.1.1.2,h.1.1.2⟩
theorem right_plain {l:Lt} (h:rightL l=true) (hd:l.op=1∨l.op=2):rightA l.a=true∧noT l.x=true∧noT l.y=true:=by
 unfold rightL at h
 rw[if_pos hd] at h
 simp only[Bool.and_eq_true] at h
 exact⟨h.1.1,h.1.2,h.2⟩
theorem right_agg {l:Lt} (h:rightL l=true) (hd:aggB l=true):rightA l.a=true∧rightT 20 l.x=true∧((l.op=7∧noT l.y=true)∨(8≤l.op∧l.op≤10∧rightT 20 l.y=true)):=by
 unfold aggB at hd
 simp only[Bool.and_eq_true,Bool.not_eq_true',beq_eq_false_iff_ne] at hd
 have h3:=duo_no hd.1.1
 unfold rightL at h
 rw[if_neg (by omega),if_neg h3] at h
 by_cases h7:l.op=7
 ·rw[if_pos h7] at h
  simp only[Bool.and_eq_true] at h
  exact⟨h.1.1.1,h.1.1.2,.inl ⟨h7,h.2⟩⟩
 ·rw[if_neg h7] at h
  by_cases h8:8≤l.op∧l.op≤10
  ·rw[if_pos h8] at h
   simp only[Bool.and_eq_true] at h
   exact⟨h.1.1.1.1,h.1.1.1.2,.inr ⟨h8.1,h8.2,h.1.2⟩⟩
  ·rw[if_neg h8] at h;cases h
theorem twoB_op {o:Int} (h:twoB o=true):o=5∨o=6∨o=7:=by
 unfold twoB at h
 simp only[Bool.or_eq_true,beq_iff_eq] at h
 omega
theorem leaf_l {t:Tm} (h:leafB t=true):t.l=[]∧(t.op=1∨t.op=2∨t.op=3∨t.op=4):=by
 unfold leafB at h
 by_cases h1:t.op=1
 ·rw[if_pos h1] at h;simp only[Bool.and_eq_true,List.isEmpty_iff] at h;exact⟨h.2,.inl h1⟩
 rw[if_neg h1] at h
 by_cases h2:t.op=2
 ·rw[if_pos h2] at h;simp only[Bool.and_eq_true,List.isEmpty_iff] at h;exact⟨h.2,.inr (.inl h2)⟩
 rw[if_neg h2] at h
 by_cases h3:t.op=3
 ·rw[if_pos h3] at h;simp only[Bool.and_eq_true,List.isEmpty_iff] at h;exact⟨h.2,.inr (.inr (.inl h3))⟩
 rw[if_neg h3] at h
 by_cases h4:t.op=4
 ·rw[if_pos h4] at h;simp only[Bool.and_eq_true,List.isEmpty_iff] at h;exact⟨h.2,.inr (.inr (.inr h4))⟩
 rw[if_neg h4] at h;cases h
theorem rightT_cases {h:Nat} {t:Tm} (hr:rightT (h+1) t=true):(twoB t.op=true∧∃ a b,t.l=[a,b]∧rightT h a=true∧rightT h b=true)∨(twoB t.op=false∧t.l=[]∧(t.op=1∨t.op=2∨t.op=3∨t.op=4)):=by
 unfold rightT at hr
 cases ht:twoB t.op with
 | true=>
  rw[ht,if_pos rfl] at hr
  simp only[Bool.and_eq_true] at hr
  refine .inl ⟨rfl,?_⟩
  obtain⟨o,s,n,l⟩:=t
  match l,hr with
  | [a,b],hr=>
   have hr:(recB a && rightT h a && (recB b && rightT h b))=true:=hr.2
   simp only[Bool.and_eq_true] at hr
   exact⟨a,b,rfl,hr.1.2,hr.2.2⟩
  | [],hr=>exact absurd hr.2 (by simp)
  | [a],hr=>exact absurd hr.2 (by simp)
  | a::b::c::l,hr=>exact absurd hr.2 (by simp)
 | false=>
  rw[ht,if_neg (by decide)] at hr
  exact .inr ⟨rfl,leaf_l hr⟩
theorem right_lits {r:Ru} (hr:rightR r=true):∀ l ∈ r.body,rightL l=true:=by
 unfold rightR at hr
 simp only[Bool.and_eq_true,List.all_eq_true] at hr
 exact hr.2
theorem agg_or {l:Lt} (hd:duoB l=false):(l.op=1∨l.op=2)∨aggB l=true:=by
 by_cases h1:l.op=1∨l.op=2
 ·exact .inl h1
 ·refine .inr ?_
  unfold aggB
  rw[hd]
  simp only[Bool.not_false,Bool.true_and,Bool.and_eq_true,Bool.not_eq_true',beq_eq_false_iff_ne]
  omega
theorem right_atoms {r:Ru} (hr:rightR r=true):∀ a ∈ atomsR r,rightA a=true:=fun a ha=>by
 rcases List.mem_cons.1 ha with rfl | ha
 ·unfold rightR at hr
  simp only[Bool.and_eq_true] at hr
  exact hr.1.1.1
 ·obtain⟨l,hl,hd,rfl⟩:=mem_atomsL.1 ha
  rcases agg_or hd with h | h
  ·exact (right_plain (right_lits hr l hl) h).1
  ·exact (right_agg (right_lits hr l hl) h).1
theorem right_arg {a:Am} (h:rightA a=true):∀ t ∈ a.l,rightT 20 t=true:=by
 unfold rightA at h
 simp only[Bool.and_eq_true,List.all_eq_true] at h
 exact h.2
end Go.Proofs.YtfmldnbcjbflbaaGreatDoor
namespace Go.Proofs.YtfmldnbcjbflbaaGreatDoor
open Lib(hid)
open Go.RowKit
def memB (l:List ByteArray) (s:ByteArray):Bool:=l.any fun x=>s.toList == x.toList
theorem memB_no {l:List ByteArray} {s:ByteArray} (h:∀ x ∈ l,(s.toList == x.toList)=false):memB l s=false:=by
 unfold memB
 rw[List.any_eq_false]
 exact fun x hx=>by rw[h x hx];decide
theorem memB_yes {l:List ByteArray} {s x:ByteArray} (hx:x ∈ l) (h:(s.toList == x.toList)=true):memB l s=true:=by
 unfold memB
 rw[List.any_eq_true]
 exact⟨x,hx,h⟩
set_option maxRecDepth 100000 in
set_option maxHeartbeats 4000000 in
theorem index_c (l:List ByteArray) (s:ByteArray) (v:Value) (w:World) (hv:SlOf w w.heap.size 1 StrC l v) :
  Calls Tryz.prog 148 #[v,.string s] w fun e w'=>(∃ k:Int,e=.returned (.int .i64 k)∧(0≤k ↔ memB l s=true))∧w'=w:=by
 obtain⟨o1,k1,rfl,_,hk1,S1⟩:=SlOf.open hv
 have hB0:Below w.heap.size w w:=Below.refl _ _
 clear hv
 go_enter Tryz.func148,Tryz.ntmps148
 go_wp2
 go_loopw [8] (fun i wr=>∃ k:Nat,k≤l.length∧i=.int .i64 k∧(∀ x ∈ l.take k,(s.toList == x.toList)=false)∧wr=w) (fun i _=>l.length - (intOf i).toNat)
 case atStart=>exact⟨0,Nat.zero_le _,rfl,fun x h=>by simp at h,rfl⟩
 case round=>
  obtain⟨k,hk,rfl,ha,rfl⟩:=hrel
  have Ha:=hid ha
  clear ha
  by_cases hlt:k < l.length
  ·have hlt':(k:Int) < (l.length:Int):=by omega
   have hk0:(0:Int)≤(k:Int):=by omega
   obtain⟨x,hx⟩:∃ x,l[k]?=some x:=⟨l[k],List.getElem?_eq_getElem hlt⟩
   obtain⟨p,rfl,hp,hsz,c0⟩:=str_at S1 hB0 hx
   cases hxy:(s.toList == x.toList) with
   | true=>
    have Hq:Hid (memB l s=true):=hid (memB_yes (List.mem_of_getElem? hx) hxy)
    clear hx
    go_wp2
    go_ret
    exact⟨⟨_,rfl,⟨fun _=>Hq.out,fun _=>hk0⟩⟩,rfl⟩
   | false=>
    have Hz:Hid (∀ y ∈ l.take (k+1),(s.toList == y.toList)=false):=hid fun y hy=>by
     rw[List.take_add_one,hx] at hy
     rcases List.mem_append.1 hy with hy | hy
     ·exact Ha.out y hy
     ·obtain rfl:y=x:=by simpa using hy
      exact hxy
    clear hx
    go_wp2
    go_roundw
    case rel=>exact⟨k+1,hlt,by go_num,Hz.out,by trivial⟩
    case measure=>simp[intOf];omega
  ·have hlt':¬ (k:Int) < (l.length:Int):=by omega
   have Hq:Hid (memB l s=false):=hid (by have h:=Ha.out;rw[List.take_of_length_le (by omega)] at h;exact memB_no h)
   go_wp2
   go_ret
   exact⟨⟨_,rfl,⟨fun h=>absurd h (by decide),fun h=>by rw[Hq.out] at h;cases h⟩⟩,rfl⟩
set_option maxRecDepth 100000 in
set_option maxHeartbeats 4000000 in
theorem contains_c (l:List ByteArray) (s:ByteArray) (v:Value) (w:World) (hv:SlOf w w.heap.size 1 StrC l v) :
  Calls Tryz.prog 136 #[v,.string s] w fun e w'=>e=.returned (.bool (memB l s))∧w'=w:=by
 have HI:=hid (index_c l s v w hv)
 go_enter Tryz.func136,Tryz.ntmps136
 go_wp2_with fail
 refine HI.out.mono ?_
 rintro e w1 ⟨⟨k,rfl,hk⟩,rfl⟩
 by_cases h0:(0:Int)≤k
 ·have Hq:=hid (hk.1 h0)
  have h0':decide ((0:Int)≤k)=true:=by simp[h0]
  clear hk
  go_wp2
  go_ret
  exact⟨by rw[Hq.out];rfl,rfl⟩
 ·have Hq:Hid (memB l s=false):=hid (Bool.eq_false_iff.2 fun h=>h0 (hk.2 h))
  have h0':decide ((0:Int)≤k)=false:=by simp[h0]
  clear hk
  go_wp2
  go_ret
  exact⟨by rw[Hq.out];rfl,rfl⟩
end Go.Proofs.YtfmldnbcjbflbaaGreatDoor

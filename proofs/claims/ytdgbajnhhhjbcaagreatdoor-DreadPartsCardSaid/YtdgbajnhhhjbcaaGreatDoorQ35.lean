/- Rf@012, Rl0@012, Rl1@012, Rla@012 -/
import Derived.Deep.AppendLies
import Derived.OneCell
import Derived.Test.YtdgbajnhhhjbcaaGreatDoorQ34
set_option linter.unusedSimpArgs false
namespace Go.Proofs.YtdgbajnhhhjbcaaGreatDoor
open Lib(hid)
open Go.RowKit
def Put (B:Nat) (W W':World):Prop:=∃ (l:Nat) (o o':Obj),B≤l∧W.heap[l]?=some o∧o.isCells=false∧o'.isCells=false∧W'=W.putObj l o'
def Firm (B:Nat) (S:World→Prop):Prop:=∀ W W',Put B W W'→S W→S W'
def Moves {α:Type} (F:Fence) (n:Nat) (P:Program) (gf:Nat) (args:Nat→Array Value) (enc:α→Array Value) (G:α→World→Prop) (T:α→World→α→World→Prop) (E:α→World→World→Prop) (x0:α):Prop:=
 ∀ (l:Nat) (A B:α→World→Prop) (X Z:World→Prop) (W:World),
  (∀ x W1,A x W1→YieldAt F (n - 1) P l (enc x) W1 fun e W'=>(e=.returned (.bool true)∧B x W')∨(e=.returned (.bool false)∧X W')) →
  (∀ x W1,B x W1→G x W1∧(∀ x' W2,T x W1 x' W2→A x' W2)∧(∀ W2,E x W1 W2→Z W2)) →
  A x0 W→CallsIn F n P gf (args l) W fun e W'=>(∃ v,e=.returned v)∧(X W'∨Z W')
def roundEnd (B:Nat) (W:World) (S:World→Prop) (X:Code→World→Prop):Exit→Act→World→Prop
 | .normal,_,W'=>KeepsFrom B W W'∧S W'
 | .ret,_,W'=>KeepsFrom B W W'∧X .ret W'
 | .exit id,_,W'=>KeepsFrom B W W'∧X (.exit id) W'
 | .goto t,_,W'=>KeepsFrom B W W'∧X (.goto t) W'
 | .panic _,_,_=>False
 | .outgrown,_,_=>False
theorem range_moves {α:Type} {F:Fence} {n:Nat} {P:Program} {g:Operand} {ps:Array Tmp} {assign body:Code} {Q:Exit→Act→World→Prop} {a:Act} {w:World}
  (hro:F.round=none) (h1:1≤n) {gf:Nat} {bd lb:Array Value} (hg:a.eval g=.func (.func gf) bd lb) (hFg:F.fn gf) (eg:∀ args w,(callFunc gf args).run P w=.ok (.enter gf args) w)
  {enc:α→Array Value} {G:α→World→Prop} {T:α→World→α→World→Prop} {E:α→World→World→Prop} {x0:α}
  (hit:Moves F (n - 1) P gf (fun l=>bd++#[.func (.yield l) #[] #[]]++lb) enc G T E x0) (hps:∀ x,(enc x).size=ps.size)
  (A B:α→World→Prop) (X:Code→World→Prop) (Z:World→Prop) (M:α→Act→World→Prop)
  (fB:∀ x,Firm w.heap.size (B x)) (fX:∀ c,Firm w.heap.size (X c)) (fZ:Firm w.heap.size Z) (fM:∀ x a',Firm w.heap.size (M x a'))
  (h0:∀ o o',A x0 ((w.alloc o).alloc o'))
  (hB:∀ x W1,B x W1→G x W1∧(∀ x' W2,T x W1 x' W2→KeepsFrom w.heap.size W1 W2∧A x' W2)∧(∀ W2,E x W1 W2→KeepsFrom w.heap.size W1 W2∧Z W2))
  (hassign:∀ (l:Nat) (x:α) (W:World),A x W→assign.wpIn (F.inRound l) (n - 1 - 1) P (Exit.then (fun a' W'=>KeepsFrom w.heap.size W W'∧M x a' W') (fun _ _ _=>False)) { tmps:=(ps.zip (enc x)).foldl (fun t (p,v)=>t.setIfInBounds p v) a.tmps,defers:=[] } W)
  (hbody:∀ (l:Nat) (x:α) (a':Act) (W:World),M x a' W→body.wpIn (F.inRound l) (n - 1 - 1) P (roundEnd w.heap.size W (B x) X) a' W)
  (hdone:∀ (D:Nat) (W:World),w.heap.size≤D→Z W→W.heap[D]?=some (.deferred (some []))→Q .normal { a with defers:={ target:=.collected D,args:=#[] }::a.defers } W)
  (hstop:∀ (D:Nat) (c:Code) (W:World),w.heap.size≤D→X c W→W.heap[D]?=some (.deferred (some []))→c.wpIn F n P Q { a with defers:={ target:=.collected D,args:=#[] }::a.defers } W) :
  (Code.rangeFunc g ps assign body).wpIn F n P Q a w:=by
 refine wpIn_rangeFunc fun fn hfn=>?_
 rw[hro]
 let rec_:LoopState→Option Code→Loop:=fun st pe=>{ state:=st,pending:=pe,fn,tmps:=a.tmps,params:=ps,assign,body,defers:=w.heap.size }
 obtain⟨W1,hW1⟩:∃ W1,(w.alloc (.deferred (some []))).alloc (.loop (rec_ .ready none))=W1:=⟨_,rfl⟩
 have h01:A x0 W1:=by rw[← hW1];exact h0 _ _
 have hl1:((w.alloc (.deferred (some []))).alloc (.loop (rec_ .ready none))).heap[w.heap.size+1]?=some (.loop (rec_ .ready none)):=by
  have:=World.alloc_heap_new (w.alloc (.deferred (some []))) (.loop (rec_ .ready none))
  rwa [World.size_alloc] at this
 have hd1:((w.alloc (.deferred (some []))).alloc (.loop (rec_ .ready none))).heap[w.heap.size]?=some (.deferred (some [])):=
  (Below.heap_alloc _ _ _ (by simp)).trans (World.alloc_heap_new w _)
 rw[hW1] at hl1 hd1
 refine⟨w.heap.size+1,[{ target:=.collected w.heap.size,args:=#[] }],W1,{ target:=.fn (.func gf) lb,args:=bd++#[.func (.yield (w.heap.size+1)) #[] #[]] },W1,gf,bd++#[.func (.yield (w.heap.size+1)) #[] #[]]++lb,W1,
  by rw[← hW1];exact run_enterLoop_outer _ _ _ _ _,?_,?_,?_,fun _=>h1,?_⟩
 ·simp only[resolve,hg]
  simp[go_sem]
 ·intro f' hf'
  simp[Target.leads] at hf'
  subst hf'
  exact hFg
 ·simp[invoke,go_sem,eg]
 ·refine (hit (w.heap.size+1)
   (fun x W=>A x W∧W.heap[w.heap.size+1]?=some (.loop (rec_ .ready none))∧W.heap[w.heap.size]?=some (.deferred (some [])))
   (fun x W=>B x W∧W.heap[w.heap.size+1]?=some (.loop (rec_ .ready none))∧W.heap[w.heap.size]?=some (.deferred (some [])))
   (fun W=>∃ c,X c W∧W.heap[w.heap.size+1]?=some (.loop (rec_ .done (some c)))∧W.heap[w.heap.size]?=some (.deferred (some [])))
   (fun W=>Z W∧W.heap[w.heap.size+1]?=some (.loop (rec_ .ready none))∧W.heap[w.heap.size]?=some (.deferred (some [])))
   W1 ?_ ?_ ⟨h01,hl1,hd1⟩).mono ?_
  ·rintro x W ⟨hA,hl,hd⟩
   have hy:=run_yield (P:=P) (args:=enc x) hl (hps x)
   refine⟨fn,_,assign,body,hy,roundIn_of_wpIn hfn (wpIn_mono (hassign (w.heap.size+1) x W hA) ?_)⟩
   rintro e a' W2 hp
   cases e with
   | normal=>
    obtain⟨hk,hM⟩:=hp
    have hl2:=hk.same _ _ (by omega) hl rfl
    have hd2:=hk.same _ _ (Nat.le_refl _) hd rfl
    have hlt:=(Array.getElem?_eq_some_iff.1 hl2).1
    refine⟨_,run_beginRound hl2 rfl,?_⟩
    have hl3:(W2.putObj (w.heap.size+1) (.loop { rec_ .ready none with state:=.busy })).heap[w.heap.size+1]?=some (.loop { rec_ .ready none with state:=.busy }):=World.putObj_heap_same hlt
    have hd3:(W2.putObj (w.heap.size+1) (.loop { rec_ .ready none with state:=.busy })).heap[w.heap.size]?=some (.deferred (some [])):=(World.putObj_heap_other (by omega)).trans hd2
    refine wpIn_mono (hbody (w.heap.size+1) x a' _ (fM x a' W2 _ ⟨_,_,_,by omega,hl2,rfl,rfl,rfl⟩ hM)) ?_
    have fin:∀ (jump:Option Code) (W4:World),KeepsFrom w.heap.size (W2.putObj (w.heap.size+1) (.loop { rec_ .ready none with state:=.busy })) W4 →
      (Instr.endRound (w.heap.size+1) jump).run P W4=.ok (.bool jump.isNone) (W4.putObj (w.heap.size+1) (.loop (rec_ (if jump.isNone then .ready else .done) jump))) ∧
      Put w.heap.size W4 (W4.putObj (w.heap.size+1) (.loop (rec_ (if jump.isNone then .ready else .done) jump))) ∧
      (W4.putObj (w.heap.size+1) (.loop (rec_ (if jump.isNone then .ready else .done) jump))).heap[w.heap.size+1]?=some (.loop (rec_ (if jump.isNone then .ready else .done) jump)) ∧
      (W4.putObj (w.heap.size+1) (.loop (rec_ (if jump.isNone then .ready else .done) jump))).heap[w.heap.size]?=some (.deferred (some [])):=fun jump W4 hk4=>by
     have hl4:=hk4.same _ _ (by omega) hl3 rfl
     exact⟨run_endRound (P:=P) jump hl4,⟨_,_,_,by omega,hl4,rfl,rfl,rfl⟩,World.putObj_heap_same (Array.getElem?_eq_some_iff.1 hl4).1,(World.putObj_heap_other (by omega)).trans (hk4.same _ _ (Nat.le_refl _) hd3 rfl)⟩
    rintro e a3 W4 hp
    cases e with
    | normal=>
     obtain⟨r1,r2,r3,r4⟩:=fin none W4 hp.1
     exact⟨_,_,r1,.inl ⟨rfl,fB x _ _ r2 hp.2,r3,r4⟩⟩
    | ret=>
     obtain⟨r1,r2,r3,r4⟩:=fin (some .ret) W4 hp.1
     exact⟨_,_,r1,.inr ⟨rfl,.ret,fX _ _ _ r2 hp.2,r3,r4⟩⟩
    | exit id=>
     obtain⟨r1,r2,r3,r4⟩:=fin (some (.exit id)) W4 hp.1
     exact⟨_,_,r1,.inr ⟨rfl,.exit id,fX _ _ _ r2 hp.2,r3,r4⟩⟩
    | goto t=>
     obtain⟨r1,r2,r3,r4⟩:=fin (some (.goto t)) W4 hp.1
     exact⟨_,_,r1,.inr ⟨rfl,.goto t,fX _ _ _ r2 hp.2,r3,r4⟩⟩
    | panic ch=>exact hp.elim
    | outgrown=>exact hp.elim
   | ret=>exact hp.elim
   | exit id=>exact hp.elim
   | goto t=>exact hp.elim
   | panic ch=>exact hp.elim
   | outgrown=>exact hp.elim
  ·rintro x W ⟨hb,hl,hd⟩
   obtain⟨h2,h3,h4⟩:=hB x W hb
   refine⟨h2,fun x' W2 ht=>?_,fun W2 he=>?_⟩
   ·obtain⟨k,hA⟩:=h3 x' W2 ht
    exact⟨hA,k.same _ _ (by omega) hl rfl,k.same _ _ (Nat.le_refl _) hd rfl⟩
   ·obtain⟨k,hZ⟩:=h4 W2 he
    exact⟨hZ,k.same _ _ (by omega) hl rfl,k.same _ _ (Nat.le_refl _) hd rfl⟩
  ·rintro e W2 ⟨⟨v,rfl⟩,(⟨c,hX,hl,hd⟩ | ⟨hZ,hl,hd⟩)⟩
   ·exact⟨some c,_,run_endLoop (P:=P) hl (by simp[rec_]),hstop _ c _ (Nat.le_refl _) (fX c _ _ ⟨_,_,_,by omega,hl,rfl,rfl,rfl⟩ hX) ((World.putObj_heap_other (by omega)).trans hd)⟩
   ·exact⟨none,_,run_endLoop (P:=P) hl (by simp[rec_]),hdone _ _ (Nat.le_refl _) (fZ _ _ ⟨_,_,_,by omega,hl,rfl,rfl,rfl⟩ hZ) ((World.putObj_heap_other (by omega)).trans hd)⟩
def PlG (C:RC) (du ru:Value) (N k:Nat) (W:World):Prop:=k < N∧∃ q,Rd C du ru q W
def PlT (C:RC) (du ru:Value) (k:Nat) (W:World) (k':Nat) (W':World):Prop:=k'=k+1∧∃ q,Rd C du ru q W∧nextB 4 [44] q=true∧Rd C du ru q.tail W'∧Gr C.R W W'
def PlE (C:RC) (du ru:Value) (_:Nat) (W W':World):Prop:=∃ q,Rd C du ru q W∧nextB 4 [44] q=false∧Rd C du ru q W'∧Gr C.R W W'
set_option maxRecDepth 100000 in
set_option maxHeartbeats 4000000 in
theorem eachPlace_moves (n:Nat) (hn:1≤n) (C:RC) (du ru:Value) (N:Nat) (hN:N≤1000) :
  Moves Fence.wide n Tryz.prog 162 (fun l=>#[.pointer (some ⟨C.R,0,none⟩)]++#[.func (.yield l) #[] #[]]++#[]) (fun k:Nat=>#[.int .i64 (k:Int)]) (PlG C du ru N) (PlT C du ru) (PlE C du ru) 0:=by
 intro l A B X Z W hY hB h0
 simp only[List.append_toArray,List.cons_append,List.nil_append,List.append_nil]
 refine callsIn_of_wp Tryz.func162 rfl trivial ?_ rfl
 simp only[Tryz.ntmps162,List.size_toArray,List.length_cons,List.length_nil,Nat.reduceAdd,Nat.reduceSub,Array.replicate_succ,Array.replicate_zero,List.push_toArray,List.append_toArray,List.nil_append,List.cons_append]
 gi_wp2
 gi_loopw [4] (fun i wr=>∃ k:Nat,i=.int .i64 (k:Int)∧A k wr∧k≤N) (fun i _=>N - (intOf i).toNat)
 case atStart=>exact⟨0,rfl,h0,Nat.zero_le _⟩
 case round=>
  obtain⟨k,rfl,hA,hk⟩:=hrel
  obtain⟨fn,tmps,assign,body,hy,hR⟩:=hY k wr hA
  gi_wp2
  refine hR.mono ?_
  rintro e W3 (⟨rfl,hB3⟩ | ⟨rfl,hX3⟩)
  ·obtain⟨⟨hkN,q,hq⟩,hT,hE⟩:=hB k W3 hB3
   have HS:=hid (skip_c C du ru q ⟨#[44]⟩ W3 hq)
   have HT:=hid hT
   have HE:=hid hE
   have H:=hid hq
   clear hT hE hq hB hY hR hy hA
   cases hc:nextB 4 [44] q with
   | true=>
    have Hc:=hid hc
    clear hc
    gi_wp2_with fail
    refine⟨trivial,(callsIn_wide.2 HS.out).mono ?_⟩
    rintro e W4 ⟨rfl,r4,g4⟩
    rw[Hc.out]
    have r4':Rd C du ru q.tail W4:=by rw[Hc.out,if_pos rfl] at r4;exact r4
    have HA:=hid (HT.out (k+1) W4 ⟨rfl,q,H.out,Hc.out,r4',g4⟩)
    clear r4 r4' g4
    gi_wp2
    go_roundw
    case rel=>exact⟨k+1,by go_num,HA.out,hkN⟩
    case measure=>simp[intOf];omega
   | false=>
    have Hc:=hid hc
    clear hc
    gi_wp2_with fail
    refine⟨trivial,(callsIn_wide.2 HS.out).mono ?_⟩
    rintro e W4 ⟨rfl,r4,g4⟩
    rw[Hc.out]
    have r4':Rd C du ru q W4:=by rw[Hc.out,if_neg (by decide)] at r4;exact r4
    have HZ:=hid (HE.out W4 ⟨q,H.out,Hc.out,r4',g4⟩)
    clear r4 r4' g4
    gi_wp2
    go_end0
    exact⟨⟨_,rfl⟩,.inr HZ.out⟩
  ·clear hB hY hR hy hA
   gi_wp2_with fail
   refine⟨trivial,?_⟩
   gi_wp2
   go_end0
   exact⟨⟨_,rfl⟩,.inl hX3⟩
end Go.Proofs.YtdgbajnhhhjbcaaGreatDoor
namespace Go.Proofs.YtdgbajnhhhjbcaaGreatDoor
open Lib(hid)
open Go.RowKit
def noDefer (ops:Array Oper):Bool:=ops.toList.all fun o=>match o.op with | .defer _=>false | _=>true
theorem noDefer_spec {ops:Array Oper} (h:noDefer ops=true) {i:Nat} {o:Oper} (ho:ops[i]?=some o) (c:Call):o.op≠.defer c:=by
 intro e
 unfold noDefer at h
 rw[List.all_eq_true] at h
 have hm:o ∈ ops.toList:=by
  obtain⟨hi,rfl⟩:=Array.getElem?_eq_some_iff.1 ho
  simp
 have:=h o hm
 rw[e] at this
 cases this
theorem upon_round {l n:Nat} {P:Program} {o:Oper} {a:Act} {K K':Act→World→Prop} {Q:Exit→Act→World→Prop} (hK:∀ a w,K a w→K' a w) {r:Result Next} (h:o.upon P a K Q r):o.uponIn (Fence.wide.inRound l) n P a K' Q r:=by
 cases r with
 | ok x w'=>
  cases x with
  | value v=>exact hK _ _ h
  | skip=>exact hK _ _ h
  | defer d=>exact hK _ _ h
  | enter f args=>
   refine⟨(fun h=>by cases h),CallsIn.inRound l (callsIn_wide.2 (Calls.mono h ?_))⟩
   intro e w'' he
   cases e with
   | returned v=>exact hK _ _ he
   | panicked c=>exact he
   | outgrown=>exact he
  | row row args=>
   refine⟨(fun h=>by cases h),?_⟩
   have h:Rows P row args w' fun v w''=>K (a.put o.dst v) w'':=h
   intro c cs _
   obtain⟨v,w'',r,s⟩:=h c cs
   exact⟨v,w'',hK _ _ r,stepsIn_wide.2 s⟩
  | _=>exact h.elim
 | halt x w'=>
  cases x with
  | panic v=>exact h
  | _=>exact h.elim
theorem any_round {l n:Nat} {P:Program} {md:Region.Mode} {ops:Array Oper} {Q:Exit→Act→World→Prop} (hd:noDefer ops=true) (hQ:¬ LetsOut Q):∀ (fuel:Nat) (listed:Array Bool) (a:Act) (w:World),wpAny P md ops Q fuel listed a w→wpAnyIn (Fence.wide.inRound l) n P md ops Q fuel listed a w
 | 0,_,_,_,h=>h
 | fuel+1,listed,a,w,h=>by
  refine⟨h.1,fun i hi=>?_⟩
  have hi:=h.2 i hi
  unfold wpOp at hi
  unfold wpOpIn
  cases ho:ops[i]? with
  | none=>
   rw[ho] at hi
   exact any_round hd hQ fuel _ _ _ hi
  | some o=>
   rw[ho] at hi
   simp only at hi ⊢
   split
   ·next hw=>
    rw[if_pos hw] at hi
    rcases hi with hi | ⟨_,hl⟩
    ·refine⟨fun _ _=>trivial,?_⟩
     rw[Oper.semAt_eq _ _ _ (noDefer_spec hd ho)]
     exact upon_round (fun a w h=>any_round hd hQ fuel _ a w h) hi
    ·exact absurd hl hQ
   ·next hw=>
    rw[if_neg hw] at hi
    exact⟨fun _ _=>trivial,any_round hd hQ fuel _ _ _ hi⟩
theorem any_region {l n id:Nat} {P:Program} {ops:Array Oper} {Q:Exit→Act→World→Prop} {a:Act} {w:World} (hm:P.follows .mixedOrders=true) (hd:noDefer ops=true) (hQ:¬ LetsOut Q)
  (h:wpAny P .any ops Q ops.size (Array.replicate ops.size false) a w.drew):(Code.region id ops true).wpIn (Fence.wide.inRound l) n P Q a w:=
 wpIn_region_any hm (any_round hd hQ _ _ _ _ h)
end Go.Proofs.YtdgbajnhhhjbcaaGreatDoor
namespace Go.Proofs.YtdgbajnhhhjbcaaGreatDoor
open Lib(hid)
open Go.RowKit
def Laid {α:Type} (z:Nat) (L:α→List Value→Prop) (acc:List α) (xs:List Value):Prop:=
 xs.length=acc.length * z∧∀ i x,acc[i]?=some x→∃ cs,cs.length=z∧L x cs∧∀ j c,cs[j]?=some c→xs[i * z+j]?=some c
theorem Laid.nil {α:Type} {z:Nat} {L:α→List Value→Prop}:Laid z L [] []:=⟨by simp,fun i x h=>by simp at h⟩
theorem Laid.snoc {α:Type} {z:Nat} {L:α→List Value→Prop} {acc:List α} {xs:List Value} {x:α} {cs:List Value} (h:Laid z L acc xs) (hz:cs.length=z) (hx:L x cs):Laid z L (acc++[x]) (xs++cs):=by
 obtain⟨h1,h2⟩:=h
 refine⟨by rw[List.length_append,List.length_append,h1,hz,List.length_cons,List.length_nil,Nat.add_mul];omega,fun i y hy=>?_⟩
 rcases Nat.lt_or_ge i acc.length with hi | hi
 ·rw[List.getElem?_append_left hi] at hy
  obtain⟨ds,hd,hL,hc⟩:=h2 i y hy
  refine⟨ds,hd,hL,fun j c hj=>?_⟩
  have:=hc j c hj
  rw[List.getElem?_append_left (List.getElem?_eq_some_iff.1 this).1]
  exact this
 ·rw[List.getElem?_append_right hi] at hy
  have h0:i - acc.length=0:=by
   rcases Nat.eq_zero_or_pos (i - acc.length) with h | h
   ·exact h
   ·rw[List.getElem?_eq_none (by simp;omega)] at hy;cases hy
  rw[h0] at hy
  simp only[List.getElem?_cons_zero,Option.some.injEq] at hy
  subst hy
  have hi':i=acc.length:=by omega
  subst hi'
  refine⟨cs,hz,hx,fun j c hj=>?_⟩
  rw[List.getElem?_append_right (by omega),h1,show acc.length * z+j - acc.length * z=j by omega]
  exact hj
theorem Laid.mono {α:Type} {z:Nat} {L L':α→List Value→Prop} {acc:List α} {xs:List Value} (h:Laid z L acc xs) (hL:∀ x cs,L x cs→L' x cs):Laid z L' acc xs:=
 ⟨h.1,fun i x hx=>let ⟨cs,a,b,c⟩:=h.2 i x hx;⟨cs,a,hL x cs b,c⟩⟩
def hideV (v:Value) (w:World):World:=
 match v.ownBlock with
 | some g=>hide g w
 | none=>w
theorem hideV_cell {v:Value} {w:World} {p:Addr} {c:Value}:(hideV v w).cell? p=some c ↔ some p.block≠v.ownBlock∧w.cell? p=some c:=by
 unfold hideV
 cases v.ownBlock with
 | none=>simp
 | some g=>
  simp only
  rw[hide_cell]
  exact⟨fun h=>⟨fun e=>h.1 (Option.some.inj e),h.2⟩,fun h=>⟨fun e=>h.1 (by rw[e]),h.2⟩⟩
theorem cell_lt {w:World} {p:Addr} {c:Value} (h:w.cell? p=some c):p.block < w.heap.size:=by
 unfold World.cell? at h
 rcases Nat.lt_or_ge p.block w.heap.size with hlt | hge
 ·exact hlt
 ·rw[Array.getElem?_eq_none hge] at h
  simp at h
theorem visV {L:Nat} {v v':Value} {w w':World} (h:∀ k,L≤k→some k≠v.ownBlock→k < w.heap.size→some k≠v'.ownBlock∧w'.heap[k]?=w.heap[k]?):Vis (past L (hideV v w)) (past L (hideV v' w')):=fun p c hc=>by
 obtain⟨h1,h2⟩:=past_cell.1 hc
 obtain⟨h3,h4⟩:=hideV_cell.1 h2
 obtain⟨h5,h6⟩:=h p.block h1 h3 (cell_lt h4)
 exact past_cell.2 ⟨h1,hideV_cell.2 ⟨h5,(World.cell?_of_block h6).trans h4⟩⟩
theorem visV_out (L:Nat) (v:Value) (w:World):Vis (past L (hideV v w)) (past L w):=fun p c hc=>by
 obtain⟨h1,h2⟩:=past_cell.1 hc
 exact past_cell.2 ⟨h1,(hideV_cell.1 h2).2⟩
theorem visV_in {L L':Nat} {v:Value} {w:World} (hL:L≤L') (hv:∀ g,v.ownBlock=some g→g < L'):Vis (past L' w) (past L (hideV v w)):=fun p c hc=>by
 obtain⟨h1,h2⟩:=past_cell.1 hc
 refine past_cell.2 ⟨Nat.le_trans hL h1,hideV_cell.2 ⟨fun e=>?_,h2⟩⟩
 have:=hv _ e.symm
 omega
theorem ownsRow_lt {w:World} {base:Nat} {e:TypeId} {size:Nat} {v:Value} {k:Nat} {xs:List Value} (h:w.ownsRow base e size v k xs):∀ g,v.ownBlock=some g→base≤g∧g < w.heap.size:=by
 intro g hg
 rcases h.2 with ⟨rfl,_⟩ | ⟨g',cap,cur,rfl,hb,hh,_⟩
 ·cases hg
 ·obtain rfl:g'=g:=by simpa[Value.ownBlock] using hg
  exact⟨hb,(Array.getElem?_eq_some_iff.1 hh).1⟩
theorem sl_own {α:Type} {w:World} {base:Nat} {e:TypeId} {z:Nat} {v:Value} {xs:List Value} {acc:List α} {P:α→List Value→Prop} {L:Nat} (h:w.ownsRow base e z v acc.length xs) (hl:Laid z P acc xs) (hL:L≤base):SlOf (past L w) w.heap.size z P acc v:=by
 rcases h.2 with ⟨rfl,h0⟩ | ⟨g,cap,cur,hv,hb,hg,hn,hc,hcur,ht⟩
 ·exact .inl ⟨rfl,List.eq_nil_of_length_eq_zero h0⟩
 ·refine .inr ⟨⟨g,0,none⟩,cap,hv,hn,hc,fun _=>(Array.getElem?_eq_some_iff.1 hg).1,fun i x hx=>?_⟩
  obtain⟨cs,hz,hP,hcs⟩:=hl.2 i x hx
  refine⟨cs,hz,hP,fun j c hj=>?_⟩
  have h1:=h.cells (g:=g) (by rw[hv];rfl) (i * z+j) c (hcs j c hj)
  exact past_cell.2 ⟨by rw[addBlock];exact Nat.le_trans hL hb,h1⟩
theorem cell_none {w:World} {p:Addr} {o:Obj} (h:w.heap[p.block]?=some o) (ho:o.isCells=false):w.cell? p=none:=by
 unfold World.cell?
 rw[h]
 cases o with
 | cells c e f=>cases ho
 | _=>rfl
theorem put_cell {B:Nat} {W W':World} (h:Put B W W') (p:Addr):W'.cell? p=W.cell? p:=by
 obtain⟨l,o,o',_,hl,ho,ho',rfl⟩:=h
 have hlt:=(Array.getElem?_eq_some_iff.1 hl).1
 by_cases hp:p.block=l
 ·rw[cell_none (p:=p) (by rw[hp];exact World.putObj_heap_same hlt) ho',cell_none (p:=p) (by rw[hp];exact hl) ho]
 ·exact World.cell?_of_block (World.putObj_heap_other hp)
theorem put_size {B:Nat} {W W':World} (h:Put B W W'):W'.heap.size=W.heap.size:=by
 obtain⟨l,o,o',_,_,_,_,rfl⟩:=h
 simp
theorem put_below {B:Nat} {W W':World} (h:Put B W W'):Below B W W':=by
 obtain⟨l,o,o',hB,_,_,_,rfl⟩:=h
 exact⟨rfl,rfl,rfl,by simp,fun k hk=>World.putObj_heap_other (by omega)⟩
theorem put_vis {B L:Nat} {v:Value} {W W':World} (h:Put B W W'):Vis (past L (hideV v W)) (past L (hideV v W')):=fun p c hc=>by
 obtain⟨h1,h2⟩:=past_cell.1 hc
 obtain⟨h3,h4⟩:=hideV_cell.1 h2
 exact past_cell.2 ⟨h1,hideV_cell.2 ⟨h3,(put_cell h p).trans h4⟩⟩
theorem put_row {B n:Nat} {T:TypeId} {cs:List Value} {W W':World} (h:Put B W W') (hr:Row n T cs W):Row n T cs W':=by
 obtain⟨l,o,o',_,hl,ho,_,rfl⟩:=h
 refine (World.putObj_heap_other (fun e=>?_)).trans hr
 subst e
 rw[show W.heap[n]?=_ from hr] at hl
 cases hl
 cases ho
theorem put_own {B base:Nat} {e:TypeId} {size:Nat} {v:Value} {k:Nat} {xs:List Value} {W W':World} (h:Put B W W') (hr:W.ownsRow base e size v k xs):W'.ownsRow base e size v k xs:=by
 obtain⟨l,o,o',_,hl,ho,_,rfl⟩:=h
 exact ownsRow_putObj hr o' hl ho
theorem Gr.grown {R:Nat} {a w w':World} {row:Option Nat} (h:Gr R a w) (hg:w.grownBy w' row) (hrow:∀ g,row=some g→a.heap.size≤g):Gr R a w':=
 ⟨hg.os.trans h.os,hg.tape.trans h.tape,hg.output.trans h.output,Nat.le_trans h.size hg.size,fun i hi hr=>(hg.block i (Nat.lt_of_lt_of_le hi h.size) (fun e=>by have:=hrow i e.symm;omega)).trans (h.block i hi hr)⟩
theorem put_gr {B R:Nat} {a W W':World} (h:Put B W W') (g:Gr R a W) (hB:a.heap.size≤B):Gr R a W':=by
 have:=put_below h
 exact⟨this.os.trans g.os,this.tape.trans g.tape,this.output.trans g.output,Nat.le_trans g.size this.size,fun i hi hr=>(this.block i (by omega)).trans (g.block i hi hr)⟩
theorem put_rd {B:Nat} {C:RC} {du ru:Value} {q:List TokI} {W W':World} (h:Put B W W') (r:Rd C du ru q W) (hB:C.R < B):Rd C du ru q W':=r.belowR ((put_below h).mono hB)
theorem keeps_gr {R:Nat} {T:TypeId} {cs:Array Value} {fz:Nat × Nat} {W W':World} (g:Gr R W W') (hr:W.heap[R]?=some (.cells cs T fz)):KeepsOthers W W':=
 KeepsOthers.of_grownBy g (fun j o e ho=>by obtain rfl:=Option.some.inj e;rw[hr] at ho;cases ho;rfl)
theorem keeps_below {W W':World} (h:Below W.heap.size W W'):KeepsOthers W W':=⟨h.size,fun k _ hk _=>(h.block k (Array.getElem?_eq_some_iff.1 hk).1).trans hk⟩
theorem keeps_own {base:Nat} {e:TypeId} {size:Nat} {v:Value} {k:Nat} {xs:List Value} {W W':World} (h:W.ownsRow base e size v k xs) (g:W.grownBy W' v.ownBlock):KeepsOthers W W':=
 KeepsOthers.of_grownBy g (fun j o ej ho=>by
  rcases h.2 with ⟨rfl,_⟩ | ⟨g',cap,cur,rfl,hb,hh,_⟩
  ·cases ej
  ·obtain rfl:g'=j:=by simpa[Value.ownBlock] using ej
   rw[hh] at ho
   cases ho
   rfl)
theorem Rd.keeps {C:RC} {du ru:Value} {q:List TokI} {W W':World} (r:Rd C du ru q W) (g:Gr C.R W W'):KeepsOthers W W':=by
 obtain⟨i,_,_,hr⟩:=r.row
 exact keeps_gr g hr
def wrA (cs:Array Value):Nat→List Value→Array Value
 | _,[]=>cs
 | k,x::xs=>wrA (cs.setIfInBounds k x) (k+1) xs
theorem wrA_size:∀ (xs:List Value) (k:Nat) (cs:Array Value),(wrA cs k xs).size=cs.size
 | [],_,_=>rfl
 | x::xs,k,cs=>by rw[wrA,wrA_size xs];simp
theorem wrA_get:∀ (xs:List Value) (k:Nat) (cs:Array Value) (i:Nat),k+xs.length≤cs.size→(wrA cs k xs)[i]?=if k≤i∧i < k+xs.length then xs[i - k]? else cs[i]?
 | [],k,cs,i,_=>by rw[wrA,if_neg (by simp)]
 | x::xs,k,cs,i,h=>by
  rw[List.length_cons] at h
  rw[wrA,wrA_get xs (k+1) _ i (by simp;omega),List.length_cons]
  by_cases h1:k+1≤i∧i < k+1+xs.length
  ·rw[if_pos h1,if_pos (by omega),show i - k=(i - (k+1))+1 by omega,List.getElem?_cons_succ]
  ·rw[if_neg h1]
   by_cases h2:i=k
   ·subst h2
    rw[if_pos (by omega),Nat.sub_self,List.getElem?_cons_zero,Array.getElem?_setIfInBounds_self_of_lt (by omega)]
   ·rw[if_neg (by omega),Array.getElem?_setIfInBounds_ne (by omega)]
theorem boxW_row {b:Nat} {T:TypeId} {fz:Nat × Nat}:∀ (xs:List Value) (k:Nat) (w:World) (cs:Array Value),w.heap[b]?=some (.cells cs T fz)→(boxW b k xs w).heap[b]?=some (.cells (wrA cs k xs) T fz)
 | [],_,_,_,h=>h
 | x::xs,k,w,cs,h=>by rw[boxW,wrA];exact boxW_row xs (k+1) _ _ (row_set h k x)
theorem own_box {W:World} {base g k cp z:Nat} {e:TypeId} {xs olds news:List Value} (h:W.ownsRow base e z (.slice (some ⟨g,0,none⟩) (k+1) cp) (k+1) (xs++olds)) (hx:xs.length=k * z) (hn:news.length=z) :
  (boxW g (k * z) news W).ownsRow base e z (.slice (some ⟨g,0,none⟩) (k+1) cp) (k+1) (xs++news):=by
 obtain⟨h1,h2⟩:=h
 rcases h2 with ⟨h3,_⟩ | ⟨g',cap,cur,hv,hb,hh,hc,hm,hsz,ht⟩
 ·cases h3
 ·cases hv
  have hkz:(k+1) * z=k * z+z:=by rw[Nat.add_mul,Nat.one_mul]
  have hle:(k+1) * z≤cur.size:=by rw[hsz];exact Nat.mul_le_mul_right z hc
  refine⟨by rw[List.length_append,hx,hn];omega,.inr ⟨g,cp,wrA cur (k * z) news,rfl,hb,boxW_row news _ W cur hh,hc,hm,by rw[wrA_size];exact hsz,?_⟩⟩
  refine List.ext_getElem? fun i=>?_
  rw[List.getElem?_take]
  have hti:=congrArg (fun l=>l[i]?) ht
  simp only[List.getElem?_take] at hti
  by_cases hi:i < (k+1) * z
  ·rw[if_pos hi,Array.getElem?_toList,wrA_get news _ _ _ (by rw[hn];omega)]
   rw[if_pos hi,Array.getElem?_toList] at hti
   by_cases hk:k * z≤i
   ·rw[if_pos ⟨hk,by rw[hn];omega⟩,List.getElem?_append_right (by omega),hx]
   ·rw[if_neg (by omega),hti,List.getElem?_append_left (by omega),List.getElem?_append_left (by omega)]
  ·rw[if_neg hi,List.getElem?_eq_none (by rw[List.length_append,hx,hn];omega)]
theorem own_set {W:World} {base:Nat} {e:TypeId} {z:Nat} {v:Value} {k:Nat} {xs:List Value} {a:Addr} (h:W.ownsRow base e z v k xs) (ha:v.ownBlock≠some a.block) (u:Value):(W.setCell a u).ownsRow base e z v k xs:=ownsRow_setCell_other h ha u
theorem own_cells {W:World} {base g k cp z:Nat} {e:TypeId} {xs:List Value} (h:W.ownsRow base e z (.slice (some ⟨g,0,none⟩) k cp) k xs):(∀ j u,xs[j]?=some u→W.cell? ⟨g,j,none⟩=some u)∧∀ j,W.frozen? ⟨g,j,none⟩=false:=by
 obtain⟨h1,h2⟩:=h
 rcases h2 with ⟨h3,_⟩ | ⟨g',cap,cur,hv,hb,hh,hc,hm,hsz,ht⟩
 ·cases h3
 ·cases hv
  refine⟨fun j u hu=>?_,fun j=>?_⟩
  ·rw[← ht,List.getElem?_take] at hu
   split at hu
   ·unfold World.cell?
    rw[hh]
    simpa using hu
   ·cases hu
  ·unfold World.frozen?
   rw[hh]
   simp
end Go.Proofs.YtdgbajnhhhjbcaaGreatDoor
namespace Go.Proofs.YtdgbajnhhhjbcaaGreatDoor
open Lib(hid)
open Go.RowKit
theorem Rd.uniq {C:RC} {du ru:Value} {q q':List TokI} {W:World} (h:Rd C du ru q W) (h':Rd C du ru q' W):q=q':=by
 obtain⟨i,h1,_,hr⟩:=h.row
 obtain⟨j,h2,_,hs⟩:=h'.row
 rw[hr] at hs
 simp only[Option.some.injEq,Obj.cells.injEq] at hs
 have he:(i:Int)=(j:Int):=by simpa using hs
 have:i=j:=by omega
 rw[← h1,← h2,this]
structure LsI (C:RC) (du ru:Value) (n0:Nat) (most:Int) (fv:Value) (tf ts te:TypeId) (z:Nat) {α:Type} (L:World→Nat→α→List Value→Prop) (w:World) (acc:List α) (q:List TokI) (W:World):Prop where
 r:Row n0 109 [.pointer (some ⟨C.R,0,none⟩)] W
 m:Row (n0+1) 3 [.int .i64 most] W
 f:Row (n0+2) tf [fv] W
 e:Row (n0+4) 75 [.nilIface] W
 l:∃ v xs,Row (n0+3) ts [v] W∧W.ownsRow (n0+5) te z v acc.length xs∧Laid z (L (past (n0+5) (hideV v W)) W.heap.size) acc xs
 rd:Rd C du ru q W
 g:Gr C.R w W
def Lays {α:Type} (L:World→Nat→α→List Value→Prop):Prop:=∀ V V' B B' x cs,Vis V V'→B≤B'→L V B x cs→L V' B' x cs
theorem lays_tm:Lays TmC:=fun _ _ _ _ _ _ hv hb h=>(h.vis hv).more hb
section
variable {C:RC} {du ru:Value} {n0:Nat} {most:Int} {fv:Value} {tf ts te:TypeId} {z:Nat} {α:Type} {L:World→Nat→α→List Value→Prop} {w:World} {acc:List α} {q q':List TokI} {W W':World}
theorem LsI.move (hL:Lays L) (h:LsI C du ru n0 most fv tf ts te z L w acc q W) (g:Gr C.R W W') (hR:C.R < n0) (r:Rd C du ru q' W'):LsI C du ru n0 most fv tf ts te z L w acc q' W':=by
 obtain⟨v,xs,h1,h2,h3⟩:=h.l
 have hlt:=ownsRow_lt h2
 refine⟨h.r.gr g (by omega),h.m.gr g (by omega),h.f.gr g (by omega),h.e.gr g (by omega),⟨v,xs,h1.gr g (by omega),h2.kept g ?_,h3.mono fun x cs hx=>hL _ _ _ _ _ _ (visV fun k h4 h5 h6=>⟨h5,g.block k h6 (fun e=>by have:=Option.some.inj e;omega)⟩) g.size hx⟩,r,h.g.trans g⟩
 by_cases hn:v.ownBlock=none
 ·exact .inl hn
 ·right
  intro e
  have:=(hlt _ e).1
  omega
theorem LsI.put {B:Nat} (hL:Lays L) (hB:C.R < B) (hw:w.heap.size≤B):Put B W W'→LsI C du ru n0 most fv tf ts te z L w acc q W→LsI C du ru n0 most fv tf ts te z L w acc q W':=fun p h=>by
 obtain⟨v,xs,h1,h2,h3⟩:=h.l
 exact⟨put_row p h.r,put_row p h.m,put_row p h.f,put_row p h.e,⟨v,xs,put_row p h1,put_own p h2,h3.mono fun x cs hx=>hL _ _ _ _ _ _ (put_vis p) (Nat.le_of_eq (put_size p).symm) hx⟩,put_rd p h.rd hB,put_gr p h.g hw⟩
end
theorem Row.al {n:Nat} {T:TypeId} {cs:List Value} {w:World} (h:Row n T cs w) (o:Obj):Row n T cs (w.alloc o):=h.below ((Below.refl _ _).alloc (Nat.le_refl _) _) h.lt
theorem Row.uniq {n:Nat} {T T':TypeId} {cs cs':List Value} {w:World} (h:Row n T cs w) (h':Row n T' cs' w):cs=cs':=by
 have:=h.symm.trans h'
 simp only[Option.some.injEq,Obj.cells.injEq] at this
 simpa using this.1
theorem keeps_box (b:Nat):∀ (xs:List Value) (k:Nat) (w:World),KeepsOthers w (boxW b k xs w)
 | [],_,w=>KeepsOthers.refl w
 | x::xs,k,w=>(KeepsOthers.setCell w ⟨b,k,none⟩ x).trans (keeps_box b xs (k+1) _)
structure ApI (n0:Nat) (v2:Value) (g:Nat) (W2 V:World):Prop where
 os:V.os=W2.os
 tape:V.tape=W2.tape
 output:V.output=W2.output
 size:W2.heap.size≤V.heap.size
 block:∀ k,k < W2.heap.size→some k≠v2.ownBlock→k≠n0+3→V.heap[k]?=W2.heap[k]?
 keeps:KeepsOthers W2 V
 at_:v2.ownBlock=some g∨W2.heap.size < g
section
variable {C:RC} {du ru:Value} {n0:Nat} {most:Int} {fv:Value} {tf ts te:TypeId} {z:Nat} {α:Type} {L:World→Nat→α→List Value→Prop} {w:World} {acc:List α} {p:List TokI} {W2 V:World}
theorem ls_append (hL:Lays L) (hI:LsI C du ru n0 most fv tf ts te z L w acc p W2) (hn:w.heap.size=n0) (hR:C.R < n0) {v2:Value} {xs2:List Value} (hv2:Row (n0+3) ts [v2] W2) (hown2:W2.ownsRow (n0+5) te z v2 acc.length xs2) (hlaid2:Laid z (L (past (n0+5) (hideV v2 W2)) W2.heap.size) acc xs2)
  {L0:Nat} (h5:n0+5≤L0) (hold:∀ g,v2.ownBlock=some g→g < L0) {x:α} {cs:List Value} (hz:cs.length=z) (hx:L (past L0 W2) W2.heap.size x cs)
  {g cp:Nat} (hA:ApI n0 v2 g W2 V) (hrow:Row (n0+3) ts [.slice (some ⟨g,0,none⟩) (acc.length+1) cp] V) (hown:V.ownsRow (n0+5) te z (.slice (some ⟨g,0,none⟩) (acc.length+1) cp) (acc.length+1) (xs2++cs)) :
  LsI C du ru n0 most fv tf ts te z L w (acc++[x]) p V:=by
 have hlt2:=ownsRow_lt hown2
 have hn3:=hv2.lt
 have keep:∀ k,k < n0+5→k≠n0+3→V.heap[k]?=W2.heap[k]?:=fun k h1 h2=>by
  by_cases h3:k < W2.heap.size
  ·exact hA.block k h3 (fun e=>by have:=(hlt2 _ e.symm).1;omega) h2
  ·have:=hI.e.lt
   omega
 have rowk:∀ {k:Nat} {T:TypeId} {ds:List Value},k < n0+5→k≠n0+3→Row k T ds W2→Row k T ds V:=fun h1 h2 h=>(keep _ h1 h2).trans h
 have hvis:Vis (past (n0+5) (hideV v2 W2)) (past (n0+5) (hideV (.slice (some ⟨g,0,none⟩) (acc.length+1) cp) V)):=visV fun k h1 h2 h3=>by
  refine⟨fun e=>?_,hA.block k h3 h2 (by omega)⟩
  have hk:k=g:=Option.some.inj e
  rcases hA.at_ with h | h
  ·exact h2 (by rw[h,hk])
  ·omega
 have hrd:Below (C.R+1) W2 V:=⟨hA.os,hA.tape,hA.output,hA.size,fun k hk=>keep k (by omega) (by omega)⟩
 refine⟨rowk (by omega) (by omega) hI.r,rowk (by omega) (by omega) hI.m,rowk (by omega) (by omega) hI.f,rowk (by omega) (by omega) hI.e,⟨_,xs2++cs,hrow,?_,?_⟩,hI.rd.belowR hrd,?_⟩
 ·rw[List.length_append,List.length_cons,List.length_nil]
  exact hown
 ·refine Laid.snoc (hlaid2.mono fun y ds hy=>hL _ _ _ _ _ _ hvis hA.size hy) hz (hL _ _ _ _ _ _ (fun a c hc=>hvis a c (visV_in h5 hold a c hc)) hA.size hx)
 ·exact⟨hA.os.trans hI.g.os,hA.tape.trans hI.g.tape,hA.output.trans hI.g.output,Nat.le_trans hI.g.size hA.size,fun i hi hr=>(keep i (by omega) (by omega)).trans (hI.g.block i hi hr)⟩
end
theorem ap_orders {n0 g cp k z:Nat} {ts te:TypeId} {o:Obj} {v2:Value} {xs2 zs cs:List Value} {W2 w3:World} (hv2:Row (n0+3) ts [v2] W2) (hown2:W2.ownsRow (n0+5) te z v2 k xs2) (hlen:xs2.length=k * z)
  (hgrow:(W2.alloc o).drew.grownBy w3 v2.ownBlock) (hown3:w3.ownsRow (n0+5) te z (.slice (some ⟨g,0,none⟩) (k+1) cp) (k+1) (xs2++zs)) (hat:v2.ownBlock=some g∨g=W2.heap.size+1) (hz:cs.length=z) :
  (ApI n0 v2 g W2 ((boxW g (k * z) cs w3).setCell ⟨n0+3,0,none⟩ (.slice (some ⟨g,0,none⟩) (k+1) cp))∧Row (n0+3) ts [.slice (some ⟨g,0,none⟩) (k+1) cp] ((boxW g (k * z) cs w3).setCell ⟨n0+3,0,none⟩ (.slice (some ⟨g,0,none⟩) (k+1) cp)) ∧
   ((boxW g (k * z) cs w3).setCell ⟨n0+3,0,none⟩ (.slice (some ⟨g,0,none⟩) (k+1) cp)).ownsRow (n0+5) te z (.slice (some ⟨g,0,none⟩) (k+1) cp) (k+1) (xs2++cs)) ∧
  (ApI n0 v2 g W2 (boxW g (k * z) cs (w3.setCell ⟨n0+3,0,none⟩ (.slice (some ⟨g,0,none⟩) (k+1) cp)))∧Row (n0+3) ts [.slice (some ⟨g,0,none⟩) (k+1) cp] (boxW g (k * z) cs (w3.setCell ⟨n0+3,0,none⟩ (.slice (some ⟨g,0,none⟩) (k+1) cp))) ∧
   (boxW g (k * z) cs (w3.setCell ⟨n0+3,0,none⟩ (.slice (some ⟨g,0,none⟩) (k+1) cp))).ownsRow (n0+5) te z (.slice (some ⟨g,0,none⟩) (k+1) cp) (k+1) (xs2++cs)):=by
 have hlt2:=ownsRow_lt hown2
 have hn3:=hv2.lt
 have hg5:n0+5≤g:=(ownsRow_lt hown3 g rfl).1
 have hal:(W2.alloc o).drew.heap.size=W2.heap.size+1:=by simp[World.drew]
 have hs:W2.heap.size≤w3.heap.size:=by have:=hgrow.size;omega
 have b3:∀ k,k < W2.heap.size→some k≠v2.ownBlock→w3.heap[k]?=W2.heap[k]?:=fun k h1 h2=>(hgrow.block k (by omega) h2).trans (Below.heap_alloc _ _ _ (by omega))
 have row3:Row (n0+3) ts [v2] w3:=(b3 _ hn3 (fun e=>by have:=(hlt2 _ e.symm).1;omega)).trans hv2
 have k3:KeepsOthers W2 w3:=by
  refine ((KeepsOthers.alloc W2 o).trans (⟨Nat.le_refl _,fun _ _ h _=>h⟩:KeepsOthers (W2.alloc o) (W2.alloc o).drew)).trans ((keeps_own (W:=(W2.alloc o).drew) (v:=v2) ((hown2.alloc o).drew) hgrow))
 have hno:∀ k,some k≠v2.ownBlock→k < W2.heap.size→k≠g:=fun k h1 h2 e=>by
  rcases hat with h | h
  ·exact h1 (by rw[h,e])
  ·omega
 have at':v2.ownBlock=some g∨W2.heap.size < g:=by rcases hat with h | h;exact .inl h;exact .inr (by omega)
 obtain⟨s1,s2,s3⟩:=boxW_same g cs (k * z) w3
 obtain⟨t1,t2,t3⟩:=boxW_same g cs (k * z) (w3.setCell ⟨n0+3,0,none⟩ (.slice (some ⟨g,0,none⟩) (k+1) cp))
 refine⟨⟨⟨s1.trans hgrow.os,s2.trans hgrow.tape,s3.trans hgrow.output,?_,fun j h1 h2 h3=>?_,(k3.trans (keeps_box _ _ _ _)).trans (KeepsOthers.setCell _ _ _),at'⟩,?_,?_⟩,⟨⟨t1.trans hgrow.os,t2.trans hgrow.tape,t3.trans hgrow.output,?_,fun j h1 h2 h3=>?_,(k3.trans (KeepsOthers.setCell _ _ _)).trans (keeps_box _ _ _ _),at'⟩,?_,?_⟩⟩
 ·simp[World.setCell,boxW_size,hs]
 ·exact ((Below.heap_setCell _ ⟨n0+3,0,none⟩ _ j h3).trans (boxW_other g cs _ _ j (hno j h2 h1))).trans (b3 j h1 h2)
 ·exact row_set ((boxW_other g cs _ _ (n0+3) (by omega)).trans row3) 0 _
 ·exact own_set (own_box hown3 hlen hz) (by simp[Value.ownBlock];omega) _
 ·simp[World.setCell,boxW_size,hs]
 ·exact ((boxW_other g cs _ _ j (hno j h2 h1)).trans (Below.heap_setCell w3 ⟨n0+3,0,none⟩ _ j h3)).trans (b3 j h1 h2)
 ·exact (boxW_other g cs _ _ (n0+3) (by omega)).trans (row_set row3 0 _)
 ·exact own_box (own_set hown3 (by simp[Value.ownBlock];omega) _) hlen hz
theorem ap_cells {n0 g cp k z:Nat} {te:TypeId} {xs2 zs:List Value} {w3:World} (hown3:w3.ownsRow (n0+5) te z (.slice (some ⟨g,0,none⟩) (k+1) cp) (k+1) (xs2++zs)) (hlen:xs2.length=k * z) :
  (∀ j u,zs[j]?=some u→w3.cell? ⟨g,k * z+j,none⟩=some u)∧∀ j,w3.frozen? ⟨g,j,none⟩=false:=by
 obtain⟨h1,h2⟩:=own_cells hown3
 refine⟨fun j u hu=>h1 _ _ ?_,h2⟩
 rw[List.getElem?_append_right (by omega),hlen,show k * z+j - k * z=j by omega]
 exact hu
theorem ap_slot {n0 g cp k z:Nat} {ts te:TypeId} {o:Obj} {v2:Value} {xs2 zs:List Value} {W2 w3:World} (hv2:Row (n0+3) ts [v2] W2) (hown2:W2.ownsRow (n0+5) te z v2 k xs2)
  (hgrow:(W2.alloc o).drew.grownBy w3 v2.ownBlock) (hown3:w3.ownsRow (n0+5) te z (.slice (some ⟨g,0,none⟩) (k+1) cp) (k+1) (xs2++zs)) :
  Row (n0+3) ts [v2] w3∧n0+3 < g∧g < w3.heap.size:=by
 have hlt2:=ownsRow_lt hown2
 have hn3:=hv2.lt
 have hal:(W2.alloc o).drew.heap.size=W2.heap.size+1:=by simp[World.drew]
 have hg:=ownsRow_lt hown3 g rfl
 exact⟨((hgrow.block _ (by omega) (fun e=>by have:=(hlt2 _ e.symm).1;omega)).trans (Below.heap_alloc _ _ _ (by omega))).trans hv2,by omega,hg.2⟩
end Go.Proofs.YtdgbajnhhhjbcaaGreatDoor

/- Rm15@012 -/
import Derived.Sort.LoopGhostIn
import Derived.Stop.RegionWithIn
import Derived.Test.YtdgbajnhhhjbcaaGreatDoorQ35
set_option linter.unusedSimpArgs false
namespace Go.Proofs.YtdgbajnhhhjbcaaGreatDoor
open Lib(hid)
open Go.RowKit
def Moves2 {α:Type} (F:Fence) (n:Nat) (P:Program) (gf:Nat) (args:Nat→Array Value) (enc:α→Array Value) (G:α→World→Prop) (T:α→World→α→World→Prop) (E:α→World→World→Prop) (x0:α):Prop:=
 ∀ (l:Nat) (A B:α→World→Prop) (X Z:World→Prop) (W:World),
  (∀ x W1,A x W1→YieldAt F (n - 1) P l (enc x) W1 fun e W'=>(e=.returned (.bool true)∧B x W')∨(e=.returned (.bool false)∧X W')) →
  (∀ x W1,B x W1→G x W1∧(∀ x' W2,T x W1 x' W2→A x' W2)∧(∀ W2,E x W1 W2→Z W2)) →
  B x0 W→CallsIn F n P gf (args l) W fun e W'=>(∃ v,e=.returned v)∧(X W'∨Z W')
theorem range_moves2 {α:Type} {F:Fence} {n:Nat} {P:Program} {g:Operand} {ps:Array Tmp} {assign body:Code} {Q:Exit→Act→World→Prop} {a:Act} {w:World}
  (hro:F.round=none) (h1:1≤n) {gf:Nat} {bd lb:Array Value} (hg:a.eval g=.func (.func gf) bd lb) (hFg:F.fn gf) (eg:∀ args w,(callFunc gf args).run P w=.ok (.enter gf args) w)
  {enc:α→Array Value} {G:α→World→Prop} {T:α→World→α→World→Prop} {E:α→World→World→Prop} {x0:α}
  (hit:Moves2 F (n - 1) P gf (fun l=>bd++#[.func (.yield l) #[] #[]]++lb) enc G T E x0) (hps:∀ x,(enc x).size=ps.size)
  (A B:α→World→Prop) (X:Code→World→Prop) (Z:World→Prop) (M:α→Act→World→Prop)
  (fB:∀ x,Firm w.heap.size (B x)) (fX:∀ c,Firm w.heap.size (X c)) (fZ:Firm w.heap.size Z) (fM:∀ x a',Firm w.heap.size (M x a'))
  (h0:∀ o o',B x0 ((w.alloc o).alloc o'))
  (hB:∀ x W1,B x W1→G x W1∧(∀ x' W2,T x W1 x' W2→KeepsFrom w.heap.size W1 W2∧A x' W2)∧(∀ W2,E x W1 W2→KeepsFrom w.heap.size W1 W2∧Z W2))
  (hassign:∀ (l:Nat) (x:α) (W:World),A x W→assign.wpIn (F.inRound l) (n - 1 - 1) P (Exit.then (fun a' W'=>KeepsFrom w.heap.size W W'∧M x a' W') (fun _ _ _=>False)) { tmps:=(ps.zip (enc x)).foldl (fun t (p,v)=>t.setIfInBounds p v) a.tmps,defers:=[] } W)
  (hbody:∀ (l:Nat) (x:α) (a':Act) (W:World),M x a' W→body.wpIn (F.inRound l) (n - 1 - 1) P (roundEnd w.heap.size W (B x) X) a' W)
  (hdone:∀ (D:Nat) (W:World),w.heap.size≤D→Z W→W.heap[D]?=some (.deferred (some []))→Q .normal { a with defers:={ target:=.collected D,args:=#[] }::a.defers } W)
  (hstop:∀ (D:Nat) (c:Code) (W:World),w.heap.size≤D→X c W→W.heap[D]?=some (.deferred (some []))→c.wpIn F n P Q { a with defers:={ target:=.collected D,args:=#[] }::a.defers } W) :
  (Code.rangeFunc g ps assign body).wpIn F n P Q a w:=by
 refine wpIn_rangeFunc fun fn hfn=>?_
 rw[hro]
 let rec_:LoopState→Option Code→Loop:=fun st pe=>{ state:=st,pending:=pe,fn,tmps:=a.tmps,params:=ps,assign,body,defers:=w.heap.size }
 obtain⟨W1,hW1⟩:∃ W1,(w.alloc (.deferred (some []))).alloc (.loop (rec_ .ready none))=W1:=⟨_,rfl⟩
 have h01:B x0 W1:=by rw[← hW1];exact h0 _ _
 have hl1:((w.alloc (.deferred (some []))).alloc (.loop (rec_ .ready none))).heap[w.heap.size+1]?=some (.loop (rec_ .ready none)):=by
  have:=World.alloc_heap_new (w.alloc (.deferred (some []))) (.loop (rec_ .ready none))
  rwa [World.size_alloc] at this
 have hd1:((w.alloc (.deferred (some []))).alloc (.loop (rec_ .ready none))).heap[w.heap.size]?=some (.deferred (some [])):=
  (Below.heap_alloc _ _ _ (by simp)).trans (World.alloc_heap_new w _)
 rw[hW1] at hl1 hd1
 refine⟨w.heap.size+1,[{ target:=.collected w.heap.size,args:=#[] }],W1,{ target:=.fn (.func gf) lb,args:=bd++#[.func (.yield (w.heap.size+1)) #[] #[]] },W1,gf,bd++#[.func (.yield (w.heap.size+1)) #[] #[]]++lb,W1,
  by rw[← hW1];exact run_enterLoop_outer _ _ _ _ _,?_,?_,?_,fun _=>h1,?_⟩
 ·simp only[resolve,hg]
  simp[go_sem]
 ·intro f' hf'
  simp[Target.leads] at hf'
  subst hf'
  exact hFg
 ·simp[invoke,go_sem,eg]
 ·refine (hit (w.heap.size+1)
   (fun x W=>A x W∧W.heap[w.heap.size+1]?=some (.loop (rec_ .ready none))∧W.heap[w.heap.size]?=some (.deferred (some [])))
   (fun x W=>B x W∧W.heap[w.heap.size+1]?=some (.loop (rec_ .ready none))∧W.heap[w.heap.size]?=some (.deferred (some [])))
   (fun W=>∃ c,X c W∧W.heap[w.heap.size+1]?=some (.loop (rec_ .done (some c)))∧W.heap[w.heap.size]?=some (.deferred (some [])))
   (fun W=>Z W∧W.heap[w.heap.size+1]?=some (.loop (rec_ .ready none))∧W.heap[w.heap.size]?=some (.deferred (some [])))
   W1 ?_ ?_ ⟨h01,hl1,hd1⟩).mono ?_
  ·rintro x W ⟨hA,hl,hd⟩
   have hy:=run_yield (P:=P) (args:=enc x) hl (hps x)
   refine⟨fn,_,assign,body,hy,roundIn_of_wpIn hfn (wpIn_mono (hassign (w.heap.size+1) x W hA) ?_)⟩
   rintro e a' W2 hp
   cases e with
   | normal=>
    obtain⟨hk,hM⟩:=hp
    have hl2:=hk.same _ _ (by omega) hl rfl
    have hd2:=hk.same _ _ (Nat.le_refl _) hd rfl
    have hlt:=(Array.getElem?_eq_some_iff.1 hl2).1
    refine⟨_,run_beginRound hl2 rfl,?_⟩
    have hl3:(W2.putObj (w.heap.size+1) (.loop { rec_ .ready none with state:=.busy })).heap[w.heap.size+1]?=some (.loop { rec_ .ready none with state:=.busy }):=World.putObj_heap_same hlt
    have hd3:(W2.putObj (w.heap.size+1) (.loop { rec_ .ready none with state:=.busy })).heap[w.heap.size]?=some (.deferred (some [])):=(World.putObj_heap_other (by omega)).trans hd2
    refine wpIn_mono (hbody (w.heap.size+1) x a' _ (fM x a' W2 _ ⟨_,_,_,by omega,hl2,rfl,rfl,rfl⟩ hM)) ?_
    have fin:∀ (jump:Option Code) (W4:World),KeepsFrom w.heap.size (W2.putObj (w.heap.size+1) (.loop { rec_ .ready none with state:=.busy })) W4 →
      (Instr.endRound (w.heap.size+1) jump).run P W4=.ok (.bool jump.isNone) (W4.putObj (w.heap.size+1) (.loop (rec_ (if jump.isNone then .ready else .done) jump))) ∧
      Put w.heap.size W4 (W4.putObj (w.heap.size+1) (.loop (rec_ (if jump.isNone then .ready else .done) jump))) ∧
      (W4.putObj (w.heap.size+1) (.loop (rec_ (if jump.isNone then .ready else .done) jump))).heap[w.heap.size+1]?=some (.loop (rec_ (if jump.isNone then .ready else .done) jump)) ∧
      (W4.putObj (w.heap.size+1) (.loop (rec_ (if jump.isNone then .ready else .done) jump))).heap[w.heap.size]?=some (.deferred (some [])):=fun jump W4 hk4=>by
     have hl4:=hk4.same _ _ (by omega) hl3 rfl
     exact⟨run_endRound (P:=P) jump hl4,⟨_,_,_,by omega,hl4,rfl,rfl,rfl⟩,World.putObj_heap_same (Array.getElem?_eq_some_iff.1 hl4).1,(World.putObj_heap_other (by omega)).trans (hk4.same _ _ (Nat.le_refl _) hd3 rfl)⟩
    rintro e a3 W4 hp
    cases e with
    | normal=>
     obtain⟨r1,r2,r3,r4⟩:=fin none W4 hp.1
     exact⟨_,_,r1,.inl ⟨rfl,fB x _ _ r2 hp.2,r3,r4⟩⟩
    | ret=>
     obtain⟨r1,r2,r3,r4⟩:=fin (some .ret) W4 hp.1
     exact⟨_,_,r1,.inr ⟨rfl,.ret,fX _ _ _ r2 hp.2,r3,r4⟩⟩
    | exit id=>
     obtain⟨r1,r2,r3,r4⟩:=fin (some (.exit id)) W4 hp.1
     exact⟨_,_,r1,.inr ⟨rfl,.exit id,fX _ _ _ r2 hp.2,r3,r4⟩⟩
    | goto t=>
     obtain⟨r1,r2,r3,r4⟩:=fin (some (.goto t)) W4 hp.1
     exact⟨_,_,r1,.inr ⟨rfl,.goto t,fX _ _ _ r2 hp.2,r3,r4⟩⟩
    | panic ch=>exact hp.elim
    | outgrown=>exact hp.elim
   | ret=>exact hp.elim
   | exit id=>exact hp.elim
   | goto t=>exact hp.elim
   | panic ch=>exact hp.elim
   | outgrown=>exact hp.elim
  ·rintro x W ⟨hb,hl,hd⟩
   obtain⟨h2,h3,h4⟩:=hB x W hb
   refine⟨h2,fun x' W2 ht=>?_,fun W2 he=>?_⟩
   ·obtain⟨k,hA⟩:=h3 x' W2 ht
    exact⟨hA,k.same _ _ (by omega) hl rfl,k.same _ _ (Nat.le_refl _) hd rfl⟩
   ·obtain⟨k,hZ⟩:=h4 W2 he
    exact⟨hZ,k.same _ _ (by omega) hl rfl,k.same _ _ (Nat.le_refl _) hd rfl⟩
  ·rintro e W2 ⟨⟨v,rfl⟩,(⟨c,hX,hl,hd⟩ | ⟨hZ,hl,hd⟩)⟩
   ·exact⟨some c,_,run_endLoop (P:=P) hl (by simp[rec_]),hstop _ c _ (Nat.le_refl _) (fX c _ _ ⟨_,_,_,by omega,hl,rfl,rfl,rfl⟩ hX) ((World.putObj_heap_other (by omega)).trans hd)⟩
   ·exact⟨none,_,run_endLoop (P:=P) hl (by simp[rec_]),hdone _ _ (Nat.le_refl _) (fZ _ _ ⟨_,_,_,by omega,hl,rfl,rfl,rfl⟩ hZ) ((World.putObj_heap_other (by omega)).trans hd)⟩
abbrev KT:=Nat × TokI
def BgG (C:RC) (N:Nat) (x:KT) (W:World):Prop:=x.1≤N∧∃ du ru q,Rd C du ru q W∧x.1+q.length≤N
def BgT (C:RC) (x:KT) (W:World) (y:KT) (W':World):Prop:=y.1=x.1+1∧∃ du ru q,Rd C du ru (y.2::q) W∧Below W.heap.size W W'
def BgE (C:RC) (_:KT) (W W':World):Prop:=∃ du ru,Rd C du ru [] W∧Below W.heap.size W W'
set_option maxRecDepth 100000 in
set_option maxHeartbeats 1600000 in
theorem eachBeginning_moves (n:Nat) (hn:1≤n) (C:RC) (N:Nat) :
  Moves2 Fence.wide n Tryz.prog 48 (fun l=>#[.pointer (some ⟨C.R,0,none⟩)]++#[.func (.yield l) #[] #[]]++#[]) (fun x:KT=>#[tokW x.2]) (BgG C N) (BgT C) (BgE C) (0,T0):=by
 intro l A B X Z W hY hB h0
 simp only[List.append_toArray,List.cons_append,List.nil_append,List.append_nil]
 refine callsIn_of_wp Tryz.func48 rfl trivial ?_ rfl
 simp only[Tryz.ntmps48,List.size_toArray,List.length_cons,List.length_nil,Nat.reduceAdd,Nat.reduceSub,Array.replicate_succ,Array.replicate_zero,List.push_toArray,List.append_toArray,List.nil_append,List.cons_append]
 gi_wp2
 gi_loopg [] N (fun m wr=>∃ x:KT,m+x.1=N∧B x wr)
 case atStart=>exact⟨(0,T0),by simp,h0⟩
 case round=>
  obtain⟨⟨k,t0⟩,hm,hBx⟩:=hrel
  obtain⟨⟨hkN,du,ru,q,hr,hkq⟩,hT,hE⟩:=hB (k,t0) wr hBx
  dsimp only at hm hkN hkq
  obtain⟨i,hi1,hi2,hrow⟩:=hr.row
  have hfew:=hr.few
  have hlt:=hr.lt
  have c0:wr.cell? ⟨C.R,0,none⟩=some C.v:=by simp[World.cell?,hrow]
  have c1:wr.cell? ⟨C.R,1,none⟩=some (.int .i64 (i:Int)):=by simp[World.cell?,hrow]
  have d0:(wr.drew).cell? ⟨C.R,0,none⟩=some C.v:=c0
  have d1:(wr.drew).cell? ⟨C.R,1,none⟩=some (.int .i64 (i:Int)):=c1
  have hltd:C.R < (wr.drew).heap.size:=hlt
  have hbd:Below wr.heap.size wr wr.drew:=(Below.refl _ _).drew
  have hlie:=hr.lie
  obtain⟨v,hv⟩:∃ v,C.v=v:=⟨_,rfl⟩
  rw[hv] at c0 d0 hlie
  have hlen:∃ o cap,v=.slice o C.toks.length cap:=by
   rcases hlie with ⟨rfl,h0⟩ | ⟨a,cap,rfl,_⟩
   ·exact⟨none,0,by rw[h0];rfl⟩
   ·exact⟨some a,cap,rfl⟩
  obtain⟨o,cap,rfl⟩:=hlen
  cases q with
  | nil=>
   have hi:i=C.toks.length:=by
    have:=congrArg List.length hi1
    rw[List.length_drop] at this
    simp at this
    omega
   have hlt1:¬ (i:Int) < (C.toks.length:Int):=by omega
   have hdec:decide ((i:Int) < (C.toks.length:Int))=false:=by simpa using hlt1
   have HZ:=hid (fun nq:Nat=>hE (wr.drewN nq) ⟨du,ru,hr,⟨rfl,rfl,rfl,Nat.le_refl _,fun _ _=>rfl⟩⟩)
   clear hT hE hr hB hY hrow hlie hi1 hBx hv
   gi_wp2_with fail
   refine wpIn_wide.2 ?_
   go_quiet (fail)
   rename_i nq
   gi_wp2
   go_end0
   exact⟨⟨_,rfl⟩,.inr (HZ.out nq)⟩
  | cons t q=>
   have hi:i < C.toks.length:=by
    rcases Nat.lt_or_ge i C.toks.length with h | h
    ·exact h
    ·rw[List.drop_of_length_le h] at hi1;cases hi1
   have hlt1:(i:Int) < (C.toks.length:Int):=by omega
   have hdec:decide ((i:Int) < (C.toks.length:Int))=true:=by simpa using hlt1
   have hi0:(0:Int)≤(i:Int):=by omega
   have ht:C.toks[i]?=some t:=by
    have:=congrArg (fun l=>l[0]?) hi1
    simpa[List.getElem?_drop] using this
   rcases hlie with ⟨_,hnil⟩ | ⟨a,cap',he,_,_,hab,hat⟩
   ·exfalso
    rw[hnil] at hi
    exact absurd hi (Nat.not_lt_zero _)
   ·cases he
    obtain⟨t0',t1',t2'⟩:=SliceOf.cells hat hab (Below.refl C.R wr) ht
    have s0:(wr.drew).cell? (a.add (i * 3))=some (.int .i64 t.kind):=t0'
    have s1:(wr.drew).cell? ⟨(a.add (i * 3)).block,(a.add (i * 3)).off+1,none⟩=some (.string t.s):=t1'
    have s2:(wr.drew).cell? ⟨(a.add (i * 3)).block,(a.add (i * 3)).off+2,none⟩=some (.int .i64 t.line):=t2'
    have hab':(a.add (i * 3)).block < (wr.drew).heap.size:=by rw[add_block];show a.block < wr.heap.size;omega
    have hA:=hT (k+1,t) (wr.drew) ⟨rfl,du,ru,q,hr,hbd⟩
    obtain⟨fn,tmps,assign,body,hy,hR⟩:=hY (k+1,t) (wr.drew) hA
    have hk1:k+1≤N:=by rw[List.length_cons] at hkq;omega
    clear hT hE hr hB hY hrow hi1 hA hBx hv hat t0' t1' t2'
    gi_wp2_with fail
    refine wpIn_region_any (by kernel_rfl) ?_
    (try (change wpAnyIn _ _ _ _ _ _ _ _ _ (World.drew _)))
    refine wpAnyIn_take (i:=0) (v:=.pointer (some ⟨C.R,0,none⟩)) rfl rfl (by kernel_rfl) (by kernel_rfl) (by kernel_rfl) (fun _ _ _ h=>h) ⟨Or.inl ⟨by kernel_rfl,fun w=>?_⟩,fun _=>rfl⟩ ?_
    ·go_simp
    (try simp only[Act.put,List.setIfInBounds_toArray,List.set_cons_zero,List.set_cons_succ])
    refine wpAnyIn_take (i:=1) (v:=.pointer (some ⟨C.R,0,none⟩)) rfl rfl (by kernel_rfl) (by kernel_rfl) (by kernel_rfl) (fun _ _ _ h=>h) ⟨Or.inl ⟨by kernel_rfl,fun w=>?_⟩,fun _=>rfl⟩ ?_
    ·go_simp
    (try simp only[Act.put,List.setIfInBounds_toArray,List.set_cons_zero,List.set_cons_succ])
    refine wpAnyIn_take (i:=2) (v:=.pointer (some ⟨C.R,1,none⟩)) rfl rfl (by kernel_rfl) (by kernel_rfl) (by kernel_rfl) (fun _ _ _ h=>h) ⟨Or.inl ⟨by kernel_rfl,fun w=>?_⟩,fun _=>rfl⟩ ?_
    ·go_simp
    (try simp only[Act.put,List.setIfInBounds_toArray,List.set_cons_zero,List.set_cons_succ])
    refine wpAnyIn_take (i:=4) (v:=.pointer (some ⟨C.R,0,none⟩)) rfl rfl (by kernel_rfl) (by kernel_rfl) (by kernel_rfl) (fun _ _ _ h=>h) ⟨Or.inl ⟨by kernel_rfl,fun w=>?_⟩,fun _=>rfl⟩ ?_
    ·go_simp
    (try simp only[Act.put,List.setIfInBounds_toArray,List.set_cons_zero,List.set_cons_succ])
    refine wpAnyIn_take (i:=5) (v:=.pointer (some ⟨C.R,0,none⟩)) rfl rfl (by kernel_rfl) (by kernel_rfl) (by kernel_rfl) (fun _ _ _ h=>h) ⟨Or.inl ⟨by kernel_rfl,fun w=>?_⟩,fun _=>rfl⟩ ?_
    ·go_simp
    (try simp only[Act.put,List.setIfInBounds_toArray,List.set_cons_zero,List.set_cons_succ])
    refine wpAnyIn_take (i:=6) (v:=.pointer (some ⟨C.R,0,none⟩)) rfl rfl (by kernel_rfl) (by kernel_rfl) (by kernel_rfl) (fun _ _ _ h=>h) ⟨Or.inl ⟨by kernel_rfl,fun w=>?_⟩,fun _=>rfl⟩ ?_
    ·go_simp
    (try simp only[Act.put,List.setIfInBounds_toArray,List.set_cons_zero,List.set_cons_succ])
    refine wpAnyIn_ready (rs:=[3,7]) (by kernel_rfl) (by simp) ?_
    refine (AllReadyIn.cons rfl (fun K hK=>?_) (AllReadyIn.cons rfl (fun K hK=>?_) AllReadyIn.nil))
    ·go_simp
     refine hK _ _ ?_
     clear hK K
     (try simp only[Act.put,List.setIfInBounds_toArray,List.set_cons_zero,List.set_cons_succ])
     refine wpAnyIn_ready (rs:=[7]) (by kernel_rfl) (by simp) ?_
     refine (AllReadyIn.cons rfl (fun K hK=>?_) AllReadyIn.nil)
     ·go_simp
      refine hK _ _ ?_
      clear hK K
      (try simp only[Act.put,List.setIfInBounds_toArray,List.set_cons_zero,List.set_cons_succ])
      refine wpAnyIn_ready (rs:=[8]) (by kernel_rfl) (by simp) ?_
      refine (AllReadyIn.cons rfl (fun K hK=>?_) AllReadyIn.nil)
      ·go_simp
       refine hK _ _ ?_
       clear hK K
       (try simp only[Act.put,List.setIfInBounds_toArray,List.set_cons_zero,List.set_cons_succ])
       refine wpAnyIn_take (i:=9) (v:=.bool true) rfl rfl (by kernel_rfl) (by kernel_rfl) (by kernel_rfl) (fun _ _ _ h=>h) ⟨Or.inl ⟨by kernel_rfl,fun w=>?_⟩,fun _=>rfl⟩ ?_
       ·go_simp
       (try simp only[Act.put,List.setIfInBounds_toArray,List.set_cons_zero,List.set_cons_succ])
       refine wpAnyIn_take (i:=10) (v:=.bool true) rfl rfl (by kernel_rfl) (by kernel_rfl) (by kernel_rfl) (fun _ _ _ h=>h) ⟨Or.inl ⟨by kernel_rfl,fun w=>?_⟩,fun _=>rfl⟩ ?_
       ·go_simp
       (try simp only[Act.put,List.setIfInBounds_toArray,List.set_cons_zero,List.set_cons_succ])
       refine wpAnyIn_take (i:=11) (v:=.func (.yield l) #[] #[]) rfl rfl (by kernel_rfl) (by kernel_rfl) (by kernel_rfl) (fun _ _ _ h=>h) ⟨Or.inl ⟨by kernel_rfl,fun w=>?_⟩,fun _=>rfl⟩ ?_
       ·go_simp
       (try simp only[Act.put,List.setIfInBounds_toArray,List.set_cons_zero,List.set_cons_succ])
       refine wpAnyIn_take (i:=12) (v:=.pointer (some ⟨C.R,0,none⟩)) rfl rfl (by kernel_rfl) (by kernel_rfl) (by kernel_rfl) (fun _ _ _ h=>h) ⟨Or.inl ⟨by kernel_rfl,fun w=>?_⟩,fun _=>rfl⟩ ?_
       ·go_simp
       (try simp only[Act.put,List.setIfInBounds_toArray,List.set_cons_zero,List.set_cons_succ])
       refine wpAnyIn_take (i:=13) (v:=.pointer (some ⟨C.R,0,none⟩)) rfl rfl (by kernel_rfl) (by kernel_rfl) (by kernel_rfl) (fun _ _ _ h=>h) ⟨Or.inl ⟨by kernel_rfl,fun w=>?_⟩,fun _=>rfl⟩ ?_
       ·go_simp
       (try simp only[Act.put,List.setIfInBounds_toArray,List.set_cons_zero,List.set_cons_succ])
       refine wpAnyIn_take (i:=14) (v:=.pointer (some ⟨C.R,0,none⟩)) rfl rfl (by kernel_rfl) (by kernel_rfl) (by kernel_rfl) (fun _ _ _ h=>h) ⟨Or.inl ⟨by kernel_rfl,fun w=>?_⟩,fun _=>rfl⟩ ?_
       ·go_simp
       (try simp only[Act.put,List.setIfInBounds_toArray,List.set_cons_zero,List.set_cons_succ])
       refine wpAnyIn_take (i:=16) (v:=.pointer (some ⟨C.R,0,none⟩)) rfl rfl (by kernel_rfl) (by kernel_rfl) (by kernel_rfl) (fun _ _ _ h=>h) ⟨Or.inl ⟨by kernel_rfl,fun w=>?_⟩,fun _=>rfl⟩ ?_
       ·go_simp
       (try simp only[Act.put,List.setIfInBounds_toArray,List.set_cons_zero,List.set_cons_succ])
       refine wpAnyIn_take (i:=17) (v:=.pointer (some ⟨C.R,0,none⟩)) rfl rfl (by kernel_rfl) (by kernel_rfl) (by kernel_rfl) (fun _ _ _ h=>h) ⟨Or.inl ⟨by kernel_rfl,fun w=>?_⟩,fun _=>rfl⟩ ?_
       ·go_simp
       (try simp only[Act.put,List.setIfInBounds_toArray,List.set_cons_zero,List.set_cons_succ])
       refine wpAnyIn_take (i:=18) (v:=.pointer (some ⟨C.R,1,none⟩)) rfl rfl (by kernel_rfl) (by kernel_rfl) (by kernel_rfl) (fun _ _ _ h=>h) ⟨Or.inl ⟨by kernel_rfl,fun w=>?_⟩,fun _=>rfl⟩ ?_
       ·go_simp
       (try simp only[Act.put,List.setIfInBounds_toArray,List.set_cons_zero,List.set_cons_succ])
       refine wpAnyIn_ready (rs:=[15,19]) (by kernel_rfl) (by simp) ?_
       refine (AllReadyIn.cons rfl (fun K hK=>?_) (AllReadyIn.cons rfl (fun K hK=>?_) AllReadyIn.nil))
       ·go_simp
        refine hK _ _ ?_
        clear hK K
        (try simp only[Act.put,List.setIfInBounds_toArray,List.set_cons_zero,List.set_cons_succ])
        refine wpAnyIn_ready (rs:=[19]) (by kernel_rfl) (by simp) ?_
        refine (AllReadyIn.cons rfl (fun K hK=>?_) AllReadyIn.nil)
        ·go_simp
         refine hK _ _ ?_
         clear hK K
         (try simp only[Act.put,List.setIfInBounds_toArray,List.set_cons_zero,List.set_cons_succ])
         refine wpAnyIn_take (i:=20) (v:=.pointer (some (a.add (i * 3)))) rfl rfl (by kernel_rfl) (by kernel_rfl) (by kernel_rfl) (fun _ _ _ h=>h) ⟨Or.inl ⟨by kernel_rfl,fun w=>?_⟩,fun _=>rfl⟩ ?_
         ·go_simp
         (try simp only[Act.put,List.setIfInBounds_toArray,List.set_cons_zero,List.set_cons_succ])
         refine wpAnyIn_ready (rs:=[21]) (by kernel_rfl) (by simp) ?_
         refine (AllReadyIn.cons rfl (fun K hK=>?_) AllReadyIn.nil)
         ·go_simp
          refine hK _ _ ?_
          clear hK K
          (try simp only[Act.put,List.setIfInBounds_toArray,List.set_cons_zero,List.set_cons_succ])
          refine wpAnyIn_ready (rs:=[22]) (by kernel_rfl) (by simp) ?_
          refine AllReadyIn.cons rfl (fun K hK=>?_) AllReadyIn.nil
          have HK:=hid hK
          clear hK
          go_simp
          refine hR.mono ?_
          rintro e W3 hpost
          have hb:∃ b,e=.returned (.bool b)∧((b=true∧B (k+1,t) W3)∨(b=false∧X W3)):=by
           rcases hpost with ⟨h1,h2⟩ | ⟨h1,h2⟩
           ·exact⟨true,h1,.inl ⟨rfl,h2⟩⟩
           ·exact⟨false,h1,.inr ⟨rfl,h2⟩⟩
          obtain⟨b,rfl,hb⟩:=hb
          refine HK.out _ _ ?_
          clear HK K
          (try simp only[Act.put,List.setIfInBounds_toArray,List.set_cons_zero,List.set_cons_succ])
          refine wpAnyIn_take (i:=23) (v:=.bool b) rfl rfl (by kernel_rfl) (by kernel_rfl) (by kernel_rfl) (fun _ _ _ h=>h) ⟨Or.inl ⟨by kernel_rfl,fun w=>?_⟩,fun _=>rfl⟩ ?_
          ·go_simp
          (try simp only[Act.put,List.setIfInBounds_toArray,List.set_cons_zero,List.set_cons_succ])
          refine (wpAnyIn_done (by kernel_rfl) ?_) _
          rcases hb with ⟨rfl,hb⟩ | ⟨rfl,hb⟩
          ·gi_wp2
           gi_roundg (N - (k+1))
           case rel=>exact⟨(k+1,t),by show N - (k+1)+(k+1)=N;omega,hb⟩
           case measure=>omega
          ·gi_wp2
           go_end0
           exact⟨⟨_,rfl⟩,.inl hb⟩
       ·go_simp
        refine hK _ _ ?_
        clear hK K
        (try simp only[Act.put,List.setIfInBounds_toArray,List.set_cons_zero,List.set_cons_succ])
        refine wpAnyIn_ready (rs:=[15]) (by kernel_rfl) (by simp) ?_
        refine (AllReadyIn.cons rfl (fun K hK=>?_) AllReadyIn.nil)
        ·go_simp
         refine hK _ _ ?_
         clear hK K
         (try simp only[Act.put,List.setIfInBounds_toArray,List.set_cons_zero,List.set_cons_succ])
         refine wpAnyIn_take (i:=20) (v:=.pointer (some (a.add (i * 3)))) rfl rfl (by kernel_rfl) (by kernel_rfl) (by kernel_rfl) (fun _ _ _ h=>h) ⟨Or.inl ⟨by kernel_rfl,fun w=>?_⟩,fun _=>rfl⟩ ?_
         ·go_simp
         (try simp only[Act.put,List.setIfInBounds_toArray,List.set_cons_zero,List.set_cons_succ])
         refine wpAnyIn_ready (rs:=[21]) (by kernel_rfl) (by simp) ?_
         refine (AllReadyIn.cons rfl (fun K hK=>?_) AllReadyIn.nil)
         ·go_simp
          refine hK _ _ ?_
          clear hK K
          (try simp only[Act.put,List.setIfInBounds_toArray,List.set_cons_zero,List.set_cons_succ])
          refine wpAnyIn_ready (rs:=[22]) (by kernel_rfl) (by simp) ?_
          refine AllReadyIn.cons rfl (fun K hK=>?_) AllReadyIn.nil
          have HK:=hid hK
          clear hK
          go_simp
          refine hR.mono ?_
          rintro e W3 hpost
          have hb:∃ b,e=.returned (.bool b)∧((b=true∧B (k+1,t) W3)∨(b=false∧X W3)):=by
           rcases hpost with ⟨h1,h2⟩ | ⟨h1,h2⟩
           ·exact⟨true,h1,.inl ⟨rfl,h2⟩⟩
           ·exact⟨false,h1,.inr ⟨rfl,h2⟩⟩
          obtain⟨b,rfl,hb⟩:=hb
          refine HK.out _ _ ?_
          clear HK K
          (try simp only[Act.put,List.setIfInBounds_toArray,List.set_cons_zero,List.set_cons_succ])
          refine wpAnyIn_take (i:=23) (v:=.bool b) rfl rfl (by kernel_rfl) (by kernel_rfl) (by kernel_rfl) (fun _ _ _ h=>h) ⟨Or.inl ⟨by kernel_rfl,fun w=>?_⟩,fun _=>rfl⟩ ?_
          ·go_simp
          (try simp only[Act.put,List.setIfInBounds_toArray,List.set_cons_zero,List.set_cons_succ])
          refine (wpAnyIn_done (by kernel_rfl) ?_) _
          rcases hb with ⟨rfl,hb⟩ | ⟨rfl,hb⟩
          ·gi_wp2
           gi_roundg (N - (k+1))
           case rel=>exact⟨(k+1,t),by show N - (k+1)+(k+1)=N;omega,hb⟩
           case measure=>omega
          ·gi_wp2
           go_end0
           exact⟨⟨_,rfl⟩,.inl hb⟩
    ·go_simp
     refine hK _ _ ?_
     clear hK K
     (try simp only[Act.put,List.setIfInBounds_toArray,List.set_cons_zero,List.set_cons_succ])
     refine wpAnyIn_ready (rs:=[3,8]) (by kernel_rfl) (by simp) ?_
     refine (AllReadyIn.cons rfl (fun K hK=>?_) (AllReadyIn.cons rfl (fun K hK=>?_) AllReadyIn.nil))
     ·go_simp
      refine hK _ _ ?_
      clear hK K
      (try simp only[Act.put,List.setIfInBounds_toArray,List.set_cons_zero,List.set_cons_succ])
      refine wpAnyIn_ready (rs:=[8]) (by kernel_rfl) (by simp) ?_
      refine (AllReadyIn.cons rfl (fun K hK=>?_) AllReadyIn.nil)
      ·go_simp
       refine hK _ _ ?_
       clear hK K
       (try simp only[Act.put,List.setIfInBounds_toArray,List.set_cons_zero,List.set_cons_succ])
       refine wpAnyIn_take (i:=9) (v:=.bool true) rfl rfl (by kernel_rfl) (by kernel_rfl) (by kernel_rfl) (fun _ _ _ h=>h) ⟨Or.inl ⟨by kernel_rfl,fun w=>?_⟩,fun _=>rfl⟩ ?_
       ·go_simp
       (try simp only[Act.put,List.setIfInBounds_toArray,List.set_cons_zero,List.set_cons_succ])
       refine wpAnyIn_take (i:=10) (v:=.bool true) rfl rfl (by kernel_rfl) (by kernel_rfl) (by kernel_rfl) (fun _ _ _ h=>h) ⟨Or.inl ⟨by kernel_rfl,fun w=>?_⟩,fun _=>rfl⟩ ?_
       ·go_simp
       (try simp only[Act.put,List.setIfInBounds_toArray,List.set_cons_zero,List.set_cons_succ])
       refine wpAnyIn_take (i:=11) (v:=.func (.yield l) #[] #[]) rfl rfl (by kernel_rfl) (by kernel_rfl) (by kernel_rfl) (fun _ _ _ h=>h) ⟨Or.inl ⟨by kernel_rfl,fun w=>?_⟩,fun _=>rfl⟩ ?_
       ·go_simp
       (try simp only[Act.put,List.setIfInBounds_toArray,List.set_cons_zero,List.set_cons_succ])
       refine wpAnyIn_take (i:=12) (v:=.pointer (some ⟨C.R,0,none⟩)) rfl rfl (by kernel_rfl) (by kernel_rfl) (by kernel_rfl) (fun _ _ _ h=>h) ⟨Or.inl ⟨by kernel_rfl,fun w=>?_⟩,fun _=>rfl⟩ ?_
       ·go_simp
       (try simp only[Act.put,List.setIfInBounds_toArray,List.set_cons_zero,List.set_cons_succ])
       refine wpAnyIn_take (i:=13) (v:=.pointer (some ⟨C.R,0,none⟩)) rfl rfl (by kernel_rfl) (by kernel_rfl) (by kernel_rfl) (fun _ _ _ h=>h) ⟨Or.inl ⟨by kernel_rfl,fun w=>?_⟩,fun _=>rfl⟩ ?_
       ·go_simp
       (try simp only[Act.put,List.setIfInBounds_toArray,List.set_cons_zero,List.set_cons_succ])
       refine wpAnyIn_take (i:=14) (v:=.pointer (some ⟨C.R,0,none⟩)) rfl rfl (by kernel_rfl) (by kernel_rfl) (by kernel_rfl) (fun _ _ _ h=>h) ⟨Or.inl ⟨by kernel_rfl,fun w=>?_⟩,fun _=>rfl⟩ ?_
       ·go_simp
       (try simp only[Act.put,List.setIfInBounds_toArray,List.set_cons_zero,List.set_cons_succ])
       refine wpAnyIn_take (i:=16) (v:=.pointer (some ⟨C.R,0,none⟩)) rfl rfl (by kernel_rfl) (by kernel_rfl) (by kernel_rfl) (fun _ _ _ h=>h) ⟨Or.inl ⟨by kernel_rfl,fun w=>?_⟩,fun _=>rfl⟩ ?_
       ·go_simp
       (try simp only[Act.put,List.setIfInBounds_toArray,List.set_cons_zero,List.set_cons_succ])
       refine wpAnyIn_take (i:=17) (v:=.pointer (some ⟨C.R,0,none⟩)) rfl rfl (by kernel_rfl) (by kernel_rfl) (by kernel_rfl) (fun _ _ _ h=>h) ⟨Or.inl ⟨by kernel_rfl,fun w=>?_⟩,fun _=>rfl⟩ ?_
       ·go_simp
       (try simp only[Act.put,List.setIfInBounds_toArray,List.set_cons_zero,List.set_cons_succ])
       refine wpAnyIn_take (i:=18) (v:=.pointer (some ⟨C.R,1,none⟩)) rfl rfl (by kernel_rfl) (by kernel_rfl) (by kernel_rfl) (fun _ _ _ h=>h) ⟨Or.inl ⟨by kernel_rfl,fun w=>?_⟩,fun _=>rfl⟩ ?_
       ·go_simp
       (try simp only[Act.put,List.setIfInBounds_toArray,List.set_cons_zero,List.set_cons_succ])
       refine wpAnyIn_ready (rs:=[15,19]) (by kernel_rfl) (by simp) ?_
       refine (AllReadyIn.cons rfl (fun K hK=>?_) (AllReadyIn.cons rfl (fun K hK=>?_) AllReadyIn.nil))
       ·go_simp
        refine hK _ _ ?_
        clear hK K
        (try simp only[Act.put,List.setIfInBounds_toArray,List.set_cons_zero,List.set_cons_succ])
        refine wpAnyIn_ready (rs:=[19]) (by kernel_rfl) (by simp) ?_
        refine (AllReadyIn.cons rfl (fun K hK=>?_) AllReadyIn.nil)
        ·go_simp
         refine hK _ _ ?_
         clear hK K
         (try simp only[Act.put,List.setIfInBounds_toArray,List.set_cons_zero,List.set_cons_succ])
         refine wpAnyIn_take (i:=20) (v:=.pointer (some (a.add (i * 3)))) rfl rfl (by kernel_rfl) (by kernel_rfl) (by kernel_rfl) (fun _ _ _ h=>h) ⟨Or.inl ⟨by kernel_rfl,fun w=>?_⟩,fun _=>rfl⟩ ?_
         ·go_simp
         (try simp only[Act.put,List.setIfInBounds_toArray,List.set_cons_zero,List.set_cons_succ])
         refine wpAnyIn_ready (rs:=[21]) (by kernel_rfl) (by simp) ?_
         refine (AllReadyIn.cons rfl (fun K hK=>?_) AllReadyIn.nil)
         ·go_simp
          refine hK _ _ ?_
          clear hK K
          (try simp only[Act.put,List.setIfInBounds_toArray,List.set_cons_zero,List.set_cons_succ])
          refine wpAnyIn_ready (rs:=[22]) (by kernel_rfl) (by simp) ?_
          refine AllReadyIn.cons rfl (fun K hK=>?_) AllReadyIn.nil
          have HK:=hid hK
          clear hK
          go_simp
          refine hR.mono ?_
          rintro e W3 hpost
          have hb:∃ b,e=.returned (.bool b)∧((b=true∧B (k+1,t) W3)∨(b=false∧X W3)):=by
           rcases hpost with ⟨h1,h2⟩ | ⟨h1,h2⟩
           ·exact⟨true,h1,.inl ⟨rfl,h2⟩⟩
           ·exact⟨false,h1,.inr ⟨rfl,h2⟩⟩
          obtain⟨b,rfl,hb⟩:=hb
          refine HK.out _ _ ?_
          clear HK K
          (try simp only[Act.put,List.setIfInBounds_toArray,List.set_cons_zero,List.set_cons_succ])
          refine wpAnyIn_take (i:=23) (v:=.bool b) rfl rfl (by kernel_rfl) (by kernel_rfl) (by kernel_rfl) (fun _ _ _ h=>h) ⟨Or.inl ⟨by kernel_rfl,fun w=>?_⟩,fun _=>rfl⟩ ?_
          ·go_simp
          (try simp only[Act.put,List.setIfInBounds_toArray,List.set_cons_zero,List.set_cons_succ])
          refine (wpAnyIn_done (by kernel_rfl) ?_) _
          rcases hb with ⟨rfl,hb⟩ | ⟨rfl,hb⟩
          ·gi_wp2
           gi_roundg (N - (k+1))
           case rel=>exact⟨(k+1,t),by show N - (k+1)+(k+1)=N;omega,hb⟩
           case measure=>omega
          ·gi_wp2
           go_end0
           exact⟨⟨_,rfl⟩,.inl hb⟩
       ·go_simp
        refine hK _ _ ?_
        clear hK K
        (try simp only[Act.put,List.setIfInBounds_toArray,List.set_cons_zero,List.set_cons_succ])
        refine wpAnyIn_ready (rs:=[15]) (by kernel_rfl) (by simp) ?_
        refine (AllReadyIn.cons rfl (fun K hK=>?_) AllReadyIn.nil)
        ·go_simp
         refine hK _ _ ?_
         clear hK K
         (try simp only[Act.put,List.setIfInBounds_toArray,List.set_cons_zero,List.set_cons_succ])
         refine wpAnyIn_take (i:=20) (v:=.pointer (some (a.add (i * 3)))) rfl rfl (by kernel_rfl) (by kernel_rfl) (by kernel_rfl) (fun _ _ _ h=>h) ⟨Or.inl ⟨by kernel_rfl,fun w=>?_⟩,fun _=>rfl⟩ ?_
         ·go_simp
         (try simp only[Act.put,List.setIfInBounds_toArray,List.set_cons_zero,List.set_cons_succ])
         refine wpAnyIn_ready (rs:=[21]) (by kernel_rfl) (by simp) ?_
         refine (AllReadyIn.cons rfl (fun K hK=>?_) AllReadyIn.nil)
         ·go_simp
          refine hK _ _ ?_
          clear hK K
          (try simp only[Act.put,List.setIfInBounds_toArray,List.set_cons_zero,List.set_cons_succ])
          refine wpAnyIn_ready (rs:=[22]) (by kernel_rfl) (by simp) ?_
          refine AllReadyIn.cons rfl (fun K hK=>?_) AllReadyIn.nil
          have HK:=hid hK
          clear hK
          go_simp
          refine hR.mono ?_
          rintro e W3 hpost
          have hb:∃ b,e=.returned (.bool b)∧((b=true∧B (k+1,t) W3)∨(b=false∧X W3)):=by
           rcases hpost with ⟨h1,h2⟩ | ⟨h1,h2⟩
           ·exact⟨true,h1,.inl ⟨rfl,h2⟩⟩
           ·exact⟨false,h1,.inr ⟨rfl,h2⟩⟩
          obtain⟨b,rfl,hb⟩:=hb
          refine HK.out _ _ ?_
          clear HK K
          (try simp only[Act.put,List.setIfInBounds_toArray,List.set_cons_zero,List.set_cons_succ])
          refine wpAnyIn_take (i:=23) (v:=.bool b) rfl rfl (by kernel_rfl) (by kernel_rfl) (by kernel_rfl) (fun _ _ _ h=>h) ⟨Or.inl ⟨by kernel_rfl,fun w=>?_⟩,fun _=>rfl⟩ ?_
          ·go_simp
          (try simp only[Act.put,List.setIfInBounds_toArray,List.set_cons_zero,List.set_cons_succ])
          refine (wpAnyIn_done (by kernel_rfl) ?_) _
          rcases hb with ⟨rfl,hb⟩ | ⟨rfl,hb⟩
          ·gi_wp2
           gi_roundg (N - (k+1))
           case rel=>exact⟨(k+1,t),by show N - (k+1)+(k+1)=N;omega,hb⟩
           case measure=>omega
          ·gi_wp2
           go_end0
           exact⟨⟨_,rfl⟩,.inl hb⟩
     ·go_simp
      refine hK _ _ ?_
      clear hK K
      (try simp only[Act.put,List.setIfInBounds_toArray,List.set_cons_zero,List.set_cons_succ])
      refine wpAnyIn_ready (rs:=[3]) (by kernel_rfl) (by simp) ?_
      refine (AllReadyIn.cons rfl (fun K hK=>?_) AllReadyIn.nil)
      ·go_simp
       refine hK _ _ ?_
       clear hK K
       (try simp only[Act.put,List.setIfInBounds_toArray,List.set_cons_zero,List.set_cons_succ])
       refine wpAnyIn_take (i:=9) (v:=.bool true) rfl rfl (by kernel_rfl) (by kernel_rfl) (by kernel_rfl) (fun _ _ _ h=>h) ⟨Or.inl ⟨by kernel_rfl,fun w=>?_⟩,fun _=>rfl⟩ ?_
       ·go_simp
       (try simp only[Act.put,List.setIfInBounds_toArray,List.set_cons_zero,List.set_cons_succ])
       refine wpAnyIn_take (i:=10) (v:=.bool true) rfl rfl (by kernel_rfl) (by kernel_rfl) (by kernel_rfl) (fun _ _ _ h=>h) ⟨Or.inl ⟨by kernel_rfl,fun w=>?_⟩,fun _=>rfl⟩ ?_
       ·go_simp
       (try simp only[Act.put,List.setIfInBounds_toArray,List.set_cons_zero,List.set_cons_succ])
       refine wpAnyIn_take (i:=11) (v:=.func (.yield l) #[] #[]) rfl rfl (by kernel_rfl) (by kernel_rfl) (by kernel_rfl) (fun _ _ _ h=>h) ⟨Or.inl ⟨by kernel_rfl,fun w=>?_⟩,fun _=>rfl⟩ ?_
       ·go_simp
       (try simp only[Act.put,List.setIfInBounds_toArray,List.set_cons_zero,List.set_cons_succ])
       refine wpAnyIn_take (i:=12) (v:=.pointer (some ⟨C.R,0,none⟩)) rfl rfl (by kernel_rfl) (by kernel_rfl) (by kernel_rfl) (fun _ _ _ h=>h) ⟨Or.inl ⟨by kernel_rfl,fun w=>?_⟩,fun _=>rfl⟩ ?_
       ·go_simp
       (try simp only[Act.put,List.setIfInBounds_toArray,List.set_cons_zero,List.set_cons_succ])
       refine wpAnyIn_take (i:=13) (v:=.pointer (some ⟨C.R,0,none⟩)) rfl rfl (by kernel_rfl) (by kernel_rfl) (by kernel_rfl) (fun _ _ _ h=>h) ⟨Or.inl ⟨by kernel_rfl,fun w=>?_⟩,fun _=>rfl⟩ ?_
       ·go_simp
       (try simp only[Act.put,List.setIfInBounds_toArray,List.set_cons_zero,List.set_cons_succ])
       refine wpAnyIn_take (i:=14) (v:=.pointer (some ⟨C.R,0,none⟩)) rfl rfl (by kernel_rfl) (by kernel_rfl) (by kernel_rfl) (fun _ _ _ h=>h) ⟨Or.inl ⟨by kernel_rfl,fun w=>?_⟩,fun _=>rfl⟩ ?_
       ·go_simp
       (try simp only[Act.put,List.setIfInBounds_toArray,List.set_cons_zero,List.set_cons_succ])
       refine wpAnyIn_take (i:=16) (v:=.pointer (some ⟨C.R,0,none⟩)) rfl rfl (by kernel_rfl) (by kernel_rfl) (by kernel_rfl) (fun _ _ _ h=>h) ⟨Or.inl ⟨by kernel_rfl,fun w=>?_⟩,fun _=>rfl⟩ ?_
       ·go_simp
       (try simp only[Act.put,List.setIfInBounds_toArray,List.set_cons_zero,List.set_cons_succ])
       refine wpAnyIn_take (i:=17) (v:=.pointer (some ⟨C.R,0,none⟩)) rfl rfl (by kernel_rfl) (by kernel_rfl) (by kernel_rfl) (fun _ _ _ h=>h) ⟨Or.inl ⟨by kernel_rfl,fun w=>?_⟩,fun _=>rfl⟩ ?_
       ·go_simp
       (try simp only[Act.put,List.setIfInBounds_toArray,List.set_cons_zero,List.set_cons_succ])
       refine wpAnyIn_take (i:=18) (v:=.pointer (some ⟨C.R,1,none⟩)) rfl rfl (by kernel_rfl) (by kernel_rfl) (by kernel_rfl) (fun _ _ _ h=>h) ⟨Or.inl ⟨by kernel_rfl,fun w=>?_⟩,fun _=>rfl⟩ ?_
       ·go_simp
       (try simp only[Act.put,List.setIfInBounds_toArray,List.set_cons_zero,List.set_cons_succ])
       refine wpAnyIn_ready (rs:=[15,19]) (by kernel_rfl) (by simp) ?_
       refine (AllReadyIn.cons rfl (fun K hK=>?_) (AllReadyIn.cons rfl (fun K hK=>?_) AllReadyIn.nil))
       ·go_simp
        refine hK _ _ ?_
        clear hK K
        (try simp only[Act.put,List.setIfInBounds_toArray,List.set_cons_zero,List.set_cons_succ])
        refine wpAnyIn_ready (rs:=[19]) (by kernel_rfl) (by simp) ?_
        refine (AllReadyIn.cons rfl (fun K hK=>?_) AllReadyIn.nil)
        ·go_simp
         refine hK _ _ ?_
         clear hK K
         (try simp only[Act.put,List.setIfInBounds_toArray,List.set_cons_zero,List.set_cons_succ])
         refine wpAnyIn_take (i:=20) (v:=.pointer (some (a.add (i * 3)))) rfl rfl (by kernel_rfl) (by kernel_rfl) (by kernel_rfl) (fun _ _ _ h=>h) ⟨Or.inl ⟨by kernel_rfl,fun w=>?_⟩,fun _=>rfl⟩ ?_
         ·go_simp
         (try simp only[Act.put,List.setIfInBounds_toArray,List.set_cons_zero,List.set_cons_succ])
         refine wpAnyIn_ready (rs:=[21]) (by kernel_rfl) (by simp) ?_
         refine (AllReadyIn.cons rfl (fun K hK=>?_) AllReadyIn.nil)
         ·go_simp
          refine hK _ _ ?_
          clear hK K
          (try simp only[Act.put,List.setIfInBounds_toArray,List.set_cons_zero,List.set_cons_succ])
          refine wpAnyIn_ready (rs:=[22]) (by kernel_rfl) (by simp) ?_
          refine AllReadyIn.cons rfl (fun K hK=>?_) AllReadyIn.nil
          have HK:=hid hK
          clear hK
          go_simp
          refine hR.mono ?_
          rintro e W3 hpost
          have hb:∃ b,e=.returned (.bool b)∧((b=true∧B (k+1,t) W3)∨(b=false∧X W3)):=by
           rcases hpost with ⟨h1,h2⟩ | ⟨h1,h2⟩
           ·exact⟨true,h1,.inl ⟨rfl,h2⟩⟩
           ·exact⟨false,h1,.inr ⟨rfl,h2⟩⟩
          obtain⟨b,rfl,hb⟩:=hb
          refine HK.out _ _ ?_
          clear HK K
          (try simp only[Act.put,List.setIfInBounds_toArray,List.set_cons_zero,List.set_cons_succ])
          refine wpAnyIn_take (i:=23) (v:=.bool b) rfl rfl (by kernel_rfl) (by kernel_rfl) (by kernel_rfl) (fun _ _ _ h=>h) ⟨Or.inl ⟨by kernel_rfl,fun w=>?_⟩,fun _=>rfl⟩ ?_
          ·go_simp
          (try simp only[Act.put,List.setIfInBounds_toArray,List.set_cons_zero,List.set_cons_succ])
          refine (wpAnyIn_done (by kernel_rfl) ?_) _
          rcases hb with ⟨rfl,hb⟩ | ⟨rfl,hb⟩
          ·gi_wp2
           gi_roundg (N - (k+1))
           case rel=>exact⟨(k+1,t),by show N - (k+1)+(k+1)=N;omega,hb⟩
           case measure=>omega
          ·gi_wp2
           go_end0
           exact⟨⟨_,rfl⟩,.inl hb⟩
       ·go_simp
        refine hK _ _ ?_
        clear hK K
        (try simp only[Act.put,List.setIfInBounds_toArray,List.set_cons_zero,List.set_cons_succ])
        refine wpAnyIn_ready (rs:=[15]) (by kernel_rfl) (by simp) ?_
        refine (AllReadyIn.cons rfl (fun K hK=>?_) AllReadyIn.nil)
        ·go_simp
         refine hK _ _ ?_
         clear hK K
         (try simp only[Act.put,List.setIfInBounds_toArray,List.set_cons_zero,List.set_cons_succ])
         refine wpAnyIn_take (i:=20) (v:=.pointer (some (a.add (i * 3)))) rfl rfl (by kernel_rfl) (by kernel_rfl) (by kernel_rfl) (fun _ _ _ h=>h) ⟨Or.inl ⟨by kernel_rfl,fun w=>?_⟩,fun _=>rfl⟩ ?_
         ·go_simp
         (try simp only[Act.put,List.setIfInBounds_toArray,List.set_cons_zero,List.set_cons_succ])
         refine wpAnyIn_ready (rs:=[21]) (by kernel_rfl) (by simp) ?_
         refine (AllReadyIn.cons rfl (fun K hK=>?_) AllReadyIn.nil)
         ·go_simp
          refine hK _ _ ?_
          clear hK K
          (try simp only[Act.put,List.setIfInBounds_toArray,List.set_cons_zero,List.set_cons_succ])
          refine wpAnyIn_ready (rs:=[22]) (by kernel_rfl) (by simp) ?_
          refine AllReadyIn.cons rfl (fun K hK=>?_) AllReadyIn.nil
          have HK:=hid hK
          clear hK
          go_simp
          refine hR.mono ?_
          rintro e W3 hpost
          have hb:∃ b,e=.returned (.bool b)∧((b=true∧B (k+1,t) W3)∨(b=false∧X W3)):=by
           rcases hpost with ⟨h1,h2⟩ | ⟨h1,h2⟩
           ·exact⟨true,h1,.inl ⟨rfl,h2⟩⟩
           ·exact⟨false,h1,.inr ⟨rfl,h2⟩⟩
          obtain⟨b,rfl,hb⟩:=hb
          refine HK.out _ _ ?_
          clear HK K
          (try simp only[Act.put,List.setIfInBounds_toArray,List.set_cons_zero,List.set_cons_succ])
          refine wpAnyIn_take (i:=23) (v:=.bool b) rfl rfl (by kernel_rfl) (by kernel_rfl) (by kernel_rfl) (fun _ _ _ h=>h) ⟨Or.inl ⟨by kernel_rfl,fun w=>?_⟩,fun _=>rfl⟩ ?_
          ·go_simp
          (try simp only[Act.put,List.setIfInBounds_toArray,List.set_cons_zero,List.set_cons_succ])
          refine (wpAnyIn_done (by kernel_rfl) ?_) _
          rcases hb with ⟨rfl,hb⟩ | ⟨rfl,hb⟩
          ·gi_wp2
           gi_roundg (N - (k+1))
           case rel=>exact⟨(k+1,t),by show N - (k+1)+(k+1)=N;omega,hb⟩
           case measure=>omega
          ·gi_wp2
           go_end0
           exact⟨⟨_,rfl⟩,.inl hb⟩
end Go.Proofs.YtdgbajnhhhjbcaaGreatDoor

/- Rd@012, Rd2@012, Rd3@012 -/
import Derived.ChangeAlike
import Derived.Lib.ItoaNum
import Derived.LoopTactic
import Derived.RegionTactic
import Derived.Test.YtdgbajnhhhjbcaaGreatDoorQ14
import Derived.Test.YtdgbajnhhhjbcaaGreatDoorQ8
set_option linter.unusedSimpArgs false
namespace Go.Proofs.YtdgbajnhhhjbcaaGreatDoor
open Lib(hid)
open Go.RowKit
def T0:TokI:=⟨0,⟨#[]⟩,0⟩
def hdT (q:List TokI):TokI:=q.headD T0
abbrev tokW (t:TokI):Value:=.agg #[.int .i64 t.kind,.string t.s,.int .i64 t.line]
structure GoodT (t:TokI):Prop where
 kind:I64 t.kind
 size:t.s.size≤1073741824
 line:I64 t.line
 name:t.kind=1→t.s.data.toList=[95]∨nameB t.s.data.toList=true
 num:t.kind=2→∃ n:Nat,n≤9223372036854775807∧t.s.data.toList=Lib.decDigits n
structure PEnv (a:Addr) (w:World):Prop where
 env:TEnv a w
 syn:∃ te pe,w.cell? ⟨12,0,none⟩=some (.iface te pe)
 rng:∃ te pe,w.cell? ⟨13,0,none⟩=some (.iface te pe)
theorem PEnv.belowB {a:Addr} {w w':World} {B:Nat} (h:PEnv a w) (hB:14≤B) (hb:Below B w w'):PEnv a w':=by
 obtain⟨te,pe,h1⟩:=h.syn
 obtain⟨tf,pf,h2⟩:=h.rng
 exact⟨h.env.belowB hB hb,⟨te,pe,(hb.cell (p:=⟨12,0,none⟩) (by show 12 < B;omega)).trans h1⟩,⟨tf,pf,(hb.cell (p:=⟨13,0,none⟩) (by show 13 < B;omega)).trans h2⟩⟩
theorem PEnv.below {a:Addr} {w w':World} (h:PEnv a w) (hb:Below w.heap.size w w'):PEnv a w':=h.belowB h.env.size hb
structure RC where
 R:Nat
 toks:List TokI
 v:Value
 a:Addr
structure Rd (C:RC) (du ru:Value) (q:List TokI) (w:World):Prop where
 row:∃ i:Nat,C.toks.drop i=q∧i≤C.toks.length∧w.heap[C.R]?=some (.cells #[C.v,.int .i64 (i:Int),du,ru] 73 (0,0))
 lie:SliceOf w C.R C.v C.toks
 few:C.toks.length≤20000
 good:∀ t ∈ C.toks,GoodT t
 env:PEnv C.a w
 vars:14≤C.R
def Gr (R:Nat) (w w':World):Prop:=w.grownBy w' (some R)
theorem Gr.refl (R:Nat) (w:World):Gr R w w:=World.grownBy.refl w _
theorem Gr.trans {R:Nat} {a b c:World} (h:Gr R a b) (k:Gr R b c):Gr R a c:=
 ⟨k.os.trans h.os,k.tape.trans h.tape,k.output.trans h.output,Nat.le_trans h.size k.size,fun i hi hr=>(k.block i (Nat.lt_of_lt_of_le hi h.size) hr).trans (h.block i hi hr)⟩
theorem Gr.of_below {R:Nat} {w w':World} (h:Below w.heap.size w w'):Gr R w w':=⟨h.os,h.tape,h.output,h.size,fun i hi _=>h.block i hi⟩
theorem Gr.below {R B:Nat} {w w':World} (h:Gr R w w') (hR:B≤R) (hB:B≤w.heap.size):Below B w w':=⟨h.os,h.tape,h.output,h.size,fun i hi=>h.block i (by omega) (fun e=>by have:=Option.some.inj e;omega)⟩
theorem Rd.lt {C:RC} {du ru:Value} {q:List TokI} {w:World} (h:Rd C du ru q w):C.R < w.heap.size:=by
 obtain⟨i,_,_,hr⟩:=h.row
 exact (Array.getElem?_eq_some_iff.1 hr).1
theorem Rd.below {C:RC} {du ru:Value} {q:List TokI} {w w':World} (h:Rd C du ru q w) (hb:Below w.heap.size w w'):Rd C du ru q w':=by
 obtain⟨i,h1,h2,hr⟩:=h.row
 exact⟨⟨i,h1,h2,(hb.block C.R h.lt).trans hr⟩,h.lie.below (hb.mono (Nat.le_of_lt h.lt)),h.few,h.good,h.env.below hb,h.vars⟩
theorem Rd.goodq {C:RC} {du ru:Value} {q:List TokI} {w:World} (h:Rd C du ru q w):∀ t ∈ q,GoodT t:=by
 obtain⟨i,rfl,_,_⟩:=h.row
 exact fun t ht=>h.good t (List.mem_of_mem_drop ht)
theorem good0:GoodT T0:=⟨by unfold I64;decide,by decide,by unfold I64;decide,(fun h=>by cases h),(fun h=>by cases h)⟩
theorem good_hd {q:List TokI} (h:∀ t ∈ q,GoodT t):GoodT (hdT q):=by
 cases q with
 | nil=>exact good0
 | cons t r=>exact h t (by simp)
theorem good_tail {q:List TokI} (h:∀ t ∈ q,GoodT t):∀ t ∈ q.tail,GoodT t:=fun t ht=>h t (List.mem_of_mem_tail ht)
theorem tokB_hd {k:Int} (hk:k≠0) (s:List UInt8) (q:List TokI):tokB k s (hdT q)=nextB k s q:=by
 cases q with
 | nil=>
  show ((0:Int) == k && _)=false
  rw[show ((0:Int) == k)=false by simpa using fun e=>hk e.symm]
  rfl
 | cons t r=>rfl
theorem line_hd (q:List TokI):(hdT q).line=lineL q:=by cases q <;> rfl
theorem nm_hd (q:List TokI):isNm (hdT q)=nmAt q:=by
 cases q with
 | nil=>rfl
 | cons t r=>rfl
theorem below_drew {B:Nat} {a w:World} (h:Below B a w):∀ k,Below B a (w.drewN k):=fun _=>⟨h.os,h.tape,h.output,h.size,h.block⟩
theorem below_three (w:World) (o:Obj) (k:Nat) (x y z:Value):Below w.heap.size w (((((w.alloc o).drewN k).setCell ⟨w.heap.size,0,none⟩ x).setCell ⟨w.heap.size,1,none⟩ y).setCell ⟨w.heap.size,2,none⟩ z):=
 (((below_drew ((Below.refl _ _).alloc (Nat.le_refl _) _) k).setCell (p:=⟨w.heap.size,0,none⟩) (Nat.le_refl _) _).setCell (p:=⟨w.heap.size,1,none⟩) (Nat.le_refl _) _).setCell (p:=⟨w.heap.size,2,none⟩) (Nat.le_refl _) _
set_option maxRecDepth 100000 in
set_option maxHeartbeats 4000000 in
theorem further_c (C:RC) (n:Nat) (hn:n≤1) (du ru:Value) (q:List TokI) (w:World) (h:Rd C du ru q w) :
  Calls Tryz.prog 152 #[.pointer (some ⟨C.R,0,none⟩),.int .i64 (n:Int)] w fun e w'=>e=.returned (tokW (q.getD n T0))∧Below w.heap.size w w':=by
 obtain⟨R,toks,v,ae⟩:=C
 obtain⟨i,hq,hi,hr⟩:=h.row
 have hlt:=h.lt
 have hfew:=h.few
 have c0:w.cell? ⟨R,0,none⟩=some v:=by simp[World.cell?,hr]
 have c1:w.cell? ⟨R,1,none⟩=some (.int .i64 (i:Int)):=by simp[World.cell?,hr]
 have hlie:=h.lie
 dsimp only at hlie hr hi hq hlt hfew ⊢
 have hget:q.getD n T0=toks.getD (i+n) T0:=by
  rw[← hq,List.getD_eq_getElem?_getD,List.getElem?_drop,← List.getD_eq_getElem?_getD]
 rw[hget]
 clear hget hq h hr
 by_cases hin:i+n < toks.length
 ·obtain⟨t,ht⟩:∃ t,toks[i+n]?=some t:=⟨toks[i+n],List.getElem?_eq_getElem hin⟩
  have hd:toks.getD (i+n) T0=t:=by rw[List.getD_eq_getElem?_getD,ht];rfl
  rw[hd]
  clear hd
  rcases hlie with ⟨_,rfl⟩ | ⟨a,cap,rfl,hc,hm,hab,hat⟩
  ·simp at hin
  obtain⟨t0,t1,t2⟩:=SliceOf.cells hat hab (Below.refl R w) ht
  have hab':(a.add ((i+n) * 3)).block < w.heap.size:=by rw[add_block];omega
  have hab2:a.block < w.heap.size:=by omega
  have hnn:¬ ((toks.length:Int) - (i:Int)≤(n:Int)):=by omega
  have hs1:IntKind.i64.wrap ((toks.length:Int) - (i:Int))=(toks.length:Int) - (i:Int):=IntWalk.i64_in _ (by omega)
  have hs2:IntKind.i64.wrap ((i:Int)+(n:Int))=(i:Int)+(n:Int):=IntWalk.i64_in _ (by omega)
  have g0:0≤(i:Int)+(n:Int):=by omega
  have g1:(i:Int)+(n:Int) < (toks.length:Int):=by omega
  have g2:((i:Int)+(n:Int)).toNat=i+n:=by omega
  have hdec:decide ((toks.length:Int) - (i:Int)≤(n:Int))=false:=by simpa using hnn
  clear hat ht
  go_enter Tryz.func152,Tryz.ntmps152
  go_wp2
  go_quiet (fail)
  go_wp2
  go_region
  all_goals (try go_wp2)
  refine bodyPost_ret (v:=tokW t) (by simp[tokW,results,Tryz.results152,go_sem]) rfl ⟨rfl,below_three w _ _ _ _ _⟩
 ·have hnone:toks[i+n]?=none:=List.getElem?_eq_none (by omega)
  have hd:toks.getD (i+n) T0=T0:=by rw[List.getD_eq_getElem?_getD,hnone];rfl
  rw[hd]
  have hlen:∃ o cap,v=.slice o toks.length cap:=by
   rcases hlie with ⟨rfl,rfl⟩ | ⟨a,cap,rfl,_⟩
   ·exact⟨none,0,rfl⟩
   ·exact⟨some a,cap,rfl⟩
  obtain⟨o,cap,rfl⟩:=hlen
  have hs1:IntKind.i64.wrap ((toks.length:Int) - (i:Int))=(toks.length:Int) - (i:Int):=IntWalk.i64_in _ (by omega)
  have hdec:decide ((toks.length:Int) - (i:Int)≤(n:Int))=true:=by simp;omega
  clear hd hnone hlie
  go_enter Tryz.func152,Tryz.ntmps152
  go_wp2
  go_quiet (fail)
  go_wp2
  refine bodyPost_ret (v:=tokW T0) (by simp[tokW,T0,results,Tryz.results152,go_sem]) rfl ⟨rfl,below_three w _ _ _ _ _⟩
theorem below_set3 {B b:Nat} {a w:World} (h:Below B a w) (hb:B≤b) (x y z:Value):Below B a (((w.setCell ⟨b,0,none⟩ x).setCell ⟨b,1,none⟩ y).setCell ⟨b,2,none⟩ z):=
 ((h.setCell (p:=⟨b,0,none⟩) hb _).setCell (p:=⟨b,1,none⟩) hb _).setCell (p:=⟨b,2,none⟩) hb _
theorem row_set {w:World} {b:Nat} {cs:Array Value} {T:TypeId} {fz:Nat × Nat} (h:w.heap[b]?=some (.cells cs T fz)) (k:Nat) (u:Value):(w.setCell ⟨b,k,none⟩ u).heap[b]?=some (.cells (cs.setIfInBounds k u) T fz):=by
 have hlt:=(Array.getElem?_eq_some_iff.1 h).1
 have h':w.heap[b]=.cells cs T fz:=by simpa[Array.getElem?_eq_getElem hlt] using h
 show (w.heap.modify b _)[b]?=_
 rw[Array.getElem?_eq_getElem (by simpa using hlt),Array.getElem_modify_self,h']
 rfl
theorem gr_set (w:World) (R k:Nat) (u:Value):Gr R w (w.setCell ⟨R,k,none⟩ u):=
 ⟨rfl,rfl,rfl,by simp[World.setCell],fun i _ hr=>Below.heap_setCell w ⟨R,k,none⟩ u i (fun e=>hr (by rw[e]))⟩
theorem grR_set (w:World) (R k:Nat) (u:Value):Below R w (w.setCell ⟨R,k,none⟩ u):=(Below.refl _ _).setCell (p:=⟨R,k,none⟩) (Nat.le_refl _) _
set_option maxHeartbeats 1000000 in
theorem here_c (C:RC) (du ru:Value) (q:List TokI) (w:World) (h:Rd C du ru q w) :
  Calls Tryz.prog 118 #[.pointer (some ⟨C.R,0,none⟩)] w fun e w'=>e=.returned (tokW (hdT q))∧Below w.heap.size w w':=by
 have H:=fun (W:World) (hb:Below w.heap.size w W)=>further_c C 0 (by omega) du ru q W (h.below hb)
 have hd:q.getD 0 T0=hdT q:=by cases q <;> rfl
 rw[hd] at H
 have HH:=hid H
 have HB0:Hid (∀ (x:Obj),Below w.heap.size w (w.alloc x)):=hid fun x=>(Below.refl _ _).alloc (Nat.le_refl _) _
 clear H hd h
 go_enter Tryz.func118,Tryz.ntmps118
 go_wp2_with fail
 refine (HH.out _ (HB0.out _)).mono ?_
 rintro e w1 ⟨rfl,b1⟩
 have B1:=hid ((HB0.out (.cells #[.int .i64 0,.string ⟨#[]⟩,.int .i64 0] 89)).trans (b1.mono (by simp)))
 obtain⟨hc1,hf1⟩:=kept b1
 clear b1
 go_wp2
 exact bodyPost_ret (v:=tokW (hdT q)) (by simp[tokW,results,Tryz.results118,go_sem,hc1]) rfl ⟨rfl,below_set3 B1.out (Nat.le_refl _) _ _ _⟩
set_option maxHeartbeats 1000000 in
theorem step_c (C:RC) (du ru:Value) (q:List TokI) (hq:q≠[]) (w:World) (h:Rd C du ru q w) :
  Calls Tryz.prog 119 #[.pointer (some ⟨C.R,0,none⟩)] w fun e w'=>e=.returned (.tuple #[])∧Rd C du ru q.tail w'∧Gr C.R w w':=by
 obtain⟨R,toks,v,ae⟩:=C
 obtain⟨i,hi1,hi2,hr⟩:=h.row
 have hlt:=h.lt
 have hfew:=h.few
 have hvars:=h.vars
 have hlie:=h.lie
 dsimp only at hlie hr hi1 hi2 hlt hfew hvars ⊢
 have c1:w.cell? ⟨R,1,none⟩=some (.int .i64 (i:Int)):=by simp[World.cell?,hr]
 have f1:w.frozen? ⟨R,1,none⟩=false:=by simp[World.frozen?,hr]
 have H:=hid h
 have H1:=hid hi1
 clear h hi1
 have Hr:=hid hr
 clear hr
 go_enter Tryz.func119,Tryz.ntmps119
 go_wp2
 go_end0
 refine⟨rfl,⟨⟨i+1,?_,?_,row_set Hr.out 1 _⟩,hlie.below (grR_set w R 1 _),hfew,H.out.good,H.out.env.belowB hvars (grR_set w R 1 _),hvars⟩,gr_set w R 1 _⟩
 ·rw[← H1.out,List.tail_drop]
 ·rcases Nat.lt_or_ge i toks.length with hlt | hge
  ·show i+1≤toks.length
   omega
  ·exact absurd (H1.out.symm.trans (List.drop_of_length_le hge)) hq
abbrev flawV (k line:Int):Value:=.iface 78 (.agg #[.int .i64 line,.iface 79 (.int .i64 k)])
set_option maxHeartbeats 1000000 in
theorem faultAt_c (t:TokI) (k:Int) (w:World):Calls Tryz.prog 127 #[tokW t,.int .i64 k] w fun e w'=>e=.returned (flawV k t.line)∧Below w.heap.size w w':=by
 have HB0:Hid (∀ (x:Obj),Below w.heap.size w (w.alloc x)):=hid fun x=>(Below.refl _ _).alloc (Nat.le_refl _) _
 go_enter Tryz.func127,Tryz.ntmps127
 go_wp2
 go_ret
 exact⟨rfl,HB0.out _⟩
set_option maxHeartbeats 1000000 in
theorem fail_c (C:RC) (du ru:Value) (q:List TokI) (k:Int) (w:World) (h:Rd C du ru q w) :
  Calls Tryz.prog 117 #[.pointer (some ⟨C.R,0,none⟩),.int .i64 k] w fun e w'=>e=.returned (flawV k (lineL q))∧Below w.heap.size w w':=by
 have HH:=hid (here_c C du ru q w h)
 rw[← line_hd]
 clear h
 go_enter Tryz.func117,Tryz.ntmps117
 go_wp2_with fail
 refine HH.out.mono ?_
 rintro e w1 ⟨rfl,b1⟩
 go_wp2_with fail
 refine (faultAt_c _ k w1).mono ?_
 rintro e w2 ⟨rfl,b2⟩
 have B2:=hid (b1.trans (b2.mono b1.size))
 clear b1 b2
 go_wp2
 go_ret
 exact⟨rfl,B2.out⟩
set_option maxHeartbeats 1000000 in
theorem isSgn_c (t:TokI) (s:ByteArray) (b:Bool) (hb:tokB 4 s.data.toList t=b) (w:World):Calls Tryz.prog 161 #[tokW t,.string s] w fun e w'=>e=.returned (.bool b)∧Below w.heap.size w w':=by
 have HB0:Hid (∀ (x:Obj),Below w.heap.size w (w.alloc x)):=hid fun x=>(Below.refl _ _).alloc (Nat.le_refl _) _
 have e1:t.s.toList=t.s.data.toList:=Lib.toList_data _
 have e2:s.toList=s.data.toList:=Lib.toList_data _
 unfold tokB at hb
 rw[← e1,← e2] at hb
 clear e1 e2
 by_cases hk:t.kind=4
 ·have hk':(t.kind == 4)=true:=by simpa using hk
  rw[hk',Bool.true_and] at hb
  have Hb:Hid ((t.s.toList == s.toList)=b):=hid (by rw[← hb])
  clear hb hk
  go_enter Tryz.func161,Tryz.ntmps161
  go_wp2
  go_ret
  exact⟨by rw[← Hb.out];rfl,HB0.out _⟩
 ·have hk':(t.kind == 4)=false:=by simpa using hk
  rw[hk',Bool.false_and] at hb
  subst hb
  clear hk
  go_enter Tryz.func161,Tryz.ntmps161
  go_wp2
  go_ret
  exact⟨rfl,HB0.out _⟩
set_option maxHeartbeats 1000000 in
theorem isWord_c (t:TokI) (s:ByteArray) (b:Bool) (hb:tokB 5 s.data.toList t=b) (w:World):Calls Tryz.prog 79 #[tokW t,.string s] w fun e w'=>e=.returned (.bool b)∧Below w.heap.size w w':=by
 have HB0:Hid (∀ (x:Obj),Below w.heap.size w (w.alloc x)):=hid fun x=>(Below.refl _ _).alloc (Nat.le_refl _) _
 have e1:t.s.toList=t.s.data.toList:=Lib.toList_data _
 have e2:s.toList=s.data.toList:=Lib.toList_data _
 unfold tokB at hb
 rw[← e1,← e2] at hb
 clear e1 e2
 by_cases hk:t.kind=5
 ·have hk':(t.kind == 5)=true:=by simpa using hk
  rw[hk',Bool.true_and] at hb
  have Hb:Hid ((t.s.toList == s.toList)=b):=hid (by rw[← hb])
  clear hb hk
  go_enter Tryz.func79,Tryz.ntmps79
  go_wp2
  go_ret
  exact⟨by rw[← Hb.out];rfl,HB0.out _⟩
 ·have hk':(t.kind == 5)=false:=by simpa using hk
  rw[hk',Bool.false_and] at hb
  subst hb
  clear hk
  go_enter Tryz.func79,Tryz.ntmps79
  go_wp2
  go_ret
  exact⟨rfl,HB0.out _⟩
def Skip (C:RC) (du ru:Value) (s:List UInt8) (q:List TokI) (w:World) (e:Ending) (w':World):Prop:=
 e=.returned (.bool (nextB 4 s q))∧Rd C du ru (if nextB 4 s q=true then q.tail else q) w'∧Gr C.R w w'
set_option maxHeartbeats 1000000 in
theorem skip_c (C:RC) (du ru:Value) (q:List TokI) (s:ByteArray) (w:World) (h:Rd C du ru q w) :
  Calls Tryz.prog 128 #[.pointer (some ⟨C.R,0,none⟩),.string s] w (Skip C du ru s.data.toList q w):=by
 have HH:=hid (here_c C du ru q w h)
 have H:=hid h
 clear h
 cases hn:nextB 4 s.data.toList q with
 | true=>
  have hne:q≠[]:=by rintro rfl;cases hn
  have HS:=hid (fun w=>isSgn_c (hdT q) s true ((tokB_hd (by decide) _ _).trans hn) w)
  have Hn:=hid hn
  have Hne:=hid hne
  clear hn hne
  go_enter Tryz.func128,Tryz.ntmps128
  go_wp2_with fail
  refine HH.out.mono ?_
  rintro e w1 ⟨rfl,b1⟩
  go_wp2_with fail
  refine (HS.out w1).mono ?_
  rintro e w2 ⟨rfl,b2⟩
  have B2:=hid (b1.trans (b2.mono b1.size))
  clear b1 b2
  go_wp2_with fail
  refine (step_c C du ru q Hne.out w2 (H.out.below B2.out)).mono ?_
  rintro e w3 ⟨rfl,r3,g3⟩
  have R3:=hid r3
  have G3:=hid g3
  clear r3 g3
  go_wp2
  go_ret
  refine⟨by rw[Hn.out];rfl,?_,(Gr.of_below B2.out).trans G3.out⟩
  rw[Hn.out,if_pos rfl]
  exact R3.out
 | false=>
  have HS:=hid (fun w=>isSgn_c (hdT q) s false ((tokB_hd (by decide) _ _).trans hn) w)
  have Hn:=hid hn
  clear hn
  go_enter Tryz.func128,Tryz.ntmps128
  go_wp2_with fail
  refine HH.out.mono ?_
  rintro e w1 ⟨rfl,b1⟩
  go_wp2_with fail
  refine (HS.out w1).mono ?_
  rintro e w2 ⟨rfl,b2⟩
  have B2:=hid (b1.trans (b2.mono b1.size))
  clear b1 b2
  go_wp2
  go_ret
  refine⟨by rw[Hn.out];rfl,?_,Gr.of_below B2.out⟩
  rw[Hn.out,if_neg (by decide)]
  exact H.out.below B2.out
def signsP:List (List UInt8)→List TokI→Except (Int × Int) (List TokI)
 | [],l=>.ok l
 | s::r,l=>if nextB 4 s l=true then signsP r l.tail else .error (40,lineL l)
abbrev exV {α:Type} (r:Except (Int × Int) α):Value:=
 match r with
 | .ok _=>.nilIface
 | .error e=>flawV e.1 e.2
def Signs (C:RC) (du ru:Value) (ss:List (List UInt8)) (q:List TokI) (w:World) (e:Ending) (w':World):Prop:=
 e=.returned (exV (signsP ss q))∧(∀ q',signsP ss q=.ok q'→Rd C du ru q' w')∧Gr C.R w w'
theorem signs_t {s:List UInt8} {r:List (List UInt8)} {q:List TokI} (h:nextB 4 s q=true):signsP (s::r) q=signsP r q.tail:=by simp[signsP,h]
theorem signs_f {s:List UInt8} {r:List (List UInt8)} {q:List TokI} (h:nextB 4 s q=false):signsP (s::r) q=.error (40,lineL q):=by simp[signsP,h]
theorem signs_fst {C:RC} {du ru:Value} {q q':List TokI} {ss:List (List UInt8)} {w w':World} (he:signsP ss q=.ok q') (r:Rd C du ru q' w') (g:Gr C.R w w'):Signs C du ru ss q w (.returned .nilIface) w':=
 ⟨by rw[he],fun x hx=>by rw[he] at hx;cases hx;exact r,g⟩
theorem signs_bad {C:RC} {du ru:Value} {q:List TokI} {n:Int} {ss:List (List UInt8)} {w w':World} (he:signsP ss q=.error (40,n)) (g:Gr C.R w w'):Signs C du ru ss q w (.returned (flawV 40 n)) w':=
 ⟨by rw[he],(fun x hx=>by rw[he] at hx;cases hx),g⟩
set_option maxHeartbeats 2000000 in
theorem sign1_c (C:RC) (du ru:Value) (q:List TokI) (s:ByteArray) (n:Nat) (w:World) (h:Rd C du ru q w) (hc:w.cell? ⟨n,0,none⟩=some (.string s)) :
  Calls Tryz.prog 131 #[.pointer (some ⟨C.R,0,none⟩),.slice (some ⟨n,0,none⟩) 1 1] w (Signs C du ru [s.data.toList] q w):=by
 have HS:=hid (skip_c C du ru q s w h)
 clear h
 cases hn:nextB 4 s.data.toList q with
 | true=>
  have Hn:=hid hn
  have He:Hid (signsP [s.data.toList] q=.ok q.tail):=hid (by simp[signsP,hn])
  clear hn
  go_enter Tryz.func131,Tryz.ntmps131
  go_wp2
  refine wp_loop_rounds 2 ?_
  rw[rounds_succ]
  go_wp2_with fail
  refine HS.out.mono ?_
  rintro e w1 ⟨rfl,r1,g1⟩
  rw[Hn.out] at r1 ⊢
  rw[if_pos rfl] at r1
  have R1:=hid r1
  have G1:=hid g1
  clear r1 g1
  go_wp2
  rw[rounds_succ]
  go_wp2
  go_ret
  exact signs_fst He.out R1.out G1.out
 | false=>
  have Hn:=hid hn
  have He:Hid (signsP [s.data.toList] q=.error (40,lineL q)):=hid (by simp[signsP,hn])
  clear hn
  go_enter Tryz.func131,Tryz.ntmps131
  go_wp2
  refine wp_loop_rounds 2 ?_
  rw[rounds_succ]
  go_wp2_with fail
  refine HS.out.mono ?_
  rintro e w1 ⟨rfl,r1,g1⟩
  rw[Hn.out] at r1 ⊢
  rw[if_neg (by decide)] at r1
  have R1:=hid r1
  have G1:=hid g1
  clear r1 g1
  go_wp2_with fail
  refine (fail_c C du ru q 40 w1 R1.out).mono ?_
  rintro e w2 ⟨rfl,b2⟩
  have G2:=hid (G1.out.trans (Gr.of_below b2))
  clear b2
  go_wp2
  go_ret
  exact signs_bad He.out G2.out
set_option maxHeartbeats 4000000 in
theorem sign2_c (C:RC) (du ru:Value) (q:List TokI) (s t:ByteArray) (n:Nat) (w:World) (h:Rd C du ru q w) (hc:w.cell? ⟨n,0,none⟩=some (.string s)) (hc2:w.cell? ⟨n,1,none⟩=some (.string t)) (hn:n≠C.R) (hlt:n < w.heap.size) :
  Calls Tryz.prog 131 #[.pointer (some ⟨C.R,0,none⟩),.slice (some ⟨n,0,none⟩) 2 2] w (Signs C du ru [s.data.toList,t.data.toList] q w):=by
 have HS:=hid (skip_c C du ru q s w h)
 have HK:Hid (∀ w',Gr C.R w w'→w'.cell? ⟨n,1,none⟩=some (.string t)):=hid fun w' g=>(World.cell?_of_block (w:=w) (a:=⟨n,1,none⟩) (g.block n hlt (fun e=>hn (Option.some.inj e)))).trans hc2
 clear h hc2 hn
 cases hn:nextB 4 s.data.toList q with
 | true=>
  have Hn:=hid hn
  have He0:Hid (signsP [s.data.toList,t.data.toList] q=signsP [t.data.toList] q.tail):=hid (signs_t hn)
  clear hn
  cases hm:nextB 4 t.data.toList q.tail with
  | true=>
   have Hm:=hid hm
   have He:Hid (signsP [s.data.toList,t.data.toList] q=.ok q.tail.tail):=hid (by rw[He0.out,signs_t hm];rfl)
   clear hm
   go_enter Tryz.func131,Tryz.ntmps131
   go_wp2
   refine wp_loop_rounds 3 ?_
   rw[rounds_succ]
   go_wp2_with fail
   refine HS.out.mono ?_
   rintro e w1 ⟨rfl,r1,g1⟩
   rw[Hn.out] at r1 ⊢
   rw[if_pos rfl] at r1
   have hc1:=HK.out w1 g1
   have R1:=hid r1
   have G1:=hid g1
   clear r1 g1
   go_wp2
   rw[rounds_succ]
   go_wp2_with fail
   refine (skip_c C du ru q.tail t w1 R1.out).mono ?_
   rintro e w2 ⟨rfl,r2,g2⟩
   rw[Hm.out] at r2 ⊢
   rw[if_pos rfl] at r2
   have R2:=hid r2
   have G2:=hid (G1.out.trans g2)
   clear r2 g2
   go_wp2
   rw[rounds_succ]
   go_wp2
   go_ret
   exact signs_fst He.out R2.out G2.out
  | false=>
   have Hm:=hid hm
   have He:Hid (signsP [s.data.toList,t.data.toList] q=.error (40,lineL q.tail)):=hid (by rw[He0.out,signs_f hm])
   clear hm
   go_enter Tryz.func131,Tryz.ntmps131
   go_wp2
   refine wp_loop_rounds 3 ?_
   rw[rounds_succ]
   go_wp2_with fail
   refine HS.out.mono ?_
   rintro e w1 ⟨rfl,r1,g1⟩
   rw[Hn.out] at r1 ⊢
   rw[if_pos rfl] at r1
   have hc1:=HK.out w1 g1
   have R1:=hid r1
   have G1:=hid g1
   clear r1 g1
   go_wp2
   rw[rounds_succ]
   go_wp2_with fail
   refine (skip_c C du ru q.tail t w1 R1.out).mono ?_
   rintro e w2 ⟨rfl,r2,g2⟩
   rw[Hm.out] at r2 ⊢
   rw[if_neg (by decide)] at r2
   have R2:=hid r2
   have G2:=hid (G1.out.trans g2)
   clear r2 g2
   go_wp2_with fail
   refine (fail_c C du ru q.tail 40 w2 R2.out).mono ?_
   rintro e w3 ⟨rfl,b3⟩
   have G3:=hid (G2.out.trans (Gr.of_below b3))
   clear b3
   go_wp2
   go_ret
   exact signs_bad He.out G3.out
 | false=>
  have Hn:=hid hn
  have He:Hid (signsP [s.data.toList,t.data.toList] q=.error (40,lineL q)):=hid (signs_f hn)
  clear hn
  go_enter Tryz.func131,Tryz.ntmps131
  go_wp2
  refine wp_loop_rounds 2 ?_
  rw[rounds_succ]
  go_wp2_with fail
  refine HS.out.mono ?_
  rintro e w1 ⟨rfl,r1,g1⟩
  rw[Hn.out] at r1 ⊢
  rw[if_neg (by decide)] at r1
  have R1:=hid r1
  have G1:=hid g1
  clear r1 g1
  go_wp2_with fail
  refine (fail_c C du ru q 40 w1 R1.out).mono ?_
  rintro e w2 ⟨rfl,b2⟩
  have G2:=hid (G1.out.trans (Gr.of_below b2))
  clear b2
  go_wp2
  go_ret
  exact signs_bad He.out G2.out
end Go.Proofs.YtdgbajnhhhjbcaaGreatDoor

/- Shelf@1, Yap@1, Yap2@1, Yvars@1, Ymem@1, Ytp@1, Yrv4@1 -/
import Derived.Test.YtfmldnbcjbflbaaGreatDoorQ14
import Derived.Test.YtfmldnbcjbflbaaGreatDoorQ22
set_option linter.unusedSimpArgs false
set_option linter.unusedVariables false
namespace Go.Proofs
open Go.Shelf
def Tryz.laysM316_ren:Go.Shelf.Ren:=⟨fun | 316=>129 | n=>n,fun | 0=>0 | 3=>3 | 4=>4 | 5=>5 | 9=>9 | 37=>180 | 127=>181 | n=>n,fun | n=>n⟩
theorem Tryz.laysM316:Go.Proofs.LaysM.n316 Tryz.prog Tryz.laysM316_ren:={
 mixed:=by kernel_rfl
 f316:=Tryz.func129.trans (congrArg some (by kernel_rfl))
 t0:=Tryz.underlying0
 a0:=Tryz.isAgg0
 z0:=Tryz.sizeOf0
 v0:=Tryz.zeroValue0
 t3:=Tryz.underlying3
 a3:=Tryz.isAgg3
 z3:=Tryz.sizeOf3
 v3:=Tryz.zeroValue3
 t4:=Tryz.underlying4
 a4:=Tryz.isAgg4
 z4:=Tryz.sizeOf4
 v4:=Tryz.zeroValue4
 t9:=Tryz.underlying9
 a9:=Tryz.isAgg9
 z9:=Tryz.sizeOf9
 v9:=Tryz.zeroValue9
 t37:=Tryz.underlying180
 a37:=Tryz.isAgg180
 z37:=Tryz.sizeOf180
 v37:=Tryz.zeroValue180
 t127:=Tryz.underlying181
 a127:=Tryz.isAgg181
 z127:=Tryz.sizeOf181
 v127:=Tryz.zeroValue181
 t5:=Tryz.underlying5
 a5:=Tryz.isAgg5
 z5:=Tryz.sizeOf5
 v5:=Tryz.zeroValue5
 i0:=by kernel_rfl
 i3:=by kernel_rfl
 i4:=by kernel_rfl
 i5:=by kernel_rfl
 i9:=by kernel_rfl
 i37:=by kernel_rfl
 i127:=by kernel_rfl }
open Go.RowKit in
theorem Tryz.stringslite_Clone (s:ByteArray) (w:World) (hlim:s.size≤281474976710656) :
  Calls Tryz.prog 129 #[.string s] w fun e w'=>e=.returned (.string s)∧Below w.heap.size w w':=Any.stringslite_Clone Tryz.laysM316 s w hlim
end Go.Proofs
namespace Go.Proofs.YtfmldnbcjbflbaaGreatDoor
open Lib(hid)
open Go.RowKit
theorem dclone_c (s:ByteArray) (w:World) (hs:s.size≤281474976710656) :
  Calls Tryz.prog 92 #[.string s] w fun e w'=>e=.returned (.string s)∧Below w.heap.size w w':=by
 go_enter Tryz.func92,Tryz.ntmps92
 go_wp2_with fail
 refine (Tryz.stringslite_Clone s _ hs).mono ?_
 rintro e w1 ⟨rfl,b1⟩
 go_wp2
 go_ret
 exact⟨rfl,b1⟩
theorem infoSt:(Tryz.prog.info? 9).map (fun i=>(i.zero,i.size,i.bytes))=some (some (.string ⟨#[]⟩),1,16):=by kernel_rfl
def slots8:List (Option Tmp):=[some 23,some 24,some 25,some 26,some 27,some 28,none]
def D8 (i:Nat):Option Tmp:=(slots8[i]?).join
structure Fv (C:Cv) (l:Array Bool) (val:Nat→Value) (w:World):Prop where
 os:w.os=C.W0.os
 tape:w.tape=C.W0.tape
 output:w.output=C.W0.output
 size:C.W0.heap.size≤w.heap.size
 block:∀ i,i < C.W0.heap.size→some i≠C.lv.ownBlock→i≠C.L→w.heap[i]?=C.W0.heap[i]?
 v0:l.getD 0 false=true→val 0=C.lv
 v1:l.getD 1 false=true→val 1=.pointer (some ⟨C.Bx,1,none⟩)
 v2:l.getD 2 false=true→val 2=.string C.s
 v3:l.getD 3 false=true→val 3=.string C.s
 v4:l.getD 4 false=true→l.getD 5 false=false→∃ kb,val 4=.slice (some ⟨kb,0,none⟩) 1 1∧C.W0.heap.size≤kb∧w.heap[kb]?=some (.cells #[.string C.s] 9 (0,0))
 k2:l.getD 2 false=true→l.getD 1 false=true
 k3:l.getD 3 false=true→l.getD 2 false=true
 k4:l.getD 4 false=true→l.getD 3 false=true
 k5:l.getD 5 false=true→l.getD 0 false=true∧l.getD 4 false=true
 k6:l.getD 6 false=true→l.getD 5 false=true
 own:l.getD 5 false=false→w.ownsRow C.nb 9 1 C.lv C.k C.xs
 own5:l.getD 5 false=true→w.ownsRow C.nb 9 1 (val 5) (C.k+1) (C.xs++[.string C.s])∧((val 5).ownBlock=C.lv.ownBlock∨∃ g,(val 5).ownBlock=some g∧C.W0.heap.size≤g)
 box:l.getD 6 false=false→Boxed w C.L 45 C.lv
 box6:l.getD 6 false=true→Boxed w C.L 45 (val 5)
def St8 (P:Program) (Q:Exit→Act→World→Prop) (C:Cv) (i:Nat) (o:Oper):Prop:=
 ∀ l val w,CvOk C→Fv C l val w→l.size=7→l.getD i false=false→(∀ e ∈ o.after,Region.binds .any e=true→l.getD e.on false=true) →
  ∀ (A:Act) (K:Act→World→Prop),A=actsL D8 l val (List.range 7) C.a0→(∀ v w',Fv C (l.setIfInBounds i true) (updV val i v) w'→K (A.put o.dst v) w')→o.wp P A w K Q
def depB8 (o:Oper) (js:List Nat):Bool:=js.all fun j=>o.after.any fun e=>e.on == j && Region.binds .any e
theorem dep8 {o:Oper} {js:List Nat} (h:depB8 o js=true) {l:Array Bool} (hd:∀ e ∈ o.after,Region.binds .any e=true→l.getD e.on false=true):∀ j ∈ js,l.getD j false=true:=by
 intro j hj
 unfold depB8 at h
 rw[List.all_eq_true] at h
 have:=h j hj
 rw[← Array.any_toList,List.any_eq_true] at this
 obtain⟨e,he,h2⟩:=this
 have he:=Array.mem_toList_iff.1 he
 rw[Bool.and_eq_true] at h2
 have e1:e.on=j:=by simpa using h2.1
 rw[← e1]
 exact hd e he h2.2
theorem ev8 {C:Cv} {l:Array Bool} {val:Nat→Value} {A:Act} (hA:A=actsL D8 l val (List.range 7) C.a0) (hs:29≤C.a0.tmps.size) {i s:Nat} (hl:l.getD i false=true) (hD:D8 i=some s) (hi:i < 7) (hs2:s < 29) (hu:∀ j ∈ List.range 7,j≠i→D8 j≠some s):A.eval (.tmp s)=val i:=by
 rw[hA]
 exact actsL_eval hl hD _ _ (List.mem_range.2 hi) List.nodup_range hu (Nat.lt_of_lt_of_le hs2 hs)
theorem far8 {C:Cv} {l:Array Bool} {val:Nat→Value} {A:Act} (hA:A=actsL D8 l val (List.range 7) C.a0) {s:Nat} (hu:∀ j ∈ List.range 7,D8 j≠some s):A.eval (.tmp s)=C.a0.eval (.tmp s):=by
 rw[hA]
 exact actsL_far _ _ hu
theorem fls8 {b:Bool} (h:¬ b=true):b=false:=by cases b <;> simp_all
theorem mono8 {l:Array Bool} {i j:Nat} (hi:i < l.size) (h:l.getD j false=true):(l.setIfInBounds i true).getD j false=true:=by
 by_cases e:j=i
 ·subst e;exact getD_same hi
 ·rw[getD_set e];exact h
theorem Fv.grow {C:Cv} {l:Array Bool} {val:Nat→Value} {w w':World} {i:Nat} {v:Value} (hF:Fv C l val w) (hl:l.size=7) (hi:i < 5) (h5:l.getD 5 false=false) (hb:Below w.heap.size w w') (ok:CvOk C)
  (hk:(i=2→l.getD 1 false=true)∧(i=3→l.getD 2 false=true)∧(i=4→l.getD 3 false=true)) (n0:i=0→v=C.lv) (n1:i=1→v=.pointer (some ⟨C.Bx,1,none⟩)) (n2:i=2→v=.string C.s) (n3:i=3→v=.string C.s) (n4:i=4→∃ kb,v=.slice (some ⟨kb,0,none⟩) 1 1∧C.W0.heap.size≤kb∧w'.heap[kb]?=some (.cells #[.string C.s] 9 (0,0))):Fv C (l.setIfInBounds i true) (updV val i v) w':=by
 have hi':i < l.size:=by omega
 have h6:l.getD 6 false=false:=fls8 fun h=>by have:=hF.k6 h;rw[h5] at this;cases this
 have g5:(l.setIfInBounds i true).getD 5 false=false:=by rw[getD_set (by omega)];exact h5
 have g6:(l.setIfInBounds i true).getD 6 false=false:=by rw[getD_set (by omega)];exact h6
 have keep:∀ {j:Nat} {p:Value→Prop},(l.setIfInBounds i true).getD j false=true→(j=i→p v)→(l.getD j false=true→p (val j))→p (updV val i v j):=by
  intro j p h h1 h2
  by_cases e:j=i
  ·subst e;rw[updV_same];exact h1 rfl
  ·rw[updV_other _ _ e];rw[getD_set e] at h;exact h2 h
 have kk:∀ (j j':Nat),(i=j→l.getD j' false=true)→(l.getD j false=true→l.getD j' false=true)→(l.setIfInBounds i true).getD j false=true→(l.setIfInBounds i true).getD j' false=true:=by
  intro j j' h1 h2 h
  by_cases e:j=i
  ·exact mono8 hi' (h1 e.symm)
  ·rw[getD_set e] at h;exact mono8 hi' (h2 h)
 refine⟨hb.os.trans hF.os,hb.tape.trans hF.tape,hb.output.trans hF.output,Nat.le_trans hF.size hb.size,fun j hj h1 h2=>(hb.block j (Nat.lt_of_lt_of_le hj hF.size)).trans (hF.block j hj h1 h2),
  fun h=>keep (p:=fun x=>x=C.lv) h (fun e=>n0 e.symm) hF.v0,fun h=>keep (p:=fun x=>x=_) h (fun e=>n1 e.symm) hF.v1,fun h=>keep (p:=fun x=>x=_) h (fun e=>n2 e.symm) hF.v2,fun h=>keep (p:=fun x=>x=_) h (fun e=>n3 e.symm) hF.v3,
  fun h _=>keep (p:=fun x=>∃ kb,x=.slice (some ⟨kb,0,none⟩) 1 1∧C.W0.heap.size≤kb∧w'.heap[kb]?=some (.cells #[.string C.s] 9 (0,0))) h (fun e=>n4 e.symm) (fun h4=>?_),
  kk 2 1 hk.1 hF.k2,kk 3 2 hk.2.1 hF.k3,kk 4 3 hk.2.2 hF.k4,fun h=>(by rw[g5] at h;cases h),fun h=>(by rw[g6] at h;cases h),fun _=>own_below (hF.own h5) hb,fun h=>(by rw[g5] at h;cases h),fun _=>?_,fun h=>(by rw[g6] at h;cases h)⟩
 ·obtain⟨kb,e1,e2,e3⟩:=hF.v4 h4 h5
  exact⟨kb,e1,e2,(hb.block kb (Array.getElem?_eq_some_iff.1 e3).1).trans e3⟩
 ·exact (hb.block C.L (Nat.lt_of_lt_of_le ok.lt hF.size)).trans (hF.box h6)
theorem st8_0 {Q:Exit→Act→World→Prop} {C:Cv} {o:Oper} (hop:o.op=.load 45 (.tmp 4)):St8 Tryz.prog Q C 0 o:=by
 intro l val w ok hF hl hf hd A K hA hK
 have h5:l.getD 5 false=false:=fls8 fun h=>by have:=(hF.k5 h).1;rw[hf] at this;cases this
 have h6:l.getD 6 false=false:=fls8 fun h=>by have:=hF.k6 h;rw[h5] at this;cases this
 have e8:A.eval (.tmp 4)=.pointer (some ⟨C.L,0,none⟩):=(far8 hA (by decide)).trans ok.e4
 have e8':=(show A.tmps.getD _ undef=_ from e8)
 rw[Array.getD_eq_getD_getElem?] at e8'
 have hc:=(hF.box h6).cell
 unfold Oper.wp
 clear hA hd
 simp[execOp,hop,e8',hc,go_sem,Result.andThen]
 exact hK _ _ (hF.grow hl (by decide) h5 (Below.refl _ _) ok ⟨fun e=>absurd e (by decide),fun e=>absurd e (by decide),fun e=>absurd e (by decide)⟩ (fun _=>rfl) (fun e=>absurd e (by decide)) (fun e=>absurd e (by decide)) (fun e=>absurd e (by decide)) (fun e=>absurd e (by decide)))
theorem st8_1 {Q:Exit→Act→World→Prop} {C:Cv} {o:Oper} (hop:o.op=.fieldAddr 51 (.tmp 5) 1):St8 Tryz.prog Q C 1 o:=by
 intro l val w ok hF hl hf hd A K hA hK
 have f2:l.getD 2 false=false:=fls8 fun h=>by have:=hF.k2 h;rw[hf] at this;cases this
 have f3:l.getD 3 false=false:=fls8 fun h=>by have:=hF.k3 h;rw[f2] at this;cases this
 have f4:l.getD 4 false=false:=fls8 fun h=>by have:=hF.k4 h;rw[f3] at this;cases this
 have h5:l.getD 5 false=false:=fls8 fun h=>by have:=(hF.k5 h).2;rw[f4] at this;cases this
 have e8:A.eval (.tmp 5)=.pointer (some ⟨C.Bx,0,none⟩):=(far8 hA (by decide)).trans ok.e5
 have e8':=(show A.tmps.getD _ undef=_ from e8)
 rw[Array.getD_eq_getD_getElem?] at e8'
 unfold Oper.wp
 clear hA hd
 simp[execOp,hop,e8',go_sem,Result.andThen]
 exact hK _ _ (hF.grow hl (by decide) h5 (Below.refl _ _) ok ⟨fun e=>absurd e (by decide),fun e=>absurd e (by decide),fun e=>absurd e (by decide)⟩ (fun e=>absurd e (by decide)) (fun _=>rfl) (fun e=>absurd e (by decide)) (fun e=>absurd e (by decide)) (fun e=>absurd e (by decide)))
theorem st8_2 {Q:Exit→Act→World→Prop} {C:Cv} {o:Oper} (hop:o.op=.load 9 (.tmp 24)) (hdep:depB8 o [1]=true):St8 Tryz.prog Q C 2 o:=by
 intro l val w ok hF hl hf hd A K hA hK
 have l1:=dep8 hdep hd 1 (by simp)
 have f3:l.getD 3 false=false:=fls8 fun h=>by have:=hF.k3 h;rw[hf] at this;cases this
 have f4:l.getD 4 false=false:=fls8 fun h=>by have:=hF.k4 h;rw[f3] at this;cases this
 have h5:l.getD 5 false=false:=fls8 fun h=>by have:=(hF.k5 h).2;rw[f4] at this;cases this
 have e8:A.eval (.tmp 24)=.pointer (some ⟨C.Bx,1,none⟩):=(ev8 hA ok.size l1 rfl (by decide) (by decide) (by decide)).trans (hF.v1 l1)
 have e8':=(show A.tmps.getD _ undef=_ from e8)
 rw[Array.getD_eq_getD_getElem?] at e8'
 have hBx:C.Bx < C.W0.heap.size:=World.block_lt_of_cell? _ _ ok.hs
 have hc:w.cell? ⟨C.Bx,1,none⟩=some (.string C.s):=(World.cell?_of_block (hF.block C.Bx hBx (fun e=>ok.nB e.symm) ok.LB)).trans ok.hs
 unfold Oper.wp
 clear hA hd
 simp[execOp,hop,e8',hc,go_sem,Result.andThen]
 exact hK _ _ (hF.grow hl (by decide) h5 (Below.refl _ _) ok ⟨fun _=>l1,fun e=>absurd e (by decide),fun e=>absurd e (by decide)⟩ (fun e=>absurd e (by decide)) (fun e=>absurd e (by decide)) (fun _=>rfl) (fun e=>absurd e (by decide)) (fun e=>absurd e (by decide)))
theorem st8_3 {Q:Exit→Act→World→Prop} {C:Cv} {o:Oper} (hop:o.op=.call { callee:=.value (.func 92),args:=#[.tmp 25],argTypes:=#[9] }) (hdep:depB8 o [2]=true):St8 Tryz.prog Q C 3 o:=by
 intro l val w ok hF hl hf hd A K hA hK
 have l2:=dep8 hdep hd 2 (by simp)
 have f4:l.getD 4 false=false:=fls8 fun h=>by have:=hF.k4 h;rw[hf] at this;cases this
 have h5:l.getD 5 false=false:=fls8 fun h=>by have:=(hF.k5 h).2;rw[f4] at this;cases this
 have e8:A.eval (.tmp 25)=.string C.s:=(ev8 hA ok.size l2 rfl (by decide) (by decide) (by decide)).trans (hF.v2 l2)
 have e8':=(show A.tmps.getD _ undef=_ from e8)
 rw[Array.getD_eq_getD_getElem?] at e8'
 have HCl:=dclone_c C.s w ok.sz
 unfold Oper.wp
 clear hA hd
 simp[execOp,hop,e8',go_sem,Result.andThen]
 refine HCl.mono ?_
 rintro e w1 ⟨rfl,b1⟩
 exact hK (.string C.s) w1 (hF.grow hl (by decide) h5 b1 ok ⟨fun e=>absurd e (by decide),fun _=>l2,fun e=>absurd e (by decide)⟩ (fun e=>absurd e (by decide)) (fun e=>absurd e (by decide)) (fun e=>absurd e (by decide)) (fun _=>rfl) (fun e=>absurd e (by decide)))
theorem st8_4 {Q:Exit→Act→World→Prop} {C:Cv} {o:Oper} (hop:o.op=.buildSlice 45 1 #[(0,.tmp 26)]) (hdep:depB8 o [3]=true):St8 Tryz.prog Q C 4 o:=by
 intro l val w ok hF hl hf hd A K hA hK
 have l3:=dep8 hdep hd 3 (by simp)
 have h5:l.getD 5 false=false:=fls8 fun h=>by have:=(hF.k5 h).2;rw[hf] at this;cases this
 have e8:A.eval (.tmp 26)=.string C.s:=(ev8 hA ok.size l3 rfl (by decide) (by decide) (by decide)).trans (hF.v3 l3)
 have e8':=(show A.tmps.getD _ undef=_ from e8)
 rw[Array.getD_eq_getD_getElem?] at e8'
 unfold Oper.wp
 clear hA hd
 simp[execOp,hop,e8',go_sem,Result.andThen]
 exact hK (.slice (some ⟨w.heap.size,0,none⟩) 1 1) _ (hF.grow hl (by decide) h5 ((Below.refl _ _).alloc (Nat.le_refl _) _) ok ⟨fun e=>absurd e (by decide),fun e=>absurd e (by decide),fun _=>l3⟩ (fun e=>absurd e (by decide)) (fun e=>absurd e (by decide)) (fun e=>absurd e (by decide)) (fun e=>absurd e (by decide)) (fun _=>⟨w.heap.size,rfl,hF.size,World.alloc_heap_new w _⟩))
theorem st8_5 {Q:Exit→Act→World→Prop} {C:Cv} {o:Oper} (hop:o.op=.call { callee:=.builtin .append,args:=#[.tmp 23,.tmp 27],argTypes:=#[45,45] }) (hdep:depB8 o [0,4]=true):St8 Tryz.prog Q C 5 o:=by
 intro l val w ok hF hl hf hd A K hA hK
 have l0:=dep8 hdep hd 0 (by simp)
 have l4:=dep8 hdep hd 4 (by simp)
 have h6:l.getD 6 false=false:=fls8 fun h=>by have:=hF.k6 h;rw[hf] at this;cases this
 obtain⟨i0,hi,hz0,hz1,hz2⟩:=info_parts infoSt
 obtain⟨kb,e4,hkb,hrow⟩:=hF.v4 l4 hf
 have e1:A.eval (.tmp 23)=C.lv:=(ev8 hA ok.size l0 rfl (by decide) (by decide) (by decide)).trans (hF.v0 l0)
 have e2:A.eval (.tmp 27)=.slice (some ⟨kb,0,none⟩) 1 1:=(ev8 hA ok.size l4 rfl (by decide) (by decide) (by decide)).trans e4
 have hsp:Spread w 1 (.slice (some ⟨kb,0,none⟩) 1 1) 1 [.string C.s]:=.inr ⟨_,_,rfl,rfl,World.news_of_block hrow,fun u hu=>by simp at hu;subst hu;rfl⟩
 have hk:=ok.kk
 have hsz:=hF.size
 have hnb:=ok.nb
 refine wp_append_any w _ _ 45 hop C.nb 9 i0 _ 1 16 Tryz.underlying45 hi hz0 hz1 hz2 rfl (by decide) C.lv C.k C.xs e1 (hF.own hf) _ 1 _ e2 hsp (by unfold maxLen;omega) (by omega) (by omega) fun v' w' hown hg hloc=>?_
 have hi':5 < l.size:=by omega
 have g6:(l.setIfInBounds 5 true).getD 6 false=false:=by rw[getD_set (by decide)];exact h6
 refine hK v' w' ⟨hg.os.trans hF.os,hg.tape.trans hF.tape,hg.output.trans hF.output,Nat.le_trans hF.size hg.size,fun j hj h1 h2=>(hg.block j (Nat.lt_of_lt_of_le hj hF.size) h1).trans (hF.block j hj h1 h2),
  ?_,?_,?_,?_,fun _ h=>(by rw[getD_same hi'] at h;cases h),?_,?_,?_,fun _=>⟨mono8 hi' l0,mono8 hi' l4⟩,fun h=>(by rw[g6] at h;cases h),fun h=>(by rw[getD_same hi'] at h;cases h),fun _=>?_,fun _=>?_,fun h=>(by rw[g6] at h;cases h)⟩
 ·intro h;rw[getD_set (by decide)] at h;rw[updV_other _ _ (by decide)];exact hF.v0 h
 ·intro h;rw[getD_set (by decide)] at h;rw[updV_other _ _ (by decide)];exact hF.v1 h
 ·intro h;rw[getD_set (by decide)] at h;rw[updV_other _ _ (by decide)];exact hF.v2 h
 ·intro h;rw[getD_set (by decide)] at h;rw[updV_other _ _ (by decide)];exact hF.v3 h
 ·intro h;rw[getD_set (by decide)] at h;exact mono8 hi' (hF.k2 h)
 ·intro h;rw[getD_set (by decide)] at h;exact mono8 hi' (hF.k3 h)
 ·intro h;rw[getD_set (by decide)] at h;exact mono8 hi' (hF.k4 h)
 ·rw[updV_same]
  exact⟨hown,hloc.imp (fun h=>h) (fun h=>⟨_,h,hF.size⟩)⟩
 ·exact (hg.block C.L (Nat.lt_of_lt_of_le ok.lt hF.size) (fun e=>ok.nL e.symm)).trans (hF.box h6)
theorem st8_6 {Q:Exit→Act→World→Prop} {C:Cv} {o:Oper} (hop:o.op=.store 45 (.tmp 4) (.tmp 28)) (hdep:depB8 o [5]=true):St8 Tryz.prog Q C 6 o:=by
 intro l val w ok hF hl hf hd A K hA hK
 have l5:=dep8 hdep hd 5 (by simp)
 have e8:A.eval (.tmp 4)=.pointer (some ⟨C.L,0,none⟩):=(far8 hA (by decide)).trans ok.e4
 obtain⟨h1,h2⟩:=hF.own5 l5
 obtain⟨g,cap,ev,_,_⟩:=h1.form (by omega)
 have e9:A.eval (.tmp 28)=.slice (some ⟨g,0,none⟩) (C.k+1) cap:=(ev8 hA ok.size l5 rfl (by decide) (by decide) (by decide)).trans ev
 have e8':=(show A.tmps.getD _ undef=_ from e8)
 rw[Array.getD_eq_getD_getElem?] at e8'
 have e9':=(show A.tmps.getD _ undef=_ from e9)
 rw[Array.getD_eq_getD_getElem?] at e9'
 have hbx:=hF.box hf
 have hc:=hbx.cell
 have hfz:=hbx.frozen
 have hLw:C.L < w.heap.size:=hbx.lt
 have hnL:(val 5).ownBlock≠some C.L:=by
  rcases h2 with h | ⟨g,h,hg⟩
  ·rw[h];exact ok.nL
  ·rw[h];intro e;have:=Option.some.inj e;have:=ok.lt;omega
 unfold Oper.wp
 clear hA hd
 simp[execOp,hop,e8',e9',hc,hfz,hLw,go_sem,Result.andThen]
 have hi':6 < l.size:=by omega
 refine hK undef _ ⟨hF.os,hF.tape,hF.output,by simpa[World.setCell] using hF.size,fun j hj h3 h4=>(Below.heap_setCell _ ⟨C.L,0,none⟩ _ j h4).trans (hF.block j hj h3 h4),
  ?_,?_,?_,?_,fun _ h=>(by rw[getD_set (by decide),l5] at h;cases h),?_,?_,?_,?_,fun _=>mono8 hi' l5,fun h=>(by rw[getD_set (by decide),l5] at h;cases h),fun _=>?_,fun h=>(by rw[getD_same hi'] at h;cases h),fun _=>?_⟩
 ·intro h;rw[getD_set (by decide)] at h;rw[updV_other _ _ (by decide)];exact hF.v0 h
 ·intro h;rw[getD_set (by decide)] at h;rw[updV_other _ _ (by decide)];exact hF.v1 h
 ·intro h;rw[getD_set (by decide)] at h;rw[updV_other _ _ (by decide)];exact hF.v2 h
 ·intro h;rw[getD_set (by decide)] at h;rw[updV_other _ _ (by decide)];exact hF.v3 h
 ·intro h;rw[getD_set (by decide)] at h;exact mono8 hi' (hF.k2 h)
 ·intro h;rw[getD_set (by decide)] at h;exact mono8 hi' (hF.k3 h)
 ·intro h;rw[getD_set (by decide)] at h;exact mono8 hi' (hF.k4 h)
 ·intro h;rw[getD_set (by decide)] at h;exact⟨mono8 hi' (hF.k5 h).1,mono8 hi' (hF.k5 h).2⟩
 ·rw[updV_other _ _ (by decide)]
  exact⟨h1.kept (grownBy_setCell' w C.L _) (.inr hnL),h2⟩
 ·rw[updV_other _ _ (by decide),ev]
  exact hbx.set _
end Go.Proofs.YtfmldnbcjbflbaaGreatDoor
namespace Go.Proofs.YtfmldnbcjbflbaaGreatDoor
open Lib(hid)
open Go.RowKit
theorem d8_ne:∀ i < 7,∀ j < 7,j≠i→D8 j≠D8 i∨D8 i=none:=by decide
theorem actsL_t {D:Nat→Option Tmp} {l:Array Bool} {val:Nat→Value} {i:Nat} {is:List Nat} {a:Act} (h:l.getD i false=true):actsL D l val (i::is) a=actsL D l val is (a.put (D i) (val i)):=by
 show actsL D l val is (if l.getD i false=true then a.put (D i) (val i) else a)=_
 rw[if_pos h]
theorem actsL_nil {D:Nat→Option Tmp} {l:Array Bool} {val:Nat→Value} {a:Act}:actsL D l val [] a=a:=rfl
theorem acts8_all {l:Array Bool} {val:Nat→Value} (a:Act) (h:∀ i,i < 7→l.getD i false=true):actsL D8 l val (List.range 7) a=(((((((a.put (some 23) (val 0)).put (some 24) (val 1)).put (some 25) (val 2)).put (some 26) (val 3)).put (some 27) (val 4)).put (some 28) (val 5)).put none (val 6)):=by
 rw[show List.range 7=[0,1,2,3,4,5,6] by decide]
 refine (actsL_t (h 0 (by decide))).trans ?_
 refine (actsL_t (h 1 (by decide))).trans ?_
 refine (actsL_t (h 2 (by decide))).trans ?_
 refine (actsL_t (h 3 (by decide))).trans ?_
 refine (actsL_t (h 4 (by decide))).trans ?_
 refine (actsL_t (h 5 (by decide))).trans ?_
 refine (actsL_t (h 6 (by decide))).trans ?_
 simp only[show D8 0=some 23 from rfl,show D8 1=some 24 from rfl,show D8 2=some 25 from rfl,show D8 3=some 26 from rfl,show D8 4=some 27 from rfl,show D8 5=some 28 from rfl,show D8 6=none from rfl]
 exact actsL_nil
theorem flow8 {P:Program} {ops:Array Oper} {Q:Exit→Act→World→Prop} (C:Cv) (ok:CvOk C) (h7:ops.size=7) (hdst:ops.toList.map (·.dst)=slots8)
  (hac:(ops.toList.zipIdx.all fun q=>q.1.after.all fun e=>decide (e.on < q.2))=true) (hg:(ops.toList.all fun o=>o.guard.isNone)=true) (hst:AllAt (St8 P Q C) 0 ops.toList)
  (fin:∀ (val:Nat→Value) (w:World),w.os=C.W0.os→w.tape=C.W0.tape→w.output=C.W0.output→C.W0.heap.size≤w.heap.size→(∀ i,i < C.W0.heap.size→some i≠C.lv.ownBlock→i≠C.L→w.heap[i]?=C.W0.heap[i]?) →
   w.ownsRow C.nb 9 1 (val 5) (C.k+1) (C.xs++[.string C.s])→((val 5).ownBlock=C.lv.ownBlock∨∃ g,(val 5).ownBlock=some g∧C.W0.heap.size≤g)→Boxed w C.L 45 (val 5) →
   Q .normal (((((((C.a0.put (some 23) (val 0)).put (some 24) (val 1)).put (some 25) (val 2)).put (some 26) (val 3)).put (some 27) (val 4)).put (some 28) (val 5)).put none (val 6)) w):wpAny P .any ops Q ops.size (Array.replicate ops.size false) C.a0 C.W0:=by
 have hat:∀ (i:Nat) (o:Oper),ops[i]?=some o→ops.toList[i]?=some o:=fun i o h=>(Array.getElem?_toList ..).trans h
 have hD:∀ (i:Nat) (o:Oper),ops[i]?=some o→o.dst=D8 i:=by
  intro i o h
  unfold D8
  rw[← hdst,List.getElem?_map,hat i o h]
  rfl
 refine wpAny_flow D8 hD (fun i j hi hj=>d8_ne i (by omega) j (by omega)) ?_ ?_ C.a0 (Fv C) ?_ ?_ C.W0 (fun _=>undef) ?_
 ·intro i o h e he _
  have hm:(o,i) ∈ ops.toList.zipIdx:=List.mem_zipIdx_iff_getElem?.2 (hat i o h)
  have:=List.all_eq_true.1 hac _ hm
  have:=Array.all_eq_true_iff_forall_mem.1 this e he
  simpa using this
 ·intro i o h
  have:=List.all_eq_true.1 hg o (List.mem_of_getElem? (hat i o h))
  simpa using this
 ·intro l val w i o hF hl ho hf hd A K hA hK
  have:=hst.at (hat i o ho)
  rw[Nat.zero_add] at this
  exact this l val w ok hF (by omega) hf hd A K (by rw[hA,h7]) hK
 ·intro l val w hF hall
  have hall':∀ i,i < 7→l.getD i false=true:=fun i hi=>hall i (by omega)
  rw[h7,acts8_all _ hall']
  obtain⟨h1,h2⟩:=hF.own5 (hall' 5 (by decide))
  exact fin val w hF.os hF.tape hF.output hF.size hF.block h1 h2 (hF.box6 (hall' 6 (by decide)))
 ·have hn:∀ i,(Array.replicate ops.size false).getD i false=false:=by
   intro i
   simp[Array.getD_eq_getD_getElem?,Array.getElem?_replicate]
   split <;> simp
  have ab:∀ {p:Prop} {i:Nat},(Array.replicate ops.size false).getD i false=true→p:=fun {p i} h=>by rw[hn] at h;cases h
  exact⟨rfl,rfl,rfl,Nat.le_refl _,fun _ _ _ _=>rfl,ab,ab,ab,ab,fun h=>ab h,ab,ab,ab,ab,ab,fun _=>ok.own,ab,fun _=>ok.hL,ab⟩
theorem flow8' {P:Program} {ops:Array Oper} {Q:Exit→Act→World→Prop} {a0:Act} {W0:World} (L Bx nb:Nat) (lv:Value) (k:Nat) (xs:List Value) (s:ByteArray) (ok:CvOk ⟨W0,a0,L,Bx,nb,lv,k,xs,s⟩) (h7:ops.size=7) (hdst:ops.toList.map (·.dst)=slots8)
  (hac:(ops.toList.zipIdx.all fun q=>q.1.after.all fun e=>decide (e.on < q.2))=true) (hg:(ops.toList.all fun o=>o.guard.isNone)=true) (hst:AllAt (St8 P Q ⟨W0,a0,L,Bx,nb,lv,k,xs,s⟩) 0 ops.toList)
  (fin:∀ (a:Act) (w:World) (v:Value),w.os=W0.os→w.tape=W0.tape→w.output=W0.output→W0.heap.size≤w.heap.size→(∀ i,i < W0.heap.size→some i≠lv.ownBlock→i≠L→w.heap[i]?=W0.heap[i]?) →
   w.ownsRow nb 9 1 v (k+1) (xs++[.string s])→(v.ownBlock=lv.ownBlock∨∃ g,v.ownBlock=some g∧W0.heap.size≤g)→Boxed w L 45 v→Q .normal a w):wpAny P .any ops Q ops.size (Array.replicate ops.size false) a0 W0:=
 flow8 ⟨W0,a0,L,Bx,nb,lv,k,xs,s⟩ ok h7 hdst hac hg hst fun val w h1 h2 h3 h4 h5 h6 h8 h9=>fin _ w (val 5) h1 h2 h3 h4 h5 h6 h8 h9
end Go.Proofs.YtfmldnbcjbflbaaGreatDoor
namespace Go.Proofs.YtfmldnbcjbflbaaGreatDoor
open Lib(hid)
open Go.RowKit Go.Shelf
attribute [local go_sem] Oper.semAt_some
theorem cntV_snoc (ts:List Tm) (t:Tm) (s:List UInt8):cntV (ts++[t]) s=cntV ts s+(if t.op=1∧nm t=s then 1 else 0):=by
 induction ts with
 | nil=>simp[cntV]
 | cons u ts ih=>simp only[List.cons_append,cntV,ih];omega
theorem cntV_le (ts:List Tm) (s:List UInt8):cntV ts s≤ts.length:=by
 induction ts with
 | nil=>simp[cntV]
 | cons t ts ih=>simp only[cntV,List.length_cons];split <;> omega
set_option maxRecDepth 100000 in
set_option maxHeartbeats 4000000 in
theorem varsOf_in (r:Ru) (cs:List Value) (w:World) (hc:RuC w w.heap.size r cs) (hsm:∀ t ∈ termsR r,t.op=1→t.s.size≤281474976710656) (hlen:(termsR r).length≤1000000) :
  CallsIn Fence.wide 6 Tryz.prog 57 #[.agg cs.toArray] w fun e w'=>∃ v,e=.returned v∧w'.ownsRow w.heap.size 9 1 v (varsV (termsR r)).length ((varsV (termsR r)).map Value.string)∧Below w.heap.size w w':=by
 obtain⟨o0,k0,o1,k1,rfl,_⟩:=hc.look
 have hmm:=@run_makeMap Tryz.prog
 have HC:=hid hc
 clear hc
 refine callsIn_of_wp_marks Tryz.func57 rfl trivial ?_ rfl
 simp only[Tryz.ntmps57,List.size_toArray,List.length_cons,List.length_nil,Nat.reduceAdd,Nat.reduceSub,Array.replicate_succ,Array.replicate_zero,List.push_toArray,List.append_toArray,List.nil_append,List.cons_append]
 obtain⟨n0,hn0⟩:∃ n0,w.heap.size=n0:=⟨_,rfl⟩
 gi_wp2_with fail
 obtain⟨W4,hW4⟩:∃ W4,((((w.alloc (.cells #[.string r.head.rel,.slice o0 r.head.l.length k0,.slice o1 r.body.length k1,.int .i64 r.line] 37)).alloc (.map #[] 0)).alloc (.cells #[.map (some (n0+1))] 69)).alloc (.cells #[.slice none 0 0] 45))=W4:=⟨_,rfl⟩
 have hs4:W4.heap.size=n0+4:=by rw[← hW4];simp;omega
 have hb4:Below n0 w W4:=by
  rw[← hW4]
  exact ((((Below.refl n0 w).alloc (by omega) _).alloc (by simp;omega) _).alloc (by simp;omega) _).alloc (by simp;omega) _
 have bl4:Boxed W4 (n0+1+1+1) 45 (.slice none 0 0):=by
  have:=Boxed.new (((w.alloc (.cells #[.string r.head.rel,.slice o0 r.head.l.length k0,.slice o1 r.body.length k1,.int .i64 r.line] 37)).alloc (.map #[] 0)).alloc (.cells #[.map (some (n0+1))] 69)) 45 (.slice none 0 0)
  rw[hW4] at this
  simpa[hn0] using this
 have bm4:Boxed W4 (n0+1+1) 69 (.map (some (n0+1))):=by
  have:=(Boxed.new ((w.alloc (.cells #[.string r.head.rel,.slice o0 r.head.l.length k0,.slice o1 r.body.length k1,.int .i64 r.line] 37)).alloc (.map #[] 0)) 69 (.map (some (n0+1)))).alloc (.cells #[.slice none 0 0] 45)
  rw[show ((w.alloc (.cells #[.string r.head.rel,.slice o0 r.head.l.length k0,.slice o1 r.body.length k1,.int .i64 r.line] 37)).alloc (.map #[] 0)).heap.size=n0+1+1 by simp[hn0],hW4] at this
  exact this
 have M4:MapI Tryz.prog W4 9 3 (n0+1) 0 (fun _=>0) 0:=by
  have:=((mapI_made Tryz.prog (w.alloc (.cells #[.string r.head.rel,.slice o0 r.head.l.length k0,.slice o1 r.body.length k1,.int .i64 r.line] 37)) 9 3).alloc (.cells #[.map (some (n0+1))] 69)).alloc (.cells #[.slice none 0 0] 45)
  rw[show (w.alloc (.cells #[.string r.head.rel,.slice o0 r.head.l.length k0,.slice o1 r.body.length k1,.int .i64 r.line] 37)).heap.size=n0+1 by simp[hn0],hW4] at this
  exact this
 have mb4:∃ o:Obj,W4.heap[n0+1]?=some o∧o.isCells=false:=by
  obtain⟨D,⟨es,clock,h1,_⟩,_⟩:=M4
  exact⟨_,h1,rfl⟩
 rw[hW4]
 have HE:=hid (yeach_in 5 r _ W4 ((HC.out.below (by rw[hn0];exact hb4)).more (by rw[hn0];omega)))
 refine⟨trivial,HE.out.mono ?_⟩
 rintro e W5 ⟨rfl,hW5⟩
 rw[hs4]
 clear hW4
 gi_wp2_with fail
 rw[← hW5]
 have hs5:W5.heap.size=n0+5:=by rw[hW5];simp;omega
 have hb45:Below W4.heap.size W4 W5:=by rw[hW5];exact (Below.refl _ _).alloc (Nat.le_refl _) _
 have hb5:Below n0 w W5:=hb4.trans (hb45.mono (by omega))
 have bl5:Boxed W5 (n0+1+1+1) 45 (.slice none 0 0):=(hb45.block _ bl4.lt).trans bl4
 have bm5:Boxed W5 (n0+1+1) 69 (.map (some (n0+1))):=(hb45.block _ bm4.lt).trans bm4
 have M5:=M4.below hb45 M4.lt
 have mb5:∃ o:Obj,W5.heap[n0+1]?=some o∧o.isCells=false:=by
  obtain⟨D,⟨es,clock,h1,_⟩,_⟩:=M5
  exact⟨_,h1,rfl⟩
 have row5:W5.heap[n0+4]?=some (.cells #[.string r.head.rel,.slice o0 r.head.l.length k0,.slice o1 r.body.length k1,.int .i64 r.line] 37 (0,0)):=by rw[hW5,← hs4];exact World.alloc_heap_new W4 _
 have safe:Safe (SV (n0+1) (n0+1+1+1)) (veil (n0+1+1+1) W5) W5:=fun p c hp=>by
  obtain⟨h1,h2⟩:=veil_cell hp
  refine⟨h2,World.block_lt_of_cell? _ _ h2,?_⟩
  rintro (h3 | h3 | ⟨v,h3,h4⟩)
  ·obtain⟨o,ho,hc⟩:=cells_of_cell h2
   obtain⟨o',ho',hc'⟩:=mb5
   rw[h3,ho'] at ho
   cases ho
   rw[hc'] at hc
   cases hc
  ·exact h1 h3
  ·rw[bl5.cell] at h3
   cases h3
   cases h4
 have wf5:∀ i,SV (n0+1) (n0+1+1+1) W5 i→i < W5.heap.size:=by
  rintro i (h3 | h3 | ⟨v,h3,h4⟩)
  ·omega
  ·omega
  ·rw[bl5.cell] at h3
   cases h3
   cases h4
 have hbv:Below n0 w (veil (n0+1+1+1) W5):=
  ⟨hb5.os,hb5.tape,hb5.output,by unfold veil;simpa using hb5.size,fun i hi=>(World.putObj_heap_other (by omega)).trans (hb5.block i hi)⟩
 have hcv:RuC (veil (n0+1+1+1) W5) n0 r [.string r.head.rel,.slice o0 r.head.l.length k0,.slice o1 r.body.length k1,.int .i64 r.line]:=by have:=HC.out;rw[hn0] at this;exact this.below hbv
 have hBv:CellsAt (veil (n0+1+1+1) W5) ⟨n0+4,0,none⟩ 0 [.string r.head.rel,.slice o0 r.head.l.length k0,.slice o1 r.body.length k1,.int .i64 r.line]:=fun j c hj=>by
  refine cell_veil ?_ (by rw[addBlock];show n0+4≠_;omega)
  rw[Nat.zero_add]
  exact World.news_of_block row5 j c (by simpa using hj)
 clear hW5 hmm mb4 mb5 M4 bl4 bm4 hb45 HE
 refine wpIn_rangeFunc_ownH rfl (by omega) (gf:=127) (lb:=#[.pointer (some ⟨n0+4,0,none⟩)]) rfl trivial (enters_of Tryz.func127 (by kernel_rfl) rfl)
  (yeach_stops 5 (n0+4) n0 r [.string r.head.rel,.slice o0 r.head.l.length k0,.slice o1 r.body.length k1,.int .i64 r.line] (veil (n0+1+1+1) W5) W5 (SV (n0+1) (n0+1+1+1)) (sv_grow _ _) safe wf5 hBv hcv (G:=fun t=>t.op=1→t.s.size≤281474976710656) hsm) (fun h k=>h.trans k) ?hKb (Below.refl _ _) (fun _=>rfl)
  (fun pre W=>(∃ v,Boxed W (n0+1+1+1) 45 v∧W.ownsRow n0 9 1 v (varsV (pre.map Ne.t)).length ((varsV (pre.map Ne.t)).map Value.string)∧True)∧Boxed W (n0+1+1) 69 (.map (some (n0+1)))∧(∃ c,MapI Tryz.prog W 9 3 (n0+1) pre.length (fun s=>(cntV (pre.map Ne.t) s:Int)) c)∧KO (SV (n0+1) (n0+1+1+1)) W5 W∧Below n0 w W)
  (fun _ _ _=>False) ?hI (fun _=>fun _ _ _ _ h=>h.elim) ⟨⟨_,bl5,World.ownsRow_nil _ _ _ _,trivial⟩,bm5,⟨0,M5⟩,KO.refl _ _,hb5⟩
  (fun x a' W=>∃ Bx,W.heap[Bx]?=some (.cells x.cs.toArray 51 (0,0))∧n0+5≤Bx∧a'={ tmps:=#[.agg #[.string r.head.rel,.slice o0 r.head.l.length k0,.slice o1 r.body.length k1,.int .i64 r.line],.pointer (some ⟨n0,0,none⟩),.slice none 0 0,.pointer (some ⟨n0+1+1,0,none⟩),.pointer (some ⟨n0+1+1+1,0,none⟩),.pointer (some ⟨Bx,0,none⟩),.map (some (n0+1)),.agg #[.string r.head.rel,.slice o0 r.head.l.length k0,.slice o1 r.body.length k1,.int .i64 r.line],.func (.func 127) #[] #[.pointer (some ⟨n0+4,0,none⟩)],.agg x.cs.toArray,undef,undef,undef,undef,undef,undef,undef,undef,undef,undef,undef,undef,undef,undef,undef,undef,undef,undef,undef,undef],defers:=[] })
  ?hAx ?assign ?body ?done ?stop
 case hKb=>exact fun W l o o' hl ho hc _=>sv_put W l o o' (by omega) ho hc
 case hI=>
  refine OwnFrom.and (Own.from (holdsRow_own n0 (n0+1+1+1) 45 9 1 (fun (pre:List (Ne (veil (n0+1+1+1) W5) n0 (fun t=>t.op=1→t.s.size≤281474976710656)))=>(varsV (pre.map Ne.t)).length) (fun pre=>(varsV (pre.map Ne.t)).map Value.string) (fun _ _=>True)) _) (OwnFrom.and (Own.from (boxed_own (n0+1+1) 69 (fun _=>.map (some (n0+1)))) _) ?_)
  rintro pre A B row ⟨⟨c,h1⟩,h2,h3⟩ hg hr
  refine⟨⟨c,h1.kept hg (fun e=>by have:=(hr _ e.symm).1;omega)⟩,h2.trans ?_,ownFrom_below (β:=Unit) (by rw[hn0];exact Nat.le_refl _) (by omega) () A B row h3 hg hr⟩
  have hL:n0+1+1+1 < A.heap.size:=by have:=h2.size;omega
  have hcell:B.cell? ⟨n0+1+1+1,0,none⟩=A.cell? ⟨n0+1+1+1,0,none⟩:=World.cell?_of_block (hg.block _ hL (fun e=>by have h:=(hr _ e.symm).1;change W5.heap.size≤n0+1+1+1 at h;omega))
  refine⟨hg.size,fun i o ho hc _=>(hg.block i (Array.getElem?_eq_some_iff.1 ho).1 (fun e=>?_)).trans ho,fun i h=>.inl (sv_cell hcell i h),fun hw i hi=>Nat.lt_of_lt_of_le (hw i (sv_cell hcell i hi)) hg.size⟩
  obtain⟨_,o',ho',hc'⟩:=hr _ e.symm
  rw[ho] at ho'
  cases ho'
  rw[hc] at hc'
  cases hc'
 case hAx=>
  rintro x a' _ A B row ⟨Bx,h1,h2,h3⟩ hg hr
  refine⟨Bx,(hg.block Bx (Array.getElem?_eq_some_iff.1 h1).1 (fun e=>?_)).trans h1,h2,h3⟩
  obtain⟨_,o',ho',hc'⟩:=hr _ e.symm
  rw[h1] at ho'
  cases ho'
  cases hc'
 case assign=>
  rintro lp pre ⟨t',cs',ok',gd'⟩ W K ⟨⟨v,h1,h2,_⟩,h3,⟨c,h4⟩,h5,h6⟩ hK
  obtain⟨o',k',rfl,_⟩:=ok'.look
  have hb1:=(Below.refl W.heap.size W).alloc (Nat.le_refl _) (.cells #[.int .i64 t'.op,.string t'.s,.int .i64 t'.n,.slice o' t'.l.length k'] 51)
  have hko:=KO.of_below (sv_grow _ _) (h5.wf wf5) hb1
  have HK:=hid (hK _ _ ((KeepsOthers.alloc W _).from _) hko ⟨⟨v,h1.alloc _,h2.alloc _,trivial⟩,h3.alloc _,⟨c,h4.alloc _⟩,h5.trans hko,h6.trans (hb1.mono (by have:=h6.size;omega))⟩ ⟨W.heap.size,World.alloc_heap_new W _,by have:=h5.size;omega,rfl⟩)
  clear hK h1 h2 h3 h4 h5 h6 hb1 hko
  simp only[Ne.enc]
  gi_wp2
  exact HK.out
 case body=>
  rintro lp pre ⟨t',cs',ok',gd'⟩ a' W hlp hrec ⟨⟨v,h1,h2,_⟩,h3,⟨c,h4⟩,h5,h6⟩ ⟨Bx,hrow,hBx,rfl⟩ hlen2
  obtain⟨o',k',rfl,_,hsz,_⟩:=ok'.look
  have e0:W.cell? ⟨Bx,0,none⟩=some (.int .i64 t'.op):=by unfold World.cell?;rw[hrow];rfl
  have e1:W.cell? ⟨Bx,1,none⟩=some (.string t'.s):=by unfold World.cell?;rw[hrow];rfl
  have hBl:Bx < W.heap.size:=(Array.getElem?_eq_some_iff.1 hrow).1
  have hm3:=h3.cell
  have hl3:=h3.lt
  have Hm:=hid h4
  by_cases hop:t'.op=1
  ·have hne:((t'.op:Int) != 1)=false:=by simpa using hop
   have hsz':=gd' hop
   have hcl:cntV (pre.map Ne.t) t'.s.data.toList≤pre.length:=by have:=cntV_le (pre.map Ne.t) t'.s.data.toList;rwa [List.length_map] at this
   have hct0:(0:Int)≤(cntV (pre.map Ne.t) t'.s.data.toList:Int):=by omega
   have hct1:(cntV (pre.map Ne.t) t'.s.data.toList:Int)≤1000000:=by omega
   have hvM:v.ownBlock≠some (n0+1):=by
    intro e
    rcases h2.2 with ⟨rfl,_⟩ | ⟨g,cap,cur,rfl,_,hg,_⟩
    ·cases e
    ·obtain rfl:g=n0+1:=by simpa[Value.ownBlock] using e
     obtain⟨D,⟨es,clock,hm,_⟩,_⟩:=h4
     rw[hm] at hg
     cases hg
   have hf:updF (fun s=>(cntV (pre.map Ne.t) s:Int)) t'.s.data.toList ((cntV (pre.map Ne.t) t'.s.data.toList:Int)+1)=fun s=>(cntV (pre.map Ne.t++[t']) s:Int):=by
    funext s
    rw[cntV_snoc]
    by_cases e:s=t'.s.data.toList
    ·subst e;rw[updF_same,if_pos ⟨hop,rfl⟩];omega
    ·rw[updF_other _ _ e,if_neg (fun h=>e h.2.symm)];omega
   have zE:∀ w:World,(zeroValue 3).run Tryz.prog w=.ok (.int .i64 0) w:=fun w=>by kernel_rfl
   have H1:=hid h1
   have H2:=hid h2
   have H3:=hid h3
   have H5:=hid h5
   have H6:=hid h6
   have Hrow:=hid hrow
   have HvM:=hid hvM
   have Hf:=hid hf
   clear h1 h2 h3 h4 h5 h6 hrow hvM hf
   by_cases hz0:cntV (pre.map Ne.t) t'.s.data.toList=0
   ·have hq:(((cntV (pre.map Ne.t) t'.s.data.toList:Nat):Int)+1 == 1)=true:=by rw[hz0];rfl
    have Hz0:=hid hz0
    clear hz0
    gi_wp2_with (first
     | (gi_at_lookup;refine wpListIn_mapI_get _ rfl _ _ 69 rfl 9 3 Tryz.underlying69 Tryz.underlying9 Tryz.underlying3 (zE _) (n0+1) pre.length (fun s=>(cntV (pre.map Ne.t) s:Int)) c rfl Hm.out t'.s rfl hsz ?_;intro _)
     | (gi_at_mapUpdate;refine wpListIn_mapI_put _ rfl _ _ _ 69 rfl 9 3 Tryz.underlying69 Tryz.underlying9 Tryz.underlying3 (n0+1) pre.length (fun s=>(cntV (pre.map Ne.t) s:Int)) c rfl Hm.out (by unfold maxLen;omega) t'.s ((cntV (pre.map Ne.t) t'.s.data.toList:Int)+1) rfl rfl hsz (by omega) (WalkArith.wf_i64 (by omega)) ?_;intro w1 hM hg;rw[Hf.out] at hM;have hM1:=hid hM;have hg1:=hid hg;have m3':w1.cell? ⟨n0+1+1,0,none⟩=some (.map (some (n0+1))):=(H3.out.kept hg (fun e=>by have:=Option.some.inj e;omega)).cell;have e1':w1.cell? ⟨Bx,1,none⟩=some (.string t'.s):=(World.cell?_of_block (hg.block Bx hBl (fun e=>by have:=Option.some.inj e;omega))).trans e1;have hl3':n0+1+1 < w1.heap.size:=Nat.lt_of_lt_of_le hl3 hg.size;have hBl':Bx < w1.heap.size:=Nat.lt_of_lt_of_le hBl hg.size;clear hM hg)
     | (gi_at_lookup;refine wpListIn_mapI_get _ rfl _ _ 69 rfl 9 3 Tryz.underlying69 Tryz.underlying9 Tryz.underlying3 (zE _) (n0+1) (pre.length+1) (fun s=>(cntV (pre.map Ne.t++[t']) s:Int)) _ rfl hM1.out t'.s rfl hsz ?_;intro _;rw[show ((cntV (pre.map Ne.t++[t']) t'.s.data.toList:Nat):Int)=(cntV (pre.map Ne.t) t'.s.data.toList:Int)+1 from (congrFun Hf.out t'.s.data.toList).symm.trans (updF_same _ _ _)]))
    have W1:W.grownBy w1 (some (n0+1)):=hg1.out
    have B1:Boxed w1 (n0+1+1+1) 45 v:=H1.out.kept W1 (fun e=>by have:=Option.some.inj e;omega)
    have O1:=H2.out.kept W1 (.inr HvM.out)
    have K1:KO (SV (n0+1) (n0+1+1+1)) W w1:=sv_step (v:=v) (v':=v) W1.size (fun i hi h1 _ _=>W1.block i hi (fun e=>h1 (Option.some.inj e))) H1.out.cell B1.cell (.inl rfl)
    have D1:Below n0 w w1:=H6.out.grown W1 (by have:=H6.out.size;omega) (fun k e=>by have:=Option.some.inj e;omega)
    have F1:KeepsFrom (n0+5) W w1:=KeepsFrom.of_grownBy W1 (fun j e=>by have:=Option.some.inj e;omega)
    have M1:Boxed w1 (n0+1+1) 69 (.map (some (n0+1))):=H3.out.kept W1 (fun e=>by have:=Option.some.inj e;omega)
    have hL1:(varsV (pre.map Ne.t)).length≤1000000:=by have:=varsV_len (pre.map Ne.t);rw[List.length_map] at this;omega
    have nL:v.ownBlock≠some (n0+1+1+1):=by
     intro e
     rcases H2.out.2 with ⟨rfl,_⟩ | ⟨g,cap,cur,rfl,_,hg,_⟩
     ·cases e
     ·obtain rfl:g=n0+1+1+1:=by simpa[Value.ownBlock] using e
      have h:=H1.out
      unfold Boxed at h
      rw[hg] at h
      cases h
    have nB:v.ownBlock≠some Bx:=by
     intro e
     rcases H2.out.2 with ⟨rfl,_⟩ | ⟨g,cap,cur,rfl,_,hg,_⟩
     ·cases e
     ·obtain rfl:g=Bx:=by simpa[Value.ownBlock] using e
      have h:=Hrow.out
      rw[hg] at h
      cases h
    have hst:varsV (pre.map Ne.t++[t'])=varsV (pre.map Ne.t)++[t'.s]:=by rw[varsV_snoc];unfold stepV;rw[if_pos ⟨hop,Hz0.out⟩]
    have n0w:n0≤w1.heap.size:=by have:=D1.size;omega
    refine any_region (by kernel_rfl) (by kernel_rfl) (fun ⟨_,_,h⟩=>h) ?_
    refine flow8' (n0+1+1+1) Bx n0 v (varsV (pre.map Ne.t)).length ((varsV (pre.map Ne.t)).map Value.string) t'.s ?_ rfl (by kernel_rfl) (by kernel_rfl) (by kernel_rfl) ?_ ?_
    ·exact⟨by simp,rfl,rfl,B1,e1',O1,nL,nB,by show Bx≠n0+1+1+1;omega,hsz',n0w,hL1⟩
    ·exact⟨st8_0 rfl,st8_1 rfl,st8_2 rfl (by kernel_rfl),st8_3 rfl (by kernel_rfl),st8_4 rfl (by kernel_rfl),st8_5 rfl (by kernel_rfl),st8_6 rfl (by kernel_rfl),trivial⟩
    ·intro a2 w2 v2 g1 g2 g3 g4 g5 g6 g7 g8
     replace g4:w1.heap.size≤w2.heap.size:=g4
     replace g5:∀ i,i < w1.heap.size→some i≠v.ownBlock→i≠n0+1+1+1→w2.heap[i]?=w1.heap[i]?:=g5
     replace g7:v2.ownBlock=v.ownBlock∨∃ g,v2.ownBlock=some g∧w1.heap.size≤g:=g7
     have D2:Below n0 w1 w2:=⟨g1,g2,g3,g4,fun i hi=>g5 i (by omega) (fun e=>by have:=(O1.lt i e.symm).1;omega) (by omega)⟩
     have K2:KO (SV (n0+1) (n0+1+1+1)) w1 w2:=sv_step g4 (fun i hi _ h2 h3=>g5 i hi h3 h2) B1.cell g8.cell (g7.imp id fun ⟨g,h1,h2⟩=>⟨g,h1,h2,(g6.lt g h1).2⟩)
     have F2:KeepsFrom (n0+5) w1 w2:=by
      refine⟨g4,fun i o hi ho hc=>(g5 i (Array.getElem?_eq_some_iff.1 ho).1 (fun e=>?_) (by omega)).trans ho⟩
      rcases O1.2 with ⟨rfl,_⟩ | ⟨g,cap,cur,rfl,_,hg,_⟩
      ·cases e
      ·obtain rfl:i=g:=by simpa[Value.ownBlock] using e
       rw[hg] at ho
       cases ho
       cases hc
     have M2:Boxed w2 (n0+1+1) 69 (.map (some (n0+1))):=(g5 _ (by omega) (fun e=>by
      rcases O1.2 with ⟨rfl,_⟩ | ⟨g,cap,cur,rfl,_,hg,_⟩
      ·cases e
      ·obtain rfl:n0+1+1=g:=by simpa[Value.ownBlock] using e
       have h:=M1
       unfold Boxed at h
       rw[hg] at h
       cases h) (by omega)).trans M1
     have N2:w2.heap[n0+1]?=w1.heap[n0+1]?:=g5 _ (by omega) (fun e=>HvM.out e.symm) (by omega)
     have F3:KeepsFrom W5.heap.size W w2:=by rw[hs5];exact F1.trans F2
     refine⟨F3,K1.trans K2,?_⟩
     simp only[List.map_append,List.map_cons,List.map_nil,List.length_append,List.length_cons,List.length_nil,hst]
     exact⟨⟨v2,g8,g6,trivial⟩,M2,⟨_,mapI_block hM1.out N2⟩,(H5.out.trans K1).trans K2,D1.trans D2⟩
   ·have hq:(((cntV (pre.map Ne.t) t'.s.data.toList:Nat):Int)+1 == 1)=false:=by
     rw[beq_eq_false_iff_ne]
     omega
    gi_wp2_with (first
     | (gi_at_lookup;refine wpListIn_mapI_get _ rfl _ _ 69 rfl 9 3 Tryz.underlying69 Tryz.underlying9 Tryz.underlying3 (zE _) (n0+1) pre.length (fun s=>(cntV (pre.map Ne.t) s:Int)) c rfl Hm.out t'.s rfl hsz ?_;intro _)
     | (gi_at_mapUpdate;refine wpListIn_mapI_put _ rfl _ _ _ 69 rfl 9 3 Tryz.underlying69 Tryz.underlying9 Tryz.underlying3 (n0+1) pre.length (fun s=>(cntV (pre.map Ne.t) s:Int)) c rfl Hm.out (by unfold maxLen;omega) t'.s ((cntV (pre.map Ne.t) t'.s.data.toList:Int)+1) rfl rfl hsz (by omega) (WalkArith.wf_i64 (by omega)) ?_;intro w1 hM hg;rw[Hf.out] at hM;have hM1:=hid hM;have hg1:=hid hg;have m3':w1.cell? ⟨n0+1+1,0,none⟩=some (.map (some (n0+1))):=(H3.out.kept hg (fun e=>by have:=Option.some.inj e;omega)).cell;have e1':w1.cell? ⟨Bx,1,none⟩=some (.string t'.s):=(World.cell?_of_block (hg.block Bx hBl (fun e=>by have:=Option.some.inj e;omega))).trans e1;have hl3':n0+1+1 < w1.heap.size:=Nat.lt_of_lt_of_le hl3 hg.size;have hBl':Bx < w1.heap.size:=Nat.lt_of_lt_of_le hBl hg.size;clear hM hg)
     | (gi_at_lookup;refine wpListIn_mapI_get _ rfl _ _ 69 rfl 9 3 Tryz.underlying69 Tryz.underlying9 Tryz.underlying3 (zE _) (n0+1) (pre.length+1) (fun s=>(cntV (pre.map Ne.t++[t']) s:Int)) _ rfl hM1.out t'.s rfl hsz ?_;intro _;rw[show ((cntV (pre.map Ne.t++[t']) t'.s.data.toList:Nat):Int)=(cntV (pre.map Ne.t) t'.s.data.toList:Int)+1 from (congrFun Hf.out t'.s.data.toList).symm.trans (updF_same _ _ _)]))
    have W1:W.grownBy w1 (some (n0+1)):=hg1.out
    have B1:Boxed w1 (n0+1+1+1) 45 v:=H1.out.kept W1 (fun e=>by have:=Option.some.inj e;omega)
    have O1:=H2.out.kept W1 (.inr HvM.out)
    have K1:KO (SV (n0+1) (n0+1+1+1)) W w1:=sv_step (v:=v) (v':=v) W1.size (fun i hi h1 _ _=>W1.block i hi (fun e=>h1 (Option.some.inj e))) H1.out.cell B1.cell (.inl rfl)
    have D1:Below n0 w w1:=H6.out.grown W1 (by have:=H6.out.size;omega) (fun k e=>by have:=Option.some.inj e;omega)
    have F1:KeepsFrom (n0+5) W w1:=KeepsFrom.of_grownBy W1 (fun j e=>by have:=Option.some.inj e;omega)
    have M1:Boxed w1 (n0+1+1) 69 (.map (some (n0+1))):=H3.out.kept W1 (fun e=>by have:=Option.some.inj e;omega)
    have hst:varsV (pre.map Ne.t++[t'])=varsV (pre.map Ne.t):=by rw[varsV_snoc];unfold stepV;rw[if_neg (fun h=>hz0 h.2)]
    refine⟨F1,K1,?_⟩
    simp only[List.map_append,List.map_cons,List.map_nil,List.length_append,hst]
    exact⟨⟨v,B1,O1⟩,M1,⟨_,hM1.out⟩,H5.out.trans K1,D1⟩
  ·have hne:((t'.op:Int) != 1)=true:=by simpa using hop
   have hst:varsV (pre.map Ne.t++[t'])=varsV (pre.map Ne.t):=by rw[varsV_snoc];unfold stepV;rw[if_neg (fun h=>hop h.1)]
   have hct:∀ s,cntV (pre.map Ne.t++[t']) s=cntV (pre.map Ne.t) s:=fun s=>by rw[cntV_snoc,if_neg (fun h=>hop h.1),Nat.add_zero]
   have H1:=hid h1
   have H2:=hid h2
   have H3:=hid h3
   have H5:=hid h5
   have H6:=hid h6
   clear h1 h2 h3 h4 h5 h6
   gi_wp2
   refine⟨KeepsFrom.refl _ _,KO.refl _ _,?_⟩
   simp only[List.map_append,List.map_cons,List.map_nil,List.length_append,hst,hct]
   exact⟨⟨v,H1.out,H2.out⟩,H3.out,⟨c,Hm.out.mono (Nat.le_succ _)⟩,H5.out,H6.out⟩
 case done=>
  rintro D ys W hD hys ⟨⟨v,h1,h2,_⟩,h3,⟨c,h4⟩,h5,h6⟩ hK
  rw[hys] at h2
  have hDl:D < W.heap.size:=(Array.getElem?_eq_some_iff.1 hK).1
  have hm3:=h1.cell
  have hne:n0+1+1+1≠D:=by omega
  have Hd:=hid hK
  have H2:=hid h2
  have H6:=hid h6
  clear h1 h2 h3 h4 h5 h6 hK
  gi_wp2
  refine⟨by simp,.inl ⟨_,_,rfl,run_takeDeferred Hd.out,?_⟩⟩
  refine⟨_,results_tmp rfl _ _ _,v,rfl,?_,?_⟩
  ·rw[hn0]
   refine H2.out.kept (⟨rfl,rfl,rfl,by simp,fun i hi he=>World.putObj_heap_other (fun e=>he (by rw[e]))⟩:W.grownBy (W.putObj D (.deferred none)) (some D)) (.inr fun e=>?_)
   rcases H2.out.2 with ⟨rfl,_⟩ | ⟨g,cap,cur,rfl,_,hg,_⟩
   ·cases e
   ·obtain rfl:g=D:=by simpa[Value.ownBlock] using e
    have h:=Hd.out
    rw[hg] at h
    cases h
  ·rw[hn0]
   have D6:=H6.out
   exact⟨D6.os,D6.tape,D6.output,by simpa using D6.size,fun i hi=>(World.putObj_heap_other (by omega)).trans (D6.block i hi)⟩
 case stop=>exact fun _ _ _ _ _ _ h=>h.elim
end Go.Proofs.YtfmldnbcjbflbaaGreatDoor
namespace Go.Proofs.YtfmldnbcjbflbaaGreatDoor
open Lib(hid)
open Go.RowKit
theorem varsOf_c (r:Ru) (cs:List Value) (w:World) (hc:RuC w w.heap.size r cs) (hsm:∀ t ∈ termsR r,t.op=1→t.s.size≤281474976710656) (hlen:(termsR r).length≤1000000) :
  Calls Tryz.prog 57 #[.agg cs.toArray] w fun e w'=>∃ v,e=.returned v∧w'.ownsRow w.heap.size 9 1 v (varsV (termsR r)).length ((varsV (termsR r)).map Value.string)∧Below w.heap.size w w':=callsIn_wide.1 (varsOf_in r cs w hc hsm hlen)
end Go.Proofs.YtfmldnbcjbflbaaGreatDoor
namespace Go.Proofs.YtfmldnbcjbflbaaGreatDoor
open Lib(hid)
open Go.RowKit
theorem vars_size {r:Ru} (hS:∀ t ∈ termsR r,t.s.size≤1000000):∀ s ∈ varsV (termsR r),s.size≤maxLen:=fun s hs=>by
 obtain⟨t,h1,_,rfl⟩:=(mem_varsV _ _).1 hs
 exact max_le (hS t h1)
set_option maxRecDepth 100000 in
set_option maxHeartbeats 8000000 in
theorem vars_c (r:Ru) (cs:List Value) (e:Addr) (w:World) (hc:RuC w w.heap.size r cs) (hlen:(termsR r).length≤1000000) (hS:∀ t ∈ termsR r,t.s.size≤1000000) (E:TErr e w) :
  Calls Tryz.prog 81 #[.agg cs.toArray] w fun e w'=>∃ v,e=.returned v∧SlOf w' w'.heap.size 1 StrC (varsA r) v∧Below w.heap.size w w':=by
 obtain⟨o0,k0,o1,k1,rfl,_⟩:=hc.look
 have b1:∀ C:Obj,Below w.heap.size w (w.alloc C):=fun C=>(Below.refl _ _).alloc (Nat.le_refl _) _
 have B1:=hid b1
 have HR:=hid (fun C=>rightRule_c r e (w.alloc C) _ ((hc.below (b1 C)).more (b1 C).size) (E.below (b1 C)))
 have HC:=hid hc
 have HS:=hid hS
 have HLn:=hid hlen
 clear hc E hS hlen b1
 go_enter Tryz.func81,Tryz.ntmps81
 go_wp2_with fail
 refine (HR.out _).mono ?_
 rintro e3 w3 ⟨rfl,b3⟩
 have hz2:w.heap.size+1≤w3.heap.size:=by have:=b3.size;simpa using this
 have r3:w3.heap[w.heap.size]?=some (.cells #[.string r.head.rel,.slice o0 r.head.l.length k0,.slice o1 r.body.length k1,.int .i64 r.line] 37 (0,0)):=by
  rw[b3.block _ (by simp)]
  exact World.alloc_heap_new w _
 have B3:=hid ((B1.out _).trans (b3.mono (by simp)))
 clear b3
 cases hr:rightR r with
 | false=>
  have Hq:Hid (varsA r=[]):=hid (by unfold varsA;rw[hr];rfl)
  clear hr
  go_wp2
  go_ret
  exact⟨_,rfl,.inl ⟨rfl,Hq.out⟩,B3.out⟩
 | true=>
  have Hq:Hid (varsA r=varsV (termsR r)):=hid (by unfold varsA;rw[hr];rfl)
  clear hr
  have HV:=hid (varsOf_c r [.string r.head.rel,.slice o0 r.head.l.length k0,.slice o1 r.body.length k1,.int .i64 r.line] w3 ((HC.out.below B3.out).more B3.out.size) (fun t ht _=>Nat.le_trans (HS.out t ht) (by decide)) HLn.out)
  have x0:w3.cell? ⟨w.heap.size,0,none⟩=some (.string r.head.rel):=by unfold World.cell?;rw[r3];rfl
  have x1:w3.cell? ⟨w.heap.size,1,none⟩=some (.slice o0 r.head.l.length k0):=by unfold World.cell?;rw[r3];rfl
  have x2:w3.cell? ⟨w.heap.size,2,none⟩=some (.slice o1 r.body.length k1):=by unfold World.cell?;rw[r3];rfl
  have x3:w3.cell? ⟨w.heap.size,3,none⟩=some (.int .i64 r.line):=by unfold World.cell?;rw[r3];rfl
  have hl3:w.heap.size < w3.heap.size:=by omega
  clear r3
  go_wp2_with fail
  refine HV.out.mono ?_
  rintro e5 w5 ⟨vs,rfl,ho5,b5⟩
  have SV:=hid (sl_row (R:=StrC) ho5 (fun s hs=>⟨rfl,vars_size HS.out s hs⟩))
  have B5:=hid (B3.out.trans (b5.mono B3.out.size))
  clear x0 x1 x2 x3 HV ho5 b5
  go_wp2
  go_ret
  exact⟨_,rfl,by rw[Hq.out];exact SV.out,B5.out⟩
end Go.Proofs.YtfmldnbcjbflbaaGreatDoor
namespace Go.Proofs.YtfmldnbcjbflbaaGreatDoor
open Lib(hid)
open Go.RowKit
set_option maxRecDepth 100000 in
set_option maxHeartbeats 4000000 in
theorem sameTexts_c (l:List ByteArray) (v u:Value) (w:World) (h1:SlOf w w.heap.size 1 StrC l v) (h2:SlOf w w.heap.size 1 StrC l u) :
  Calls Tryz.prog 22 #[v,u] w fun e w'=>e=.returned (.bool true)∧Below w.heap.size w w':=by
 obtain⟨o1,k1,rfl,_,_,S1⟩:=SlOf.open h1
 obtain⟨o2,k2,rfl,_,_,S2⟩:=SlOf.open h2
 have HB0:Hid (Below w.heap.size w w):=hid (Below.refl _ _)
 clear h1 h2
 go_enter Tryz.func22,Tryz.ntmps22
 go_wp2
 go_loopw [5] (fun i wr=>∃ k:Nat,k≤l.length∧i=.int .i64 k∧Below w.heap.size w wr) (fun i _=>l.length - (intOf i).toNat)
 case atStart=>exact⟨0,Nat.zero_le _,rfl,HB0.out⟩
 case round=>
  obtain⟨k,hk,rfl,hB⟩:=hrel
  by_cases hlt:k < l.length
  ·have hlt':(k:Int) < (l.length:Int):=by omega
   obtain⟨x,hx⟩:∃ x,l[k]?=some x:=⟨l[k],List.getElem?_eq_getElem hlt⟩
   obtain⟨a,rfl,ha,_,c0⟩:=str_at S1 hB hx
   obtain⟨b,rfl,hb,_,d0⟩:=str_at S2 hB hx
   have g1:decide (0≤(k:Int))=true:=by simp
   have g2:decide ((k:Int) < (l.length:Int))=true:=by simpa using hlt
   clear hx
   go_wp2_with fail
   go_quiet (fail)
   go_wp2
   go_roundw
   case rel=>exact⟨k+1,by omega,by go_num,below_drewN hB⟩
   case measure=>simp[intOf];omega
  ·have hlt':¬ (k:Int) < (l.length:Int):=by omega
   go_wp2
   go_ret
   exact⟨rfl,hB⟩
end Go.Proofs.YtfmldnbcjbflbaaGreatDoor

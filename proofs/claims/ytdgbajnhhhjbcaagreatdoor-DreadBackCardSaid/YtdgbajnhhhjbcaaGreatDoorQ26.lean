/- Tsp@1, Tamb@1, Topen@1, Rm22@1 -/
import Derived.ChangeArms
import Derived.ChangeSame
import Derived.Deep.Slices
import Derived.Deep.Strs
import Derived.Test.YtdgbajnhhhjbcaaGreatDoorQ25
set_option linter.unusedSimpArgs false
set_option linter.unusedVariables false
namespace Go.Proofs.YtdgbajnhhhjbcaaGreatDoor
open Lib(hid)
open Go.RowKit
def sizeA (a:Am) (left:Int):Int:=if 1000 < a.rel.size then -1 else sizeTs a.l left
def sizeL1 (l:Lt) (left:Int):Int:=if sizeA l.a (left - 1) < 0 then sizeA l.a (left - 1) else if sizeT l.x (sizeA l.a (left - 1)) < 0 then sizeT l.x (sizeA l.a (left - 1)) else sizeT l.y (sizeT l.x (sizeA l.a (left - 1)))
def foldS {α:Type} (f:α→Int→Int):List α→Int→Int
 | [],left=>left
 | t::ts,left=>if left < 0 then left else foldS f ts (f t left)
def sizeR (r:Ru) (left:Int):Int:=foldS sizeL1 r.body (sizeA r.head (left - 1))
def longB' (l:List ByteArray):Bool:=l.any fun s=>decide (1000 < s.size)
def bigD (d:De):Bool:=decide (1000 < d.rel.size) || longB' d.names
def smallP (p:Pg):Bool:=!(p.decls.any bigD) && decide (0≤foldS sizeR p.rules 2000) && decide (p.decls.length≤100) && decide (p.rules.length≤300)
theorem sizeTs_fold:∀ (l:List Tm) (left:Int),sizeTs l left=foldS sizeT l left
 | [],_=>by simp[sizeTs,foldS]
 | t::ts,left=>by unfold sizeTs foldS;rw[sizeTs_fold ts]
theorem sizeT_eq (t:Tm) (left:Int):sizeT t left=if 1000 < t.s.size then -1 else foldS sizeT t.l (left - 1):=by
 cases t
 unfold sizeT
 rw[sizeTs_fold]
 rfl
theorem sizeT_mk (op:Int) (s:ByteArray) (n:Int) (l:List Tm) (left:Int):sizeT (.mk op s n l) left=if 1000 < s.size then -1 else foldS sizeT l (left - 1):=by
 unfold sizeT
 rw[sizeTs_fold]
theorem retI {k:IntKind} {a b:Int} (h:a=b):Ending.returned (.int k a)=.returned (.int k b):=by rw[h]
theorem foldS_neg {α:Type} (f:α→Int→Int) (l:List α) {left:Int} (h:left < 0):foldS f l left=left:=by
 cases l with
 | nil=>rfl
 | cons t ts=>unfold foldS;rw[if_pos h]
theorem foldS_drop {α:Type} {f:α→Int→Int} {l:List α} {k:Nat} {t:α} {left:Int} (ht:l[k]?=some t) (h:0≤left):foldS f (l.drop k) left=foldS f (l.drop (k+1)) (f t left):=by
 have h1:l.drop k=t::l.drop (k+1):=by rw[List.drop_eq_getElem_cons (List.getElem?_eq_some_iff.1 ht).1,(List.getElem?_eq_some_iff.1 ht).2]
 rw[h1]
 show (if left < 0 then left else _)=_
 rw[if_neg (by omega)]
theorem sizeT_lo (t:Tm):∀ left:Int,0≤left → -1≤sizeT t left∧sizeT t left≤left:=by
 induction t using Tm.rec (motive_2:=fun l=>∀ left:Int,-1≤left → -1≤foldS sizeT l left∧foldS sizeT l left≤left) with
 | mk op s n l ih=>
  intro left h
  rw[sizeT_eq]
  split
  ·omega
  ·have:=ih (left - 1) (by omega)
   simp only[Tm.l_mk]
   omega
 | nil left h=>exact⟨h,Int.le_refl _⟩
 | cons t ts ih ihs left h=>
  unfold foldS
  split
  ·exact⟨h,Int.le_refl _⟩
  ·have h1:=ih left (by omega)
   have h2:=ihs _ h1.1
   omega
theorem foldS_lo {α:Type} {f:α→Int→Int} (hf:∀ x left,0≤left → -1≤f x left∧f x left≤left):∀ (l:List α) (left:Int),-1≤left → -1≤foldS f l left∧foldS f l left≤left
 | [],left,h=>⟨h,Int.le_refl _⟩
 | t::ts,left,h=>by
  unfold foldS
  split
  ·exact⟨h,Int.le_refl _⟩
  ·have h1:=hf t left (by omega)
   have h2:=foldS_lo hf ts _ h1.1
   omega
theorem sizeA_lo (a:Am) (left:Int) (h:-1≤left):-1≤sizeA a left∧sizeA a left≤left:=by
 unfold sizeA
 split
 ·omega
 ·rw[sizeTs_fold];exact foldS_lo sizeT_lo _ _ h
theorem sizeL1_lo (l:Lt) (left:Int) (h:0≤left):-1≤sizeL1 l left∧sizeL1 l left≤left:=by
 have h1:=sizeA_lo l.a (left - 1) (by omega)
 unfold sizeL1
 split
 ·omega
 ·have h2:=sizeT_lo l.x (sizeA l.a (left - 1)) (by omega)
  split
  ·omega
  ·have h3:=sizeT_lo l.y (sizeT l.x (sizeA l.a (left - 1))) (by omega)
   omega
theorem sizeR_lo (r:Ru) (left:Int) (h:0≤left):-1≤sizeR r left∧sizeR r left≤left:=by
 have h1:=sizeA_lo r.head (left - 1) (by omega)
 have h2:=foldS_lo sizeL1_lo r.body _ h1.1
 unfold sizeR
 omega
end Go.Proofs.YtdgbajnhhhjbcaaGreatDoor
namespace Go.Proofs.YtdgbajnhhhjbcaaGreatDoor
open Lib(hid)
open Go.RowKit
theorem name_len {l:List UInt8} (h:nameB l=true):l.length≤40:=by
 unfold nameB at h
 simp only[Bool.and_eq_true,decide_eq_true_eq] at h
 exact h.1.2.1
def rulesT (l:List Ru):List UInt8:=l.flatMap fun r=>showR r++[10]
theorem rules_cons (r:Ru) (l:List Ru):rulesT (r::l)=showR r++10::rulesT l:=by simp[rulesT]
theorem rightD_parts {d:De} (h:rightD d=true):nameB d.rel.data.toList=true∧d.names≠[]∧d.names.length≤8∧d.types.length=d.names.length∧(∀ s ∈ d.names,nameB s.data.toList=true)∧∀ n ∈ d.types,n=1∨n=2:=by
 unfold rightD at h
 simp only[Bool.and_eq_true,decide_eq_true_eq,List.all_eq_true,rightTy,Bool.or_eq_true,beq_iff_eq] at h
 exact⟨h.1.1.1.1.1,by intro e;rw[e] at h;simp at h,h.1.1.1.2,h.1.1.2,h.1.2,h.2⟩
theorem rightP_parts {p:Pg} (h:rightP p=true):p.decls.length≤60∧p.rules.length≤200∧(∀ d ∈ p.decls,rightD d=true)∧∀ r ∈ p.rules,rightR r=true:=by
 unfold rightP at h
 simp only[Bool.and_eq_true,decide_eq_true_eq,List.all_eq_true] at h
 exact⟨h.1.1.1,h.1.1.2,h.1.2,h.2⟩
theorem showP_eq (p:Pg):showP p=p.decls.flatMap showD++rulesT p.rules:=rfl
end Go.Proofs.YtdgbajnhhhjbcaaGreatDoor
namespace Go.Proofs.YtdgbajnhhhjbcaaGreatDoor
open Lib(hid)
open Go.RowKit Go.ChangeShapes Go.WideShapes Go.Deep
theorem parts2 {H:Type} {enc:TypeId × Value→H} {P:Program} {w:World} {base:Nat} {spare:Nat→Bool} {held:Bool} {t:TypeId} {f0 f1:Field} {fuel:Nat} {cs:List Value} {x:DataW H × List MemPlace} (ht:P.underlying t=some (.struct #[f0,f1])) (h:DataW.trod enc P w base spare held fuel t cs=some x) :
  ∃ (y0 y1:DataW H × List MemPlace) (n:Nat),fuel=n+1∧cs.length=P.cellsOf t∧DataW.trod enc P w base spare held n f0.type ((cs.drop f0.offset).take (P.cellsOf f0.type))=some y0∧DataW.trod enc P w base spare held n f1.type ((cs.drop f1.offset).take (P.cellsOf f1.type))=some y1:=by
 obtain⟨xs,n,hn,rfl,hl,hlen,hf⟩:=DataW.trod_struct ht h
 match xs,hlen with
 | [y0,y1],_=>exact⟨y0,y1,n,hn,hl,by simpa using hf 0 f0 rfl,by simpa using hf 1 f1 rfl⟩
theorem parts3 {H:Type} {enc:TypeId × Value→H} {P:Program} {w:World} {base:Nat} {spare:Nat→Bool} {held:Bool} {t:TypeId} {f0 f1 f2:Field} {fuel:Nat} {cs:List Value} {x:DataW H × List MemPlace} (ht:P.underlying t=some (.struct #[f0,f1,f2])) (h:DataW.trod enc P w base spare held fuel t cs=some x) :
  ∃ (y0 y1 y2:DataW H × List MemPlace) (n:Nat),fuel=n+1∧cs.length=P.cellsOf t∧DataW.trod enc P w base spare held n f0.type ((cs.drop f0.offset).take (P.cellsOf f0.type))=some y0∧DataW.trod enc P w base spare held n f1.type ((cs.drop f1.offset).take (P.cellsOf f1.type))=some y1∧DataW.trod enc P w base spare held n f2.type ((cs.drop f2.offset).take (P.cellsOf f2.type))=some y2:=by
 obtain⟨xs,n,hn,rfl,hl,hlen,hf⟩:=DataW.trod_struct ht h
 match xs,hlen with
 | [y0,y1,y2],_=>exact⟨y0,y1,y2,n,hn,hl,by simpa using hf 0 f0 rfl,by simpa using hf 1 f1 rfl,by simpa using hf 2 f2 rfl⟩
theorem parts4 {H:Type} {enc:TypeId × Value→H} {P:Program} {w:World} {base:Nat} {spare:Nat→Bool} {held:Bool} {t:TypeId} {f0 f1 f2 f3:Field} {fuel:Nat} {cs:List Value} {x:DataW H × List MemPlace} (ht:P.underlying t=some (.struct #[f0,f1,f2,f3])) (h:DataW.trod enc P w base spare held fuel t cs=some x) :
  ∃ (y0 y1 y2 y3:DataW H × List MemPlace) (n:Nat),fuel=n+1∧cs.length=P.cellsOf t∧DataW.trod enc P w base spare held n f0.type ((cs.drop f0.offset).take (P.cellsOf f0.type))=some y0∧DataW.trod enc P w base spare held n f1.type ((cs.drop f1.offset).take (P.cellsOf f1.type))=some y1∧DataW.trod enc P w base spare held n f2.type ((cs.drop f2.offset).take (P.cellsOf f2.type))=some y2∧DataW.trod enc P w base spare held n f3.type ((cs.drop f3.offset).take (P.cellsOf f3.type))=some y3:=by
 obtain⟨xs,n,hn,rfl,hl,hlen,hf⟩:=DataW.trod_struct ht h
 match xs,hlen with
 | [y0,y1,y2,y3],_=>exact⟨y0,y1,y2,y3,n,hn,hl,by simpa using hf 0 f0 rfl,by simpa using hf 1 f1 rfl,by simpa using hf 2 f2 rfl,by simpa using hf 3 f3 rfl⟩
theorem parts6 {H:Type} {enc:TypeId × Value→H} {P:Program} {w:World} {base:Nat} {spare:Nat→Bool} {held:Bool} {t:TypeId} {f0 f1 f2 f3 f4 f5:Field} {fuel:Nat} {cs:List Value} {x:DataW H × List MemPlace} (ht:P.underlying t=some (.struct #[f0,f1,f2,f3,f4,f5])) (h:DataW.trod enc P w base spare held fuel t cs=some x) :
  ∃ (y0 y1 y2 y3 y4 y5:DataW H × List MemPlace) (n:Nat),fuel=n+1∧cs.length=P.cellsOf t∧DataW.trod enc P w base spare held n f0.type ((cs.drop f0.offset).take (P.cellsOf f0.type))=some y0∧DataW.trod enc P w base spare held n f1.type ((cs.drop f1.offset).take (P.cellsOf f1.type))=some y1∧DataW.trod enc P w base spare held n f2.type ((cs.drop f2.offset).take (P.cellsOf f2.type))=some y2∧DataW.trod enc P w base spare held n f3.type ((cs.drop f3.offset).take (P.cellsOf f3.type))=some y3∧DataW.trod enc P w base spare held n f4.type ((cs.drop f4.offset).take (P.cellsOf f4.type))=some y4∧DataW.trod enc P w base spare held n f5.type ((cs.drop f5.offset).take (P.cellsOf f5.type))=some y5:=by
 obtain⟨xs,n,hn,rfl,hl,hlen,hf⟩:=DataW.trod_struct ht h
 match xs,hlen with
 | [y0,y1,y2,y3,y4,y5],_=>exact⟨y0,y1,y2,y3,y4,y5,n,hn,hl,by simpa using hf 0 f0 rfl,by simpa using hf 1 f1 rfl,by simpa using hf 2 f2 rfl,by simpa using hf 3 f3 rfl,by simpa using hf 4 f4 rfl,by simpa using hf 5 f5 rfl⟩
section
variable {H:Type} {enc:TypeId × Value→H} {w:World}
theorem cell_block {a:Addr} {v:Value} (h:w.cell? a=some v):a.block < w.heap.size:=by
 unfold World.cell? at h
 rcases Nat.lt_or_ge a.block w.heap.size with h' | h'
 ·exact h'
 ·simp[Array.getElem?_eq_none h'] at h
theorem open_sl {α:Type} {R:α→List Value→Prop} {z fuel:Nat} {t e:TypeId} {v:Value} {x:DataW H × List MemPlace} (ht:Tryz.prog.underlying t=some (.slice e)) (hz:Tryz.prog.cellsOf e=z) (hp:0 < z)
  (hE:∀ n cs y,n < fuel→DataW.trod enc Tryz.prog w 0 (fun _=>true) true n e cs=some y→∃ b,R b cs)
  (h:DataW.trod enc Tryz.prog w 0 (fun _=>true) true fuel t [v]=some x):∃ l:List α,SlOf w w.heap.size z R l v:=by
 rcases DataW.trod_slice ht h with ⟨hcs,_⟩ | ⟨a,len,cap,elems,rest,n,rfl,hcs,_,_,hl,hm,hlen,hel,_,_⟩
 ·exact⟨[],.inl ⟨(List.cons.inj hcs).1,rfl⟩⟩
 ·rw[hz] at hel
  have each:∀ i,i < len→∃ b cs,cs.length=z∧R b cs∧CellsAt w a (i * z) cs:=by
   intro i hi
   have h1:=hel i hi
   rw[List.getElem?_eq_getElem (by omega),Option.bind_eq_some_iff] at h1
   obtain⟨cs,hc,htr⟩:=h1
   obtain⟨b,hb⟩:=hE n cs _ (by omega) htr
   obtain⟨_,hcl,hat⟩:=World.cells?_some hc
   refine⟨b,cs,hcl,hb,fun j c hj=>?_⟩
   have hjz:j < z:=by rw[← hcl];exact (List.getElem?_eq_some_iff.1 hj).1
   have:=hat j hjz
   rw[add_add] at this
   exact this.trans hj
  by_cases h0:len=0
  ·subst h0
   exact⟨[],.inr ⟨a,cap,(List.cons.inj hcs).1,hl,hm,fun h=>absurd rfl h,fun i x hx=>by simp at hx⟩⟩
  let f:(i:Nat)→i < len→α:=fun i h=>(each i h).choose
  have hf:∀ i (h:i < len),∃ cs,cs.length=z∧R (f i h) cs∧CellsAt w a (i * z) cs:=fun i h=>(each i h).choose_spec
  have hblk:a.block < w.heap.size:=by
   obtain⟨cs,hcl,_,hc⟩:=hf 0 (by omega)
   have:=cell_block (hc 0 cs[0] (List.getElem?_eq_getElem (by omega)))
   rwa [addBlock] at this
  refine⟨(List.finRange len).map fun i=>f i.1 i.2,.inr ⟨a,cap,by rw[(List.cons.inj hcs).1];simp,by simpa using hl,hm,fun _=>hblk,fun i y hy=>?_⟩⟩
  rw[List.getElem?_map,Option.map_eq_some_iff] at hy
  obtain⟨j,hj,rfl⟩:=hy
  obtain⟨hi,e⟩:=List.getElem?_eq_some_iff.1 hj
  simp only[List.getElem_finRange] at e
  subst e
  exact hf i (by simpa using hi)
theorem cTerm:Tryz.prog.cellsOf 64=4:=by kernel_rfl
theorem cAtom:Tryz.prog.cellsOf 38=2:=by kernel_rfl
theorem cLit:Tryz.prog.cellsOf 66=11:=by kernel_rfl
theorem cRule:Tryz.prog.cellsOf 41=4:=by kernel_rfl
theorem cDecl:Tryz.prog.cellsOf 34=6:=by kernel_rfl
theorem cProg:Tryz.prog.cellsOf 25=2:=by kernel_rfl
theorem cInt:Tryz.prog.cellsOf 3=1:=by kernel_rfl
theorem cInt64:Tryz.prog.cellsOf 2=1:=by kernel_rfl
theorem cStr:Tryz.prog.cellsOf 9=1:=by kernel_rfl
theorem cBool:Tryz.prog.cellsOf 4=1:=by kernel_rfl
theorem cTerms:Tryz.prog.cellsOf 36=1:=by kernel_rfl
theorem cLits:Tryz.prog.cellsOf 39=1:=by kernel_rfl
theorem cRules:Tryz.prog.cellsOf 23=1:=by kernel_rfl
theorem cDecls:Tryz.prog.cellsOf 22=1:=by kernel_rfl
theorem cStrs:Tryz.prog.cellsOf 31=1:=by kernel_rfl
theorem cInts:Tryz.prog.cellsOf 32=1:=by kernel_rfl
theorem wf_i64 {n:Int} (h:(Lit.int .i64 n).wf=true):I64 n:=by
 simp only[Lit.wf,Bool.and_eq_true,decide_eq_true_eq] at h
 exact h
set_option maxRecDepth 100000 in
theorem open_term:∀ (fuel:Nat) (cs:List Value) (x:DataW H × List MemPlace),DataW.trod enc Tryz.prog w 0 (fun _=>true) true fuel 64 cs=some x→∃ t,TmC w w.heap.size t cs:=by
 intro fuel
 induction fuel using Nat.strongRecOn with
 | _ fuel ih=>
  intro cs x h
  obtain⟨y0,y1,y2,y3,n,rfl,hcl,h0,h1,h2,h3⟩:=parts4 Tryz.underlying64 h
  rw[cTerm] at hcl
  match cs,hcl with
  | [c0,c1,c2,c3],_=>
   simp only[cInt,cInt64,cStr,cTerms,List.drop_zero,List.drop_succ_cons,List.take_succ_cons,List.take_zero] at h0 h1 h2 h3
   obtain⟨k0,e0,_,w0⟩:=DataW.trod_int Tryz.underlying3 h0
   obtain⟨s1,e1,_,z1⟩:=DataW.trod_string Tryz.underlying9 h1
   obtain⟨k2,e2,_,w2⟩:=DataW.trod_int Tryz.underlying2 h2
   simp only[List.cons.injEq,and_true] at e0 e1 e2
   subst e0 e1 e2
   obtain⟨l,hl⟩:=open_sl Tryz.underlying36 cTerm (by omega) (fun m cs y hm hy=>ih m (by omega) cs y hy) h3
   exact⟨.mk k0 s1 k2 l,TmC.of (wf_i64 w0) z1 (wf_i64 w2) hl⟩
set_option maxRecDepth 100000 in
theorem open_atom (fuel:Nat) (cs:List Value) (x:DataW H × List MemPlace) (h:DataW.trod enc Tryz.prog w 0 (fun _=>true) true fuel 38 cs=some x):∃ t,AmC w w.heap.size t cs:=by
 obtain⟨y0,y1,n,rfl,hcl,h0,h1⟩:=parts2 Tryz.underlying38 h
 rw[cAtom] at hcl
 match cs,hcl with
 | [c0,c1],_=>
  simp only[cStr,cTerms,List.drop_zero,List.drop_succ_cons,List.take_succ_cons,List.take_zero] at h0 h1
  obtain⟨s0,e0,_,z0⟩:=DataW.trod_string Tryz.underlying9 h0
  simp only[List.cons.injEq,and_true] at e0
  subst e0
  obtain⟨l,hl⟩:=open_sl Tryz.underlying36 cTerm (by omega) (fun m cs y hm hy=>open_term m cs y hy) h1
  exact⟨⟨s0,l⟩,_,rfl,z0,hl⟩
set_option maxRecDepth 100000 in
theorem open_lit (fuel:Nat) (cs:List Value) (x:DataW H × List MemPlace) (h:DataW.trod enc Tryz.prog w 0 (fun _=>true) true fuel 66 cs=some x):∃ t,LtC w w.heap.size t cs:=by
 obtain⟨y0,y1,y2,y3,n,rfl,hcl,h0,h1,h2,h3⟩:=parts4 Tryz.underlying66 h
 rw[cLit] at hcl
 match cs,hcl with
 | [c0,c1,c2,c3,c4,c5,c6,c7,c8,c9,c10],_=>
  simp only[cInt,cAtom,cTerm,List.drop_zero,List.drop_succ_cons,List.take_succ_cons,List.take_zero] at h0 h1 h2 h3
  obtain⟨k0,e0,_,w0⟩:=DataW.trod_int Tryz.underlying3 h0
  simp only[List.cons.injEq,and_true] at e0
  subst e0
  obtain⟨a,ha⟩:=open_atom _ _ _ h1
  obtain⟨x,hx⟩:=open_term _ _ _ h2
  obtain⟨y,hy⟩:=open_term _ _ _ h3
  exact⟨⟨k0,a,x,y⟩,_,_,_,rfl,wf_i64 w0,ha,hx,hy⟩
set_option maxRecDepth 100000 in
theorem open_rule (fuel:Nat) (cs:List Value) (x:DataW H × List MemPlace) (h:DataW.trod enc Tryz.prog w 0 (fun _=>true) true fuel 41 cs=some x):∃ t,RuC w w.heap.size t cs:=by
 obtain⟨y0,y1,y2,n,rfl,hcl,h0,h1,h2⟩:=parts3 Tryz.underlying41 h
 rw[cRule] at hcl
 match cs,hcl with
 | [c0,c1,c2,c3],_=>
  simp only[cInt,cAtom,cLits,List.drop_zero,List.drop_succ_cons,List.take_succ_cons,List.take_zero] at h0 h1 h2
  obtain⟨k2,e2,_,w2⟩:=DataW.trod_int Tryz.underlying3 h2
  simp only[List.cons.injEq,and_true] at e2
  subst e2
  obtain⟨a,ha⟩:=open_atom _ _ _ h0
  obtain⟨l,hl⟩:=open_sl Tryz.underlying39 cLit (by omega) (fun m cs y hm hy=>open_lit m cs y hy) h1
  exact⟨⟨a,l,k2⟩,_,_,rfl,wf_i64 w2,ha,hl⟩
set_option maxRecDepth 100000 in
theorem open_decl (fuel:Nat) (cs:List Value) (x:DataW H × List MemPlace) (h:DataW.trod enc Tryz.prog w 0 (fun _=>true) true fuel 34 cs=some x):∃ t,DeC w w.heap.size t cs:=by
 obtain⟨y0,y1,y2,y3,y4,y5,n,rfl,hcl,h0,h1,h2,h3,h4,h5⟩:=parts6 Tryz.underlying34 h
 rw[cDecl] at hcl
 match cs,hcl with
 | [c0,c1,c2,c3,c4,c5],_=>
  simp only[cInt,cStr,cStrs,cInts,cBool,List.drop_zero,List.drop_succ_cons,List.take_succ_cons,List.take_zero] at h0 h1 h2 h3 h4 h5
  obtain⟨s0,e0,_,z0⟩:=DataW.trod_string Tryz.underlying9 h0
  obtain⟨b3,e3,_⟩:=DataW.trod_bool Tryz.underlying4 h3
  obtain⟨b4,e4,_⟩:=DataW.trod_bool Tryz.underlying4 h4
  obtain⟨k5,e5,_,w5⟩:=DataW.trod_int Tryz.underlying3 h5
  simp only[List.cons.injEq,and_true] at e0 e3 e4 e5
  subst e0 e3 e4 e5
  obtain⟨l,hl⟩:=open_sl (R:=StrC) Tryz.underlying31 cStr (by omega) (fun m cs y hm hy=>by obtain⟨s,e,_,z⟩:=DataW.trod_string Tryz.underlying9 hy;exact⟨s,e,z⟩) h1
  obtain⟨m,hm⟩:=open_sl (R:=IntC) Tryz.underlying32 cInt (by omega) (fun m cs y hm hy=>by obtain⟨s,e,_,z⟩:=DataW.trod_int Tryz.underlying3 hy;exact⟨s,e,wf_i64 z⟩) h2
  exact⟨⟨s0,l,m,b3,b4,k5⟩,_,_,rfl,z0,wf_i64 w5,hl,hm⟩
set_option maxRecDepth 100000 in
theorem open_prog (fuel:Nat) (cs:List Value) (x:DataW H × List MemPlace) (h:DataW.trod enc Tryz.prog w 0 (fun _=>true) true fuel 25 cs=some x):∃ t,PgC w w.heap.size t cs:=by
 obtain⟨y0,y1,n,rfl,hcl,h0,h1⟩:=parts2 Tryz.underlying25 h
 rw[cProg] at hcl
 match cs,hcl with
 | [c0,c1],_=>
  simp only[cDecls,cRules,List.drop_zero,List.drop_succ_cons,List.take_succ_cons,List.take_zero] at h0 h1
  obtain⟨l,hl⟩:=open_sl Tryz.underlying22 cDecl (by omega) (fun m cs y hm hy=>open_decl m cs y hy) h0
  obtain⟨m,hm⟩:=open_sl Tryz.underlying23 cRule (by omega) (fun m cs y hm hy=>open_rule m cs y hy) h1
  exact⟨⟨l,m⟩,_,_,rfl,hl,hm⟩
end
end Go.Proofs.YtdgbajnhhhjbcaaGreatDoor
namespace Go.Proofs.YtdgbajnhhhjbcaaGreatDoor
open Lib(hid)
open Go.RowKit
mutual
def leastB:Tm→Bool
 | .mk o _ n l=>leastBs l || ((o == 2) && (n == -9223372036854775808))
def leastBs:List Tm→Bool
 | []=>false
 | t::l=>leastB t || leastBs l
end
theorem leastB_mk (o:Int) (s:ByteArray) (n:Int) (l:List Tm):leastB (.mk o s n l)=(leastBs l || ((o == 2) && (n == -9223372036854775808))):=by unfold leastB;rfl
theorem leastBs_drop {l:List Tm} {k:Nat} {t:Tm} (h:l[k]?=some t):leastBs (l.drop k)=(leastB t || leastBs (l.drop (k+1))):=by
 rw[List.drop_eq_getElem_cons (List.getElem?_eq_some_iff.1 h).1,(List.getElem?_eq_some_iff.1 h).2,leastBs]
def leastA (a:Am):Bool:=leastBs a.l
def LeastAt (t:Tm):Prop:=∀ (w:World) (cs:List Value),TmC w w.heap.size t cs →
  Calls Tryz.prog 24 #[.agg cs.toArray] w fun e w'=>e=.returned (.bool (leastB t))∧Below w.heap.size w w'
set_option maxRecDepth 100000 in
set_option maxHeartbeats 4000000 in
theorem least_c (t:Tm):LeastAt t:=by
 induction t using Tm.rec (motive_2:=fun l=>∀ t ∈ l,LeastAt t) with
 | nil x hx=>simp at hx
 | cons t ts ih ihs x hx=>
  rcases List.mem_cons.1 hx with rfl | hx
  ·exact ih
  ·exact ihs x hx
 | mk op s n l ih=>
  intro w cs hc
  obtain⟨p1,q1,rfl,_,hz,_,t1⟩:=hc.look
  have Hs:=hid (leastB_mk op s n l)
  simp only[Tm.op_mk,Tm.s_mk,Tm.n_mk,Tm.l_mk] at Hs t1 hz ⊢
  obtain⟨o1,cap1,e1,hc1,hm1,S1⟩:=SlOf.open t1
  cases e1
  have IH:=hid ih
  clear hc t1 ih
  have HB0:Hid (∀ (x:Obj),Below w.heap.size w (w.alloc x)):=hid fun x=>(Below.refl _ _).alloc (Nat.le_refl _) _
  go_enter Tryz.func24,Tryz.ntmps24
  go_wp2
  go_loopw [3] (fun i wr=>∃ k:Nat,k≤l.length∧i=.int .i64 (k:Int)∧leastBs l=leastBs (l.drop k)∧Below (w.heap.size+1) (w.alloc (.cells #[.int .i64 op,.string s,.int .i64 n,.slice p1 l.length q1] 64)) wr) (fun i _=>l.length - (intOf i).toNat)
  case atStart=>exact⟨0,Nat.zero_le _,rfl,rfl,Below.refl _ _⟩
  case round=>
   obtain⟨k,hk,rfl,hr,hB2⟩:=hrel
   have hB:Below w.heap.size w wr:=(HB0.out _).trans (hB2.mono (by omega))
   have Hr:=hid hr
   clear hr
   have hBs:=hB2.size
   simp only[World.size_alloc] at hBs
   have hz0:w.heap.size < wr.heap.size:=by omega
   have x0:wr.cell? ⟨w.heap.size,0,none⟩=some (.int .i64 op):=(hB2.cell (p:=⟨w.heap.size,0,none⟩) (by show w.heap.size < _;omega)).trans (by go_simp)
   have x2:wr.cell? ⟨w.heap.size,2,none⟩=some (.int .i64 n):=(hB2.cell (p:=⟨w.heap.size,2,none⟩) (by show w.heap.size < _;omega)).trans (by go_simp)
   have x3:wr.cell? ⟨w.heap.size,3,none⟩=some (.slice p1 l.length q1):=(hB2.cell (p:=⟨w.heap.size,3,none⟩) (by show w.heap.size < _;omega)).trans (by go_simp)
   by_cases hlt:k < l.length
   ·have hlt':(k:Int) < (l.length:Int):=by omega
    obtain⟨xe,ht⟩:∃ xe,l[k]?=some xe:=⟨l[k],List.getElem?_eq_getElem hlt⟩
    obtain⟨a,p3,q3,rfl,ha,Hc,c0,c1,c2,c3⟩:=tm_at S1 hB ht
    have hal:(a.add (k * 4)).block < wr.heap.size:=by rw[addBlock];omega
    have Hst:=hid (Hr.out.trans (leastBs_drop ht))
    have Hm:=hid (List.mem_of_getElem? ht)
    clear ht
    go_wp2_with fail
    refine (IH.out xe Hm.out _ [_,_,_,_] Hc.out).mono ?_
    rintro e w1 ⟨rfl,b1⟩
    have hB3:=hB2.trans (b1.mono (by omega))
    have hB4:=hB.trans (b1.mono (by omega))
    cases hq:leastB xe with
    | true=>
     have Hz:=hid (show leastB (.mk op s n l)=true by rw[Hs.out,Hst.out,hq];rfl)
     clear hq
     go_wp2
     go_ret
     exact⟨by rw[Hz.out];rfl,hB4⟩
    | false=>
     have Hst2:=hid (show leastBs l=leastBs (l.drop (k+1)) by rw[Hst.out,hq];rfl)
     clear hq
     go_wp2
     go_roundw
     case rel=>exact⟨k+1,hlt,by go_num,Hst2.out,hB3⟩
     case measure=>simp[intOf];omega
   ·have hlt':¬ (k:Int) < (l.length:Int):=by omega
    have Hz:Hid (leastB (.mk op s n l)=((op == 2) && (n == -9223372036854775808))):=hid (by rw[Hs.out,Hr.out,List.drop_of_length_le (by omega)];rfl)
    cases ho:(op == 2) with
    | true=>
     have Hz2:=hid (show leastB (.mk op s n l)=(n == -9223372036854775808) by rw[Hz.out,ho];rfl)
     go_wp2
     go_ret
     exact⟨by rw[Hz2.out];rfl,hB⟩
    | false=>
     have Hz2:=hid (show leastB (.mk op s n l)=false by rw[Hz.out,ho];rfl)
     go_wp2
     go_ret
     exact⟨by rw[Hz2.out];rfl,hB⟩
set_option maxRecDepth 100000 in
set_option maxHeartbeats 4000000 in
theorem leastIn_c (t:Am) (w:World) (cs:List Value) (hc:AmC w w.heap.size t cs) :
  Calls Tryz.prog 23 #[.agg cs.toArray] w fun e w'=>e=.returned (.bool (leastA t))∧Below w.heap.size w w':=by
 obtain⟨p1,q1,rfl,hz,t1⟩:=hc.look
 obtain⟨o1,cap1,e1,hc1,hm1,S1⟩:=SlOf.open t1
 cases e1
 clear hc t1
 have HB0:Hid (∀ (x:Obj),Below w.heap.size w (w.alloc x)):=hid fun x=>(Below.refl _ _).alloc (Nat.le_refl _) _
 have Hs:Hid (leastA t=leastBs t.l):=hid rfl
 go_enter Tryz.func23,Tryz.ntmps23
 go_wp2
 go_loopw [3] (fun i wr=>∃ k:Nat,k≤t.l.length∧i=.int .i64 (k:Int)∧leastBs t.l=leastBs (t.l.drop k)∧Below (w.heap.size+1) (w.alloc (.cells #[.string t.rel,.slice p1 t.l.length q1] 38)) wr) (fun i _=>t.l.length - (intOf i).toNat)
 case atStart=>exact⟨0,Nat.zero_le _,rfl,rfl,Below.refl _ _⟩
 case round=>
  obtain⟨k,hk,rfl,hr,hB2⟩:=hrel
  have hB:Below w.heap.size w wr:=(HB0.out _).trans (hB2.mono (by omega))
  have Hr:=hid hr
  clear hr
  have hBs:=hB2.size
  simp only[World.size_alloc] at hBs
  have hz0:w.heap.size < wr.heap.size:=by omega
  have x1:wr.cell? ⟨w.heap.size,1,none⟩=some (.slice p1 t.l.length q1):=(hB2.cell (p:=⟨w.heap.size,1,none⟩) (by show w.heap.size < _;omega)).trans (by go_simp)
  by_cases hlt:k < t.l.length
  ·have hlt':(k:Int) < (t.l.length:Int):=by omega
   obtain⟨xe,ht⟩:∃ xe,t.l[k]?=some xe:=⟨t.l[k],List.getElem?_eq_getElem hlt⟩
   obtain⟨a,p3,q3,rfl,ha,Hc,c0,c1,c2,c3⟩:=tm_at S1 hB ht
   have hal:(a.add (k * 4)).block < wr.heap.size:=by rw[addBlock];omega
   have Hst:=hid (Hr.out.trans (leastBs_drop ht))
   clear ht
   go_wp2_with fail
   refine (least_c xe _ [_,_,_,_] Hc.out).mono ?_
   rintro e w1 ⟨rfl,b1⟩
   have hB3:=hB2.trans (b1.mono (by omega))
   have hB4:=hB.trans (b1.mono (by omega))
   cases hq:leastB xe with
   | true=>
    have Hz:=hid (show leastA t=true by rw[Hs.out,Hst.out,hq];rfl)
    clear hq
    go_wp2
    go_ret
    exact⟨by rw[Hz.out];rfl,hB4⟩
   | false=>
    have Hst2:=hid (show leastBs t.l=leastBs (t.l.drop (k+1)) by rw[Hst.out,hq];rfl)
    clear hq
    go_wp2
    go_roundw
    case rel=>exact⟨k+1,hlt,by go_num,Hst2.out,hB3⟩
    case measure=>simp[intOf];omega
  ·have hlt':¬ (k:Int) < (t.l.length:Int):=by omega
   have Hz:Hid (leastA t=false):=hid (by rw[Hs.out,Hr.out,List.drop_of_length_le (by omega)];rfl)
   go_wp2
   go_ret
   exact⟨by rw[Hz.out];rfl,hB⟩
end Go.Proofs.YtdgbajnhhhjbcaaGreatDoor

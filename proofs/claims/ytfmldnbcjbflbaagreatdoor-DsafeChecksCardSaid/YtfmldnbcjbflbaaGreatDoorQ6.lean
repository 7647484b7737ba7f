/- Yvis@012, Yeach@012, Ty@012, Ylearn@012, Ylearn2@012, Tterms@012, Yap@012, Yap2@012, Tsame2@012 -/
import Derived.RangeFuncBox
import Derived.RangeFuncFrom
import Derived.RangeFuncNested
import Derived.Shelf.LaysM
import Derived.Shelf.Strconv.Clone
import Derived.Test.YtfmldnbcjbflbaaGreatDoorProg
import Derived.Test.YtfmldnbcjbflbaaGreatDoorQ3
import Derived.Test.YtfmldnbcjbflbaaGreatDoorQ4
set_option linter.unusedSimpArgs false
set_option linter.unusedVariables false
namespace Go.Proofs.YtfmldnbcjbflbaaGreatDoor
open Lib(hid)
open Go.RowKit Go.Shelf
attribute [local go_sem] Oper.semAt_some
structure KO (S:World→Nat→Prop) (W W':World):Prop where
 size:W.heap.size≤W'.heap.size
 same:∀ i o,W.heap[i]?=some o→o.isCells=true→¬ S W i→W'.heap[i]?=some o
 own:∀ i,S W' i→S W i∨W.heap.size≤i
 wf:(∀ i,S W i→i < W.heap.size)→∀ i,S W' i→i < W'.heap.size
theorem KO.refl (S:World→Nat→Prop) (W:World):KO S W W:=⟨Nat.le_refl _,fun _ _ h _ _=>h,fun _ h=>.inl h,fun h=>h⟩
def SGrow (S:World→Nat→Prop):Prop:=∀ W W',(∀ i,S W i→i < W.heap.size)→Below W.heap.size W W'→∀ i,S W' i→S W i
theorem KO.of_below {S:World→Nat→Prop} (hG:SGrow S) {W W':World} (hw:∀ i,S W i→i < W.heap.size) (hb:Below W.heap.size W W'):KO S W W':=
 ⟨hb.size,fun i _ ho _ _=>(hb.block i (Array.getElem?_eq_some_iff.1 ho).1).trans ho,fun i h=>.inl (hG W W' hw hb i h),fun h i hi=>Nat.lt_of_lt_of_le (h i (hG W W' hw hb i hi)) hb.size⟩
def Safe (S:World→Nat→Prop) (w0 W:World):Prop:=∀ p c,w0.cell? p=some c→W.cell? p=some c∧p.block < W.heap.size∧¬ S W p.block
theorem KO.trans {S:World→Nat→Prop} {A B C:World} (h:KO S A B) (k:KO S B C):KO S A C:=
 ⟨Nat.le_trans h.size k.size,fun i o ho hc hs=>k.same i o (h.same i o ho hc hs) hc (fun hb=>(h.own i hb).elim hs (fun h=>by have:=(Array.getElem?_eq_some_iff.1 ho).1;omega)),
  fun i hc=>(k.own i hc).elim (fun hb=>h.own i hb) (fun hb=>.inr (Nat.le_trans h.size hb)),fun hw=>k.wf (h.wf hw)⟩
theorem KO.cell {S:World→Nat→Prop} {W W':World} (k:KO S W W') {p:Addr} {c:Value} (hp:W.cell? p=some c) (hs:¬ S W p.block):W'.cell? p=some c:=by
 obtain⟨o,ho,hc⟩:=cells_of_cell hp
 exact (World.cell?_of_block ((k.same _ o ho hc hs).trans ho.symm)).trans hp
def SPut (S:World→Nat→Prop):Prop:=∀ (W:World) (l:Nat) (o o':Obj),W.heap[l]?=some o→o.isCells=false→∀ i,S (W.putObj l o') i→S W i
theorem KO.put {S:World→Nat→Prop} (hP:SPut S) (W:World) (l:Nat) (o o':Obj) (ho:W.heap[l]?=some o) (hc:o.isCells=false):KO S W (W.putObj l o'):=by
 have hsz:(W.putObj l o').heap.size=W.heap.size:=by simp
 refine⟨by rw[hsz];exact Nat.le_refl _,fun i x hi hx _=>?_,fun i h=>.inl (hP W l o o' ho hc i h),fun h i hi=>by rw[hsz];exact h i (hP W l o o' ho hc i hi)⟩
 have hne:i≠l:=by rintro rfl;rw[ho] at hi;cases hi;rw[hc] at hx;cases hx
 exact (World.putObj_heap_other hne).trans hi
theorem Safe.ko {S:World→Nat→Prop} {w0 W W':World} (h:Safe S w0 W) (k:KO S W W'):Safe S w0 W':=fun p c hc=>by
 obtain⟨h1,h2,h3⟩:=h p c hc
 exact⟨k.cell h1 h3,Nat.lt_of_lt_of_le h2 k.size,fun hs=>(k.own _ hs).elim h3 (fun h=>by omega)⟩
mutual
def subT:Tm→List Tm
 | .mk o s n l=>.mk o s n l::subTs l
def subTs:List Tm→List Tm
 | []=>[]
 | t::ts=>subT t++subTs ts
end
theorem subT_eq (t:Tm):subT t=t::subTs t.l:=by cases t;unfold subT;rfl
theorem subTs_app (a b:List Tm):subTs (a++b)=subTs a++subTs b:=by
 induction a with
 | nil=>simp[subTs]
 | cons x a ih=>simp[subTs,ih]
theorem subTs_take {l:List Tm} {k:Nat} {t:Tm} (h:l[k]?=some t):subTs (l.take (k+1))=subTs (l.take k)++(t::subTs t.l):=by
 rw[List.take_succ_eq_append_getElem (List.getElem?_eq_some_iff.1 h).1,subTs_app,(List.getElem?_eq_some_iff.1 h).2]
 simp[subTs,subT_eq]
structure Ne (w:World) (B:Nat) (G:Tm→Prop) where
 t:Tm
 cs:List Value
 ok:TmC w B t cs
 good:G t
def Ne.enc {w:World} {B:Nat} {G:Tm→Prop} (x:Ne w B G):Array Value:=#[.agg x.cs.toArray]
section
variable {w0:World} {n₀:Nat} {G:Tm→Prop}
def SlAt (S:World→Nat→Prop) (w0:World) (n₀:Nat) (W:World) (l:List Tm) (o:Option Addr):Prop:=
 ∀ (i:Nat) (x:Tm),l[i]?=some x→∃ (a:Addr) (cs:List Value),o=some a∧TmC w0 n₀ x cs∧CellsAt W a (i * 4) cs∧¬ S W a.block
def SlSafe (S:World→Nat→Prop) (w0:World) (n₀:Nat) (W:World) (l:List Tm) (v:Value):Prop:=∃ (o:Option Addr) (cap:Nat),v=.slice o l.length cap∧l.length≤cap∧cap≤9223372036854775807∧SlAt S w0 n₀ W l o
theorem ne_at {S:World→Nat→Prop} {l:List Tm} {o:Option Addr} {k:Nat} {t:Tm} {W wr:World} (h:Hid (SlAt S w0 n₀ W l o)) (hk:KO S W wr) (ht:l[k]?=some t) :
  ∃ a o' cap',o=some a∧(a.add (k * 4)).block < wr.heap.size∧Hid (TmC w0 n₀ t [.int .i64 t.op,.string t.s,.int .i64 t.n,.slice o' t.l.length cap']) ∧
   wr.cell? (a.add (k * 4))=some (.int .i64 t.op)∧wr.cell? ⟨(a.add (k * 4)).block,(a.add (k * 4)).off+1,none⟩=some (.string t.s)∧wr.cell? ⟨(a.add (k * 4)).block,(a.add (k * 4)).off+2,none⟩=some (.int .i64 t.n)∧wr.cell? ⟨(a.add (k * 4)).block,(a.add (k * 4)).off+3,none⟩=some (.slice o' t.l.length cap'):=by
 obtain⟨a,cs,rfl,h1,h2,h3⟩:=h.out k t ht
 obtain⟨o',cap',rfl,_⟩:=h1.look
 have hc:CellsAt wr a (k * 4) [.int .i64 t.op,.string t.s,.int .i64 t.n,.slice o' t.l.length cap']:=fun j c hj=>hk.cell (h2 j c hj) (by rw[addBlock];exact h3)
 have hb:=World.block_lt_of_cell? _ _ (hc 0 _ rfl)
 rw[addBlock] at hb
 exact⟨a,o',cap',rfl,by rw[addBlock];exact hb,hid h1,hc.four⟩
theorem slSafe_of {S:World→Nat→Prop} {W:World} {l:List Tm} {v:Value} (h:TmS w0 n₀ l v) (hs:Safe S w0 W):SlSafe S w0 n₀ W l v:=by
 obtain⟨o,cap,rfl,h2,h3,h4⟩:=SlOf.open h
 refine⟨o,cap,rfl,h2,h3,fun i x hx=>?_⟩
 obtain⟨a,cs,rfl,_,hl,g1,g2⟩:=h4.out i x hx
 obtain⟨o',cap',rfl,_⟩:=g1.look
 refine⟨a,_,rfl,g1,fun j c hj=>(hs _ _ (g2 j c hj)).1,?_⟩
 have:=(hs _ _ (g2 0 _ rfl)).2.2
 rw[addBlock] at this
 exact this
theorem tmc_sl {w:World} {B:Nat} {u:Tm} {x:Value} (h:TmC w B u [.int .i64 u.op,.string u.s,.int .i64 u.n,x]):TmS w B u.l x:=by
 obtain⟨v',e,_,_,_,h'⟩:=h.parts
 simp only[List.cons.injEq,true_and,and_true] at e
 subst e
 exact h'
end
end Go.Proofs.YtfmldnbcjbflbaaGreatDoor
namespace Go.Proofs.YtfmldnbcjbflbaaGreatDoor
open Lib(hid)
open Go.RowKit Go.Shelf
attribute [local go_sem] Oper.semAt_some
def litTs (l:Lt):List Tm:=subTs [l.x,l.y]++subTs l.a.l
def termsR (r:Ru):List Tm:=subTs r.head.l++r.body.flatMap litTs
theorem termsR_take {l:List Lt} {k:Nat} {t:Lt} (h:l[k]?=some t):(l.take (k+1)).flatMap litTs=(l.take k).flatMap litTs++litTs t:=by
 rw[List.take_succ_eq_append_getElem (List.getElem?_eq_some_iff.1 h).1,(List.getElem?_eq_some_iff.1 h).2]
 simp
theorem termsR_pre (l:List Lt) (k:Nat):(l.take k).flatMap litTs <+: l.flatMap litTs:=
 ⟨(l.drop k).flatMap litTs,by rw[← List.flatMap_append,List.take_append_drop]⟩
end Go.Proofs.YtfmldnbcjbflbaaGreatDoor
namespace Go.Proofs.YtfmldnbcjbflbaaGreatDoor
open Lib(hid)
def nm (t:Tm):List UInt8:=t.s.data.toList
abbrev Kn:=List (List UInt8 × Int)
def look:Kn→List UInt8→Int
 | [],_=>0
 | (s,k)::K,n=>if s=n then k else look K n
def tyC (t:Tm):Int:=if t.op=2∨t.op=5∨t.op=6∨t.op=7 then 1 else if t.op=3 then 2 else 0
def ofK (K:Kn) (t:Tm):Int:=if t.op=1 then look K (nm t) else tyC t
inductive Der (base:List (Tm × Int)) (prs:List (Tm × Tm)):List UInt8→Int→Prop
 | base {t:Tm} {k:Int}:(t,k) ∈ base→t.op=1→Der base prs (nm t) k
 | lc {x y:Tm} {k:Int}:(x,y) ∈ prs→x.op=1→y.op≠1→tyC y=k→k≠0→Der base prs (nm x) k
 | lv {x y:Tm} {k:Int}:(x,y) ∈ prs→x.op=1→y.op=1→Der base prs (nm y) k→Der base prs (nm x) k
 | rc {x y:Tm} {k:Int}:(x,y) ∈ prs→y.op=1→x.op≠1→tyC x=k→k≠0→Der base prs (nm y) k
 | rv {x y:Tm} {k:Int}:(x,y) ∈ prs→y.op=1→x.op=1→Der base prs (nm x) k→Der base prs (nm y) k
structure NoConf (base:List (Tm × Int)) (prs:List (Tm × Tm)):Prop where
 one:∀ s k k',Der base prs s k→Der base prs s k'→k=k'
 con:∀ t k,(t,k) ∈ base→t.op≠1→tyC t=0∨tyC t=k
 two:∀ x y,(x,y) ∈ prs→x.op≠1→y.op≠1→tyC x=0∨tyC y=0∨tyC x=tyC y
theorem Der.sub {b b':List (Tm × Int)} {p p':List (Tm × Tm)} (hb:∀ x ∈ b,x ∈ b') (hp:∀ x ∈ p,x ∈ p') {s:List UInt8} {k:Int} (h:Der b p s k):Der b' p' s k:=by
 induction h with
 | base h1 h2=>exact .base (hb _ h1) h2
 | lc h1 h2 h3 h4 h5=>exact .lc (hp _ h1) h2 h3 h4 h5
 | lv h1 h2 h3 _ ih=>exact .lv (hp _ h1) h2 h3 ih
 | rc h1 h2 h3 h4 h5=>exact .rc (hp _ h1) h2 h3 h4 h5
 | rv h1 h2 h3 _ ih=>exact .rv (hp _ h1) h2 h3 ih
theorem NoConf.sub {b b':List (Tm × Int)} {p p':List (Tm × Tm)} (hb:∀ x ∈ b,x ∈ b') (hp:∀ x ∈ p,x ∈ p') (h:NoConf b' p'):NoConf b p:=
 ⟨fun s k k' h1 h2=>h.one s k k' (h1.sub hb hp) (h2.sub hb hp),fun t k h1 h2=>h.con t k (hb _ h1) h2,fun x y h1 h2 h3=>h.two x y (hp _ h1) h2 h3⟩
def Sound (base:List (Tm × Int)) (prs:List (Tm × Tm)) (K:Kn):Prop:=∀ s,look K s≠0→Der base prs s (look K s)
structure KnOk (K:Kn):Prop where
 pos:∀ x ∈ K,x.2≠0
 nod:(K.map (·.1)).Nodup
theorem look_mem {K:Kn} (h:KnOk K) {s:List UInt8}:look K s≠0 ↔ s ∈ K.map (·.1):=by
 have hp:=h.pos
 clear h
 induction K with
 | nil=>simp[look]
 | cons x K ih=>
  obtain⟨a,b⟩:=x
  have hb:b≠0:=hp (a,b) (List.mem_cons_self ..)
  have ih:=ih (fun x hx=>hp x (List.mem_cons_of_mem _ hx))
  by_cases e:a=s
  ·subst e;simp[look,hb]
  ·have:look ((a,b)::K) s=look K s:=by simp[look,e]
   rw[this]
   refine ih.trans ?_
   simp[Ne.symm e]
theorem KnOk.snoc {K:Kn} (h:KnOk K) {s:List UInt8} {k:Int} (hs:look K s=0) (hk:k≠0):KnOk (K++[(s,k)]):=by
 refine⟨fun x hx=>?_,?_⟩
 ·rcases List.mem_append.1 hx with hx | hx
  ·exact h.pos x hx
  ·simp at hx;subst hx;exact hk
 ·have hn:s ∉ K.map (·.1):=fun hm=>(look_mem h).2 hm hs
  rw[List.map_append]
  refine List.nodup_append.2 ⟨h.nod,by simp,?_⟩
  rintro a ha b hb rfl
  simp at hb
  subst hb
  exact hn ha
def KLe (K K':Kn):Prop:=∀ s,look K s≠0→look K' s=look K s
theorem KLe.refl (K:Kn):KLe K K:=fun _ _=>rfl
theorem KLe.trans {A B C:Kn} (h:KLe A B) (k:KLe B C):KLe A C:=fun s hs=>(k s (by rw[h s hs];exact hs)).trans (h s hs)
theorem KLe.of {K K':Kn} (h:KLe K K') {t:Tm} (ht:ofK K t≠0):ofK K' t=ofK K t:=by
 unfold ofK at ht ⊢
 by_cases h1:t.op=1
 ·rw[if_pos h1] at ht ⊢;rw[if_pos h1];exact h _ ht
 ·rw[if_neg h1,if_neg h1]
structure Step (base:List (Tm × Int)) (prs:List (Tm × Tm)) (K K':Kn):Prop where
 ok:KnOk K'
 le:KLe K K'
 snd:Sound base prs K'
 len:K.length≤K'.length
 same:K'.length=K.length→K'=K
theorem Step.trans {b:List (Tm × Int)} {p:List (Tm × Tm)} {A B C:Kn} (h:Step b p A B) (k:Step b p B C):Step b p A C:=
 ⟨k.ok,h.le.trans k.le,k.snd,Nat.le_trans h.len k.len,fun e=>by
  have h1:=h.len
  have h2:=k.len
  have e1:=k.same (by omega)
  subst e1
  exact h.same (by omega)⟩
def HasT (b:List (Tm × Int)) (p:List (Tm × Tm)) (t:Tm) (k:Int):Prop:=k≠0∧((t.op=1∧Der b p (nm t) k)∨(t.op≠1∧tyC t=k))
theorem Sound.has {b:List (Tm × Int)} {p:List (Tm × Tm)} {K:Kn} (h:Sound b p K) {t:Tm} (ht:ofK K t≠0):HasT b p t (ofK K t):=by
 refine⟨ht,?_⟩
 unfold ofK at ht ⊢
 by_cases h1:t.op=1
 ·rw[if_pos h1] at ht ⊢;exact .inl ⟨h1,h _ ht⟩
 ·rw[if_neg h1];exact .inr ⟨h1,rfl⟩
end Go.Proofs.YtfmldnbcjbflbaaGreatDoor
namespace Go.Proofs.YtfmldnbcjbflbaaGreatDoor
open Lib(hid)
open Go.RowKit
def errV (a:Addr):Value:=.iface 191 (.pointer (some a))
structure YEnv (n:Nat) (a b c d:Addr) (w:World):Prop where
 ty:w.cell? ⟨4,0,none⟩=some (errV a)
 tw:w.cell? ⟨1,0,none⟩=some (errV b)
 no:w.cell? ⟨2,0,none⟩=some (errV c)
 ar:w.cell? ⟨3,0,none⟩=some (errV d)
 big:4 < n∧1 < n∧2 < n∧3 < n
theorem YEnv.below {n:Nat} {a b c d:Addr} {w w':World} (h:YEnv n a b c d w) (k:Below n w w'):YEnv n a b c d w':=by
 have hb:=h.big
 have e:∀ g v,g < n→w.cell? ⟨g,0,none⟩=some v→w'.cell? ⟨g,0,none⟩=some v:=fun g v hg h=>(k.cell (by show g < n;exact hg)).trans h
 exact⟨e _ _ hb.1 h.ty,e _ _ hb.2.1 h.tw,e _ _ hb.2.2.1 h.no,e _ _ hb.2.2.2 h.ar,hb⟩
theorem gB {W W':World} (h:Below W.heap.size W W') (row:Option Nat):W.grownBy W' row:=⟨h.os,h.tape,h.output,h.size,fun k hk _=>h.block k hk⟩
structure KnM (V:List (List UInt8)) (W:World) (B:Nat) (K:Kn):Prop where
 map:MapI Tryz.prog W 9 3 B K.length (look K) K.length
 ok:KnOk K
 sub:∀ x ∈ K,x.1 ∈ V
 ty:∀ x ∈ K,x.2=1∨x.2=2
theorem KnM.same {V:List (List UInt8)} {W W':World} {B:Nat} {K:Kn} (h:KnM V W B K) (hb:W'.heap[B]?=W.heap[B]?):KnM V W' B K:=
 ⟨by
  obtain⟨D,⟨es,clock,h1,h2⟩,h3⟩:=h.map
  exact⟨D,⟨es,clock,hb.trans h1,h2⟩,h3⟩,h.ok,h.sub,h.ty⟩
theorem KnM.lt {V:List (List UInt8)} {W:World} {B:Nat} {K:Kn} (h:KnM V W B K):B < W.heap.size:=h.map.lt
theorem KnM.below {V:List (List UInt8)} {W W':World} {B n:Nat} {K:Kn} (h:KnM V W B K) (hb:Below n W W') (hn:B < n):KnM V W' B K:=h.same (hb.block B hn)
inductive LearnR (V:List (List UInt8)) (W:World) (B:Nat) (a:Addr):Option Kn→Ending→World→Prop
 | bad {W':World}:W.grownBy W' (some B)→LearnR V W B a none (.returned (errV a)) W'
 | good {K':Kn} {W':World}:KnM V W' B K'→W.grownBy W' (some B)→LearnR V W B a (some K') (.returned .nilIface) W'
theorem nodup_sub:∀ {l m:List (List UInt8)},l.Nodup→(∀ x ∈ l,x ∈ m)→l.length≤m.length
 | [],_,_,_=>Nat.zero_le _
 | x::l,m,hn,hs=>by
  have hx:=hs x (List.mem_cons_self ..)
  have hn':=List.nodup_cons.1 hn
  have:=nodup_sub (m:=m.erase x) hn'.2 (fun y hy=>(List.mem_erase_of_ne (by rintro rfl;exact hn'.1 hy)).2 (hs y (List.mem_cons_of_mem _ hy)))
  rw[List.length_erase_of_mem hx] at this
  have:=List.length_pos_of_mem hx
  simp only[List.length_cons]
  omega
theorem KnM.len {V:List (List UInt8)} {W:World} {B:Nat} {K:Kn} (h:KnM V W B K):K.length≤V.length:=by
 have:=nodup_sub h.ok.nod (m:=V) (fun x hx=>by
  obtain⟨y,hy,rfl⟩:=List.mem_map.1 hx
  exact h.sub y hy)
 rwa [List.length_map] at this
end Go.Proofs.YtfmldnbcjbflbaaGreatDoor
namespace Go.Proofs.YtfmldnbcjbflbaaGreatDoor
open Lib(hid)
open Go.RowKit
theorem KnM.kc {V:List (List UInt8)} {W W':World} {B:Nat} {K:Kn} (h:KnM V W B K) (hg:W.grownBy W' (some B)):KC W W':=by
 refine⟨hg.size,fun i o hi ho=>(hg.block i (Array.getElem?_eq_some_iff.1 hi).1 (fun e=>?_)).trans hi⟩
 cases e
 obtain⟨D,⟨es,clock,h1,_⟩,_⟩:=h.map
 rw[h1] at hi
 cases hi
 cases ho
theorem gBelow {n B:Nat} {W W':World} (hg:W.grownBy W' (some B)) (hB:n≤B) (hW:n≤W.heap.size):Below n W W':=
 ⟨hg.os,hg.tape,hg.output,hg.size,fun i hi=>hg.block i (by omega) (fun e=>by have:=Option.some.inj e;omega)⟩
def nums (l:List Tm):List (Tm × Int):=l.map fun t=>(t,1)
theorem LearnR.ret {V:List (List UInt8)} {W W':World} {B:Nat} {a:Addr} {r:Option Kn} {e:Ending} (h:LearnR V W B a r e W'):∃ v,e=.returned v∧LearnR V W B a r (.returned v) W':=by
 cases h with
 | bad h=>exact⟨_,rfl,.bad h⟩
 | good h k=>exact⟨_,rfl,.good h k⟩
def duoB (t:Lt):Bool:=t.op == 3 || t.op == 4 || t.op == 5 || t.op == 6
end Go.Proofs.YtfmldnbcjbflbaaGreatDoor
namespace Go.Proofs.YtfmldnbcjbflbaaGreatDoor
open Lib(hid)
open Go.RowKit Go.Shelf
attribute [local go_sem] Oper.semAt_some
theorem scopeWide {n:Nat} {P:Program} {c:Code} {Q:Exit→Act→World→Prop} {a:Act} {w:World} (h:c.wpIn Fence.wide n P (Exit.noGoto Q) a w):(Code.scope c).wpIn Fence.wide n P Q a w:=
 wpIn_wide.2 (wp_scope_straight (wpIn_wide.1 h))
structure TErr (a:Addr) (w:World):Prop where
 err:w.cell? ⟨0,0,none⟩=some (.iface 191 (.pointer (some a)))
 size:0 < w.heap.size
theorem TErr.kc {a:Addr} {w w':World} (h:TErr a w) (k:KC w w'):TErr a w':=⟨k.cell h.err,Nat.lt_of_lt_of_le h.size k.size⟩
theorem TErr.below {a:Addr} {w w':World} (h:TErr a w) (k:Below w.heap.size w w'):TErr a w':=h.kc (KC.of_below k)
def okV (a:Addr) (b:Bool):Value:=if b=true then .nilIface else .iface 191 (.pointer (some a))
def mark (D:Nat):Deferred:={ target:=.collected D,args:=#[] }
def Marks (n0:Nat) (W:World):List Nat→Prop
 | []=>True
 | D::Ds=>(W.heap[D]?=some (.deferred (some []))∧n0≤D∧∀ E ∈ Ds,E≠D)∧Marks n0 W Ds
theorem Marks.kept {n0:Nat} {W W':World}:∀ {Ds:List Nat},(∀ D ∈ Ds,W.heap[D]?=some (Obj.deferred (some []))→W'.heap[D]?=some (Obj.deferred (some [])))→Marks n0 W Ds→Marks n0 W' Ds
 | [],_,_=>trivial
 | D::_,h,⟨⟨h1,h2,h3⟩,h4⟩=>⟨⟨h D (by simp) h1,h2,h3⟩,Marks.kept (fun E hE=>h E (by simp[hE])) h4⟩
theorem Marks.below {n0:Nat} {W W':World} {Ds:List Nat} (h:Marks n0 W Ds) (hb:Below W.heap.size W W'):Marks n0 W' Ds:=Marks.kept (fun D _ h=>(hb.block D (Array.getElem?_eq_some_iff.1 h).1).trans h) h
theorem Marks.others {n0:Nat} {W W':World} {Ds:List Nat} (h:Marks n0 W Ds) (hb:KeepsOthers W W'):Marks n0 W' Ds:=Marks.kept (fun D _ h=>hb.same D _ h rfl) h
theorem Marks.grown {n0 B:Nat} {W W':World} {row:Option Nat} {Ds:List Nat} (h:Marks n0 W Ds) (hl:∀ D ∈ Ds,D < B) (hg:W.grownBy W' row) (hr:∀ r,row=some r→B≤r):Marks n0 W' Ds:=by
 obtain⟨_,_,_,_,hblk⟩:=hg
 refine Marks.kept (fun D hD h=>(hblk D (Array.getElem?_eq_some_iff.1 h).1 (fun e=>?_)).trans h) h
 have h1:=hl D hD
 have h2:=hr D e.symm
 omega
theorem kcGrown {W W':World} {row:Option Nat} (hg:W.grownBy W' row) (hr:∀ r,row=some r→∃ o:Obj,W.heap[r]?=some o∧o.isCells=false):KC W W':=by
 obtain⟨_,_,_,hsz,hblk⟩:=hg
 refine⟨hsz,fun i o hi ho=>(hblk i (Array.getElem?_eq_some_iff.1 hi).1 (fun e=>?_)).trans hi⟩
 obtain⟨o',h1,h2⟩:=hr i e.symm
 rw[hi] at h1
 cases h1
 rw[ho] at h2
 cases h2
theorem newCells (W:World) (cs:List Value) (T:TypeId):CellsAt (W.alloc (.cells cs.toArray T)) ⟨W.heap.size,0,none⟩ 0 cs:=by
 intro j c hj
 have hn:(W.alloc (.cells cs.toArray T)).heap[W.heap.size]?=some (.cells cs.toArray T (0,0)):=World.alloc_heap_new W _
 have hadd:(⟨W.heap.size,0,none⟩:Addr).add (0+j)=⟨W.heap.size,j,none⟩:=by unfold Addr.add;split <;> simp_all
 rw[hadd]
 unfold World.cell?
 simp only[hn]
 simpa using hj
theorem Marks.lt {n0:Nat} {W:World}:∀ {Ds:List Nat},Marks n0 W Ds→∀ D ∈ Ds,D < W.heap.size
 | _::_,⟨⟨h1,_,_⟩,h4⟩,D,hD=>by
  rcases List.mem_cons.1 hD with rfl | hD
  ·exact (Array.getElem?_eq_some_iff.1 h1).1
  ·exact Marks.lt h4 D hD
theorem Marks.weak {n0 n1:Nat} {W:World} (h:n1≤n0):∀ {Ds:List Nat},Marks n0 W Ds→Marks n1 W Ds
 | [],_=>trivial
 | _::_,⟨⟨h1,h2,h3⟩,h4⟩=>⟨⟨h1,Nat.le_trans h h2,h3⟩,Marks.weak h h4⟩
theorem leaves_marks {F:Fence} {n:Nat} {P:Program} {fn:Func} {tmps:Array Value} {v:Value} (hres:∀ W:World,(results fn tmps).run P W=.ok v W) {n0:Nat} {w:World}:∀ (Ds:List Nat) (W:World),Marks n0 W Ds→Below n0 w W →
  LeavesInM F n P fn tmps (fun e W'=>e=.returned v∧Below n0 w W') (Ds.map mark) .returning W
 | [],W,_,hB=>⟨v,hres W,rfl,hB⟩
 | D::Ds,W,⟨⟨h1,h2,h3⟩,h4⟩,hB=>by
  refine⟨by simp,.inl ⟨D,W.putObj D (.deferred none),rfl,run_takeDeferred h1,leaves_marks hres Ds _ ?_ ?_⟩⟩
  ·have key:∀ (Es:List Nat),(∀ E ∈ Es,E≠D)→Marks n0 W Es→Marks n0 (W.putObj D (.deferred none)) Es:=by
    intro Es
    induction Es with
    | nil=>intro _ _;trivial
    | cons E Es ih=>
     intro hne hm
     obtain⟨⟨m1,m2,m3⟩,m4⟩:=hm
     exact⟨⟨(World.putObj_heap_other (fun e=>hne E (by simp) e)).trans m1,m2,m3⟩,ih (fun x hx=>hne x (by simp[hx])) m4⟩
   exact key Ds h3 h4
  ·exact hB.grown (grownBy_putObj' W D _) (by have:=(Array.getElem?_eq_some_iff.1 h1).1;have:=hB.size;omega) (fun k e=>by cases e;exact h2)
set_option maxRecDepth 100000 in
set_option maxHeartbeats 8000000 in
theorem checkTerms_in (l:List Tm) (v:Value) (a:Addr) (w:World) (hl:TmS w w.heap.size l v) (E:TErr a w) :
  CallsIn Fence.wide 6 Tryz.prog 141 #[v] w fun e w'=>e=.returned (okV a (l.all (rightT 20)))∧Below w.heap.size w w':=by
 obtain⟨o1,cap1,rfl,hc1,hm1,S1⟩:=SlOf.open hl
 have HE:=hid E
 clear hl E
 refine callsIn_of_wp_marks Tryz.func141 rfl trivial ?_ rfl
 simp only[Tryz.ntmps141,List.size_toArray,List.length_cons,List.length_nil,Nat.reduceAdd,Nat.reduceSub,Array.replicate_succ,Array.replicate_zero,List.push_toArray,List.append_toArray,List.nil_append,List.cons_append]
 gi_wp2_with fail
 refine scopeWide ?_
 gi_wp2_with fail
 refine wpIn_label ?_
 gi_wp2_with fail
 refine wpIn_loop (fun a' wr=>∃ (k:Nat) (Ds:List Nat) (u5 u11 u12 u13 u14 u15 u26:Value),a'={ tmps:=#[.slice o1 l.length cap1,undef,.nilIface,.pointer (some ⟨w.heap.size,0,none⟩),undef,u5,undef,undef,.slice o1 l.length cap1,.int .i64 l.length,.int .i64 k,u11,u12,u13,u14,u15,undef,undef,undef,undef,undef,undef,undef,undef,undef,undef,u26,undef],defers:=Ds.map mark } ∧
   k≤l.length∧(l.take k).all (rightT 20)=true∧Boxed wr w.heap.size 62 .nilIface∧Marks (w.heap.size+1) wr Ds∧Below w.heap.size w wr) (fun a' _=>l.length - (intOf (a'.tmps.getD 10 undef)).toNat) ?start ?round
 case start=>exact⟨0,[],_,_,_,_,_,_,_,rfl,Nat.zero_le _,rfl,Boxed.new w _ _,trivial,(Below.refl _ _).alloc (Nat.le_refl _) _⟩
 case round=>
  rintro a' wr ⟨k,Ds,u5,u11,u12,u13,u14,u15,u26,rfl,hk,hr,hw,hM,hB⟩
  have hBs:=hB.size
  by_cases hlt:k < l.length
  ·have hlt':(k:Int) < (l.length:Int):=by omega
   obtain⟨t,ht⟩:∃ t,l[k]?=some t:=⟨l[k],List.getElem?_eq_getElem hlt⟩
   obtain⟨b,p2,q2,rfl,hb,Hc,c0,c1,c2,c3⟩:=tm_at S1 hB ht
   have hbl:(b.add (k * 4)).block < wr.heap.size:=by rw[addBlock];omega
   obtain⟨WV,hWV⟩:∃ WV,wr.alloc (.cells #[.int .i64 t.op,.string t.s,.int .i64 t.n,.slice p2 t.l.length q2] 51)=WV:=⟨_,rfl⟩
   have hV1:Below wr.heap.size wr WV:=by rw[← hWV];exact (Below.refl _ _).alloc (Nat.le_refl _) _
   have hVs:WV.heap.size=wr.heap.size+1:=by rw[← hWV];simp
   have hTV:=(Hc.out.under hV1)
   have HE1:=hid (eachTerm_in 5 t _ WV (hTV.more (by omega)))
   obtain⟨WL,hWL⟩:∃ WL,WV.alloc (.cells #[.int .i64 t.op,.string t.s,.int .i64 t.n,.slice p2 t.l.length q2] 51)=WL:=⟨_,rfl⟩
   have hL1:Below wr.heap.size wr WL:=by rw[← hWL];exact hV1.alloc (by omega) _
   have hLs:WL.heap.size=wr.heap.size+2:=by rw[← hWL];simp[hVs]
   have hTL:=Hc.out.under hL1
   have hbox:CellsAt WL ⟨wr.heap.size+1,0,none⟩ 0 [.int .i64 t.op,.string t.s,.int .i64 t.n,.slice p2 t.l.length q2]:=by
    have:=newCells WV [.int .i64 t.op,.string t.s,.int .i64 t.n,.slice p2 t.l.length q2] 51
    rw[hWL,hVs] at this
    exact this
   have hwL:Boxed WL w.heap.size 62 .nilIface:=(hL1.block _ hw.lt).trans hw
   have hML:Marks (w.heap.size+1) WL Ds:=hM.below hL1
   have hMl:∀ D ∈ Ds,D < WL.heap.size:=fun D hD=>by have:=Marks.lt hM D hD;omega
   have HMl:=hid hMl
   clear hMl
   have hBL:Below w.heap.size w WL:=hB.trans (hL1.mono hBs)
   have Ht:=hid ht
   have Hr:=hid hr
   have HWV:=hid hWV
   have HWL:=hid hWL
   have HVs:=hid hVs
   have HLs:=hid hLs
   clear ht hr hTV hWV hWL hVs hLs hV1 hL1
   gi_wp2_with fail
   refine⟨trivial,?_⟩
   rw[HWV.out]
   refine HE1.out.mono ?_
   rintro e W2 ⟨rfl,rfl⟩
   rw[HVs.out,HWL.out]
   gi_wp2_with fail
   refine wpIn_rangeFunc_ownH rfl (by omega) (gf:=153) (lb:=#[.pointer (some ⟨wr.heap.size+1,0,none⟩)]) rfl trivial (enters_of Tryz.func153 (by kernel_rfl) rfl)
    (eachTerm_stops 5 (wr.heap.size+1) wr.heap.size t _ WL hbox hTL) (fun h k=>h.trans k) ?hKb (Below.refl _ _) (fun _=>rfl)
    (fun pre W=>(Boxed W w.heap.size 62 .nilIface∧(∀ x ∈ pre,goodN x.pair=true)∧Marks (w.heap.size+1) W Ds∧KC WL W)∧Below w.heap.size w W)
    (fun cd pre W=>(cd=.exit 0∧Boxed W w.heap.size 62 (okV a false)∧(∃ x ∈ pre,goodN x.pair=false)∧Marks (w.heap.size+1) W Ds)∧Below w.heap.size w W)
    ?hI ?hIx ⟨⟨hwL,by simp,hML,KC.refl _⟩,hBL⟩
    (fun x a' W=>∃ Bx,CellsAt W ⟨Bx,0,none⟩ 0 x.cs∧a'={ tmps:=#[.slice (some b) l.length cap1,undef,.nilIface,.pointer (some ⟨w.heap.size,0,none⟩),undef,.pointer (some ⟨wr.heap.size,0,none⟩),.int .i64 x.lv,.pointer (some ⟨Bx,0,none⟩),.slice (some b) l.length cap1,.int .i64 l.length,.int .i64 k,.bool true,.pointer (some (b.add (k * 4))),.agg #[.int .i64 t.op,.string t.s,.int .i64 t.n,.slice p2 t.l.length q2],.agg #[.int .i64 t.op,.string t.s,.int .i64 t.n,.slice p2 t.l.length q2],.func (.func 153) #[] #[.pointer (some ⟨wr.heap.size+1,0,none⟩)],.int .i64 x.lv,.agg x.cs.toArray,undef,undef,undef,undef,undef,undef,undef,undef,u26,undef],defers:=[] })
    ?hAx ?assign ?body ?done ?stop
   case hKb=>exact fun W l o o' _ ho hc _=>KC.put W l o o' ho hc
   case hI=>
    rintro pre A B row ⟨⟨h1,h2,h3,h4⟩,h5⟩ hg hr
    exact⟨⟨boxed_own w.heap.size 62 (fun (_:Unit)=>.nilIface) () A B row h1 hg (fun r e=>(hr r e).2),h2,h3.grown HMl.out hg (fun r e=>(hr r e).1),h4.trans (kcGrown hg (fun r e=>(hr r e).2))⟩,ownFrom_below (β:=Unit) (Nat.le_refl _) (by have:=HLs.out;omega) () A B row h5 hg hr⟩
   case hIx=>
    rintro cd pre A B row ⟨⟨h1,h2,h3,h4⟩,h5⟩ hg hr
    exact⟨⟨h1,boxed_own w.heap.size 62 (fun (_:Unit)=>okV a false) () A B row h2 hg (fun r e=>(hr r e).2),h3,h4.grown HMl.out hg (fun r e=>(hr r e).1)⟩,ownFrom_below (β:=Unit) (Nat.le_refl _) (by have:=HLs.out;omega) () A B row h5 hg hr⟩
   case hAx=>
    rintro x a' _ A B row ⟨Bx,h1,h2⟩ hg hr
    exact⟨Bx,h1.kc (kcGrown hg (fun r e=>(hr r e).2)),h2⟩
   case assign=>
    rintro lp pre ⟨lv,t',cs',ok'⟩ W K ⟨⟨h1,h2,h3,h4⟩,h5⟩ hK
    obtain⟨o',k',rfl,_⟩:=ok'.look
    have hb1:=(Below.refl W.heap.size W).alloc (Nat.le_refl _) (.cells #[.int .i64 t'.op,.string t'.s,.int .i64 t'.n,.slice o' t'.l.length k'] 51)
    have HK:=hid (hK _ _ ((KeepsOthers.alloc W _).from _) (KC.of_below hb1) ⟨⟨h1.alloc _,h2,h3.below hb1,h4.trans (KC.of_below hb1)⟩,h5.trans (hb1.mono h5.size)⟩ ⟨W.heap.size,newCells W _ _,rfl⟩)
    clear hK h1 h2 h3 h4 h5
    simp only[Nd.enc]
    gi_wp2
    exact HK.out
   case body=>
    rintro lp pre ⟨lv,t',cs',ok'⟩ a' W hlp hrec ⟨⟨h1,h2,h3,h4⟩,h5⟩ ⟨Bx,hcx,rfl⟩ hlen
    have hTm:=(ok'.kc h4).more (B':=W.heap.size) (by have:=h4.size;have:=HLs.out;omega)
    have Hsh:=hid (tshape_c t' W cs' hTm)
    obtain⟨o',k',rfl,_⟩:=ok'.look
    obtain⟨e0,e1,e2,e3⟩:=hcx.four
    have ea:(⟨Bx,0,none⟩:Addr).add 0=⟨Bx,0,none⟩:=by unfold Addr.add;simp
    simp only[ea,Nat.zero_add] at e0 e1 e2 e3
    have herr:W.cell? ⟨0,0,none⟩=some (.iface 191 (.pointer (some a))):=(h5.cell (p:=⟨0,0,none⟩) HE.out.size).trans HE.out.err
    have hwc:=h1.cell
    have hwf:=h1.frozen
    clear hcx ea hTm
    by_cases hlv:20 < lv
    ·have hbad:goodN (lv,t')=false:=by unfold goodN;rw[decide_eq_false (show ¬ lv≤20 by omega)];rfl
     have Hbad:=hid hbad
     clear hbad
     gi_wp2
     refine⟨trivial,?_⟩
     gi_wp2
     exact⟨(KeepsOthers.setCell _ _ _).from _,⟨⟨rfl,h1.set _,⟨⟨lv,t',_,ok'⟩,by simp,Hbad.out⟩,h3.others (KeepsOthers.setCell _ _ _)⟩,h5.setCell (p:=⟨w.heap.size,0,none⟩) (Nat.le_refl _) _⟩⟩
    ·gi_wp2_with fail
     refine⟨trivial,(CallsIn.inRound lp (callsIn_wide.2 Hsh.out)).mono ?_⟩
     rintro e W3 ⟨rfl,b3⟩
     have hB3:=h5.trans (b3.mono h5.size)
     have h13:Boxed W3 w.heap.size 62 .nilIface:=(b3.block _ h1.lt).trans h1
     have herr3:W3.cell? ⟨0,0,none⟩=some (.iface 191 (.pointer (some a))):=(hB3.cell (p:=⟨0,0,none⟩) HE.out.size).trans HE.out.err
     have hwc3:=h13.cell
     have hwf3:=h13.frozen
     have hk3:KeepsOthers W W3:=⟨b3.size,fun i _ hi _=>(b3.block i (Array.getElem?_eq_some_iff.1 hi).1).trans hi⟩
     cases hsh:shapeB t' with
     | true=>
      have hgood:goodN (lv,t')=true:=by unfold goodN;rw[decide_eq_true (show lv≤20 by omega),hsh];rfl
      have Hgood:=hid hgood
      clear hgood hsh
      gi_wp2
      exact⟨hk3.from _,KC.of_below b3,⟨h13,fun x hx=>(List.mem_append.1 hx).elim (h2 x) (fun hx=>by rw[List.mem_singleton.1 hx];exact Hgood.out),h3.below b3,h4.trans (KC.of_below b3)⟩,hB3⟩
     | false=>
      have hbad:goodN (lv,t')=false:=by unfold goodN;rw[hsh,Bool.and_false]
      have Hbad:=hid hbad
      clear hbad hsh
      gi_wp2
      exact⟨(hk3.trans (KeepsOthers.setCell _ _ _)).from _,⟨⟨rfl,h13.set _,⟨⟨lv,t',_,ok'⟩,by simp,Hbad.out⟩,(h3.below b3).others (KeepsOthers.setCell _ _ _)⟩,hB3.setCell (p:=⟨w.heap.size,0,none⟩) (Nat.le_refl _) _⟩⟩
   case done=>
    rintro D ys W hD hys ⟨⟨h1,h2,h3,h4⟩,h5⟩ hK
    have hgood:rightT 20 t=true:=by
     have hn:=nodes_ok t 1
     rw[show okT 1 t=rightT 20 t from ok_right 20 t (Nat.le_refl _),show ((1:Nat):Int)=1 from rfl,← hys] at hn
     rw[← hn,List.all_eq_true]
     intro y hy
     obtain⟨x,hx,rfl⟩:=List.mem_map.1 hy
     exact h2 x hx
    have hr1:(l.take (k+1)).all (rightT 20)=true:=by
     rw[List.take_succ_eq_append_getElem hlt,List.all_append,Hr.out,show l[k]=t from (List.getElem?_eq_some_iff.1 Ht.out).2]
     simp[hgood]
    have Hr1:=hid hr1
    have hM1:Marks (w.heap.size+1) W (D::Ds):=⟨⟨hK,by have:=HLs.out;omega,fun E hE e=>by have:=HMl.out E hE;omega⟩,h3⟩
    clear hr1 hgood hys h2 h4
    gi_wp2
    rw[show ((k:Int)+1)=((k+1:Nat):Int) by omega]
    exact⟨⟨k+1,D::Ds,_,_,_,_,_,_,_,rfl,hlt,Hr1.out,h1,hM1,h5⟩,by simp[intOf];omega⟩
   case stop=>
    rintro D c pre W hD ⟨r,hr⟩ ⟨⟨rfl,h1,⟨x,hx,hbad⟩,h3⟩,h5⟩ hK
    have hbad2:rightT 20 t=false:=by
     have hn:=nodes_ok t 1
     rw[show okT 1 t=rightT 20 t from ok_right 20 t (Nat.le_refl _),show ((1:Nat):Int)=1 from rfl,← hr] at hn
     rw[← hn,List.all_eq_false]
     exact⟨x.pair,by simp;exact .inl ⟨x,hx,rfl⟩,by simp[hbad]⟩
    have hall:l.all (rightT 20)=false:=by
     rw[List.all_eq_false]
     exact⟨t,List.mem_of_getElem? Ht.out,by simp[hbad2]⟩
    have Hall:=hid hall
    have hM1:Marks w.heap.size W (D::Ds):=⟨⟨hK,by have:=HLs.out;omega,fun E hE e=>by have:=HMl.out E hE;omega⟩,h3.weak (by omega)⟩
    have hwc:=h1.cell
    clear hall hbad2 hbad hr h3
    gi_wp2
    rw[Exit.noGoto_ret]
    refine (show LeavesInM Fence.wide 6 Tryz.prog Tryz.f141 _ (fun e w'=>e=.returned (okV a (l.all (rightT 20)))∧Below w.heap.size w w') ((D::Ds).map mark) .returning W from ?_)
    rw[Hall.out]
    exact leaves_marks (v:=okV a false) (fun W=>(results_tmp rfl _ _ _).trans rfl) (D::Ds) W hM1 h5
  ·have hlt':¬ (k:Int) < (l.length:Int):=by omega
   have hall:l.all (rightT 20)=true:=by rw[List.take_of_length_le (by omega)] at hr;exact hr
   have Hall:=hid hall
   have hwc:=hw.cell
   clear hall hr
   gi_wp2
   refine (show LeavesInM Fence.wide 6 Tryz.prog Tryz.f141 _ (fun e w'=>e=.returned (okV a (l.all (rightT 20)))∧Below w.heap.size w w') (Ds.map mark) .returning wr from ?_)
   rw[Hall.out]
   exact leaves_marks (v:=okV a true) (fun W=>(results_tmp rfl _ _ _).trans rfl) Ds wr (hM.weak (by omega)) hB
theorem checkTerms_c (l:List Tm) (v:Value) (a:Addr) (w:World) (hl:TmS w w.heap.size l v) (E:TErr a w) :
  Calls Tryz.prog 141 #[v] w fun e w'=>e=.returned (okV a (l.all (rightT 20)))∧Below w.heap.size w w':=callsIn_wide.1 (checkTerms_in l v a w hl E)
end Go.Proofs.YtfmldnbcjbflbaaGreatDoor
namespace Go.Proofs.YtfmldnbcjbflbaaGreatDoor
open Lib(hid)
open Go.RowKit
structure Cv where
 W0:World
 a0:Act
 L:Nat
 Bx:Nat
 nb:Nat
 lv:Value
 k:Nat
 xs:List Value
 s:ByteArray
structure CvOk (C:Cv):Prop where
 size:29≤C.a0.tmps.size
 e4:C.a0.eval (.tmp 4)=.pointer (some ⟨C.L,0,none⟩)
 e5:C.a0.eval (.tmp 5)=.pointer (some ⟨C.Bx,0,none⟩)
 hL:Boxed C.W0 C.L 45 C.lv
 hs:C.W0.cell? ⟨C.Bx,1,none⟩=some (.string C.s)
 own:C.W0.ownsRow C.nb 9 1 C.lv C.k C.xs
 nL:C.lv.ownBlock≠some C.L
 nB:C.lv.ownBlock≠some C.Bx
 LB:C.Bx≠C.L
 sz:C.s.size≤281474976710656
 nb:C.nb≤C.W0.heap.size
 kk:C.k≤1000000
theorem CvOk.lt {C:Cv} (ok:CvOk C):C.L < C.W0.heap.size:=ok.hL.lt
end Go.Proofs.YtfmldnbcjbflbaaGreatDoor
namespace Go.Proofs.YtfmldnbcjbflbaaGreatDoor
open Lib(hid)
open Go.RowKit
def AllAt (S:Nat→Oper→Prop):Nat→List Oper→Prop
 | _,[]=>True
 | k,o::os=>S k o∧AllAt S (k+1) os
theorem AllAt.at {S:Nat→Oper→Prop}:∀ {os:List Oper} {k i:Nat} {o:Oper},AllAt S k os→os[i]?=some o→S (k+i) o
 | [],_,_,_,_,h=>by simp at h
 | x::os,k,0,o,h,hi=>by
  have:x=o:=by simpa using hi
  subst this
  exact h.1
 | x::os,k,i+1,o,h,hi=>by
  have:=AllAt.at (i:=i) h.2 (by simpa using hi)
  rwa [Nat.add_assoc,Nat.add_comm 1 i] at this
end Go.Proofs.YtfmldnbcjbflbaaGreatDoor
namespace Go.Proofs.YtfmldnbcjbflbaaGreatDoor
open Lib(hid)
open Go.RowKit
set_option maxRecDepth 100000 in
set_option maxHeartbeats 4000000 in
theorem sameAtom_c (t u:Am) (w:World) (cs ds:List Value) (hc:AmC w w.heap.size t cs) (hd:AmC w w.heap.size u ds) :
  Calls Tryz.prog 143 #[.agg cs.toArray,.agg ds.toArray] w fun e w'=>e=.returned (.bool (sameA t u))∧Below w.heap.size w w':=by
 obtain⟨p1,q1,rfl,_,t1⟩:=hc.look
 obtain⟨p2,q2,rfl,_,t2⟩:=hd.look
 have H:=hid (fun (W:World) (hb:Below w.heap.size w W)=>equalTerms_c t.l u.l (fun x _=>sameTerm_c x) _ _ W ((TmS.below t1 hb).more hb.size) ((TmS.below t2 hb).more hb.size))
 clear hc hd t1 t2
 obtain⟨b1,hb1⟩:∃ b,(t.rel.toList == u.rel.toList)=b:=⟨_,rfl⟩
 have Hz:Hid (sameA t u=(b1 && allS sameT t.l u.l)):=hid (by unfold sameA;rw[sameTs_all,hb1])
 cases b1
 ·go_enter Tryz.func143,Tryz.ntmps143
  go_wp2
  go_ret
  exact⟨by rw[Hz.out];rfl,((Below.refl _ _).alloc (Nat.le_refl _) _).alloc (by simp) _⟩
 ·go_enter Tryz.func143,Tryz.ntmps143
  go_wp2_with fail
  refine (H.out _ (((Below.refl _ _).alloc (Nat.le_refl _) _).alloc (by simp) _)).mono ?_
  rintro e w1 ⟨rfl,b1⟩
  go_wp2
  go_ret
  exact⟨by rw[Hz.out];rfl,(((Below.refl _ _).alloc (Nat.le_refl _) _).alloc (by simp) _).trans (b1.mono (by simp;omega))⟩
end Go.Proofs.YtfmldnbcjbflbaaGreatDoor

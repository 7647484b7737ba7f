/- MapI@0123, Ty@0123, Shelf@0123, Zsay@0123 -/
import Derived.Maps.OwnIn
import Derived.Maps.OwnSet
import Derived.Shelf.Sort.Plain
import Derived.StringKeys
import Derived.Test.YtakpgcmfjlbcgaaGreatDoorProg
import Derived.Test.YtakpgcmfjlbcgaaGreatDoorQ1
import Derived.Test.YtakpgcmfjlbcgaaGreatDoorQ4
set_option linter.unusedSimpArgs false
set_option linter.unusedVariables false
namespace Go.Proofs.YtakpgcmfjlbcgaaGreatDoor
open Go.RowKit Go.Maps Go.WideMaps
def MapI (P:Program) (w:World) (kT eT:TypeId) (B n:Nat) (f:List UInt8→Int) (c:Nat):Prop:=
 ∃ D:DataW Unit,w.ownsMap P kT (plainElem P eT) B n D∧Tidy D∧(∀ s,D.atKey (.string s) (.lit (.int .i64 0))=.lit (.int .i64 (f s)))∧(∀ s,Maps.has D (.string s)=decide (f s≠0))∧Maps.size D=c
def updF (f:List UInt8→Int) (s:List UInt8) (v:Int):List UInt8→Int:=fun n=>if n=s then v else f n
theorem updF_same (f:List UInt8→Int) (s:List UInt8) (v:Int):updF f s v s=v:=if_pos rfl
theorem updF_other (f:List UInt8→Int) {s n:List UInt8} (v:Int) (h:n≠s):updF f s v n=f n:=if_neg h
theorem mapI_made (P:Program) (w:World) (kT eT:TypeId):MapI P (w.alloc (.map #[] 0)) kT eT w.heap.size 0 (fun _=>0) 0:=
 ⟨.map [],World.ownsMap_made w P kT _,tidy_empty,fun _=>rfl,fun _=>rfl,rfl⟩
theorem MapI.mono {P:Program} {w:World} {kT eT:TypeId} {B n n':Nat} {f:List UInt8→Int} {c:Nat} (h:MapI P w kT eT B n f c) (hn:n≤n'):MapI P w kT eT B n' f c:=by
 obtain⟨D,h1,h2⟩:=h
 exact⟨D,h1.mono hn,h2⟩
theorem MapI.lt {P:Program} {w:World} {kT eT:TypeId} {B n:Nat} {f:List UInt8→Int} {c:Nat} (h:MapI P w kT eT B n f c):B < w.heap.size:=by
 obtain⟨D,h1,_⟩:=h
 exact h1.lt
theorem MapI.kept {P:Program} {w w':World} {kT eT:TypeId} {B n:Nat} {f:List UInt8→Int} {c:Nat} {row:Option Nat} (h:MapI P w kT eT B n f c) (hg:w.grownBy w' row) (hne:some B≠row):MapI P w' kT eT B n f c:=by
 obtain⟨D,h1,h2⟩:=h
 exact⟨D,h1.kept hg hne,h2⟩
theorem MapI.alloc {P:Program} {w:World} {kT eT:TypeId} {B n:Nat} {f:List UInt8→Int} {c:Nat} (h:MapI P w kT eT B n f c) (o:Obj):MapI P (w.alloc o) kT eT B n f c:=h.kept (World.grownBy_alloc w o none) (by simp)
theorem MapI.drew {P:Program} {w:World} {kT eT:TypeId} {B n:Nat} {f:List UInt8→Int} {c:Nat} (h:MapI P w kT eT B n f c):MapI P w.drew kT eT B n f c:=h
theorem MapI.below {P:Program} {w w':World} {kT eT:TypeId} {B n N:Nat} {f:List UInt8→Int} {c:Nat} (h:MapI P w kT eT B n f c) (hb:Below N w w') (hN:B < N):MapI P w' kT eT B n f c:=by
 obtain⟨D,⟨es,clock,h1,h2⟩,h3⟩:=h
 exact⟨D,⟨es,clock,(hb.block B hN).trans h1,h2⟩,h3⟩
theorem MapI.put {P:Program} {w':World} {kT eT:TypeId} {B n:Nat} {f:List UInt8→Int} {c:Nat} {D:DataW Unit} (h2:Tidy D) (h3:∀ s,D.atKey (.string s) (.lit (.int .i64 0))=.lit (.int .i64 (f s))) (h4:∀ s,Maps.has D (.string s)=decide (f s≠0)) (h5:Maps.size D=c) (s:List UInt8) {v:Int} (hv:v≠0)
  (h1:w'.ownsMap P kT (plainElem P eT) B n (D.put (.string s) (.lit (.int .i64 v)))):MapI P w' kT eT B n (updF f s v) (if f s=0 then c+1 else c):=by
 have hk:WideAt.IsKeyLit (.string s):=trivial
 refine⟨_,h1,h2.put hk _,fun n=>?_,fun n=>?_,?_⟩
 ·by_cases e:n=s
  ·subst e;rw[atKey_put_same h2.isMap hk,updF_same]
  ·rw[atKey_put_other (by intro h;cases h;exact e rfl),h3,updF_other _ _ e]
 ·by_cases e:n=s
  ·subst e;rw[has_put_same h2.isMap hk,updF_same];simp[hv]
  ·rw[has_put_other (by intro h;cases h;exact e rfl),h4,updF_other _ _ e]
 ·rw[size_put h2,h4,h5]
  by_cases e:f s=0
  ·rw[if_pos e];simp[e]
  ·rw[if_neg e];simp[e]
section
variable {P:Program} (w:World) {ops:Array Oper} {rest:List Oper} {o:Oper} {a:Act} {Q:Exit→Act→World→Prop}
theorem wpList_mapI_put (hg:o.guard=none) (m x u:Operand) (t:TypeId) (hop:o.op=Op.mapUpdate t m x u) (kT eT:TypeId) (ht:P.underlying t=some (.map kT eT)) (hkT:P.underlying kT=some .string) (heT:P.underlying eT=some (.int .i64))
  (B n:Nat) (f:List UInt8→Int) (c:Nat) (hm:a.eval m=.map (some B)) (h:MapI P w kT eT B n f c) (hn:n < maxLen) (s:ByteArray) (v:Int) (hx:a.eval x=.string s) (hu:a.eval u=.int .i64 v) (hs:s.size≤maxLen) (hv:v≠0) (hw:(Lit.int .i64 v).wf=true)
  (hK:∀ w',MapI P w' kT eT B (n+1) (updF f s.data.toList v) (if f s.data.toList=0 then c+1 else c)→w.grownBy w' (some B)→wpList P ops Q rest (a.put o.dst undef) w'):wpList P ops Q (o::rest) a w:=by
 obtain⟨D,h1,h2,h3,h4,h5⟩:=h
 exact wpList_mapUpdate_own w hg m x u t hop kT eT (string_keyed hkT) ht _ B n D hm h1 hn _ _ _ hx hu (keyOf_string_mk hkT hs) _ [] (plainElem_int heT hw) fun w' hown hgrow=>hK w' (MapI.put h2 h3 h4 h5 _ hv hown) hgrow
theorem wpList_mapI_get (hg:o.guard=none) (m x:Operand) (t:TypeId) (hop:o.op=Op.lookup t m x false) (kT eT:TypeId) (ht:P.underlying t=some (.map kT eT)) (hkT:P.underlying kT=some .string) (heT:P.underlying eT=some (.int .i64)) (hz:(zeroValue eT).run P w=.ok (.int .i64 0) w)
  (B n:Nat) (f:List UInt8→Int) (c:Nat) (hm:a.eval m=.map (some B)) (h:MapI P w kT eT B n f c) (s:ByteArray) (hx:a.eval x=.string s) (hs:s.size≤maxLen)
  (hK:(Lit.int .i64 (f s.data.toList)).wf=true→wpList P ops Q rest (a.put o.dst (.int .i64 (f s.data.toList))) w):wpList P ops Q (o::rest) a w:=by
 obtain⟨D,h1,h2,h3,h4,h5⟩:=h
 refine wpList_lookup_own_int w hg m x t hop kT eT .i64 (string_keyed hkT) ht heT hz B n D hm h1 _ _ hx (keyOf_string_mk hkT hs) fun c hc hwf=>?_
 rw[h3] at hc
 have:f s.data.toList=c:=by simpa using hc
 subst this
 exact hK hwf
theorem wpList_mapI_len (hg:o.guard=none) (m:Operand) (t:TypeId) (hop:o.op=Op.call { callee:=Callee.builtin Builtin.len,args:=#[m],argTypes:=#[t] }) (kT eT:TypeId) (ht:P.underlying t=some (.map kT eT))
  (B n:Nat) (f:List UInt8→Int) (c:Nat) (hm:a.eval m=.map (some B)) (h:MapI P w kT eT B n f c) (hK:wpList P ops Q rest (a.put o.dst (.int .i64 (c:Nat))) w):wpList P ops Q (o::rest) a w:=by
 obtain⟨D,h1,h2,h3,h4,rfl⟩:=h
 exact wpList_len_own w hg m t hop kT eT ht _ B n D hm h1 hK
variable {F:Fence} {nF:Nat}
theorem wpListIn_mapI_put (hg:o.guard=none) (m x u:Operand) (t:TypeId) (hop:o.op=Op.mapUpdate t m x u) (kT eT:TypeId) (ht:P.underlying t=some (.map kT eT)) (hkT:P.underlying kT=some .string) (heT:P.underlying eT=some (.int .i64))
  (B n:Nat) (f:List UInt8→Int) (c:Nat) (hm:a.eval m=.map (some B)) (h:MapI P w kT eT B n f c) (hn:n < maxLen) (s:ByteArray) (v:Int) (hx:a.eval x=.string s) (hu:a.eval u=.int .i64 v) (hs:s.size≤maxLen) (hv:v≠0) (hw:(Lit.int .i64 v).wf=true)
  (hK:∀ w',MapI P w' kT eT B (n+1) (updF f s.data.toList v) (if f s.data.toList=0 then c+1 else c)→w.grownBy w' (some B)→wpListIn F nF P ops Q rest (a.put o.dst undef) w'):wpListIn F nF P ops Q (o::rest) a w:=by
 obtain⟨D,h1,h2,h3,h4,h5⟩:=h
 exact wpListIn_mapUpdate_own w hg m x u t hop kT eT (string_keyed hkT) ht _ B n D hm h1 hn _ _ _ hx hu (keyOf_string_mk hkT hs) _ [] (plainElem_int heT hw) fun w' hown hgrow=>hK w' (MapI.put h2 h3 h4 h5 _ hv hown) hgrow
theorem wpListIn_mapI_get (hg:o.guard=none) (m x:Operand) (t:TypeId) (hop:o.op=Op.lookup t m x false) (kT eT:TypeId) (ht:P.underlying t=some (.map kT eT)) (hkT:P.underlying kT=some .string) (heT:P.underlying eT=some (.int .i64)) (hz:(zeroValue eT).run P w=.ok (.int .i64 0) w)
  (B n:Nat) (f:List UInt8→Int) (c:Nat) (hm:a.eval m=.map (some B)) (h:MapI P w kT eT B n f c) (s:ByteArray) (hx:a.eval x=.string s) (hs:s.size≤maxLen)
  (hK:(Lit.int .i64 (f s.data.toList)).wf=true→wpListIn F nF P ops Q rest (a.put o.dst (.int .i64 (f s.data.toList))) w):wpListIn F nF P ops Q (o::rest) a w:=by
 obtain⟨D,h1,h2,h3,h4,h5⟩:=h
 refine wpListIn_lookup_own_int w hg m x t hop kT eT .i64 (string_keyed hkT) ht heT hz B n D hm h1 _ _ hx (keyOf_string_mk hkT hs) fun c hc hwf=>?_
 rw[h3] at hc
 have:f s.data.toList=c:=by simpa using hc
 subst this
 exact hK hwf
end
end Go.Proofs.YtakpgcmfjlbcgaaGreatDoor
namespace Go.Proofs.YtakpgcmfjlbcgaaGreatDoor
def nm (t:Tm):List UInt8:=t.s.data.toList
abbrev Kn:=List (List UInt8 × Int)
def look:Kn→List UInt8→Int
 | [],_=>0
 | (s,k)::K,n=>if s=n then k else look K n
def tyC (t:Tm):Int:=if t.op=2∨t.op=5∨t.op=6∨t.op=7 then 1 else if t.op=3 then 2 else 0
def ofK (K:Kn) (t:Tm):Int:=if t.op=1 then look K (nm t) else tyC t
def learn1 (K:Kn) (t:Tm) (k:Int):Option Kn:=
 if ofK K t=k then some K else if ofK K t≠0 then none else if t.op=1 then some (K++[(nm t,k)]) else some K
def learnL:Kn→List (Tm × Int)→Option Kn
 | K,[]=>some K
 | K,(t,k)::l=>match learn1 K t k with
  | none=>none
  | some K'=>learnL K' l
def alike1 (K:Kn) (x y:Tm):Option Kn:=
 if ofK K y=0 then (if ofK K x≠0 then learn1 K y (ofK K x) else some K) else learn1 K x (ofK K y)
def alikeL:Kn→List (Tm × Tm)→Option Kn
 | K,[]=>some K
 | K,(x,y)::l=>match alike1 K x y with
  | none=>none
  | some K'=>alikeL K' l
inductive Der (base:List (Tm × Int)) (prs:List (Tm × Tm)):List UInt8→Int→Prop
 | base {t:Tm} {k:Int}:(t,k) ∈ base→t.op=1→Der base prs (nm t) k
 | lc {x y:Tm} {k:Int}:(x,y) ∈ prs→x.op=1→y.op≠1→tyC y=k→k≠0→Der base prs (nm x) k
 | lv {x y:Tm} {k:Int}:(x,y) ∈ prs→x.op=1→y.op=1→Der base prs (nm y) k→Der base prs (nm x) k
 | rc {x y:Tm} {k:Int}:(x,y) ∈ prs→y.op=1→x.op≠1→tyC x=k→k≠0→Der base prs (nm y) k
 | rv {x y:Tm} {k:Int}:(x,y) ∈ prs→y.op=1→x.op=1→Der base prs (nm x) k→Der base prs (nm y) k
structure NoConf (base:List (Tm × Int)) (prs:List (Tm × Tm)):Prop where
 one:∀ s k k',Der base prs s k→Der base prs s k'→k=k'
 con:∀ t k,(t,k) ∈ base→t.op≠1→tyC t=0∨tyC t=k
 two:∀ x y,(x,y) ∈ prs→x.op≠1→y.op≠1→tyC x=0∨tyC y=0∨tyC x=tyC y
theorem Der.sub {b b':List (Tm × Int)} {p p':List (Tm × Tm)} (hb:∀ x ∈ b,x ∈ b') (hp:∀ x ∈ p,x ∈ p') {s:List UInt8} {k:Int} (h:Der b p s k):Der b' p' s k:=by
 induction h with
 | base h1 h2=>exact .base (hb _ h1) h2
 | lc h1 h2 h3 h4 h5=>exact .lc (hp _ h1) h2 h3 h4 h5
 | lv h1 h2 h3 _ ih=>exact .lv (hp _ h1) h2 h3 ih
 | rc h1 h2 h3 h4 h5=>exact .rc (hp _ h1) h2 h3 h4 h5
 | rv h1 h2 h3 _ ih=>exact .rv (hp _ h1) h2 h3 ih
theorem NoConf.sub {b b':List (Tm × Int)} {p p':List (Tm × Tm)} (hb:∀ x ∈ b,x ∈ b') (hp:∀ x ∈ p,x ∈ p') (h:NoConf b' p'):NoConf b p:=
 ⟨fun s k k' h1 h2=>h.one s k k' (h1.sub hb hp) (h2.sub hb hp),fun t k h1 h2=>h.con t k (hb _ h1) h2,fun x y h1 h2 h3=>h.two x y (hp _ h1) h2 h3⟩
def Sound (base:List (Tm × Int)) (prs:List (Tm × Tm)) (K:Kn):Prop:=∀ s,look K s≠0→Der base prs s (look K s)
theorem look_snoc {K:Kn} {s n:List UInt8} {k:Int} (h:look K s=0) (h0:∀ x ∈ K,x.2≠0):look (K++[(s,k)]) n=if n=s then k else look K n:=by
 induction K with
 | nil=>
  show (if s=n then k else 0)=_
  by_cases e:n=s
  ·rw[if_pos e,if_pos e.symm]
  ·rw[if_neg e,if_neg (Ne.symm e)];rfl
 | cons x K ih=>
  obtain⟨a,b⟩:=x
  have hb:b≠0:=h0 (a,b) (List.mem_cons_self ..)
  have ha:a≠s:=by
   rintro rfl
   exact hb (by simpa[look] using h)
  have hK:look K s=0:=by simpa[look,ha] using h
  have ih:=ih hK (fun x hx=>h0 x (List.mem_cons_of_mem _ hx))
  show (if a=n then b else look (K++[(s,k)]) n)=_
  rw[ih]
  by_cases e:n=s
  ·subst e
   rw[if_neg ha]
   simp
  ·rw[if_neg e,if_neg e]
   rfl
structure KnOk (K:Kn):Prop where
 pos:∀ x ∈ K,x.2≠0
 nod:(K.map (·.1)).Nodup
theorem look_mem {K:Kn} (h:KnOk K) {s:List UInt8}:look K s≠0 ↔ s ∈ K.map (·.1):=by
 have hp:=h.pos
 clear h
 induction K with
 | nil=>simp[look]
 | cons x K ih=>
  obtain⟨a,b⟩:=x
  have hb:b≠0:=hp (a,b) (List.mem_cons_self ..)
  have ih:=ih (fun x hx=>hp x (List.mem_cons_of_mem _ hx))
  by_cases e:a=s
  ·subst e;simp[look,hb]
  ·have:look ((a,b)::K) s=look K s:=by simp[look,e]
   rw[this]
   refine ih.trans ?_
   simp[Ne.symm e]
theorem KnOk.snoc {K:Kn} (h:KnOk K) {s:List UInt8} {k:Int} (hs:look K s=0) (hk:k≠0):KnOk (K++[(s,k)]):=by
 refine⟨fun x hx=>?_,?_⟩
 ·rcases List.mem_append.1 hx with hx | hx
  ·exact h.pos x hx
  ·simp at hx;subst hx;exact hk
 ·have hn:s ∉ K.map (·.1):=fun hm=>(look_mem h).2 hm hs
  rw[List.map_append]
  refine List.nodup_append.2 ⟨h.nod,by simp,?_⟩
  rintro a ha b hb rfl
  simp at hb
  subst hb
  exact hn ha
theorem learn_cases {K K':Kn} {t:Tm} {k:Int} (h:learn1 K t k=some K'):(ofK K t=k∧K'=K)∨(ofK K t=0∧t.op≠1∧K'=K)∨(t.op=1∧look K (nm t)=0∧k≠0∧K'=K++[(nm t,k)]):=by
 unfold learn1 at h
 by_cases h1:ofK K t=k
 ·rw[if_pos h1] at h;cases h;exact .inl ⟨h1,rfl⟩
 ·rw[if_neg h1] at h
  by_cases h2:ofK K t≠0
  ·rw[if_pos h2] at h;cases h
  ·rw[if_neg h2] at h
   have h2:ofK K t=0:=Decidable.not_not.1 h2
   by_cases h3:t.op=1
   ·rw[if_pos h3] at h;cases h
    refine .inr (.inr ⟨h3,?_,?_,rfl⟩)
    ·unfold ofK at h2;rw[if_pos h3] at h2;exact h2
    ·rintro rfl;exact h1 h2
   ·rw[if_neg h3] at h;cases h
    exact .inr (.inl ⟨h2,h3,rfl⟩)
def KLe (K K':Kn):Prop:=∀ s,look K s≠0→look K' s=look K s
theorem KLe.refl (K:Kn):KLe K K:=fun _ _=>rfl
theorem KLe.trans {A B C:Kn} (h:KLe A B) (k:KLe B C):KLe A C:=fun s hs=>(k s (by rw[h s hs];exact hs)).trans (h s hs)
theorem KLe.of {K K':Kn} (h:KLe K K') {t:Tm} (ht:ofK K t≠0):ofK K' t=ofK K t:=by
 unfold ofK at ht ⊢
 by_cases h1:t.op=1
 ·rw[if_pos h1] at ht ⊢;rw[if_pos h1];exact h _ ht
 ·rw[if_neg h1,if_neg h1]
structure Step (base:List (Tm × Int)) (prs:List (Tm × Tm)) (K K':Kn):Prop where
 ok:KnOk K'
 le:KLe K K'
 snd:Sound base prs K'
 len:K.length≤K'.length
 same:K'.length=K.length→K'=K
theorem Step.trans {b:List (Tm × Int)} {p:List (Tm × Tm)} {A B C:Kn} (h:Step b p A B) (k:Step b p B C):Step b p A C:=
 ⟨k.ok,h.le.trans k.le,k.snd,Nat.le_trans h.len k.len,fun e=>by
  have h1:=h.len
  have h2:=k.len
  have e1:=k.same (by omega)
  subst e1
  exact h.same (by omega)⟩
theorem learn_step {b:List (Tm × Int)} {p:List (Tm × Tm)} {K K':Kn} {t:Tm} {k:Int} (hK:KnOk K) (hs:Sound b p K) (h:learn1 K t k=some K') (hd:t.op=1→k≠0→Der b p (nm t) k):Step b p K K'∧(ofK K' t=k∨(t.op≠1∧tyC t=0)):=by
 rcases learn_cases h with ⟨h1,rfl⟩ | ⟨h1,h2,rfl⟩ | ⟨h1,h2,h3,rfl⟩
 ·exact⟨⟨hK,.refl _,hs,Nat.le_refl _,fun _=>rfl⟩,.inl h1⟩
 ·refine⟨⟨hK,.refl _,hs,Nat.le_refl _,fun _=>rfl⟩,.inr ⟨h2,?_⟩⟩
  unfold ofK at h1;rw[if_neg h2] at h1;exact h1
 ·have hl:∀ n,look (K++[(nm t,k)]) n=if n=nm t then k else look K n:=fun n=>look_snoc h2 hK.pos
  refine⟨⟨hK.snoc h2 h3,fun s hs=>?_,fun s hs'=>?_,by simp,fun e=>by simp at e⟩,.inl ?_⟩
  ·rw[hl,if_neg (by rintro rfl;exact hs h2)]
  ·rw[hl] at hs' ⊢
   by_cases e:s=nm t
   ·rw[if_pos e] at hs' ⊢;subst e;exact hd h1 h3
   ·rw[if_neg e] at hs' ⊢;exact hs s hs'
  ·unfold ofK;rw[if_pos h1,hl,if_pos rfl]
theorem learnL_step {b:List (Tm × Int)} {p:List (Tm × Tm)}:∀ {l:List (Tm × Int)} {K K':Kn},KnOk K→Sound b p K→learnL K l=some K'→(∀ x ∈ l,x ∈ b)→Step b p K K'∧∀ x ∈ l,ofK K' x.1=x.2∨x.2=0∨(x.1.op≠1∧tyC x.1=0)
 | [],K,K',hK,hs,h,_=>by cases h;exact⟨⟨hK,.refl _,hs,Nat.le_refl _,fun _=>rfl⟩,fun x hx=>by cases hx⟩
 | (t,k)::l,K,K',hK,hs,h,hb=>by
  unfold learnL at h
  cases h1:learn1 K t k with
  | none=>rw[h1] at h;cases h
  | some K1=>
   rw[h1] at h
   obtain⟨s1,e1⟩:=learn_step hK hs h1 (fun hv _=>.base (hb _ (List.mem_cons_self ..)) hv)
   obtain⟨s2,e2⟩:=learnL_step s1.ok s1.snd h (fun x hx=>hb x (List.mem_cons_of_mem _ hx))
   refine⟨s1.trans s2,fun x hx=>?_⟩
   rcases List.mem_cons.1 hx with rfl | hx
   ·rcases e1 with e1 | e1
    ·by_cases hk:k=0
     ·exact .inr (.inl hk)
     ·exact .inl ((s2.le.of (by rw[e1];exact hk)).trans e1)
    ·exact .inr (.inr e1)
   ·exact e2 x hx
def HasT (b:List (Tm × Int)) (p:List (Tm × Tm)) (t:Tm) (k:Int):Prop:=k≠0∧((t.op=1∧Der b p (nm t) k)∨(t.op≠1∧tyC t=k))
theorem Sound.has {b:List (Tm × Int)} {p:List (Tm × Tm)} {K:Kn} (h:Sound b p K) {t:Tm} (ht:ofK K t≠0):HasT b p t (ofK K t):=by
 refine⟨ht,?_⟩
 unfold ofK at ht ⊢
 by_cases h1:t.op=1
 ·rw[if_pos h1] at ht ⊢;exact .inl ⟨h1,h _ ht⟩
 ·rw[if_neg h1];exact .inr ⟨h1,rfl⟩
theorem alike_step {b:List (Tm × Int)} {p:List (Tm × Tm)} {K K':Kn} {x y:Tm} (hK:KnOk K) (hs:Sound b p K) (h:alike1 K x y=some K') (hp:(x,y) ∈ p):Step b p K K':=by
 have self:Step b p K K:=⟨hK,.refl _,hs,Nat.le_refl _,fun _=>rfl⟩
 unfold alike1 at h
 by_cases h1:ofK K y=0
 ·rw[if_pos h1] at h
  by_cases h2:ofK K x≠0
  ·rw[if_pos h2] at h
   refine (learn_step hK hs h fun hv _=>?_).1
   obtain⟨h3,⟨h4,h5⟩ | ⟨h4,h5⟩⟩:=hs.has h2
   ·exact .rv hp hv h4 h5
   ·exact .rc hp hv h4 h5 h3
  ·rw[if_neg h2] at h;cases h;exact self
 ·rw[if_neg h1] at h
  refine (learn_step hK hs h fun hv _=>?_).1
  obtain⟨h3,⟨h4,h5⟩ | ⟨h4,h5⟩⟩:=hs.has h1
  ·exact .lv hp hv h4 h5
  ·exact .lc hp hv h4 h5 h3
theorem alikeL_step {b:List (Tm × Int)} {p:List (Tm × Tm)}:∀ {l:List (Tm × Tm)} {K K':Kn},KnOk K→Sound b p K→alikeL K l=some K'→(∀ x ∈ l,x ∈ p)→Step b p K K'
 | [],K,K',hK,hs,h,_=>by cases h;exact⟨hK,.refl _,hs,Nat.le_refl _,fun _=>rfl⟩
 | (x,y)::l,K,K',hK,hs,h,hp=>by
  unfold alikeL at h
  cases h1:alike1 K x y with
  | none=>rw[h1] at h;cases h
  | some K1=>
   rw[h1] at h
   have s1:=alike_step hK hs h1 (hp _ (List.mem_cons_self ..))
   exact s1.trans (alikeL_step s1.ok s1.snd h (fun z hz=>hp z (List.mem_cons_of_mem _ hz)))
theorem alike_still {K:Kn} {x y:Tm} (h:alike1 K x y=some K):ofK K x=ofK K y∨(ofK K x=0∧x.op≠1)∨(ofK K y=0∧y.op≠1):=by
 have no:∀ {t:Tm} {k:Int},learn1 K t k=some K→ofK K t=k∨(ofK K t=0∧t.op≠1):=by
  intro t k h
  rcases learn_cases h with ⟨h1,_⟩ | ⟨h1,h2,_⟩ | ⟨_,_,_,h4⟩
  ·exact .inl h1
  ·exact .inr ⟨h1,h2⟩
  ·have:=congrArg List.length h4;simp at this
 unfold alike1 at h
 by_cases h1:ofK K y=0
 ·rw[if_pos h1] at h
  by_cases h2:ofK K x≠0
  ·rw[if_pos h2] at h
   rcases no h with h | h
   ·exact .inl h.symm
   ·exact .inr (.inr h)
  ·exact .inl ((Decidable.not_not.1 h2).trans h1.symm)
 ·rw[if_neg h1] at h
  rcases no h with h | h
  ·exact .inl h
  ·exact .inr (.inl h)
theorem alikeL_still {b:List (Tm × Int)} {p:List (Tm × Tm)}:∀ {l:List (Tm × Tm)} {K:Kn},KnOk K→Sound b p K→alikeL K l=some K→(∀ x ∈ l,x ∈ p)→∀ x ∈ l,alike1 K x.1 x.2=some K
 | [],_,_,_,_,_,x,hx=>by cases hx
 | (x,y)::l,K,hK,hs,h,hp,z,hz=>by
  unfold alikeL at h
  cases h1:alike1 K x y with
  | none=>rw[h1] at h;cases h
  | some K1=>
   rw[h1] at h
   have s1:=alike_step hK hs h1 (hp _ (List.mem_cons_self ..))
   have s2:=alikeL_step s1.ok s1.snd h (fun z hz=>hp z (List.mem_cons_of_mem _ hz))
   have e1:K1=K:=s1.same (by have:=s1.len;have:=s2.len;omega)
   subst e1
   rcases List.mem_cons.1 hz with rfl | hz
   ·exact h1
   ·exact alikeL_still hK hs h (fun z hz=>hp z (List.mem_cons_of_mem _ hz)) z hz
theorem known_all {b:List (Tm × Int)} {p:List (Tm × Tm)} {K:Kn} (hb:∀ x ∈ b,ofK K x.1=x.2∨x.2=0∨(x.1.op≠1∧tyC x.1=0)) (h0:∀ x ∈ b,x.2≠0) (hp:∀ x ∈ p,alike1 K x.1 x.2=some K) {s:List UInt8} {k:Int} (h:Der b p s k):look K s=k∧k≠0:=by
 have ofv:∀ {t:Tm},t.op=1→ofK K t=look K (nm t):=fun h=>by unfold ofK;rw[if_pos h]
 have ofc:∀ {t:Tm},t.op≠1→ofK K t=tyC t:=fun h=>by unfold ofK;rw[if_neg h]
 induction h with
 | @base t k h1 h2=>
  rcases hb _ h1 with h | h | h
  ·rw[ofv h2] at h;exact⟨h,h0 _ h1⟩
  ·exact absurd h (h0 _ h1)
  ·exact absurd h2 h.1
 | @lc x y k h1 h2 h3 h4 h5=>
  rcases alike_still (hp _ h1) with h | h | h
  ·rw[ofv h2,ofc h3] at h;exact⟨h.trans h4,h5⟩
  ·exact absurd h2 h.2
  ·rw[ofc h3,h4] at h;exact absurd h.1 h5
 | @lv x y k h1 h2 h3 _ ih=>
  rcases alike_still (hp _ h1) with h | h | h
  ·rw[ofv h2,ofv h3] at h;exact⟨h.trans ih.1,ih.2⟩
  ·exact absurd h2 h.2
  ·exact absurd h3 h.2
 | @rc x y k h1 h2 h3 h4 h5=>
  rcases alike_still (hp _ h1) with h | h | h
  ·rw[ofv h2,ofc h3] at h;exact⟨h.symm.trans h4,h5⟩
  ·rw[ofc h3,h4] at h;exact absurd h.1 h5
  ·exact absurd h2 h.2
 | @rv x y k h1 h2 h3 _ ih=>
  rcases alike_still (hp _ h1) with h | h | h
  ·rw[ofv h2,ofv h3] at h;exact⟨h.symm.trans ih.1,ih.2⟩
  ·exact absurd h3 h.2
  ·exact absurd h2 h.2
theorem learn_none {b:List (Tm × Int)} {p:List (Tm × Tm)} {K:Kn} {t:Tm} {k:Int} (_:Sound b p K) (h:learn1 K t k=none):ofK K t≠0∧ofK K t≠k:=by
 unfold learn1 at h
 by_cases h1:ofK K t=k
 ·rw[if_pos h1] at h;cases h
 ·rw[if_neg h1] at h
  by_cases h2:ofK K t≠0
  ·exact⟨h2,h1⟩
  ·rw[if_neg h2] at h
   by_cases h3:t.op=1
   ·rw[if_pos h3] at h;cases h
   ·rw[if_neg h3] at h;cases h
theorem learnL_none {b:List (Tm × Int)} {p:List (Tm × Tm)} (hn:NoConf b p) (h0:∀ x ∈ b,x.2≠0):∀ {l:List (Tm × Int)} {K:Kn},KnOk K→Sound b p K→(∀ x ∈ l,x ∈ b)→∃ K',learnL K l=some K'
 | [],K,_,_,_=>⟨K,rfl⟩
 | (t,k)::l,K,hK,hs,hb=>by
  have hm:=hb _ (List.mem_cons_self ..)
  cases h1:learn1 K t k with
  | none=>
   obtain⟨h2,h3⟩:=learn_none hs h1
   obtain⟨_,⟨h4,h5⟩ | ⟨h4,h5⟩⟩:=hs.has h2
   ·exact absurd (hn.one _ _ _ h5 (.base hm h4)) h3
   ·rcases hn.con t k hm h4 with h | h
    ·rw[h] at h5;exact absurd h5.symm h2
    ·rw[h] at h5;exact absurd h5.symm h3
  | some K1=>
   obtain⟨s1,_⟩:=learn_step hK hs h1 (fun hv _=>.base hm hv)
   obtain⟨K',h⟩:=learnL_none hn h0 s1.ok s1.snd (fun x hx=>hb x (List.mem_cons_of_mem _ hx))
   exact⟨K',by unfold learnL;rw[h1];exact h⟩
theorem alikeL_none {b:List (Tm × Int)} {p:List (Tm × Tm)} (hn:NoConf b p):∀ {l:List (Tm × Tm)} {K:Kn},KnOk K→Sound b p K→(∀ x ∈ l,x ∈ p)→∃ K',alikeL K l=some K'
 | [],K,_,_,_=>⟨K,rfl⟩
 | (x,y)::l,K,hK,hs,hp=>by
  have hm:=hp _ (List.mem_cons_self ..)
  have good:∃ K1,alike1 K x y=some K1:=by
   unfold alike1
   by_cases h1:ofK K y=0
   ·rw[if_pos h1]
    by_cases h2:ofK K x≠0
    ·rw[if_pos h2]
     cases h3:learn1 K y (ofK K x) with
     | some K1=>exact⟨K1,rfl⟩
     | none=>exact absurd h1 (learn_none hs h3).1
    ·rw[if_neg h2];exact⟨K,rfl⟩
   ·rw[if_neg h1]
    cases h3:learn1 K x (ofK K y) with
    | some K1=>exact⟨K1,rfl⟩
    | none=>
     obtain⟨h4,h5⟩:=learn_none hs h3
     obtain⟨g1,⟨g2,g3⟩ | ⟨g2,g3⟩⟩:=hs.has h1
     ·obtain⟨_,⟨f2,f3⟩ | ⟨f2,f3⟩⟩:=hs.has h4
      ·exact absurd (hn.one _ _ _ f3 (.lv hm f2 g2 g3)) h5
      ·exact absurd (hn.one _ _ _ (.rc hm g2 f2 f3 h4) g3) h5
     ·obtain⟨_,⟨f2,f3⟩ | ⟨f2,f3⟩⟩:=hs.has h4
      ·exact absurd (hn.one _ _ _ f3 (.lc hm f2 g2 g3 g1)) h5
      ·rcases hn.two x y hm f2 g2 with h | h | h
       ·rw[h] at f3;exact absurd f3.symm h4
       ·rw[h] at g3;exact absurd g3.symm g1
       ·rw[f3,g3] at h;exact absurd h h5
  obtain⟨K1,h1⟩:=good
  have s1:=alike_step hK hs h1 hm
  obtain⟨K',h⟩:=alikeL_none hn s1.ok s1.snd (fun z hz=>hp z (List.mem_cons_of_mem _ hz))
  exact⟨K',by unfold alikeL;rw[h1];exact h⟩
inductive Rounds (p:List (Tm × Tm)):Kn→Option Kn→Prop
 | bad {K:Kn}:alikeL K p=none→Rounds p K none
 | still {K K':Kn}:alikeL K p=some K'→K'.length=K.length→Rounds p K (some K')
 | more {K K':Kn} {r:Option Kn}:alikeL K p=some K'→K.length < K'.length→Rounds p K' r→Rounds p K r
theorem rounds_some {b:List (Tm × Int)} {p:List (Tm × Tm)} {K:Kn} {r:Option Kn} (h:Rounds p K r) (hK:KnOk K) (hs:Sound b p K):(∀ K',r=some K'→Step b p K K'∧∀ x ∈ p,alike1 K' x.1 x.2=some K')∧(r=none→¬ NoConf b p):=by
 induction h with
 | bad h1=>
  refine⟨fun _ h=>(by cases h),fun _ hn=>?_⟩
  obtain⟨K',h⟩:=alikeL_none hn hK hs (fun _ h=>h)
  rw[h1] at h;cases h
 | still h1 h2=>
  refine⟨fun K2 h=>?_,fun h=>by cases h⟩
  cases h
  have s1:=alikeL_step hK hs h1 (fun _ h=>h)
  have e:=s1.same h2
  subst e
  exact⟨s1,alikeL_still hK hs h1 (fun _ h=>h)⟩
 | more h1 h2 _ ih=>
  have s1:=alikeL_step hK hs h1 (fun _ h=>h)
  obtain⟨i1,i2⟩:=ih s1.ok s1.snd
  exact⟨fun K2 h=>⟨s1.trans (i1 K2 h).1,(i1 K2 h).2⟩,i2⟩
theorem types_all {b:List (Tm × Int)} {p:List (Tm × Tm)} (h0:∀ x ∈ b,x.2≠0):(learnL [] b=none→¬ NoConf b p)∧∀ K r,learnL [] b=some K→Rounds p K r→(r=none→¬ NoConf b p)∧∀ K',r=some K'→NoConf b p∧(∀ s k,k≠0→(look K' s=k ↔ Der b p s k))∧KnOk K':=by
 have hK0:KnOk []:=⟨fun _ h=>(by cases h),List.nodup_nil⟩
 have hs0:Sound b p []:=fun s h=>absurd rfl h
 refine⟨fun h hn=>?_,fun K r h1 h2=>?_⟩
 ·obtain⟨K',h'⟩:=learnL_none hn h0 hK0 hs0 (fun _ h=>h)
  rw[h] at h';cases h'
 ·obtain⟨s1,e1⟩:=learnL_step hK0 hs0 h1 (fun _ h=>h)
  obtain⟨i1,i2⟩:=rounds_some h2 s1.ok s1.snd
  refine⟨i2,fun K' h=>?_⟩
  obtain⟨s2,e2⟩:=i1 K' h
  have hb:∀ x ∈ b,ofK K' x.1=x.2∨x.2=0∨(x.1.op≠1∧tyC x.1=0):=by
   intro x hx
   rcases e1 x hx with h | h
   ·exact .inl ((s2.le.of (by rw[h];exact h0 x hx)).trans h)
   ·exact .inr h
  have key:=fun {s:List UInt8} {k:Int} (h:Der b p s k)=>known_all hb h0 e2 h
  refine⟨⟨fun s k k' d1 d2=>(key d1).1.symm.trans (key d2).1,fun t k hm hv=>?_,fun x y hm hx hy=>?_⟩,fun s k hk=>⟨fun e=>by subst e;exact s2.snd s hk,fun d=>(key d).1⟩,s2.ok⟩
  ·rcases hb _ hm with h | h | h
   ·unfold ofK at h;rw[if_neg hv] at h;exact .inr h
   ·exact absurd h (h0 _ hm)
   ·exact .inl h.2
  ·have ofc:∀ {t:Tm},t.op≠1→ofK K' t=tyC t:=fun h=>by unfold ofK;rw[if_neg h]
   rcases alike_still (e2 _ hm) with h | h | h
   ·rw[ofc hx,ofc hy] at h;exact .inr (.inr h)
   ·rw[ofc hx] at h;exact .inl h.1
   ·rw[ofc hy] at h;exact .inr (.inl h.1)
end Go.Proofs.YtakpgcmfjlbcgaaGreatDoor
namespace Go.Proofs
open Go.Shelf
def Tryz.lays189_ren:Go.Shelf.Ren:=⟨fun | 125=>81 | 128=>125 | 129=>126 | 189=>59 | 215=>157 | 216=>122 | 257=>80 | 294=>116 | 295=>117 | 296=>118 | 297=>119 | 298=>120 | 299=>121 | 300=>123 | 301=>124 | 328=>152 | 329=>153 | 330=>154 | 331=>155 | 332=>156 | 343=>184 | n=>n,fun | 0=>0 | 3=>3 | 4=>4 | 5=>5 | 9=>9 | 28=>39 | 46=>141 | 51=>182 | 53=>184 | 131=>107 | 182=>175 | 183=>176 | 218=>216 | 222=>220 | 228=>238 | 229=>239 | n=>n,fun | n=>n⟩
theorem Tryz.lays189:Go.Proofs.Lays.n189 Tryz.prog Tryz.lays189_ren:={
 mixed:=by kernel_rfl
 f125:=Tryz.func81.trans (congrArg some (by kernel_rfl))
 f128:=Tryz.func125.trans (congrArg some (by kernel_rfl))
 f129:=Tryz.func126.trans (congrArg some (by kernel_rfl))
 f189:=Tryz.func59.trans (congrArg some (by kernel_rfl))
 f215:=Tryz.func157.trans (congrArg some (by kernel_rfl))
 f216:=Tryz.func122.trans (congrArg some (by kernel_rfl))
 f257:=Tryz.func80.trans (congrArg some (by kernel_rfl))
 f294:=Tryz.func116.trans (congrArg some (by kernel_rfl))
 f295:=Tryz.func117.trans (congrArg some (by kernel_rfl))
 f296:=Tryz.func118.trans (congrArg some (by kernel_rfl))
 f297:=Tryz.func119.trans (congrArg some (by kernel_rfl))
 f298:=Tryz.func120.trans (congrArg some (by kernel_rfl))
 f299:=Tryz.func121.trans (congrArg some (by kernel_rfl))
 f300:=Tryz.func123.trans (congrArg some (by kernel_rfl))
 f301:=Tryz.func124.trans (congrArg some (by kernel_rfl))
 f328:=Tryz.func152.trans (congrArg some (by kernel_rfl))
 f329:=Tryz.func153.trans (congrArg some (by kernel_rfl))
 f330:=Tryz.func154.trans (congrArg some (by kernel_rfl))
 f331:=Tryz.func155.trans (congrArg some (by kernel_rfl))
 f332:=Tryz.func156.trans (congrArg some (by kernel_rfl))
 f343:=Tryz.func184.trans (congrArg some (by kernel_rfl))
 t0:=Tryz.underlying0
 a0:=Tryz.isAgg0
 z0:=Tryz.sizeOf0
 v0:=Tryz.zeroValue0
 t3:=Tryz.underlying3
 a3:=Tryz.isAgg3
 z3:=Tryz.sizeOf3
 v3:=Tryz.zeroValue3
 t4:=Tryz.underlying4
 a4:=Tryz.isAgg4
 z4:=Tryz.sizeOf4
 v4:=Tryz.zeroValue4
 t5:=Tryz.underlying5
 a5:=Tryz.isAgg5
 z5:=Tryz.sizeOf5
 v5:=Tryz.zeroValue5
 t9:=Tryz.underlying9
 a9:=Tryz.isAgg9
 z9:=Tryz.sizeOf9
 v9:=Tryz.zeroValue9
 t28:=Tryz.underlying39
 a28:=Tryz.isAgg39
 z28:=Tryz.sizeOf39
 v28:=Tryz.zeroValue39
 t46:=Tryz.underlying141
 a46:=Tryz.isAgg141
 z46:=Tryz.sizeOf141
 v46:=Tryz.zeroValue141
 t51:=Tryz.underlying182
 a51:=Tryz.isAgg182
 z51:=Tryz.sizeOf182
 v51:=Tryz.zeroValue182
 t53:=Tryz.underlying184
 a53:=Tryz.isAgg184
 z53:=Tryz.sizeOf184
 v53:=Tryz.zeroValue184
 t131:=Tryz.underlying107
 a131:=Tryz.isAgg107
 z131:=Tryz.sizeOf107
 v131:=Tryz.zeroValue107
 t182:=Tryz.underlying175
 a182:=Tryz.isAgg175
 z182:=Tryz.sizeOf175
 v182:=Tryz.zeroValue175
 t183:=Tryz.underlying176
 a183:=Tryz.isAgg176
 z183:=Tryz.sizeOf176
 v183:=Tryz.zeroValue176
 t218:=Tryz.underlying216
 a218:=Tryz.isAgg216
 z218:=Tryz.sizeOf216
 v218:=Tryz.zeroValue216
 t222:=Tryz.underlying220
 a222:=Tryz.isAgg220
 z222:=Tryz.sizeOf220
 v222:=Tryz.zeroValue220
 t228:=Tryz.underlying238
 a228:=Tryz.isAgg238
 z228:=Tryz.sizeOf238
 v228:=Tryz.zeroValue238
 t229:=Tryz.underlying239
 a229:=Tryz.isAgg239
 z229:=Tryz.sizeOf239
 v229:=Tryz.zeroValue239 }
open Go.Sort Go.RowKit in
theorem Tryz.slices_Sort_int (blk off cap:Nat) (zs:List Int) (w:World) (hH:Holds (Value.int .i64) w blk off zs.toArray) (hblk:blk < w.heap.size) (hsz:zs.length < 4611686018427387904) :
  Calls Tryz.prog 59 #[.slice (some ⟨blk,off,none⟩) zs.length cap] w fun e w'=>
   e=.returned (.tuple #[])∧∃ n os,w'=grow (putRow (Value.int .i64) (Sort.ahead w n) blk off (zs.mergeSort fun x y=>decide (x≤y)).toArray) os:=Any.slices_Sort_int Tryz.lays189 blk off cap zs w hH hblk hsz
end Go.Proofs
namespace Go.Proofs.YtakpgcmfjlbcgaaGreatDoor
open Go.RowKit
def FStep (P:Program) (Q:Exit→Act→World→Prop) (slots:List (Option Tmp)) (a0:Act) (F:Array Bool→(Nat→Value)→World→Prop) (n i:Nat) (o:Oper):Prop:=
 ∀ (l:Array Bool) (val:Nat→Value) (A:Act) (w:World) (K:Act→World→Prop),l.size=n→l.getD i false=false→(∀ j,depG o j=true→l.getD j false=true)→F l val w →
  (∀ s,(some s) ∉ slots→A.tmps[s]?.getD undef=a0.tmps[s]?.getD undef)→(∀ j s,slots[j]?=some (some s)→depG o j=true→A.tmps[s]?.getD undef=val j) →
  (∀ v w',F (l.setIfInBounds i true) (updV val i v) w'→K (A.put o.dst v) w')→o.wp P A w K Q
theorem wpAny_say {P:Program} {ops:Array Oper} {Q:Exit→Act→World→Prop} (slots:List (Option Tmp)) (a0:Act) (w0:World) (F:Array Bool→(Nat→Value)→World→Prop) (hdst:ops.toList.map (·.dst)=slots) (hok:slotsOk slots=true)
  (hac:(ops.toList.zipIdx.all fun q=>q.1.after.all fun e=>!Region.binds .any e || decide (e.on < q.2))=true) (hg:(ops.toList.all fun o=>o.guard.isNone)=true)
  (hsz:(slots.all fun d=>match d with | none=>true | some s=>decide (s < a0.tmps.size))=true)
  (hst:AllG (FStep P Q slots a0 F ops.size) 0 ops.toList) (start:F (Array.replicate ops.size false) (fun _=>undef) w0)
  (fin:∀ (l:Array Bool) (val:Nat→Value) (w:World),(∀ i,i < ops.size→l.getD i false=true)→F l val w→Q .normal (putsA slots val 0 a0) w):wpAny P .any ops Q ops.size (Array.replicate ops.size false) a0 w0:=by
 have hat:∀ (i:Nat) (o:Oper),ops[i]?=some o→ops.toList[i]?=some o:=fun i o h=>(Array.getElem?_toList ..).trans h
 have hlen:slots.length=ops.size:=by rw[← hdst];simp
 have hD:∀ (i:Nat) (o:Oper),ops[i]?=some o→o.dst=slotG slots i:=by
  intro i o h
  unfold slotG
  rw[← hdst,List.getElem?_map,hat i o h]
  rfl
 have hS:∀ (i:Nat),i < ops.size→slots[i]?=some (slotG slots i):=by
  intro i hi
  unfold slotG
  rw[List.getElem?_eq_getElem (by omega)]
  rfl
 have hne:∀ i j,i < ops.size→j < ops.size→j≠i→slotG slots j≠slotG slots i∨slotG slots i=none:=by
  intro i j hi hj hji
  unfold slotsOk at hok
  have h1:=List.all_eq_true.1 hok i (List.mem_range.2 (by omega))
  have h2:=List.all_eq_true.1 h1 j (List.mem_range.2 (by omega))
  simp only[Bool.or_eq_true,decide_eq_true_eq,beq_iff_eq,Option.isNone_iff_eq_none] at h2
  rcases h2 with (h2 | h2) | h2
  ·exact absurd h2 hji
  ·exact .inl h2
  ·exact .inr h2
 have hlt:∀ (j:Nat) (s:Tmp),slots[j]?=some (some s)→s < a0.tmps.size:=fun j s h=>by
  have:=List.all_eq_true.1 hsz _ (List.mem_of_getElem? h)
  simpa using this
 refine wpAny_flow (slotG slots) hD hne ?_ ?_ a0 F ?_ ?_ w0 (fun _=>undef) start
 ·intro i o h e he hbn
  have hm:(o,i) ∈ ops.toList.zipIdx:=List.mem_zipIdx_iff_getElem?.2 (hat i o h)
  have:=List.all_eq_true.1 hac _ hm
  have:=Array.all_eq_true_iff_forall_mem.1 this e he
  rw[hbn] at this
  simpa using this
 ·intro i o h
  have:=List.all_eq_true.1 hg o (List.mem_of_getElem? (hat i o h))
  simpa using this
 ·rintro l val w i o hF hl ho hf hd A K hA hK
  have hs:=hst.at (hat i o ho)
  rw[Nat.zero_add] at hs
  have ev:∀ (B:Act) (s:Tmp),B.tmps[s]?.getD undef=B.eval (.tmp s):=fun B s=>by rw[← Array.getD_eq_getD_getElem?];rfl
  refine hs l val A w K hl hf (fun j h=>depG_of h hd) hF ?_ ?_ hK
  ·intro s hs
   rw[ev,ev,hA]
   refine actsL_far _ _ fun j hj e=>hs ?_
   rw[← e]
   exact List.mem_of_getElem? (hS j (List.mem_range.1 hj))
  ·intro j s hj hdep
   have hjl:=depG_of hdep hd
   have hjs:j < ops.size:=by rw[← hlen];exact (List.getElem?_eq_some_iff.1 hj).1
   have hsl:slotG slots j=some s:=by unfold slotG;rw[hj];rfl
   rw[ev,hA,actsL_eval hjl hsl _ _ (List.mem_range.2 hjs) List.nodup_range (fun k hk hkj e=>?_) (hlt j s hj)]
   rcases hne j k hjs (List.mem_range.1 hk) hkj with h | h
   ·exact h (e.trans hsl.symm)
   ·rw[hsl] at h;cases h
 ·rintro l val w hF hall
  have h1:∀ i,i < slots.length→slots[i]?=some (slotG slots (0+i)):=fun i hi=>by rw[Nat.zero_add];exact hS i (by omega)
  have h2:∀ i,i < slots.length→l.getD (0+i) false=true:=fun i hi=>by rw[Nat.zero_add];exact hall i (by omega)
  have e:(List.range slots.length).map (0+·)=List.range ops.size:=by rw[hlen];simp
  have:=puts_all (D:=slotG slots) (l:=l) (val:=val) slots 0 a0 h1 h2
  rw[e] at this
  rw[this]
  exact fin l val w hall hF
end Go.Proofs.YtakpgcmfjlbcgaaGreatDoor

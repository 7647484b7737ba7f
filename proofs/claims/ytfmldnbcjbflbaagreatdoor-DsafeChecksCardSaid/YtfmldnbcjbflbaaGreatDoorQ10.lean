/- Tlook@2, MapI@2, Ty@2, Ylearn@2, Chain@2 -/
import Derived.Test.YtfmldnbcjbflbaaGreatDoorQ6
set_option linter.unusedSimpArgs false
set_option linter.unusedVariables false
namespace Go.Proofs.YtfmldnbcjbflbaaGreatDoor
open Lib(hid)
open Go.RowKit
theorem SlOf.decl {w w':World} {B B':Nat} {l:List De} {v:Value} (h:SlOf w B 6 (DeC w B) l v) (hb:Below B w w') (hB:B≤B'):SlOf w' B' 6 (DeC w' B') l v:=SlOf.more (SlOf.below h hb fun _ _ _ h=>h.below hb) hB fun _ _ _ h=>h.more hB
end Go.Proofs.YtfmldnbcjbflbaaGreatDoor
namespace Go.Proofs.YtfmldnbcjbflbaaGreatDoor
open Lib(hid)
open Go.RowKit Go.Maps Go.WideMaps
section
variable {P:Program} (w:World) {ops:Array Oper} {rest:List Oper} {o:Oper} {a:Act} {Q:Exit→Act→World→Prop}
theorem wpList_mapI_len (hg:o.guard=none) (m:Operand) (t:TypeId) (hop:o.op=Op.call { callee:=Callee.builtin Builtin.len,args:=#[m],argTypes:=#[t] }) (kT eT:TypeId) (ht:P.underlying t=some (.map kT eT))
  (B n:Nat) (f:List UInt8→Int) (c:Nat) (hm:a.eval m=.map (some B)) (h:MapI P w kT eT B n f c) (hK:wpList P ops Q rest (a.put o.dst (.int .i64 (c:Nat))) w):wpList P ops Q (o::rest) a w:=by
 obtain⟨D,h1,h2,h3,h4,rfl⟩:=h
 exact wpList_len_own w hg m t hop kT eT ht _ B n D hm h1 hK
variable {F:Fence} {nF:Nat}
end
end Go.Proofs.YtfmldnbcjbflbaaGreatDoor
namespace Go.Proofs.YtfmldnbcjbflbaaGreatDoor
open Lib(hid)
def learn1 (K:Kn) (t:Tm) (k:Int):Option Kn:=
 if ofK K t=k then some K else if ofK K t≠0 then none else if t.op=1 then some (K++[(nm t,k)]) else some K
def learnL:Kn→List (Tm × Int)→Option Kn
 | K,[]=>some K
 | K,(t,k)::l=>match learn1 K t k with
  | none=>none
  | some K'=>learnL K' l
def alike1 (K:Kn) (x y:Tm):Option Kn:=
 if ofK K y=0 then (if ofK K x≠0 then learn1 K y (ofK K x) else some K) else learn1 K x (ofK K y)
def alikeL:Kn→List (Tm × Tm)→Option Kn
 | K,[]=>some K
 | K,(x,y)::l=>match alike1 K x y with
  | none=>none
  | some K'=>alikeL K' l
theorem look_snoc {K:Kn} {s n:List UInt8} {k:Int} (h:look K s=0) (h0:∀ x ∈ K,x.2≠0):look (K++[(s,k)]) n=if n=s then k else look K n:=by
 induction K with
 | nil=>
  show (if s=n then k else 0)=_
  by_cases e:n=s
  ·rw[if_pos e,if_pos e.symm]
  ·rw[if_neg e,if_neg (Ne.symm e)];rfl
 | cons x K ih=>
  obtain⟨a,b⟩:=x
  have hb:b≠0:=h0 (a,b) (List.mem_cons_self ..)
  have ha:a≠s:=by
   rintro rfl
   exact hb (by simpa[look] using h)
  have hK:look K s=0:=by simpa[look,ha] using h
  have ih:=ih hK (fun x hx=>h0 x (List.mem_cons_of_mem _ hx))
  show (if a=n then b else look (K++[(s,k)]) n)=_
  rw[ih]
  by_cases e:n=s
  ·subst e
   rw[if_neg ha]
   simp
  ·rw[if_neg e,if_neg e]
   rfl
theorem learn_cases {K K':Kn} {t:Tm} {k:Int} (h:learn1 K t k=some K'):(ofK K t=k∧K'=K)∨(ofK K t=0∧t.op≠1∧K'=K)∨(t.op=1∧look K (nm t)=0∧k≠0∧K'=K++[(nm t,k)]):=by
 unfold learn1 at h
 by_cases h1:ofK K t=k
 ·rw[if_pos h1] at h;cases h;exact .inl ⟨h1,rfl⟩
 ·rw[if_neg h1] at h
  by_cases h2:ofK K t≠0
  ·rw[if_pos h2] at h;cases h
  ·rw[if_neg h2] at h
   have h2:ofK K t=0:=Decidable.not_not.1 h2
   by_cases h3:t.op=1
   ·rw[if_pos h3] at h;cases h
    refine .inr (.inr ⟨h3,?_,?_,rfl⟩)
    ·unfold ofK at h2;rw[if_pos h3] at h2;exact h2
    ·rintro rfl;exact h1 h2
   ·rw[if_neg h3] at h;cases h
    exact .inr (.inl ⟨h2,h3,rfl⟩)
theorem learn_step {b:List (Tm × Int)} {p:List (Tm × Tm)} {K K':Kn} {t:Tm} {k:Int} (hK:KnOk K) (hs:Sound b p K) (h:learn1 K t k=some K') (hd:t.op=1→k≠0→Der b p (nm t) k):Step b p K K'∧(ofK K' t=k∨(t.op≠1∧tyC t=0)):=by
 rcases learn_cases h with ⟨h1,rfl⟩ | ⟨h1,h2,rfl⟩ | ⟨h1,h2,h3,rfl⟩
 ·exact⟨⟨hK,.refl _,hs,Nat.le_refl _,fun _=>rfl⟩,.inl h1⟩
 ·refine⟨⟨hK,.refl _,hs,Nat.le_refl _,fun _=>rfl⟩,.inr ⟨h2,?_⟩⟩
  unfold ofK at h1;rw[if_neg h2] at h1;exact h1
 ·have hl:∀ n,look (K++[(nm t,k)]) n=if n=nm t then k else look K n:=fun n=>look_snoc h2 hK.pos
  refine⟨⟨hK.snoc h2 h3,fun s hs=>?_,fun s hs'=>?_,by simp,fun e=>by simp at e⟩,.inl ?_⟩
  ·rw[hl,if_neg (by rintro rfl;exact hs h2)]
  ·rw[hl] at hs' ⊢
   by_cases e:s=nm t
   ·rw[if_pos e] at hs' ⊢;subst e;exact hd h1 h3
   ·rw[if_neg e] at hs' ⊢;exact hs s hs'
  ·unfold ofK;rw[if_pos h1,hl,if_pos rfl]
theorem learnL_step {b:List (Tm × Int)} {p:List (Tm × Tm)}:∀ {l:List (Tm × Int)} {K K':Kn},KnOk K→Sound b p K→learnL K l=some K'→(∀ x ∈ l,x ∈ b)→Step b p K K'∧∀ x ∈ l,ofK K' x.1=x.2∨x.2=0∨(x.1.op≠1∧tyC x.1=0)
 | [],K,K',hK,hs,h,_=>by cases h;exact⟨⟨hK,.refl _,hs,Nat.le_refl _,fun _=>rfl⟩,fun x hx=>by cases hx⟩
 | (t,k)::l,K,K',hK,hs,h,hb=>by
  unfold learnL at h
  cases h1:learn1 K t k with
  | none=>rw[h1] at h;cases h
  | some K1=>
   rw[h1] at h
   obtain⟨s1,e1⟩:=learn_step hK hs h1 (fun hv _=>.base (hb _ (List.mem_cons_self ..)) hv)
   obtain⟨s2,e2⟩:=learnL_step s1.ok s1.snd h (fun x hx=>hb x (List.mem_cons_of_mem _ hx))
   refine⟨s1.trans s2,fun x hx=>?_⟩
   rcases List.mem_cons.1 hx with rfl | hx
   ·rcases e1 with e1 | e1
    ·by_cases hk:k=0
     ·exact .inr (.inl hk)
     ·exact .inl ((s2.le.of (by rw[e1];exact hk)).trans e1)
    ·exact .inr (.inr e1)
   ·exact e2 x hx
theorem alike_step {b:List (Tm × Int)} {p:List (Tm × Tm)} {K K':Kn} {x y:Tm} (hK:KnOk K) (hs:Sound b p K) (h:alike1 K x y=some K') (hp:(x,y) ∈ p):Step b p K K':=by
 have self:Step b p K K:=⟨hK,.refl _,hs,Nat.le_refl _,fun _=>rfl⟩
 unfold alike1 at h
 by_cases h1:ofK K y=0
 ·rw[if_pos h1] at h
  by_cases h2:ofK K x≠0
  ·rw[if_pos h2] at h
   refine (learn_step hK hs h fun hv _=>?_).1
   obtain⟨h3,⟨h4,h5⟩ | ⟨h4,h5⟩⟩:=hs.has h2
   ·exact .rv hp hv h4 h5
   ·exact .rc hp hv h4 h5 h3
  ·rw[if_neg h2] at h;cases h;exact self
 ·rw[if_neg h1] at h
  refine (learn_step hK hs h fun hv _=>?_).1
  obtain⟨h3,⟨h4,h5⟩ | ⟨h4,h5⟩⟩:=hs.has h1
  ·exact .lv hp hv h4 h5
  ·exact .lc hp hv h4 h5 h3
theorem alikeL_step {b:List (Tm × Int)} {p:List (Tm × Tm)}:∀ {l:List (Tm × Tm)} {K K':Kn},KnOk K→Sound b p K→alikeL K l=some K'→(∀ x ∈ l,x ∈ p)→Step b p K K'
 | [],K,K',hK,hs,h,_=>by cases h;exact⟨hK,.refl _,hs,Nat.le_refl _,fun _=>rfl⟩
 | (x,y)::l,K,K',hK,hs,h,hp=>by
  unfold alikeL at h
  cases h1:alike1 K x y with
  | none=>rw[h1] at h;cases h
  | some K1=>
   rw[h1] at h
   have s1:=alike_step hK hs h1 (hp _ (List.mem_cons_self ..))
   exact s1.trans (alikeL_step s1.ok s1.snd h (fun z hz=>hp z (List.mem_cons_of_mem _ hz)))
theorem alike_still {K:Kn} {x y:Tm} (h:alike1 K x y=some K):ofK K x=ofK K y∨(ofK K x=0∧x.op≠1)∨(ofK K y=0∧y.op≠1):=by
 have no:∀ {t:Tm} {k:Int},learn1 K t k=some K→ofK K t=k∨(ofK K t=0∧t.op≠1):=by
  intro t k h
  rcases learn_cases h with ⟨h1,_⟩ | ⟨h1,h2,_⟩ | ⟨_,_,_,h4⟩
  ·exact .inl h1
  ·exact .inr ⟨h1,h2⟩
  ·have:=congrArg List.length h4;simp at this
 unfold alike1 at h
 by_cases h1:ofK K y=0
 ·rw[if_pos h1] at h
  by_cases h2:ofK K x≠0
  ·rw[if_pos h2] at h
   rcases no h with h | h
   ·exact .inl h.symm
   ·exact .inr (.inr h)
  ·exact .inl ((Decidable.not_not.1 h2).trans h1.symm)
 ·rw[if_neg h1] at h
  rcases no h with h | h
  ·exact .inl h
  ·exact .inr (.inl h)
theorem alikeL_still {b:List (Tm × Int)} {p:List (Tm × Tm)}:∀ {l:List (Tm × Tm)} {K:Kn},KnOk K→Sound b p K→alikeL K l=some K→(∀ x ∈ l,x ∈ p)→∀ x ∈ l,alike1 K x.1 x.2=some K
 | [],_,_,_,_,_,x,hx=>by cases hx
 | (x,y)::l,K,hK,hs,h,hp,z,hz=>by
  unfold alikeL at h
  cases h1:alike1 K x y with
  | none=>rw[h1] at h;cases h
  | some K1=>
   rw[h1] at h
   have s1:=alike_step hK hs h1 (hp _ (List.mem_cons_self ..))
   have s2:=alikeL_step s1.ok s1.snd h (fun z hz=>hp z (List.mem_cons_of_mem _ hz))
   have e1:K1=K:=s1.same (by have:=s1.len;have:=s2.len;omega)
   subst e1
   rcases List.mem_cons.1 hz with rfl | hz
   ·exact h1
   ·exact alikeL_still hK hs h (fun z hz=>hp z (List.mem_cons_of_mem _ hz)) z hz
theorem known_all {b:List (Tm × Int)} {p:List (Tm × Tm)} {K:Kn} (hb:∀ x ∈ b,ofK K x.1=x.2∨x.2=0∨(x.1.op≠1∧tyC x.1=0)) (h0:∀ x ∈ b,x.2≠0) (hp:∀ x ∈ p,alike1 K x.1 x.2=some K) {s:List UInt8} {k:Int} (h:Der b p s k):look K s=k∧k≠0:=by
 have ofv:∀ {t:Tm},t.op=1→ofK K t=look K (nm t):=fun h=>by unfold ofK;rw[if_pos h]
 have ofc:∀ {t:Tm},t.op≠1→ofK K t=tyC t:=fun h=>by unfold ofK;rw[if_neg h]
 induction h with
 | @base t k h1 h2=>
  rcases hb _ h1 with h | h | h
  ·rw[ofv h2] at h;exact⟨h,h0 _ h1⟩
  ·exact absurd h (h0 _ h1)
  ·exact absurd h2 h.1
 | @lc x y k h1 h2 h3 h4 h5=>
  rcases alike_still (hp _ h1) with h | h | h
  ·rw[ofv h2,ofc h3] at h;exact⟨h.trans h4,h5⟩
  ·exact absurd h2 h.2
  ·rw[ofc h3,h4] at h;exact absurd h.1 h5
 | @lv x y k h1 h2 h3 _ ih=>
  rcases alike_still (hp _ h1) with h | h | h
  ·rw[ofv h2,ofv h3] at h;exact⟨h.trans ih.1,ih.2⟩
  ·exact absurd h2 h.2
  ·exact absurd h3 h.2
 | @rc x y k h1 h2 h3 h4 h5=>
  rcases alike_still (hp _ h1) with h | h | h
  ·rw[ofv h2,ofc h3] at h;exact⟨h.symm.trans h4,h5⟩
  ·rw[ofc h3,h4] at h;exact absurd h.1 h5
  ·exact absurd h2 h.2
 | @rv x y k h1 h2 h3 _ ih=>
  rcases alike_still (hp _ h1) with h | h | h
  ·rw[ofv h2,ofv h3] at h;exact⟨h.symm.trans ih.1,ih.2⟩
  ·exact absurd h3 h.2
  ·exact absurd h2 h.2
theorem learn_none {b:List (Tm × Int)} {p:List (Tm × Tm)} {K:Kn} {t:Tm} {k:Int} (_:Sound b p K) (h:learn1 K t k=none):ofK K t≠0∧ofK K t≠k:=by
 unfold learn1 at h
 by_cases h1:ofK K t=k
 ·rw[if_pos h1] at h;cases h
 ·rw[if_neg h1] at h
  by_cases h2:ofK K t≠0
  ·exact⟨h2,h1⟩
  ·rw[if_neg h2] at h
   by_cases h3:t.op=1
   ·rw[if_pos h3] at h;cases h
   ·rw[if_neg h3] at h;cases h
theorem learnL_none {b:List (Tm × Int)} {p:List (Tm × Tm)} (hn:NoConf b p) (h0:∀ x ∈ b,x.2≠0):∀ {l:List (Tm × Int)} {K:Kn},KnOk K→Sound b p K→(∀ x ∈ l,x ∈ b)→∃ K',learnL K l=some K'
 | [],K,_,_,_=>⟨K,rfl⟩
 | (t,k)::l,K,hK,hs,hb=>by
  have hm:=hb _ (List.mem_cons_self ..)
  cases h1:learn1 K t k with
  | none=>
   obtain⟨h2,h3⟩:=learn_none hs h1
   obtain⟨_,⟨h4,h5⟩ | ⟨h4,h5⟩⟩:=hs.has h2
   ·exact absurd (hn.one _ _ _ h5 (.base hm h4)) h3
   ·rcases hn.con t k hm h4 with h | h
    ·rw[h] at h5;exact absurd h5.symm h2
    ·rw[h] at h5;exact absurd h5.symm h3
  | some K1=>
   obtain⟨s1,_⟩:=learn_step hK hs h1 (fun hv _=>.base hm hv)
   obtain⟨K',h⟩:=learnL_none hn h0 s1.ok s1.snd (fun x hx=>hb x (List.mem_cons_of_mem _ hx))
   exact⟨K',by unfold learnL;rw[h1];exact h⟩
theorem alikeL_none {b:List (Tm × Int)} {p:List (Tm × Tm)} (hn:NoConf b p):∀ {l:List (Tm × Tm)} {K:Kn},KnOk K→Sound b p K→(∀ x ∈ l,x ∈ p)→∃ K',alikeL K l=some K'
 | [],K,_,_,_=>⟨K,rfl⟩
 | (x,y)::l,K,hK,hs,hp=>by
  have hm:=hp _ (List.mem_cons_self ..)
  have good:∃ K1,alike1 K x y=some K1:=by
   unfold alike1
   by_cases h1:ofK K y=0
   ·rw[if_pos h1]
    by_cases h2:ofK K x≠0
    ·rw[if_pos h2]
     cases h3:learn1 K y (ofK K x) with
     | some K1=>exact⟨K1,rfl⟩
     | none=>exact absurd h1 (learn_none hs h3).1
    ·rw[if_neg h2];exact⟨K,rfl⟩
   ·rw[if_neg h1]
    cases h3:learn1 K x (ofK K y) with
    | some K1=>exact⟨K1,rfl⟩
    | none=>
     obtain⟨h4,h5⟩:=learn_none hs h3
     obtain⟨g1,⟨g2,g3⟩ | ⟨g2,g3⟩⟩:=hs.has h1
     ·obtain⟨_,⟨f2,f3⟩ | ⟨f2,f3⟩⟩:=hs.has h4
      ·exact absurd (hn.one _ _ _ f3 (.lv hm f2 g2 g3)) h5
      ·exact absurd (hn.one _ _ _ (.rc hm g2 f2 f3 h4) g3) h5
     ·obtain⟨_,⟨f2,f3⟩ | ⟨f2,f3⟩⟩:=hs.has h4
      ·exact absurd (hn.one _ _ _ f3 (.lc hm f2 g2 g3 g1)) h5
      ·rcases hn.two x y hm f2 g2 with h | h | h
       ·rw[h] at f3;exact absurd f3.symm h4
       ·rw[h] at g3;exact absurd g3.symm g1
       ·rw[f3,g3] at h;exact absurd h h5
  obtain⟨K1,h1⟩:=good
  have s1:=alike_step hK hs h1 hm
  obtain⟨K',h⟩:=alikeL_none hn s1.ok s1.snd (fun z hz=>hp z (List.mem_cons_of_mem _ hz))
  exact⟨K',by unfold alikeL;rw[h1];exact h⟩
inductive Rounds (p:List (Tm × Tm)):Kn→Option Kn→Prop
 | bad {K:Kn}:alikeL K p=none→Rounds p K none
 | still {K K':Kn}:alikeL K p=some K'→K'.length=K.length→Rounds p K (some K')
 | more {K K':Kn} {r:Option Kn}:alikeL K p=some K'→K.length < K'.length→Rounds p K' r→Rounds p K r
theorem rounds_some {b:List (Tm × Int)} {p:List (Tm × Tm)} {K:Kn} {r:Option Kn} (h:Rounds p K r) (hK:KnOk K) (hs:Sound b p K):(∀ K',r=some K'→Step b p K K'∧∀ x ∈ p,alike1 K' x.1 x.2=some K')∧(r=none→¬ NoConf b p):=by
 induction h with
 | bad h1=>
  refine⟨fun _ h=>(by cases h),fun _ hn=>?_⟩
  obtain⟨K',h⟩:=alikeL_none hn hK hs (fun _ h=>h)
  rw[h1] at h;cases h
 | still h1 h2=>
  refine⟨fun K2 h=>?_,fun h=>by cases h⟩
  cases h
  have s1:=alikeL_step hK hs h1 (fun _ h=>h)
  have e:=s1.same h2
  subst e
  exact⟨s1,alikeL_still hK hs h1 (fun _ h=>h)⟩
 | more h1 h2 _ ih=>
  have s1:=alikeL_step hK hs h1 (fun _ h=>h)
  obtain⟨i1,i2⟩:=ih s1.ok s1.snd
  exact⟨fun K2 h=>⟨s1.trans (i1 K2 h).1,(i1 K2 h).2⟩,i2⟩
theorem types_all {b:List (Tm × Int)} {p:List (Tm × Tm)} (h0:∀ x ∈ b,x.2≠0):(learnL [] b=none→¬ NoConf b p)∧∀ K r,learnL [] b=some K→Rounds p K r→(r=none→¬ NoConf b p)∧∀ K',r=some K'→NoConf b p∧(∀ s k,k≠0→(look K' s=k ↔ Der b p s k))∧KnOk K':=by
 have hK0:KnOk []:=⟨fun _ h=>(by cases h),List.nodup_nil⟩
 have hs0:Sound b p []:=fun s h=>absurd rfl h
 refine⟨fun h hn=>?_,fun K r h1 h2=>?_⟩
 ·obtain⟨K',h'⟩:=learnL_none hn h0 hK0 hs0 (fun _ h=>h)
  rw[h] at h';cases h'
 ·obtain⟨s1,e1⟩:=learnL_step hK0 hs0 h1 (fun _ h=>h)
  obtain⟨i1,i2⟩:=rounds_some h2 s1.ok s1.snd
  refine⟨i2,fun K' h=>?_⟩
  obtain⟨s2,e2⟩:=i1 K' h
  have hb:∀ x ∈ b,ofK K' x.1=x.2∨x.2=0∨(x.1.op≠1∧tyC x.1=0):=by
   intro x hx
   rcases e1 x hx with h | h
   ·exact .inl ((s2.le.of (by rw[h];exact h0 x hx)).trans h)
   ·exact .inr h
  have key:=fun {s:List UInt8} {k:Int} (h:Der b p s k)=>known_all hb h0 e2 h
  refine⟨⟨fun s k k' d1 d2=>(key d1).1.symm.trans (key d2).1,fun t k hm hv=>?_,fun x y hm hx hy=>?_⟩,fun s k hk=>⟨fun e=>by subst e;exact s2.snd s hk,fun d=>(key d).1⟩,s2.ok⟩
  ·rcases hb _ hm with h | h | h
   ·unfold ofK at h;rw[if_neg hv] at h;exact .inr h
   ·exact absurd h (h0 _ hm)
   ·exact .inl h.2
  ·have ofc:∀ {t:Tm},t.op≠1→ofK K' t=tyC t:=fun h=>by unfold ofK;rw[if_neg h]
   rcases alike_still (e2 _ hm) with h | h | h
   ·rw[ofc hx,ofc hy] at h;exact .inr (.inr h)
   ·rw[ofc hx] at h;exact .inl h.1
   ·rw[ofc hy] at h;exact .inr (.inl h.1)
end Go.Proofs.YtfmldnbcjbflbaaGreatDoor
namespace Go.Proofs.YtfmldnbcjbflbaaGreatDoor
open Lib(hid)
open Go.RowKit
theorem boxY {W W1:World} {B:Nat} (n:Nat) (hb:Below B W W1) (hn:n < B):(∀ o,W1.cell? ⟨n,o,none⟩=W.cell? ⟨n,o,none⟩)∧(∀ o,W1.frozen? ⟨n,o,none⟩=W.frozen? ⟨n,o,none⟩):=
 ⟨fun o=>hb.cell (p:=⟨n,o,none⟩) hn,fun o=>hb.frozen (p:=⟨n,o,none⟩) hn⟩
theorem look_ty {K:Kn} (h:∀ x ∈ K,x.2=1∨x.2=2) (s:List UInt8):look K s=0∨look K s=1∨look K s=2:=by
 induction K with
 | nil=>exact .inl rfl
 | cons x K ih=>
  obtain⟨a,k⟩:=x
  show (if a=s then k else look K s)=0∨(if a=s then k else look K s)=1∨(if a=s then k else look K s)=2
  by_cases e:a=s
  ·rw[if_pos e];exact .inr (h (a,k) (List.mem_cons_self ..))
  ·rw[if_neg e];exact ih (fun x hx=>h x (List.mem_cons_of_mem _ hx))
theorem ofK_ty {K:Kn} (h:∀ x ∈ K,x.2=1∨x.2=2) (t:Tm):ofK K t=0∨ofK K t=1∨ofK K t=2:=by
 unfold ofK tyC
 by_cases e:t.op=1
 ·rw[if_pos e];exact look_ty h _
 ·rw[if_neg e]
  by_cases e2:t.op=2∨t.op=5∨t.op=6∨t.op=7
  ·rw[if_pos e2];exact .inr (.inl rfl)
  ·rw[if_neg e2]
   by_cases e3:t.op=3
   ·rw[if_pos e3];exact .inr (.inr rfl)
   ·rw[if_neg e3];exact .inl rfl
set_option maxRecDepth 100000 in
set_option maxHeartbeats 4000000 in
theorem of_c (t:Tm) (cs:List Value) (B n₀:Nat) (V:List (List UInt8)) (K:Kn) (w:World) (hc:TmC w n₀ t cs) (hM:KnM V w B K) :
  Calls Tryz.prog 145 #[.map (some B),.agg cs.toArray] w fun e w'=>e=.returned (.int .i64 (ofK K t))∧Below w.heap.size w w':=by
 obtain⟨v,rfl,_,hsz,_⟩:=hc.parts
 have zE:∀ w:World,(zeroValue 3).run Tryz.prog w=.ok (.int .i64 0) w:=fun w=>by kernel_rfl
 have hB0:∀ x:Obj,Hid (Below w.heap.size w (w.alloc x)):=fun x=>hid ((Below.refl _ _).alloc (Nat.le_refl _) _)
 have HM:=hid hM.map
 clear hM hc
 by_cases h1:t.op=1
 ·have Hq:Hid (ofK K t=look K t.s.data.toList):=hid (by unfold ofK;rw[if_pos h1];rfl)
  go_enter Tryz.func145,Tryz.ntmps145
  go_wp2_with (at_lookup;refine wpList_mapI_get _ rfl _ _ 87 rfl 9 3 Tryz.underlying87 Tryz.underlying9 Tryz.underlying3 (zE _) B _ (look K) _ rfl (HM.out.alloc _) t.s rfl hsz ?_;intro _)
  go_ret
  exact⟨by rw[Hq.out];rfl,(hB0 _).out⟩
 ·by_cases h2:t.op=2∨t.op=5∨t.op=6∨t.op=7
  ·have Hq:Hid (ofK K t=1):=hid (by unfold ofK tyC;rw[if_neg h1,if_pos h2])
   rcases h2 with h2 | h2 | h2 | h2
   all_goals
    go_enter Tryz.func145,Tryz.ntmps145
    go_wp2
    go_ret
    exact⟨by rw[Hq.out];rfl,(hB0 _).out⟩
  ·have g2:t.op≠2:=fun h=>h2 (.inl h)
   have g5:t.op≠5:=fun h=>h2 (.inr (.inl h))
   have g6:t.op≠6:=fun h=>h2 (.inr (.inr (.inl h)))
   have g7:t.op≠7:=fun h=>h2 (.inr (.inr (.inr h)))
   by_cases h3:t.op=3
   ·have Hq:Hid (ofK K t=2):=hid (by unfold ofK tyC;rw[if_neg h1,if_neg h2,if_pos h3])
    clear h2
    go_enter Tryz.func145,Tryz.ntmps145
    go_wp2
    go_ret
    exact⟨by rw[Hq.out];rfl,(hB0 _).out⟩
   ·have Hq:Hid (ofK K t=0):=hid (by unfold ofK tyC;rw[if_neg h1,if_neg h2,if_neg h3])
    clear h2
    go_enter Tryz.func145,Tryz.ntmps145
    go_wp2
    go_ret
    exact⟨by rw[Hq.out];rfl,(hB0 _).out⟩
set_option maxRecDepth 100000 in
set_option maxHeartbeats 4000000 in
theorem learn_c (t:Tm) (k:Int) (cs:List Value) (B n₀:Nat) (V:List (List UInt8)) (hV:V.length≤1000000) (K:Kn) (a b c d:Addr) (w:World) (hc:TmC w n₀ t cs) (hB:n₀≤B) (hM:KnM V w B K) (hv:t.op=1→nm t ∈ V) (hk:k=1∨k=2) (E:YEnv n₀ a b c d w) :
  Calls Tryz.prog 123 #[.map (some B),.agg cs.toArray,.int .i64 k] w (LearnR V w B a (learn1 K t k)):=by
 obtain⟨v,rfl,_,hsz,_⟩:=hc.parts
 have hB1:=hM.lt
 have hg0:∀ (x:Obj),Hid (w.grownBy (w.alloc x) (some B)):=fun x=>hid (World.grownBy_alloc w x _)
 have HO:=hid (fun (W:World) (hb:Below w.heap.size w W)=>of_c t _ B n₀ V K W (TmC.under hc (hb.mono (by omega))) (hM.below hb hB1))
 have HE:=hid E
 have HM:=hid hM
 have HK2:=hid hk
 have hk1:(k == 0)=false:=by rcases hk with rfl | rfl <;> rfl
 clear hM E hc
 go_enter Tryz.func123,Tryz.ntmps123
 go_wp2_with fail
 refine (HO.out _ ((Below.refl _ _).alloc (Nat.le_refl _) _)).mono ?_
 rintro e w1 ⟨rfl,b1⟩
 have B1:Below w.heap.size w w1:=((Below.refl _ _).alloc (Nat.le_refl _) _).trans (b1.mono (by simp))
 have G1:=hid (gB B1 (some B))
 by_cases h1:ofK K t=k
 ·have Hq:Hid (learn1 K t k=some K):=hid (by unfold learn1;rw[if_pos h1])
  have h1':(ofK K t == k)=true:=by simpa using h1
  go_wp2
  go_ret
  rw[Hq.out]
  exact .good (HM.out.below B1 hB1) G1.out
 ·have h1':(ofK K t == k)=false:=by simpa using h1
  obtain⟨hc1,hf1⟩:=boxY w.heap.size b1 (by simp)
  by_cases h2:ofK K t=0
  ·have h2':(ofK K t != 0)=false:=by simpa using h2
   by_cases h3:t.op=1
   ·have hl:look K (nm t)=0:=by unfold ofK at h2;rwa [if_pos h3] at h2
    have hk0:k≠0:=by rcases hk with rfl | rfl <;> decide
    have Hq:Hid (learn1 K t k=some (K++[(nm t,k)])):=hid (by unfold learn1;rw[if_neg h1,if_neg (fun h=>h h2),if_pos h3])
    have HM1:=hid (HM.out.below B1 hB1)
    have hlen:=HM.out.len
    have hf:updF (look K) t.s.data.toList k=look (K++[(nm t,k)]):=by
     funext s
     rw[look_snoc hl HM.out.ok.pos]
     rfl
    have Hf:=hid hf
    have hle:Hid (K.length < maxLen):=hid (by unfold maxLen;omega)
    have hw:Hid ((Lit.int .i64 k).wf=true):=hid (by rcases hk with rfl | rfl <;> rfl)
    have Hk0:=hid hk0
    have Hl:=hid hl
    have Hv:=hid (hv h3)
    clear hf hk0 hl hv hk h1 h2
    go_wp2_with (at_mapUpdate;refine wpList_mapI_put _ rfl _ _ _ 87 rfl 9 3 Tryz.underlying87 Tryz.underlying9 Tryz.underlying3 B _ (look K) _ rfl HM1.out.map hle.out t.s k rfl rfl hsz Hk0.out hw.out ?_;intro w2 hm2 hg2)
    go_ret
    rw[Hq.out]
    refine .good ⟨?_,HM.out.ok.snoc Hl.out Hk0.out,?_,?_⟩ (G1.out.trans hg2)
    ·rw[Hf.out,if_pos (show look K t.s.data.toList=0 from Hl.out)] at hm2
     simpa using hm2
    ·intro x hx
     rcases List.mem_append.1 hx with hx | hx
     ·exact HM.out.sub x hx
     ·cases List.mem_singleton.1 hx;exact Hv.out
    ·intro x hx
     rcases List.mem_append.1 hx with hx | hx
     ·exact HM.out.ty x hx
     ·cases List.mem_singleton.1 hx;exact HK2.out
   ·have Hq:Hid (learn1 K t k=some K):=hid (by unfold learn1;rw[if_neg h1,if_neg (fun h=>h h2),if_neg h3])
    go_wp2
    go_ret
    rw[Hq.out]
    exact .good (HM.out.below B1 hB1) G1.out
  ·have h2':(ofK K t != 0)=true:=by simpa using h2
   have Hq:Hid (learn1 K t k=none):=hid (by unfold learn1;rw[if_neg h1,if_pos h2])
   have cg:=(HE.out.below (B1.mono (by omega))).ty
   unfold errV at cg
   go_wp2
   go_ret
   rw[Hq.out]
   exact .bad G1.out
end Go.Proofs.YtfmldnbcjbflbaaGreatDoor
namespace Go.Proofs.YtfmldnbcjbflbaaGreatDoor
open Lib(hid)
open Go.RowKit
structure Kp (T:Nat→Prop) (w0 w:World):Prop where
 os:w.os=w0.os
 tape:w.tape=w0.tape
 output:w.output=w0.output
 size:w0.heap.size≤w.heap.size
 block:∀ i,i < w0.heap.size→¬ T i→w.heap[i]?=w0.heap[i]?
theorem Kp.refl (T:Nat→Prop) (w:World):Kp T w w:=⟨rfl,rfl,rfl,Nat.le_refl _,fun _ _ _=>rfl⟩
theorem Kp.grown {T:Nat→Prop} {w0 w w':World} {row:Option Nat} (h:Kp T w0 w) (g:w.grownBy w' row) (hr:∀ b,row=some b→w0.heap.size≤b∨T b):Kp T w0 w':=
 ⟨g.os.trans h.os,g.tape.trans h.tape,g.output.trans h.output,Nat.le_trans h.size g.size,fun i hi ht=>(g.block i (Nat.lt_of_lt_of_le hi h.size) (fun e=>(hr i e.symm).elim (fun h=>absurd hi (by omega)) ht)).trans (h.block i hi ht)⟩
def chIdx (ch:List Nat) (i:Nat):Option Nat:=ch.findIdx? fun c=>c == i
def factV (Rs:List (Value→Prop)) (j:Nat) (v:Value):Prop:=∀ p,Rs[j]?=some p→p v
def PStep (P:Program) (Q:Exit→Act→World→Prop) (slots:List (Option Tmp)) (Rs:List (Value→Prop)) (T:Nat→Prop) (a0:Act) (w0:World) (i:Nat) (o:Oper):Prop:=
 ∀ (A:Act) (w:World) (K:Act→World→Prop),Kp T w0 w→(∀ s,(some s) ∉ slots→A.tmps[s]?.getD undef=a0.tmps[s]?.getD undef) →
  (∀ j s,slots[j]?=some (some s)→depG o j=true→factV Rs j (A.tmps[s]?.getD undef))→(∀ v,factV Rs i v→K (A.put o.dst v) w)→o.wp P A w K Q
def CStep (P:Program) (Q:Exit→Act→World→Prop) (slots:List (Option Tmp)) (ch:List Nat) (Rs:List (Value→Prop)) (Sg:Nat→(Nat→Value)→World→Prop) (T:Nat→Prop) (a0:Act) (w0:World) (k i:Nat) (o:Oper):Prop:=
 ∀ (A:Act) (w:World) (val:Nat→Value) (K:Act→World→Prop),Kp T w0 w→(∀ s,(some s) ∉ slots→A.tmps[s]?.getD undef=a0.tmps[s]?.getD undef) →
  (∀ j s,slots[j]?=some (some s)→depG o j=true→factV Rs j (A.tmps[s]?.getD undef)∧A.tmps[s]?.getD undef=val j)→Sg k val w →
  (∀ v w',Kp T w0 w'→factV Rs i v→Sg (k+1) (updV val i v) w'→K (A.put o.dst v) w')→o.wp P A w K Q
def XStep (P:Program) (Q:Exit→Act→World→Prop) (slots:List (Option Tmp)) (ch:List Nat) (Rs:List (Value→Prop)) (Sg:Nat→(Nat→Value)→World→Prop) (T:Nat→Prop) (a0:Act) (w0:World) (i:Nat) (o:Oper):Prop:=
 (chIdx ch i=none→PStep P Q slots Rs T a0 w0 i o)∧∀ k,chIdx ch i=some k→(∀ j c,k=j+1→ch[j]?=some c→depG o c=true)∧CStep P Q slots ch Rs Sg T a0 w0 k i o
theorem XStep.p {P:Program} {Q:Exit→Act→World→Prop} {slots:List (Option Tmp)} {ch:List Nat} {Rs:List (Value→Prop)} {Sg:Nat→(Nat→Value)→World→Prop} {T:Nat→Prop} {a0:Act} {w0:World} {i:Nat} {o:Oper} (h:chIdx ch i=none) (hp:PStep P Q slots Rs T a0 w0 i o):XStep P Q slots ch Rs Sg T a0 w0 i o:=
 ⟨fun _=>hp,fun k hk=>by rw[h] at hk;cases hk⟩
end Go.Proofs.YtfmldnbcjbflbaaGreatDoor

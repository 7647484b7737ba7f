/- Rm25@2 -/
import Derived.Test.YtdgbajnhhhjbcaaGreatDoorQ28
import Derived.Test.YtdgbajnhhhjbcaaGreatDoorQ30
import Derived.Test.YtdgbajnhhhjbcaaGreatDoorQ48
import Derived.Test.YtdgbajnhhhjbcaaGreatDoorQ57
import Derived.Test.YtdgbajnhhhjbcaaGreatDoorQ49
set_option linter.unusedSimpArgs false
set_option linter.unusedVariables false
namespace Go.Proofs.YtdgbajnhhhjbcaaGreatDoor
open Go.RowKit
theorem Laid.app {α:Type} {z:Nat} {L:α→List Value→Prop} {l m:List α} {xs ys:List Value} (h:Laid z L l xs) (k:Laid z L m ys):Laid z L (l++m) (xs++ys):=by
 refine⟨by rw[List.length_append,List.length_append,h.1,k.1,Nat.add_mul],fun i x hx=>?_⟩
 rcases Nat.lt_or_ge i l.length with hi | hi
 ·rw[List.getElem?_append_left hi] at hx
  obtain⟨cs,c1,c2,c3⟩:=h.2 i x hx
  refine⟨cs,c1,c2,fun j c hj=>?_⟩
  have:=c3 j c hj
  rw[List.getElem?_append_left (List.getElem?_eq_some_iff.1 this).1]
  exact this
 ·rw[List.getElem?_append_right hi] at hx
  obtain⟨cs,c1,c2,c3⟩:=k.2 _ x hx
  refine⟨cs,c1,c2,fun j c hj=>?_⟩
  have:=c3 j c hj
  have e:i * z+j - xs.length=(i - l.length) * z+j:=by
   rw[h.1,Nat.sub_mul]
   have:l.length * z≤i * z:=Nat.mul_le_mul_right _ hi
   omega
  rw[List.getElem?_append_right (by rw[h.1];have:l.length * z≤i * z:=Nat.mul_le_mul_right _ hi;omega),e]
  exact this
theorem sl_laid {α:Type} {w:World} {B z:Nat} {R:α→List Value→Prop} {l:List α} {v:Value} (h:SlOf w B z R l v) (h1:∀ x cs,R x cs→∀ u ∈ cs,u.oneCell'=true):∃ xs,Laid z R l xs∧Spread w z v l.length xs:=by
 rcases h with ⟨rfl,rfl⟩ | ⟨a,cap,rfl,_,_,_,h5⟩
 ·exact⟨[],Laid.nil,.inl ⟨rfl,rfl,rfl⟩⟩
 ·have key:∀ k,k≤l.length→∃ xs,Laid z R (l.take k) xs∧(∀ j u,xs[j]?=some u→w.cell? (a.add j)=some u)∧∀ u ∈ xs,u.oneCell'=true:=by
   intro k
   induction k with
   | zero=>intro _;exact⟨[],by simpa using Laid.nil,fun j u hu=>by simp at hu,fun u hu=>by simp at hu⟩
   | succ k ih=>
    intro hk
    obtain⟨xs,e1,e2,e3⟩:=ih (by omega)
    have hx:l[k]?=some l[k]:=List.getElem?_eq_getElem (by omega)
    obtain⟨cs,c1,c2,c3⟩:=h5 k _ hx
    have hl:xs.length=k * z:=by rw[e1.1,List.length_take,Nat.min_eq_left (by omega)]
    refine⟨xs++cs,?_,fun j u hu=>?_,fun u hu=>?_⟩
    ·rw[List.take_add_one,hx]
     exact e1.snoc c1 c2
    ·rcases Nat.lt_or_ge j xs.length with hj | hj
     ·rw[List.getElem?_append_left hj] at hu
      exact e2 j u hu
     ·rw[List.getElem?_append_right hj] at hu
      have:=c3 _ u hu
      rw[← hl,Nat.add_sub_cancel' hj] at this
      exact this
    ·rcases List.mem_append.1 hu with hu | hu
     ·exact e3 u hu
     ·exact h1 _ _ c2 u hu
  obtain⟨xs,e1,e2,e3⟩:=key l.length (Nat.le_refl _)
  rw[List.take_length] at e1
  exact⟨xs,e1,.inr ⟨a,cap,rfl,e1.1,e2,e3⟩⟩
theorem sl_own0 {α:Type} {w:World} {base:Nat} {e:TypeId} {z:Nat} {v:Value} {xs:List Value} {acc:List α} {P:α→List Value→Prop} (h:w.ownsRow base e z v acc.length xs) (hl:Laid z P acc xs):SlOf w w.heap.size z P acc v:=by
 rcases h.2 with ⟨rfl,h0⟩ | ⟨g,cap,cur,hv,hb,hg,hn,hc,hcur,ht⟩
 ·exact .inl ⟨rfl,List.eq_nil_of_length_eq_zero h0⟩
 ·refine .inr ⟨⟨g,0,none⟩,cap,hv,hn,hc,fun _=>(Array.getElem?_eq_some_iff.1 hg).1,fun i x hx=>?_⟩
  obtain⟨cs,hz,hP,hcs⟩:=hl.2 i x hx
  exact⟨cs,hz,hP,fun j c hj=>h.cells (g:=g) (by rw[hv];rfl) (i * z+j) c (hcs j c hj)⟩
theorem de_one {w:World} {B:Nat} (x:De) (cs:List Value) (h:DeC w B x cs):∀ u ∈ cs,u.oneCell'=true:=by
 obtain⟨v,u,rfl,_,_,h1,h2⟩:=h
 obtain⟨o0,k0,rfl,_⟩:=SlOf.uni h1
 obtain⟨o1,k1,rfl,_⟩:=SlOf.uni h2
 intro y hy
 simp only[List.mem_cons,List.mem_nil_iff,or_false] at hy
 rcases hy with rfl | rfl | rfl | rfl | rfl | rfl <;> rfl
theorem ru_one {w:World} {B:Nat} (x:Ru) (cs:List Value) (h:RuC w B x cs):∀ u ∈ cs,u.oneCell'=true:=by
 obtain⟨o0,k0,o1,k1,rfl,_⟩:=h.look
 intro y hy
 simp only[List.mem_cons,List.mem_nil_iff,or_false] at hy
 rcases hy with rfl | rfl | rfl | rfl <;> rfl
theorem toks_one (ts:List Tk):∀ u ∈ tokCells ts,u.oneCell'=true:=by
 intro u hu
 unfold tokCells at hu
 obtain⟨t,_,ht⟩:=List.mem_flatMap.1 hu
 simp only[tokRow,List.mem_cons,List.mem_nil_iff,or_false] at ht
 rcases ht with rfl | rfl | rfl <;> rfl
theorem toks_app (a b:List Tk):tokCells (a++b)=tokCells a++tokCells b:=by simp[tokCells]
theorem lexR_len {l:List UInt8} {ts:List Tk} {a b:Nat} (h:lexR l=(ts,a,b)):ts.length≤l.length:=by
 have hl:=lexL_len l
 unfold lexR at h
 split at h
 ·cases h;simp
 ·split at h
  ·cases h;simp
  ·split at h
   ·cases h;simp
   ·cases h;exact hl
theorem both_math {a b:List TokI} {p q:Pg} {m n:Int} (ha:parseQ a=(p,m,0)) (hb:parseQ b=(q,n,0)) (hl:a.length+b.length≤20000) (hd:p.decls.length+q.decls.length≤60) (hr:p.rules.length+q.rules.length≤200)
  (hP:∀ (i k:Nat) (x y:De),q.decls[i]?=some x→p.decls[k]?=some y→(y.rel.toList == x.rel.toList)=false):parseQ (a++b)=(⟨p.decls++q.decls,p.rules++q.rules⟩,0,0):=by
 refine parseQ_of (parse_both (parseQ_ok ha).1 (parseQ_ok hb).1 hl hd hr fun s hs hs2=>?_)
 unfold namesD at hs hs2
 obtain⟨x,hx,ex⟩:=List.mem_map.1 hs
 obtain⟨y,hy,ey⟩:=List.mem_map.1 hs2
 obtain⟨i,hi,e1⟩:=List.getElem_of_mem hx
 obtain⟨k,hk,e2⟩:=List.getElem_of_mem hy
 have:=hP i k x y (by rw[List.getElem?_eq_getElem hi,e1]) (by rw[List.getElem?_eq_getElem hk,e2])
 have e3:x.rel=y.rel:=by
  apply ByteArray.ext
  exact Array.toList_inj.1 (ex.trans ey.symm)
 rw[e3] at this
 simp at this
theorem small_read {l:List UInt8} {ts:List Tk} {a b:Nat} {p:Pg} {m e:Int} (h:lexR l=(ts,a,b)) (hq:parseQ (ts.map tokI)=(p,m,e)):p.decls.length≤60∧p.rules.length≤200:=by
 by_cases he:e=0
 ·subst he
  have:=parse_right (lexR_tok h).2.2.1 (parseQ_ok hq).1
  unfold rightP at this
  simp only[Bool.and_eq_true,decide_eq_true_eq] at this
  exact⟨this.1.1.1,this.1.1.2⟩
 ·rw[parseQ_fail he hq]
  exact⟨Nat.zero_le _,Nat.zero_le _⟩
end Go.Proofs.YtdgbajnhhhjbcaaGreatDoor

/- Grl@23 -/
import Derived.Test.YtakpgcmfjlbcgaaGreatDoorQ46
import Derived.Test.YtakpgcmfjlbcgaaGreatDoorQ50
set_option linter.unusedSimpArgs false
set_option linter.unusedVariables false
namespace Go.Proofs.YtakpgcmfjlbcgaaGreatDoor
open Go.RowKit
theorem infoRu7:(Tryz.prog.info? 47).map (fun i=>(i.zero,i.size,i.bytes))=some (some (.agg #[.string ⟨#[]⟩,.slice none 0 0,.slice none 0 0,.int .i64 0]),4,72):=by kernel_rfl
theorem evG7 (A:Act) (s:Tmp):A.eval (.tmp s)=A.tmps[s]?.getD undef:=by rw[← Array.getD_eq_getD_getElem?];rfl
def PgB (N:Nat) (u:Value) (w:World):Prop:=∃ b x y,u=.pointer (some ⟨b,0,none⟩)∧N≤b∧w.heap[b]?=some (.cells #[x,y] 25 (0,0))
theorem PgB.kept {N:Nat} {u:Value} {w w':World} {row:Option Nat} (h:PgB N u w) (hg:w.grownBy w' row) (hr:∀ b,row=some b→∃ cur,w.heap[b]?=some (.cells cur 47 (0,0))):PgB N u w':=by
 obtain⟨b,x,y,h1,h2,h3⟩:=h
 refine⟨b,x,y,h1,h2,(hg.block b (heap_lt h3) fun e=>?_).trans h3⟩
 obtain⟨cur,hc⟩:=hr b e.symm
 rw[h3] at hc
 simp only[Option.some.injEq,Obj.cells.injEq] at hc
 exact absurd hc.2.1 (by decide)
theorem own_rule {w:World} {base n:Nat} {v:Value} {xs:List Value} (h:w.ownsRow base 47 4 v n xs):∀ b,v.ownBlock=some b→∃ cur,w.heap[b]?=some (.cells cur 47 (0,0)):=by
 intro b hb
 rcases h.2 with ⟨rfl,_⟩ | ⟨g,cap,cur,rfl,_,hc,_⟩
 ·cases hb
 ·cases hb;exact⟨cur,hc⟩
theorem setCell_grown7 (w:World) (q k:Nat) (x:Value):w.grownBy (w.setCell ⟨q,k,none⟩ x) (some q):=⟨rfl,rfl,rfl,by simp[World.setCell],fun i _ hne=>Below.heap_setCell w ⟨q,k,none⟩ x i (fun e=>hne (by rw[e]))⟩
theorem row_frozen7 {w:World} {b:Nat} {cs:Array Value} {T:TypeId} (h:w.heap[b]?=some (.cells cs T (0,0))) (i:Nat):w.frozen? ⟨b,i,none⟩=false:=by unfold World.frozen?;rw[h];simp
theorem own_blkz {w w':World} {base e z n:Nat} {v:Value} {xs:List Value} (h:w.ownsRow base e z v n xs) (hk:∀ g,base≤g→g < w.heap.size→v.ownBlock=some g→w'.heap[g]?=w.heap[g]?):w'.ownsRow base e z v n xs:=own_blk h hk
theorem KpF.below {w0 w:World} (h:Kp (fun _=>False) w0 w):Below w0.heap.size w0 w:=⟨h.os,h.tape,h.output,h.size,fun i hi=>h.block i hi (fun h=>h)⟩
end Go.Proofs.YtakpgcmfjlbcgaaGreatDoor

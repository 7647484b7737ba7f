/- The iterator that package text goes over a symbol's text by (eachSign): what a loop over it is owed. -/
import Derived.Test.YthjfkngfgomkbaaGreatDoorFirst
import Derived.Test.YthjfkngfgomkbaaGreatDoorQuote
namespace Go.Proofs.YthjfkngfgomkbaaGreatDoor
open Go.RowKit Go.Shelf

attribute [local go_sem] Oper.semAt_some

theorem firstS_len (l : List UInt8) (c : UInt8) (n : Nat) (hne : l ≠ []) (h : firstS l = some (c, n)) : 1 ≤ n ∧ n ≤ l.length := by
  have hl : 1 ≤ l.length := by cases l with | nil => exact absurd rfl hne | cons => simp
  unfold firstS at h
  split at h
  · unfold escS at h
    split at h
    · cases h
    · split at h
      · cases h; omega
      · split at h
        · cases h; omega
        · split at h
          · cases h; omega
          · split at h
            · unfold hexS4 at h
              split at h
              · cases h
              · split at h
                · cases h
                · split at h
                  · cases h
                  · cases h; omega
            · cases h
  · split at h
    · cases h
    · cases h; omega

def seqS : Nat → List UInt8 → List (UInt8 × Bool)
  | 0, _ => []
  | f + 1, l => if l = [] then [] else match firstS l with
    | none => [(0, true)]
    | some (c, n) => (c, false) :: seqS f (l.drop n)
theorem seqS_nil (f : Nat) : seqS f [] = [] := by cases f <;> rfl
theorem seqS_none (f : Nat) (l : List UInt8) (hne : l ≠ []) (h : firstS l = none) : seqS (f + 1) l = [(0, true)] := by
  rw [seqS, if_neg hne, h]
theorem seqS_some (f : Nat) (l : List UInt8) (c : UInt8) (n : Nat) (hne : l ≠ []) (h : firstS l = some (c, n)) : seqS (f + 1) l = (c, false) :: seqS f (l.drop n) := by
  rw [seqS, if_neg hne, h]

def errV (a : Addr) : Value := .iface 214 (.pointer (some a))
def encS (a : Addr) (x : UInt8 × Bool) : Array Value := #[.int .u8 (x.1.toNat : Int), if x.2 then .iface 214 (.pointer (some a)) else .nilIface]
def ErrAt (a : Addr) (W : World) : Prop := W.cell? ⟨7, 0, none⟩ = some (.iface 214 (.pointer (some a)))
def Keeps2 (Bn : Nat) (s : ByteArray) (a : Addr) (W W' : World) : Prop := KeepsBox Bn s W W' ∧ (ErrAt a W → ErrAt a W')

theorem firstSign_at (s : ByteArray) (k : Nat) (a : Addr) (w : World) (hk : k < s.size) (hs : s.size ≤ 1073741824) (r : Option (UInt8 × Nat)) (hr : firstS (s.data.toList.drop k) = r) (herr : ErrAt a w) :
    Calls Tryz.prog 148 #[.string (s.extract k s.size)] w fun e w' => e = .returned (signV a r) ∧ ∃ q, w' = w.drewN q := by
  have hd : (s.extract k s.size).data.toList = s.data.toList.drop k := by
    rw [Lib.extract_data, List.take_of_length_le (by simp)]
  have hsz : (s.extract k s.size).size = s.size - k := by rw [ByteArray.size_extract]; omega
  have := firstSign_c (s.extract k s.size) a w (by omega) (by omega) herr
  rw [hd, hr] at this
  exact this

theorem grown_draws (W : World) (q : Nat) : W.grownBy (W.drewN q) none := ⟨rfl, rfl, rfl, Nat.le_refl _, fun _ _ _ => rfl⟩

set_option maxHeartbeats 1000000 in
theorem eachSign_in (n : Nat) (s : ByteArray) (w : World) :
    CallsIn Fence.wide n Tryz.prog 134 #[.string s] w fun e w' => e = .returned (.func (.func 147) #[] #[.pointer (some ⟨w.heap.size, 0, none⟩)]) ∧ w' = w.alloc (.cells #[.string s] 9) := by
  refine callsIn_of_wp Tryz.func134 rfl trivial ?_ rfl
  simp only [Tryz.ntmps134, List.size_toArray, List.length_cons, List.length_nil, Nat.reduceAdd, Nat.reduceSub, Array.replicate_succ, Array.replicate_zero, List.push_toArray, List.append_toArray, List.nil_append, List.cons_append]
  gi_wp2
  go_ret
  exact ⟨rfl, rfl⟩

set_option maxRecDepth 100000 in
set_option maxHeartbeats 2000000 in
theorem eachSign1_in (n : Nat) (hn : 1 ≤ n) (l Bn : Nat) (s : ByteArray) (hs : s.size ≤ 1073741824) (a : Addr) (J Jx : List (UInt8 × Bool) → World → Prop) (W : World)
    (hJd : ∀ pre W q, J pre W → J pre (W.drewN q))
    (hY : ∀ pre x W, J pre W → pre.length < s.size → YieldAt Fence.wide (n - 1) Tryz.prog l (encS a x) W fun e W' =>
      (e = .returned (.bool true) ∧ J (pre ++ [x]) W' ∧ Keeps2 Bn s a W W') ∨ (e = .returned (.bool false) ∧ Jx (pre ++ [x]) W'))
    (hBn : BoxAt Bn s W) (herr : ErrAt a W) (h0 : J [] W) :
    CallsIn Fence.wide n Tryz.prog 147 #[.func (.yield l) #[] #[], .pointer (some ⟨Bn, 0, none⟩)] W fun e W' => (∃ v, e = .returned v) ∧
      ((∃ ys, ys = seqS s.size s.data.toList ∧ J ys W') ∨ (∃ pre, pre <+: seqS s.size s.data.toList ∧ Jx pre W')) := by
  have hb := hBn.cell
  have hlen : s.data.toList.length = s.size := by simp
  refine callsIn_of_wp Tryz.func147 rfl trivial ?_ rfl
  simp only [Tryz.ntmps147, List.size_toArray, List.length_cons, List.length_nil, Nat.reduceAdd, Nat.reduceSub, Array.replicate_succ, Array.replicate_zero, List.push_toArray, List.append_toArray, List.nil_append, List.cons_append]
  gi_wp2
  gi_loopw [3] (fun i wr => ∃ (k f : Nat) (pre : List (UInt8 × Bool)), k ≤ s.size ∧ i = .int .i64 k ∧ BoxAt Bn s wr ∧ ErrAt a wr ∧ J pre wr ∧ pre.length ≤ k ∧ s.size ≤ k + f ∧ pre ++ seqS f (s.data.toList.drop k) = seqS s.size s.data.toList)
    (fun i wr => s.size - (intOf i).toNat)
  case atStart =>
    exact ⟨0, s.size, [], Nat.zero_le _, rfl, hBn, herr, h0, by simp, by omega, by simp⟩
  case round =>
    obtain ⟨k, f, pre, hk, rfl, hbx, her, hJ, hpl, hkf, hsq⟩ := hrel
    have hbc := hbx.cell
    by_cases hlt : k < s.size
    · obtain ⟨f, rfl⟩ : ∃ f', f = f' + 1 := ⟨f - 1, by omega⟩
      have hne : s.data.toList.drop k ≠ [] := by
        intro h
        have := congrArg List.length h
        simp at this
        omega
      have Hsq := Lib.hid hsq
      clear hsq
      obtain ⟨r, hr⟩ : ∃ r, firstS (s.data.toList.drop k) = r := ⟨_, rfl⟩
      have Hr := Lib.hid hr
      clear hr hlen
      cases r with
      | none =>
        have Hq := Lib.hid (seqS_none f _ hne Hr.out)
        clear hne
        gi_wp2_with fail
        refine ⟨trivial, (callsIn_wide.2 (firstSign_at s k a wr hlt hs none Hr.out her)).mono ?_⟩
        rintro e w1 ⟨rfl, q, rfl⟩
        simp only [signV]
        obtain ⟨fn, tmps, assign, body, hy, hR⟩ := hY pre (0, true) (wr.drewN q) (hJd _ _ _ hJ) (by omega)
        simp only [encS, if_true, show ((0 : UInt8).toNat : Int) = 0 from rfl] at hy
        gi_wp2
        refine hR.mono ?_
        rintro e W3 (⟨rfl, hJ3, hk3⟩ | ⟨rfl, hJx3⟩)
        · gi_wp2
          refine bodyPost_ret (results_none rfl _ _ _) rfl ?_
          exact ⟨⟨_, rfl⟩, .inl ⟨_, (by rw [← Hsq.out, Hq.out]), hJ3⟩⟩
        · gi_wp2
          refine bodyPost_ret (results_none rfl _ _ _) rfl ?_
          exact ⟨⟨_, rfl⟩, .inr ⟨_, (by rw [← Hsq.out, Hq.out]; exact List.prefix_refl _), hJx3⟩⟩
      | some x =>
        obtain ⟨c, m⟩ := x
        have hm := firstS_len _ c m hne Hr.out
        rw [List.length_drop] at hm
        have hlen2 : s.data.toList.length = s.size := by simp
        have hm1 : 1 ≤ m := hm.1
        have hm2 : k + m ≤ s.size := by omega
        have Hq := Lib.hid (seqS_some f _ c m hne Hr.out)
        clear hne hlen2 hm
        gi_wp2_with fail
        refine ⟨trivial, (callsIn_wide.2 (firstSign_at s k a wr hlt hs (some (c, m)) Hr.out her)).mono ?_⟩
        rintro e w1 ⟨rfl, q, rfl⟩
        simp only [signV]
        obtain ⟨fn, tmps, assign, body, hy, hR⟩ := hY pre (c, false) (wr.drewN q) (hJd _ _ _ hJ) (by omega)
        simp only [encS, Bool.false_eq_true, if_false] at hy
        gi_wp2
        refine hR.mono ?_
        rintro e W3 (⟨rfl, hJ3, hk3⟩ | ⟨rfl, hJx3⟩)
        · gi_wp2
          go_roundw
          case rel => exact ⟨k + m, f, pre ++ [(c, false)], hm2, by go_num, hk3.1 hbx, hk3.2 her, hJ3, by simp; omega, by omega, by rw [← Hsq.out, Hq.out, List.drop_drop]; simp⟩
          case measure => simp [intOf]; omega
        · gi_wp2
          refine bodyPost_ret (results_none rfl _ _ _) rfl ?_
          exact ⟨⟨_, rfl⟩, .inr ⟨_, (by rw [← Hsq.out, Hq.out]; exact ⟨_, by simp; rfl⟩), hJx3⟩⟩
    · obtain rfl : k = s.size := by omega
      gi_wp2
      go_end0
      rw [List.drop_of_length_le (by omega), seqS_nil, List.append_nil] at hsq
      exact ⟨⟨_, rfl⟩, .inl ⟨_, hsq, hJ⟩⟩

theorem eachSign_stops (n : Nat) (hn : 1 ≤ n) (Bn : Nat) (s : ByteArray) (hs : s.size ≤ 1073741824) (a : Addr) (w : World) (hlt : Bn < w.heap.size) (hBn : BoxAt Bn s w) (hz : 7 < w.heap.size) (herr : ErrAt a w) :
    SeqStopsK Fence.wide n Tryz.prog 147 #[.pointer (some ⟨Bn, 0, none⟩)] (encS a) (Keeps2 Bn s a) (fun ys => ys = seqS s.size s.data.toList) (fun pre => pre <+: seqS s.size s.data.toList) s.size w := fun l J Jx W hW hJ _ hY h0 =>
  eachSign1_in n hn l Bn s hs a J Jx W (fun pre W q h => hJ pre W _ none h (grown_draws W q) (fun _ e => by cases e)) hY ((hW.block Bn hlt).trans hBn) ((hW.cell (p := ⟨7, 0, none⟩) hz).trans herr) h0
end Go.Proofs.YthjfkngfgomkbaaGreatDoor

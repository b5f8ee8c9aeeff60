import PyProof.Rows.All
import Wide.All
import OpenK.AllK
import Wide.FinOn
import HandS.Base
import HandS.Call
import HandS.List
import HandS.Comp
import HandS.Ends
import HandS.Iter
import HandS.Text
import HandS.Words
import HandS.WordsList
import HandS.Wide
import HandS.WideBits
import HandS.WideMore
import HandS.StrMore
import HandS.IsInst
import HandS.Style
import HandS.Evl
import PyProof.Rows.StrCut
import KE.IntTextLaws
import OpenK.KMore
import HandS.Defaults
import PyProof.Rows.RuleB_bool
import PySem.Challenge.RW_dirservice_k04_orders
set_option Elab.async false
set_option linter.all false
set_option maxRecDepth 100000
set_option maxHeartbeats 2000000
namespace G
open PySem PySem.Spec PyProof.Rows L2
/-! ### heaps -/
theorem same_upd {H : Hp} {p : Addr} {o : HO} (h : H p = none) : Same H (upd H p o) := fun b x e => by
  rw [upd_ne (ne_of_none e h)]
  exact e
/-- all but what stands at a stands as it stood -/
def ExA (a : Addr) (H H' : Hp) : Prop := ∀ b o, b ≠ a → H b = some o → H' b = some o
theorem ExA.refl (a : Addr) (H : Hp) : ExA a H H := fun _ _ _ h => h
theorem ExA.trans {a : Addr} {H H1 H2 : Hp} (x : ExA a H H1) (y : ExA a H1 H2) : ExA a H H2 := fun b o n h => y b o n (x b o n h)
theorem ExA.of {a : Addr} {H H' : Hp} (s : Same H H') : ExA a H H' := fun b o _ h => s b o h
theorem ExA.new {a : Addr} {H : Hp} {p : Addr} {o : HO} (h : H p = none) : ExA a H (upd H p o) := ExA.of (same_upd h)
theorem ExA.put {a : Addr} {H : Hp} {o : HO} : ExA a H (upd H a o) := fun b u n h => by
  rw [upd_ne n]
  exact h
theorem ExA.mut {a : Addr} {H H' : Hp} {p : Addr} {o : HO} (x : ExA a H H') (h : H p = none) : ExA a H (upd H' p o) := fun b u n e => by
  rw [upd_ne (ne_of_none e h)]
  exact x b u n e
theorem ExA.seq {K : PySem.W.Frag} {a p : Addr} {H H' : Hp} {xs : List V} (x : ExA a H H') (n : p ≠ a) (h : SqL K H p xs) : SqL K H' p xs := by
  rcases h with (h | ⟨o, h⟩) | h
  · exact .inl (.inl (x _ _ n h))
  · exact .inl (.inr ⟨o, x _ _ n h⟩)
  · exact .inr h
theorem ExA.tup {K : PySem.W.Frag} {a p : Addr} {H H' : Hp} {xs : List V} (x : ExA a H H') (n : p ≠ a) (h : SqT K H p xs) : SqT K H' p xs := by
  rcases h with (h | ⟨o, h⟩) | h
  · exact .inl (.inl (x _ _ n h))
  · exact .inl (.inr ⟨o, x _ _ n h⟩)
  · exact .inr h
theorem new_ne {H : Hp} {p a : Addr} {o : HO} (h : H a = some o) (hp : H p = none) : p ≠ a := fun e => by
  rw [e, h] at hp
  cases hp
/-! ### a source of numbers: a list of three, its counter in the middle -/
def Src (H : Hp) (a : Addr) (c : Int) : Prop := ∃ x y z : Int, H a = some (.lst [.int x, .int y, .int z]) ∧ 0 ≤ y ∧ y ≤ c
theorem Src.mono {H : Hp} {a : Addr} {c d : Int} (h : Src H a c) (l : c ≤ d) : Src H a d := by
  obtain ⟨x, y, z, e, h0, h1⟩ := h
  exact ⟨x, y, z, e, h0, by omega⟩
theorem Src.mut {H : Hp} {a p : Addr} {c : Int} {o : HO} (h : Src H a c) (n : p ≠ a) : Src (upd H p o) a c := by
  obtain ⟨x, y, z, e, h0, h1⟩ := h
  exact ⟨x, y, z, by rw [upd_ne n.symm]; exact e, h0, h1⟩
theorem Src.same {H H' : Hp} {a : Addr} {c : Int} (h : Src H a c) (s : Same H H') : Src H' a c := by
  obtain ⟨x, y, z, e, h0, h1⟩ := h
  exact ⟨x, y, z, s _ _ e, h0, h1⟩
theorem Src.some {H : Hp} {a : Addr} {c : Int} (h : Src H a c) : ∃ o, H a = Option.some o := by
  obtain ⟨x, y, z, e, _⟩ := h
  exact ⟨_, e⟩
theorem Src.ne {H : Hp} {a p : Addr} {c : Int} (h : Src H a c) (hp : H p = none) : p ≠ a := by
  obtain ⟨o, e⟩ := h.some
  exact new_ne e hp
theorem Src.new {H : Hp} {a p : Addr} {c : Int} {o : HO} (h : Src H a c) (hp : H p = none) : Src (upd H p o) a c := h.same (same_upd hp)
/-! ### items -/
theorem atI_lt {xs : List V} {i : Int} (h0 : 0 ≤ i) (h : i < (xs.length : Int)) : ∃ v, atI xs i = some v ∧ v ∈ xs := by
  obtain ⟨n, rfl⟩ := Int.eq_ofNat_of_zero_le h0
  have hn : n < xs.length := by omega
  exact ⟨xs[n], atI_nat (List.getElem?_eq_getElem hn), List.getElem_mem hn⟩
theorem ints_mem {ns : List Int} {v : V} (h : v ∈ ns.map V.int) : ∃ n, n ∈ ns ∧ v = .int n := by
  obtain ⟨n, hn, e⟩ := List.mem_map.mp h
  exact ⟨n, hn, e.symm⟩
/-! ### texts -/
open TL
theorem for_str {x : Str} {g : TG} {tb : TS} {D : Ends} {σ : L2.St} {H : Hp} (Pv : Nat → L2.St → Hp → Prop) (h0 : Pv 0 σ H)
    (hs : ∀ i c σ H, (tl x)[i]? = some c → Pv i σ H → g (.str ⟨#[c]⟩) σ H fun σ2 H2 => tb { D with nx := Pv (i + 1), ct := Pv (i + 1), bk := D.nx } σ2 H2) (hd : ∀ σ H, Pv (tl x).length σ H → D.nx σ H) :
    ∃ W : Nat → Nat → L2.St → Hp → Prop, (∃ m, W 0 m σ H) ∧ ∀ i m σ H, W i m σ H →
      ((Its x).stop i H ∧ D.nx σ H) ∨ ((Its x).go i H ∧ ∃ N : L2.St → Hp → Prop, (∀ σ' H', N σ' H' → ∃ m', m' < m ∧ W (i + 1) m' σ' H') ∧ ∀ v H', (Its x).yld i H v H' → g v σ H' fun σ2 H2 => tb { D with nx := N, ct := N, bk := D.nx } σ2 H2) := by
  have hz : (tl x).length = x.cps.size := by simp [tl]
  refine ⟨fun i m σ H => m = x.cps.size - i ∧ i ≤ x.cps.size ∧ Pv i σ H, ⟨x.cps.size, by simp, Nat.zero_le _, h0⟩, ?_⟩
  rintro i m σ H ⟨rfl, hi, p⟩
  by_cases hlt : i < x.cps.size
  · refine .inr ⟨hlt, Pv (i + 1), fun σ' H' p' => ⟨x.cps.size - (i + 1), by omega, rfl, hlt, p'⟩, fun v H' y => ?_⟩
    obtain ⟨e, c, hc, rfl⟩ := y
    subst e
    exact hs i c σ _ (by rw [← hc]; simp [tl]) p
  · have e : i = x.cps.size := by omega
    subst e
    exact .inl ⟨Nat.le_refl _, hd σ H (by rw [hz]; exact p)⟩
theorem tl_cut (z : Str) (lo hi : Option Int) : tl (cutS z lo hi) = ((tl z).drop (HT.sIx (tl z).length 0 lo)).take (HT.sIx (tl z).length (tl z).length hi - HT.sIx (tl z).length 0 lo) := by
  rw [← len_tl]
  rfl
theorem cutS_from (z : Str) (k : Nat) : tl (cutS z (some (k : Int)) none) = (tl z).drop k := by
  rw [tl_cut, HT.sIx_nat, HT.sIx_none]
  rcases Nat.le_total k (tl z).length with h | h
  · rw [Nat.min_eq_left h]
    exact List.take_of_length_le (by rw [List.length_drop]; omega)
  · rw [Nat.min_eq_right h, List.drop_eq_nil_of_le h, List.drop_eq_nil_of_le (Nat.le_refl _)]
    simp
theorem cutS_to (z : Str) (k : Nat) : tl (cutS z none (some (k : Int))) = (tl z).take k := by
  rw [tl_cut, HT.sIx_nat, HT.sIx_none, Nat.sub_zero, List.drop_zero]
  exact (List.take_eq_take_min).symm
theorem sIx_neg (n d : Nat) : HT.sIx n d (some (-1)) = n - 1 := by
  show (if (-1 : Int) < 0 then ((-1 : Int) + (n : Int)).toNat else min (-1 : Int).toNat n) = n - 1
  rw [if_pos (by decide)]
  omega
theorem cutS_last (z : Str) : tl (cutS z (some (-1)) none) = (tl z).drop ((tl z).length - 1) := by
  rw [tl_cut, sIx_neg, HT.sIx_none]
  exact List.take_of_length_le (by rw [List.length_drop]; omega)
theorem cutS_but (z : Str) : tl (cutS z none (some (-1))) = (tl z).dropLast := by
  rw [tl_cut, sIx_neg, HT.sIx_none, Nat.sub_zero, List.drop_zero, List.dropLast_eq_take]
theorem str_ne {a b : Str} : (!decide (V.str a = V.str b)) = !decide (tl a = tl b) := by
  by_cases h : a = b
  · subst h
    simp
  · rw [decide_eq_false (fun q => h (V.str.inj q)), decide_eq_false (fun q => h (ext_tl q))]
theorem str_eq {a b : Str} : decide (V.str a = V.str b) = decide (tl a = tl b) := by
  by_cases h : a = b
  · subst h
    simp
  · rw [decide_eq_false (fun q => h (V.str.inj q)), decide_eq_false (fun q => h (ext_tl q))]
theorem foldl_take {α β γ : Type} {f : α → β} {g : γ → β → γ} {a : γ} {l : List α} {i : Nat} {c : α} (h : l[i]? = some c) : ((l.take (i + 1)).map f).foldl g a = g (((l.take i).map f).foldl g a) (f c) := by
  rw [List.take_add_one, h, List.map_append, List.foldl_append]
  rfl
theorem atI_end {α : Type} {l : List α} {v : α} (h : l.getLast? = some v) : atI l (-1) = some v := by
  have hn : l ≠ [] := fun e => by
    subst e
    cases h
  have e : l = l.dropLast ++ [v] := by
    have := List.dropLast_concat_getLast hn
    rw [List.getLast?_eq_getLast hn] at h
    rw [Option.some.inj h] at this
    exact this.symm
  rw [e]
  exact atI_last _ _
theorem lc_str {x : Str} {g : TG} {tt : TT} {te : TE} {vs : List Nat} {σ : L2.St} {H1 : Hp} {D : Addr} {Qd : Hp → Prop} (Pv : Nat → Hp → Prop) (h0 : Pv 0 (upd H1 D (.lst [])))
    (hs : ∀ i c H, (tl x)[i]? = some c → Pv i H → g (.str ⟨#[c]⟩) (wipe σ vs) H fun σ2 H2 => wipe σ2 vs = wipe σ vs ∧ tt σ2 H2 fun b H3 =>
      if b = true then te σ2 H3 fun y H4 => ∃ acc, H4 D = some (.lst acc) ∧ acc.length < sizeLine ∧ Pv (i + 1) (upd H4 D (.lst (acc ++ [y]))) else Pv (i + 1) H3) (hd : ∀ H, Pv (tl x).length H → Qd H) :
    ∃ W : Nat → Nat → Hp → Prop, (∃ m, W 0 m (upd H1 D (.lst []))) ∧ ∀ i m H, W i m H →
      ((Its x).stop i H ∧ Qd H) ∨ ((Its x).go i H ∧ ∃ Nx : Hp → Prop, (∀ H', Nx H' → ∃ m', m' < m ∧ W (i + 1) m' H') ∧ ∀ v H', (Its x).yld i H v H' → g v (wipe σ vs) H' fun σ2 H2 => wipe σ2 vs = wipe σ vs ∧ tt σ2 H2 fun b H3 =>
        if b = true then te σ2 H3 fun y H4 => ∃ acc, H4 D = some (.lst acc) ∧ acc.length < sizeLine ∧ Nx (upd H4 D (.lst (acc ++ [y]))) else Nx H3) := by
  have hz : (tl x).length = x.cps.size := by simp [tl]
  refine ⟨fun i m H => m + i = x.cps.size ∧ Pv i H, ⟨x.cps.size, rfl, h0⟩, ?_⟩
  rintro i m H ⟨e, p⟩
  rcases Nat.eq_or_lt_of_le (show i ≤ x.cps.size by omega) with q | q
  · subst q
    exact .inl ⟨Nat.le_refl _, hd H (by rw [hz]; exact p)⟩
  · refine .inr ⟨q, Pv (i + 1), fun H' p' => ⟨m - 1, by omega, by omega, p'⟩, ?_⟩
    rintro v H' ⟨rfl, c, hc, rfl⟩
    exact hs i c _ (by rw [← hc]; simp [tl]) p
theorem if_true_of {c : Bool} {A B : Prop} (hc : c = true) (h : A) : if c = true then A else B := by
  rw [if_pos hc]
  exact h
theorem if_false_of {c : Bool} {A B : Prop} (hc : c = false) (h : B) : if c = true then A else B := by
  rw [hc, if_neg Bool.false_ne_true]
  exact h
theorem line20 {n : Nat} (h : n ≤ 50000) : n < sizeLine := Nat.lt_of_le_of_lt h (by decide)
theorem line1000 {n : Nat} (h : n ≤ 1000) : n ≤ sizeLine := Nat.le_of_lt (small1000 h)
theorem kit_same {K : PySem.W.Frag} (t : Value) : PySem.W.kitOne K t t = some true := by
  unfold PySem.W.kitOne
  rw [if_pos (beq_self_eq_true _)]
theorem len_app (a b : Str) : (a ++ b).length = a.length + b.length := by
  rw [len_tl, tl_append, List.length_append, ← len_tl, ← len_tl]
/-! ### strip -/
theorem tw_mem {p : Nat → Bool} {c : Nat} : ∀ {l : List Nat}, c ∈ l.takeWhile p → p c = true
  | [], h => nomatch h
  | d :: r, h => by
    rw [List.takeWhile_cons] at h
    split at h
    · rename_i q
      rcases List.mem_cons.mp h with rfl | h
      · exact q
      · exact tw_mem h
    · cases h
theorem dw_nil {p : Nat → Bool} : ∀ {l : List Nat}, (∀ c ∈ l, p c = true) → l.dropWhile p = []
  | [], _ => rfl
  | d :: r, h => by
    rw [List.dropWhile_cons, if_pos (h d (List.mem_cons_self ..))]
    exact dw_nil fun c hc => h c (List.mem_cons_of_mem _ hc)
theorem strip_none {goes : Nat → Bool} {x : Str} : tl (Txt.stripBy goes true true x) = [] ↔ (tl x).all goes = true := by
  rw [stripBy_eq, tl_strSub]
  have e1 : stripLo goes true x = ((tl x).takeWhile goes).length := rfl
  have e2 : stripHi goes true x (stripLo goes true x) = x.length - (((tl x).drop (stripLo goes true x)).reverse.takeWhile goes).length := rfl
  rw [e2, e1, len_tl]
  have hd : (tl x).drop ((tl x).takeWhile goes).length = (tl x).dropWhile goes := by
    have := List.takeWhile_append_dropWhile (p := goes) (l := tl x)
    conv => lhs; arg 2; rw [← this]
    rw [List.drop_left]
  rw [hd]
  have hl : ((tl x).takeWhile goes).length + ((tl x).dropWhile goes).length = (tl x).length := by
    rw [← List.length_append, List.takeWhile_append_dropWhile]
  constructor
  · intro h
    cases hw : (tl x).dropWhile goes with
    | nil =>
      rw [List.all_eq_true]
      intro c hc
      have := List.takeWhile_append_dropWhile (p := goes) (l := tl x)
      rw [hw, List.append_nil] at this
      rw [← this] at hc
      exact tw_mem hc
    | cons c r =>
      exfalso
      have hg : goes c = false := by
        have := List.head?_dropWhile_not goes (tl x)
        rw [hw] at this
        simpa using this
      have hlt : ((c :: r).reverse.takeWhile goes).length < (c :: r).length := by
        have h1 := List.takeWhile_prefix (l := (c :: r).reverse) goes
        rcases Nat.lt_or_ge ((c :: r).reverse.takeWhile goes).length (c :: r).reverse.length with q | q
        · rw [List.length_reverse] at q
          exact q
        · exfalso
          have e := h1.eq_of_length_le q
          have : c ∈ (c :: r).reverse.takeWhile goes := by
            rw [e]
            simp
          rw [tw_mem this] at hg
          cases hg
      rw [hw] at h hl
      rw [List.take_eq_nil_iff] at h
      rcases h with h | h
      · omega
      · cases h
  · intro h
    have hw : (tl x).dropWhile goes = [] := dw_nil fun c hc => List.all_eq_true.mp h c hc
    rw [hw]
    simp
theorem stripChars_none {x y : Str} : decide (tl (Txt.stripChars x y) = []) = (tl x).all fun c => decide (c ∈ tl y) := by
  have h : tl (Txt.stripChars x y) = [] ↔ (tl x).all y.cps.contains = true := strip_none
  have e : (tl x).all y.cps.contains = (tl x).all fun c => decide (c ∈ tl y) := by
    congr 1
    funext c
    by_cases q : c ∈ tl y
    · rw [decide_eq_true q]
      simpa [tl] using q
    · rw [decide_eq_false q]
      have : ¬ c ∈ y.cps := by simpa [tl] using q
      simpa using this
  rw [e] at h
  by_cases q : ((tl x).all fun c => decide (c ∈ tl y)) = true
  · rw [q, decide_eq_true (h.mpr q)]
  · rw [Bool.not_eq_true] at q
    rw [q, decide_eq_false fun z => by rw [h.mp z] at q; cases q]
end G

namespace M
open PySem PyProof.Rows TL
/-! ### a text's normal form: word by word, and sign by sign -/
def lstep (acc : List Nat) (c : Nat) : List Nat := if c ≠ 32 ∨ (acc ≠ [] ∧ acc.getLast? ≠ some 32) then acc ++ [c] else acc
def lfin (acc : List Nat) : List Nat := if acc.getLast? = some 32 then acc.dropLast else acc
/-- the state behind whole words W and a begun one u -/
def lst (W : List (List Nat)) (u : List Nat) : List Nat := if u = [] then (if W = [] then [] else joinL [32] W ++ [32]) else joinL [32] (W ++ [u])
theorem joinL_snoc (S : List Nat) : ∀ (W : List (List Nat)) (u : List Nat), W ≠ [] → joinL S (W ++ [u]) = joinL S W ++ (S ++ u)
  | [], _, h => absurd rfl h
  | [p], u, _ => rfl
  | p :: q :: r, u, _ => by
    show p ++ (S ++ joinL S (q :: r ++ [u])) = p ++ (S ++ joinL S (q :: r)) ++ (S ++ u)
    rw [joinL_snoc S (q :: r) u (by simp)]
    simp only [List.append_assoc]
theorem joinL_last {W : List (List Nat)} {u v : List Nat} : joinL [32] (W ++ [u ++ v]) = joinL [32] (W ++ [u]) ++ v := by
  cases W with
  | nil => rfl
  | cons p r =>
    rw [joinL_snoc _ _ _ (by simp), joinL_snoc _ _ _ (by simp)]
    simp only [List.append_assoc]
theorem pre1 (c : Nat) (r : List Nat) : pre [32] (c :: r) = decide (c = 32) := by
  show ([c] == [32]) = decide (c = 32)
  by_cases h : c = 32
  · subst h
    rfl
  · rw [decide_eq_false h]
    simp [h]
theorem last_words {W : List (List Nat)} {u : List Nat} (hu : u ≠ []) (h : (32 : Nat) ∉ u) : (joinL [32] (W ++ [u])).getLast? ≠ some 32 := by
  have e : ∃ x, joinL [32] (W ++ [u]) = x ++ u := by
    cases W with
    | nil => exact ⟨[], rfl⟩
    | cons p r => exact ⟨joinL [32] (p :: r) ++ [32], by rw [joinL_snoc _ _ _ (by simp)]; simp only [List.append_assoc]⟩
  obtain ⟨x, e⟩ := e
  rw [e, List.getLast?_append]
  cases hl : u.getLast? with
  | none => exact absurd (List.getLast?_eq_none_iff.mp hl) hu
  | some y =>
    intro q
    have : y = 32 := by simpa using q
    subst this
    exact h (List.mem_of_getLast? hl)
theorem words_ne {W : List (List Nat)} {u : List Nat} (hu : u ≠ []) : joinL [32] (W ++ [u]) ≠ [] := by
  cases W with
  | nil => exact hu
  | cons p r =>
    rw [joinL_snoc _ _ _ (by simp)]
    simp
theorem low_words : ∀ (L : List Nat) (W : List (List Nat)) (u : List Nat), (32 : Nat) ∉ u → (∀ p ∈ W, p ≠ [] ∧ (32 : Nat) ∉ p) →
    lfin (L.foldl lstep (lst W u)) = joinL [32] (W ++ (spl [32] 0 u L).filter (fun p => decide (p ≠ [])))
  | [], W, u, hu, hW => by
    rw [spl_nil]
    show lfin (lst W u) = _
    by_cases e : u = []
    · subst e
      have e1 : List.filter (fun p : List Nat => decide (p ≠ [])) [[]] = [] := rfl
      rw [e1, List.append_nil]
      unfold lst
      rw [if_pos rfl]
      by_cases w : W = []
      · subst w
        rfl
      · rw [if_neg w]
        unfold lfin
        rw [if_pos (by simp), List.dropLast_concat]
    · have e1 : List.filter (fun p : List Nat => decide (p ≠ [])) [u] = [u] := by simp [e]
      rw [e1]
      unfold lst
      rw [if_neg e]
      unfold lfin
      rw [if_neg (last_words e hu)]
  | c :: r, W, u, hu, hW => by
    show lfin (r.foldl lstep (lstep (lst W u) c)) = _
    by_cases hc : c = 32
    · subst hc
      rw [spl_hit (by rw [pre1]; rfl)]
      by_cases e : u = []
      · subst e
        have e1 : lstep (lst W []) 32 = lst W [] := by
          unfold lstep
          refine if_neg ?_
          rintro (q | ⟨q1, q2⟩)
          · exact q rfl
          · unfold lst at q1 q2
            rw [if_pos rfl] at q1 q2
            by_cases w : W = []
            · rw [if_pos w] at q1
              exact q1 rfl
            · rw [if_neg w] at q2
              exact q2 (by simp)
        rw [e1, low_words r W [] (by simp) hW]
        rfl
      · have e1 : lstep (lst W u) 32 = lst (W ++ [u]) [] := by
          unfold lstep lst
          rw [if_neg e, if_pos rfl, if_neg (show ¬ W ++ [u] = [] by simp), if_pos]
          exact .inr ⟨words_ne e, last_words e hu⟩
        rw [e1, low_words r (W ++ [u]) [] (by simp) (fun p hp => by
          rcases List.mem_append.mp hp with hp | hp
          · exact hW p hp
          · rw [List.mem_singleton] at hp
            subst hp
            exact ⟨e, hu⟩)]
        have e2 : List.filter (fun p : List Nat => decide (p ≠ [])) (u :: spl [32] ([32].length - 1) [] r) = u :: List.filter (fun p : List Nat => decide (p ≠ [])) (spl [32] 0 [] r) := by
          rw [List.filter_cons, if_pos (by simp [e])]
          rfl
        rw [e2, List.append_assoc]
        rfl
    · rw [spl_miss (by rw [pre1, decide_eq_false hc])]
      have hu' : (32 : Nat) ∉ u ++ [c] := by
        intro q
        rcases List.mem_append.mp q with q | q
        · exact hu q
        · exact hc (List.mem_singleton.mp q).symm
      have e1 : lstep (lst W u) c = lst W (u ++ [c]) := by
        unfold lstep
        rw [if_pos (.inl hc)]
        unfold lst
        rw [if_neg (show ¬ u ++ [c] = [] by simp)]
        by_cases e : u = []
        · subst e
          rw [if_pos rfl]
          by_cases w : W = []
          · subst w
            rfl
          · rw [if_neg w]
            show _ = joinL [32] (W ++ [[c]])
            rw [joinL_snoc _ _ _ w]
            simp only [List.append_assoc]
        · rw [if_neg e, joinL_last]
      rw [e1, low_words r W (u ++ [c]) hu' hW]
/-! ### the program's form -/
def foldS (v : Str) : Str := Txt.join (" " : Str) ((Txt.split (Txt.lower v) (" " : Str)).filter fun (p : Str) => !decide (p = ("" : Str)))
def lowL (l : List Nat) : List Nat := lfin ((l.map lo1).foldl lstep [])
theorem space_tl : tl (" " : Str) = [32] := by decide +kernel
theorem empty_tl : tl ("" : Str) = [] := by decide +kernel
theorem is_empty (p : Str) : (!decide (p = ("" : Str))) = decide (tl p ≠ []) := by
  by_cases h : p = ("" : Str)
  · subst h
    decide +kernel
  · rw [decide_eq_false h]
    have : tl p ≠ [] := fun e => h (ext_tl (e.trans empty_tl.symm))
    simp [this]
theorem filter_tl : ∀ l : List Str, (l.filter fun (p : Str) => !decide (p = ("" : Str))).map tl = (l.map tl).filter fun p => decide (p ≠ [])
  | [] => rfl
  | p :: r => by
    rw [List.map_cons, List.filter_cons, List.filter_cons, is_empty p]
    by_cases h : tl p ≠ []
    · rw [if_pos (by simpa using h), if_pos (by simpa using h), List.map_cons, filter_tl r]
    · rw [if_neg (by simpa using h), if_neg (by simpa using h), filter_tl r]
theorem fold_is {v : Str} (ha : ∀ c ∈ tl v, c < 128) : tl (foldS v) = lowL (tl v) := by
  unfold foldS
  rw [join_eq, tl_join, filter_tl, split_spl _ _ (by rw [space_tl]; simp) (kind_ok (by decide +kernel)), space_tl]
  have e : tl (Txt.lower v) = (tl v).map lo1 := by
    rw [lower_ascii ha]
    simp [tl]
  rw [e]
  exact (low_words ((tl v).map lo1) [] [] (by simp) (fun p hp => nomatch hp)).symm
theorem spl_size (S : List Nat) : ∀ (L : List Nat) (k : Nat) (acc : List Nat), ((spl S k acc L).map List.length).sum ≤ acc.length + L.length ∧ (spl S k acc L).length ≤ L.length + 1
  | [], k, acc => by
    rw [spl_nil]
    simp
  | c :: r, 0, acc => by
    by_cases h : pre S (c :: r) = true
    · rw [spl_hit h]
      have ih := spl_size S r (S.length - 1) []
      simp only [List.map_cons, List.sum_cons, List.length_cons, List.length_nil] at ih ⊢
      omega
    · rw [spl_miss (by simpa using h)]
      have ih := spl_size S r 0 (acc ++ [c])
      simp only [List.length_append, List.length_cons, List.length_nil] at ih ⊢
      omega
  | c :: r, k + 1, acc => by
    have ih := spl_size S r k acc
    show ((spl S k acc r).map List.length).sum ≤ _ ∧ (spl S k acc r).length ≤ _
    simp only [List.length_cons]
    omega
theorem sum_filter {α : Type} (f : α → Bool) (g : α → Nat) : ∀ l : List α, ((l.filter f).map g).sum ≤ (l.map g).sum
  | [] => Nat.le_refl _
  | a :: r => by
    have ih := sum_filter f g r
    rw [List.filter_cons]
    split
    · simp only [List.map_cons, List.sum_cons]
      omega
    · simp only [List.map_cons, List.sum_cons]
      omega
theorem len_lower {v : Str} (ha : ∀ c ∈ tl v, c < 128) : (Txt.lower v).length = v.length := by
  rw [lower_ascii ha, len_tl, len_tl]
  simp [tl]
theorem split_size {v : Str} (ha : ∀ c ∈ tl v, c < 128) : ((Txt.split (Txt.lower v) (" " : Str)).map (·.length)).sum ≤ v.length ∧ (Txt.split (Txt.lower v) (" " : Str)).length ≤ v.length + 1 := by
  have e := split_spl (Txt.lower v) (" " : Str) (by rw [space_tl]; simp) (kind_ok (by decide +kernel))
  have h := spl_size (tl (" " : Str)) (tl (Txt.lower v)) 0 []
  rw [← e] at h
  rw [← len_tl, len_lower ha] at h
  have e2 : ((Txt.split (Txt.lower v) (" " : Str)).map tl).map List.length = (Txt.split (Txt.lower v) (" " : Str)).map (·.length) := by
    rw [List.map_map]
    refine List.map_congr_left fun x _ => ?_
    exact (len_tl x).symm
  rw [e2, List.length_map] at h
  simp only [List.length_nil] at h
  omega
end M

namespace M
open PySem PyProof.Rows TL
/-! ### numbers by their digits -/
def dv (a : Nat) (l : List Nat) : Nat := l.foldl (fun acc c => acc * 10 + (c - 48)) a
theorem dv_cons (a c : Nat) (r : List Nat) : dv a (c :: r) = dv (a * 10 + (c - 48)) r := by simp only [dv, List.foldl_cons]
theorem dv_acc (l : List Nat) : ∀ a : Nat, dv a l = a * 10 ^ l.length + dv 0 l := by
  induction l with
  | nil =>
    intro a
    simp only [dv, List.foldl_nil, List.length_nil, Nat.pow_zero, Nat.mul_one, Nat.add_zero]
  | cons c r ih =>
    intro a
    rw [dv_cons, dv_cons, ih (a * 10 + (c - 48)), ih (0 * 10 + (c - 48)), Nat.zero_mul, Nat.zero_add, List.length_cons, Nat.pow_succ, Nat.add_mul, Nat.mul_assoc, Nat.mul_comm 10, Nat.add_assoc]
def Digs (l : List Nat) : Prop := ∀ c ∈ l, 48 ≤ c ∧ c ≤ 57
theorem dv_step (c : Nat) (r : List Nat) : dv 0 (c :: r) = (c - 48) * 10 ^ r.length + dv 0 r := by
  rw [dv_cons, dv_acc, Nat.zero_mul, Nat.zero_add]
theorem dv_lt : ∀ l : List Nat, Digs l → dv 0 l < 10 ^ l.length
  | [], _ => by
    show 0 < 1
    decide
  | c :: r, h => by
    have ih := dv_lt r fun x hx => h x (List.mem_cons_of_mem _ hx)
    have hc := h c (List.mem_cons_self ..)
    rw [dv_step, List.length_cons, Nat.pow_succ]
    have : (c - 48) * 10 ^ r.length ≤ 9 * 10 ^ r.length := Nat.mul_le_mul_right _ (by omega)
    omega
theorem dv_ge {c : Nat} {r : List Nat} (h : 49 ≤ c) : 10 ^ r.length ≤ dv 0 (c :: r) := by
  rw [dv_step]
  have : 1 * 10 ^ r.length ≤ (c - 48) * 10 ^ r.length := Nat.mul_le_mul_right _ (by omega)
  omega
theorem dv_lex : ∀ (x y : List Nat), Digs x → Digs y → x.length = y.length → (dv 0 x < dv 0 y ↔ x < y)
  | [], [], _, _, _ => by simp [dv]
  | [], _ :: _, _, _, h => by simp at h
  | _ :: _, [], _, _, h => by simp at h
  | a :: x, b :: y, hx, hy, h => by
    have hl : x.length = y.length := by simpa using h
    have dx : Digs x := fun c hc => hx c (List.mem_cons_of_mem _ hc)
    have dy : Digs y := fun c hc => hy c (List.mem_cons_of_mem _ hc)
    have ha := hx a (List.mem_cons_self ..)
    have hb := hy b (List.mem_cons_self ..)
    have ih := dv_lex x y dx dy hl
    have l1 := dv_lt x dx
    have l2 := dv_lt y dy
    rw [dv_step, dv_step, List.cons_lt_cons_iff, ← ih, hl]
    rw [hl] at l1
    generalize 10 ^ y.length = B at *
    rcases Nat.lt_trichotomy a b with q | q | q
    · have : (a - 48 + 1) * B ≤ (b - 48) * B := Nat.mul_le_mul_right _ (by omega)
      rw [Nat.add_mul] at this
      constructor
      · intro _
        exact .inl q
      · intro _
        omega
    · subst q
      constructor
      · intro z
        exact .inr ⟨rfl, by omega⟩
      · rintro (z | ⟨_, z⟩)
        · omega
        · omega
    · have : (b - 48 + 1) * B ≤ (a - 48) * B := Nat.mul_le_mul_right _ (by omega)
      rw [Nat.add_mul] at this
      constructor
      · intro z
        omega
      · rintro (z | ⟨z, _⟩)
        · omega
        · omega
/-- the digits of a number that is not below 0, as they are written -/
def Dig (l : List Nat) : Prop := Digs l ∧ (l = [48] ∨ ∃ c r, l = c :: r ∧ 49 ≤ c)
theorem Dig.ne {l : List Nat} (h : Dig l) : l ≠ [] := by
  rcases h.2 with e | ⟨c, r, e, _⟩ <;> rw [e] <;> simp
theorem Dig.big {x y : List Nat} (hx : Dig x) (hy : Dig y) (h : x.length < y.length) : dv 0 x < dv 0 y := by
  rcases hy.2 with e | ⟨c, r, e, hc⟩
  · subst e
    have : x.length = 0 := by
      have : x.length < 1 := h
      omega
    exact absurd (List.length_eq_zero_iff.mp this) hx.ne
  · subst e
    have h1 := dv_lt x hx.1
    have h2 := dv_ge (r := r) hc
    have h3 : (10 : Nat) ^ x.length ≤ 10 ^ r.length := Nat.pow_le_pow_right (by decide) (by
      have : x.length < r.length + 1 := h
      omega)
    omega
theorem dig_lt {x y : List Nat} (hx : Dig x) (hy : Dig y) : dv 0 x < dv 0 y ↔ (x.length < y.length ∨ (x.length = y.length ∧ x < y)) := by
  rcases Nat.lt_trichotomy x.length y.length with q | q | q
  · exact ⟨fun _ => .inl q, fun _ => hx.big hy q⟩
  · have := dv_lex x y hx.1 hy.1 q
    exact ⟨fun z => .inr ⟨q, this.mp z⟩, fun z => by
      rcases z with z | ⟨_, z⟩
      · omega
      · exact this.mpr z⟩
  · have := hy.big hx q
    constructor
    · intro z
      omega
    · rintro (z | ⟨z, _⟩) <;> omega
theorem Dig.pos {l : List Nat} (h : Dig l) (hn : l ≠ [48]) : 0 < dv 0 l := by
  rcases h.2 with e | ⟨c, r, e, hc⟩
  · exact absurd e hn
  · subst e
    have := dv_ge (r := r) hc
    have : 0 < 10 ^ r.length := Nat.pow_pos (by decide)
    omega
/-- a number as it is written -/
def NumL (l : List Nat) : Prop := Dig l ∨ ∃ r, l = 45 :: r ∧ Dig r ∧ r ≠ [48]
def valL (l : List Nat) : Int := match l with
  | 45 :: r => -(dv 0 r : Int)
  | l => (dv 0 l : Int)
theorem Dig.first {l : List Nat} (h : Dig l) : ∃ c r, l = c :: r ∧ c ≠ 45 := by
  rcases h.2 with e | ⟨c, r, e, hc⟩
  · exact ⟨48, [], e, by decide⟩
  · exact ⟨c, r, e, by omega⟩
theorem valL_dig {l : List Nat} (h : Dig l) : valL l = (dv 0 l : Int) := by
  obtain ⟨c, r, rfl, hc⟩ := h.first
  unfold valL
  split
  · rename_i e
    exact absurd (List.cons.inj e).1 hc
  · rfl
theorem int_num {x : Str} (h : NumL (tl x)) (hl : x.length ≤ 640) : intText? x = some (valL (tl x)) := by
  rcases h with h | ⟨r, e, h, _⟩
  · rw [valL_dig h]
    exact intText_digits (fun c hc => h.1 c hc) h.ne (by omega)
  · have := intText_neg (x := x) (cs := r) e (fun c hc => h.1 c hc) h.ne (by omega)
    rw [this, e]
    rfl
/-- the law's comparison, on what is left behind the signs -/
def ltD (x y : List Nat) : Bool := decide (x.length < y.length) || (decide (x.length = y.length) && decide (x < y))
theorem ltD_is {x y : List Nat} (hx : Dig x) (hy : Dig y) : ltD x y = decide (dv 0 x < dv 0 y) := by
  have := dig_lt hx hy
  by_cases h : dv 0 x < dv 0 y
  · rw [decide_eq_true h]
    rcases this.mp h with q | ⟨q, r⟩
    · simp [ltD, q]
    · simp [ltD, q, r]
  · rw [decide_eq_false h]
    have n := fun z => h (this.mpr z)
    unfold ltD
    rw [Bool.or_eq_false_iff]
    refine ⟨decide_eq_false fun q => n (.inl q), ?_⟩
    rw [Bool.and_eq_false_iff]
    by_cases q : x.length = y.length
    · exact .inr (decide_eq_false fun r => n (.inr ⟨q, r⟩))
    · exact .inl (decide_eq_false q)
end M

/-! A call by keywords alone. -/
namespace Kw0
open PySem PySem.Spec PyProof.Rows L2
theorem kbn {K : PySem.W.Frag} {x qual : Str} {st : Stmt} {f : Addr} {fd : FuncData} {ps ks : List Str} {n : Nat} (F : Fun K x qual st f fd) {g : List Value → List Value → List Value} {gV : List V → List V → List V}
    (rel : ∀ {vs : List V} {us : List Value} {zs : List V} {ws : List Value}, Vals vs us → Vals zs ws → Vals (gV vs zs) (g us ws))
    (h : ∀ (kV doc pm : Value) (an : Option Addr) (cdv ct : Value) (us ws : List Value), us.length = n → ws.length = ks.length →
      bindArgs (PySem.W.fnOf x qual (defArgs st) (defBody st) (defScope st) .none kV doc pm an cdv ct) ⟨us, ks.zip ws⟩ = pure (ps.zip (g us ws))) : KBn K fd ps n ks g gV := by
  obtain ⟨oc, od, kV, doc, pm, an, cdv, ct, osl, rfl, lk, hcd⟩ := F.ex
  exact ⟨fun s us ws _ l1 l2 => .of_eq (h kV doc pm an cdv ct us ws l1 l2), rel⟩
/-- the two of a call, as written, or the other way about -/
def two {α : Type} (o : Bool) : List α → List α
  | [a, b] => if o then [b, a] else [a, b]
  | l => l
theorem two_rel (o : Bool) {zs : List V} {ws : List Value} (r : Vals zs ws) : Vals (two o zs) (two o ws) := by
  cases r with
  | nil => exact .nil
  | cons r1 r =>
    cases r with
    | nil => exact .cons r1 .nil
    | cons r2 r =>
      cases r with
      | nil => cases o <;> first | exact .cons r1 (.cons r2 .nil) | exact .cons r2 (.cons r1 .nil)
      | cons r3 r => exact .cons r1 (.cons r2 (.cons r3 r))
theorem kb2 {K : PySem.W.Frag} {x qual : Str} {st : Stmt} {f : Addr} {fd : FuncData} {ps : List Str} {k1 k2 : Str} (o : Bool) (F : Fun K x qual st f fd)
    (h : ∀ (kV doc pm : Value) (an : Option Addr) (cdv ct a b : Value),
      bindArgs (PySem.W.fnOf x qual (defArgs st) (defBody st) (defScope st) .none kV doc pm an cdv ct) ⟨[], [k1, k2].zip [a, b]⟩ = pure (ps.zip (two o [a, b]))) : KBn K fd ps 0 [k1, k2] (fun _ ws => two o ws) (fun _ zs => two o zs) := by
  refine kbn F (fun _ r => two_rel o r) fun kV doc pm an cdv ct us ws l1 l2 => ?_
  match us, ws, l1, l2 with
  | [], [a, b], _, _ => exact h kV doc pm an cdv ct a b
section
variable {X : Cx} {CX : CXT} {k : Nat} {f : Addr} {fd : FuncData} {ps ks : List Str} {sp : Sp} {E : XK} {x : Str} {p pos : Pos} {kws : List Keyword} {tk : TA} {g : List Value → List Value → List Value} {gV : List V → List V → List V}
theorem pe_callN0 (F : FnOk X.prog X.w X.K X.mg X.base CX k f fd ps sp) (hr : Room k X.A) (hg : Gl X x) (hm : X.mg x = some (.ref f)) (hk : PySem.W.keepIn X.K (.ref f) = true) (hb : KBn X.K fd ps 0 ks g gV) (hx : Passes CX X E)
    (hkw : PK X kws tk) (hall : (backToKw pos (keywordEach kws X.env)).all (·.1.isSome) = true := by rfl) (hks : (backToKw pos (keywordEach kws X.env)).filterMap (·.1) = ks := by rfl)
    (hdb : (x == ("__debug__" : Str)) = false := by decide)
    (hpl : ((backTo pos (starEach [] X.env)).any (·.1) || (backToKw pos (keywordEach kws X.env)).any (·.1.isNone)) = false := by rfl) :
    PE X (.Call (.Name x p) [] kws pos) (tCallN 0 ks.length sp gV E tNil tk) := by
  refine ⟨fun pins s σ H Q I h => ?_⟩
  refine wpAny_Call_Name_kw (ld_glob I hg hm ?_ hdb)
  refine PySem.W.callWith_KW0 (h₀ := X.base) I.ok.mod.kin hk hall ?_ hpl
  refine thn (hkw.run pos pins s σ H _ I h) fun ws s2 ⟨zs, H2, I2, rz, l1, l2, q2⟩ => ⟨I2.kIn, ?_⟩
  rw [hks]
  exact run_fnN F hr hb hx I2 .nil rz l1 l2 q2
end
end Kw0

/-! Calls by one or three keywords alone; either of two rules for one operator; bools added. -/
namespace Kw0
open PySem PySem.Spec PyProof.Rows L2
theorem op_or {X : Cx} {f : Value → Value → Sem Value} {r1 r2 : R2} (h1 : OpR X f r1) (h2 : OpR X f r2) : OpR X f (fun x y H Q => r1 x y H Q ∨ r2 x y H Q) := by
  intro pins s σ H x y v u Q I rx ry h
  rcases h with h | h
  · exact h1 pins s σ H x y v u Q I rx ry h
  · exact h2 pins s σ H x y v u Q I rx ry h
theorem op_add_bb {X : Cx} : OpR X (binaryOp .Add) (fun x y H Q => ∃ j k, x = .bl j ∧ y = .bl k ∧ Q (.int (b2i j + b2i k)) H) := by
  intro pins s σ H x y v u Q I rx ry h
  obtain ⟨j, k, rfl, rfl, q⟩ := h
  cases rx
  cases ry
  exact add_bool ⟨.int (b2i j + b2i k), H, I.tok _, ⟨_, rfl⟩, q⟩
theorem kb1 {K : PySem.W.Frag} {x qual : Str} {st : Stmt} {f : Addr} {fd : FuncData} {ps : List Str} {k1 : Str} (F : Fun K x qual st f fd)
    (h : ∀ (kV doc pm : Value) (an : Option Addr) (cdv ct a : Value),
      bindArgs (PySem.W.fnOf x qual (defArgs st) (defBody st) (defScope st) .none kV doc pm an cdv ct) ⟨[], [k1].zip [a]⟩ = pure (ps.zip [a])) : KBn K fd ps 0 [k1] (fun _ ws => ws) (fun _ zs => zs) := by
  refine kbn F (fun _ r => r) fun kV doc pm an cdv ct us ws l1 l2 => ?_
  match us, ws, l1, l2 with
  | [], [a], _, _ => exact h kV doc pm an cdv ct a
def rev3 {α : Type} : List α → List α
  | [a, b, c] => [c, b, a]
  | l => l
theorem rev3_rel {zs : List V} {ws : List Value} (r : Vals zs ws) : Vals (rev3 zs) (rev3 ws) := by
  cases r with
  | nil => exact .nil
  | cons r1 r =>
    cases r with
    | nil => exact .cons r1 .nil
    | cons r2 r =>
      cases r with
      | nil => exact .cons r1 (.cons r2 .nil)
      | cons r3 r =>
        cases r with
        | nil => exact .cons r3 (.cons r2 (.cons r1 .nil))
        | cons r4 r => exact .cons r1 (.cons r2 (.cons r3 (.cons r4 r)))
theorem kb3r {K : PySem.W.Frag} {x qual : Str} {st : Stmt} {f : Addr} {fd : FuncData} {ps : List Str} {k1 k2 k3 : Str} (F : Fun K x qual st f fd)
    (h : ∀ (kV doc pm : Value) (an : Option Addr) (cdv ct a b c : Value),
      bindArgs (PySem.W.fnOf x qual (defArgs st) (defBody st) (defScope st) .none kV doc pm an cdv ct) ⟨[], [k1, k2, k3].zip [a, b, c]⟩ = pure (ps.zip [c, b, a])) : KBn K fd ps 0 [k1, k2, k3] (fun _ ws => rev3 ws) (fun _ zs => rev3 zs) := by
  refine kbn F (fun _ r => rev3_rel r) fun kV doc pm an cdv ct us ws l1 l2 => ?_
  match us, ws, l1, l2 with
  | [], [a, b, c], _, _ => exact h kV doc pm an cdv ct a b c
end Kw0

namespace K4
open PySem PySem.Spec PyProof.Rows L2
def topS (i : Nat) : Stmt := PySem.Challenge.pw_dirservice_k04_orders.main.body.getD i (.Pass ⟨0, 0, 0, 0⟩)
abbrev s_fold : Stmt := topS 6
theorem sc_fold : FnScope ["value", "part"] ["value"] (defScope s_fold) := ⟨rfl, rfl, rfl, by decide +kernel, rfl, by decide +kernel, by decide +kernel⟩
abbrev s_normal : Stmt := topS 30
theorem sc_normal : FnScope ["syntax", "value"] ["syntax", "value"] (defScope s_normal) := ⟨rfl, rfl, rfl, by decide +kernel, rfl, by decide +kernel, by decide +kernel⟩
abbrev s_rank : Stmt := topS 31
theorem sc_rank : FnScope ["syntax", "normal_form"] ["syntax", "normal_form"] (defScope s_rank) := ⟨rfl, rfl, rfl, by decide +kernel, rfl, by decide +kernel, by decide +kernel⟩
abbrev s_is_less : Stmt := topS 32
theorem sc_is_less : FnScope ["syntax", "one", "other"] ["syntax", "one", "other"] (defScope s_is_less) := ⟨rfl, rfl, rfl, by decide +kernel, rfl, by decide +kernel, by decide +kernel⟩
abbrev s_q_source : Stmt := topS 34
theorem sc_q_source : FnScope ["_law_script", "_law_k", "_law_cell"] ["_law_script", "_law_k"] (defScope s_q_source) := ⟨rfl, rfl, rfl, by decide +kernel, rfl, by decide +kernel, by decide +kernel⟩
abbrev s_q_next : Stmt := topS 35
theorem sc_q_next : FnScope ["_law_source_here", "_law_many", "_law_found", "_law_primes", "_law_prime", "_law_mixed"] ["_law_source_here", "_law_many"] (defScope s_q_next) := ⟨rfl, rfl, rfl, by decide +kernel, rfl, by decide +kernel, by decide +kernel⟩
abbrev s_q_pick : Stmt := topS 36
theorem sc_q_pick : FnScope ["_law_source_here", "_law_items"] ["_law_source_here", "_law_items"] (defScope s_q_pick) := ⟨rfl, rfl, rfl, by decide +kernel, rfl, by decide +kernel, by decide +kernel⟩
abbrev s_q_rounds : Stmt := topS 37
theorem sc_q_rounds : FnScope ["_law_script", "_law_most", "_law_blend", "_law_cells", "_law_k"] ["_law_script", "_law_most"] (defScope s_q_rounds) := ⟨rfl, rfl, rfl, by decide +kernel, rfl, by decide +kernel, by decide +kernel⟩
abbrev s_q_low : Stmt := topS 38
theorem sc_q_low : FnScope ["_law_thing", "_law_found", "_law_sign", "_law_at", "_law_low_here"] ["_law_thing"] (defScope s_q_low) := ⟨rfl, rfl, rfl, by decide +kernel, rfl, by decide +kernel, by decide +kernel⟩
abbrev s_q_string : Stmt := topS 39
theorem sc_q_string : FnScope ["_law_source_here", "_law_most", "_law_signs", "_law_more", "_law_way", "_law_found", "_law_turn", "_law_at"] ["_law_source_here", "_law_most"] (defScope s_q_string) := ⟨rfl, rfl, rfl, by decide +kernel, rfl, by decide +kernel, by decide +kernel⟩
abbrev s_q_turned : Stmt := topS 40
theorem sc_q_turned : FnScope ["_law_source_here", "_law_thing", "_law_found", "_law_room", "_law_sign"] ["_law_source_here", "_law_thing"] (defScope s_q_turned) := ⟨rfl, rfl, rfl, by decide +kernel, rfl, by decide +kernel, by decide +kernel⟩
abbrev s_q_number_is_less : Stmt := topS 41
theorem sc_q_number_is_less : FnScope ["_law_one", "_law_two"] ["_law_one", "_law_two"] (defScope s_q_number_is_less) := ⟨rfl, rfl, rfl, by decide +kernel, rfl, by decide +kernel, by decide +kernel⟩
abbrev s_q_is_less : Stmt := topS 42
theorem sc_q_is_less : FnScope ["_law_form", "_law_one", "_law_two"] ["_law_form", "_law_one", "_law_two"] (defScope s_q_is_less) := ⟨rfl, rfl, rfl, by decide +kernel, rfl, by decide +kernel, by decide +kernel⟩
abbrev s_q_numbers : Stmt := topS 43
theorem sc_q_numbers : FnScope ["_law_source_here", "_law_many", "_law_found", "_law_first", "_law_turn", "_law_at", "_law_near"] ["_law_source_here"] (defScope s_q_numbers) := ⟨rfl, rfl, rfl, by decide +kernel, rfl, by decide +kernel, by decide +kernel⟩
abbrev s_q_strings : Stmt := topS 44
theorem sc_q_strings : FnScope ["_law_source_here", "_law_first", "_law_found", "_law_turn", "_law_at", "_law_near"] ["_law_source_here"] (defScope s_q_strings) := ⟨rfl, rfl, rfl, by decide +kernel, rfl, by decide +kernel, by decide +kernel⟩
abbrev s_law : Stmt := topS 45
theorem sc_law : FnScope ["_law_script", "_law_source_here", "_law_some", "_law_form", "_law_row", "_law_one", "_law_two", "_law_found"] ["_law_script"] (defScope s_law) := ⟨rfl, rfl, rfl, by decide +kernel, rfl, by decide +kernel, by decide +kernel⟩
/-- what the top has written -/
structure Txt (K : PySem.W.Frag) (mg : Str → Option Value) where
  f_fold : Addr
  d_fold : FuncData
  F_fold : Fun K "fold" "fold" s_fold f_fold d_fold
  g_fold : mg "fold" = some (.ref f_fold)
  b_fold : Binds K d_fold ["value"] []
  f_normal : Addr
  d_normal : FuncData
  F_normal : Fun K "normal" "normal" s_normal f_normal d_normal
  g_normal : mg "normal" = some (.ref f_normal)
  b_normal : Binds K d_normal ["syntax", "value"] []
  f_rank : Addr
  d_rank : FuncData
  F_rank : Fun K "rank" "rank" s_rank f_rank d_rank
  g_rank : mg "rank" = some (.ref f_rank)
  b_rank : Binds K d_rank ["syntax", "normal_form"] []
  f_is_less : Addr
  d_is_less : FuncData
  F_is_less : Fun K "is_less" "is_less" s_is_less f_is_less d_is_less
  g_is_less : mg "is_less" = some (.ref f_is_less)
  b_is_less : Binds K d_is_less ["syntax", "one", "other"] []
  f_q_source : Addr
  d_q_source : FuncData
  F_q_source : Fun K "_law_source" "_law_source" s_q_source f_q_source d_q_source
  g_q_source : mg "_law_source" = some (.ref f_q_source)
  b_q_source : Binds K d_q_source ["_law_script", "_law_k"] []
  f_q_next : Addr
  d_q_next : FuncData
  F_q_next : Fun K "_law_next" "_law_next" s_q_next f_q_next d_q_next
  g_q_next : mg "_law_next" = some (.ref f_q_next)
  b_q_next : Binds K d_q_next ["_law_source_here", "_law_many"] []
  f_q_pick : Addr
  d_q_pick : FuncData
  F_q_pick : Fun K "_law_pick" "_law_pick" s_q_pick f_q_pick d_q_pick
  g_q_pick : mg "_law_pick" = some (.ref f_q_pick)
  b_q_pick : Binds K d_q_pick ["_law_source_here", "_law_items"] []
  f_q_rounds : Addr
  d_q_rounds : FuncData
  F_q_rounds : Fun K "_law_rounds" "_law_rounds" s_q_rounds f_q_rounds d_q_rounds
  g_q_rounds : mg "_law_rounds" = some (.ref f_q_rounds)
  b_q_rounds : Binds K d_q_rounds ["_law_script", "_law_most"] []
  f_q_low : Addr
  d_q_low : FuncData
  F_q_low : Fun K "_law_low" "_law_low" s_q_low f_q_low d_q_low
  g_q_low : mg "_law_low" = some (.ref f_q_low)
  b_q_low : Binds K d_q_low ["_law_thing"] []
  f_q_string : Addr
  d_q_string : FuncData
  F_q_string : Fun K "_law_string" "_law_string" s_q_string f_q_string d_q_string
  g_q_string : mg "_law_string" = some (.ref f_q_string)
  b_q_string : Binds K d_q_string ["_law_source_here", "_law_most"] []
  f_q_turned : Addr
  d_q_turned : FuncData
  F_q_turned : Fun K "_law_turned" "_law_turned" s_q_turned f_q_turned d_q_turned
  g_q_turned : mg "_law_turned" = some (.ref f_q_turned)
  b_q_turned : Binds K d_q_turned ["_law_source_here", "_law_thing"] []
  f_q_number_is_less : Addr
  d_q_number_is_less : FuncData
  F_q_number_is_less : Fun K "_law_number_is_less" "_law_number_is_less" s_q_number_is_less f_q_number_is_less d_q_number_is_less
  g_q_number_is_less : mg "_law_number_is_less" = some (.ref f_q_number_is_less)
  b_q_number_is_less : Binds K d_q_number_is_less ["_law_one", "_law_two"] []
  f_q_is_less : Addr
  d_q_is_less : FuncData
  F_q_is_less : Fun K "_law_is_less" "_law_is_less" s_q_is_less f_q_is_less d_q_is_less
  g_q_is_less : mg "_law_is_less" = some (.ref f_q_is_less)
  b_q_is_less : Binds K d_q_is_less ["_law_form", "_law_one", "_law_two"] []
  f_q_numbers : Addr
  d_q_numbers : FuncData
  F_q_numbers : Fun K "_law_numbers" "_law_numbers" s_q_numbers f_q_numbers d_q_numbers
  g_q_numbers : mg "_law_numbers" = some (.ref f_q_numbers)
  b_q_numbers : Binds K d_q_numbers ["_law_source_here"] []
  f_q_strings : Addr
  d_q_strings : FuncData
  F_q_strings : Fun K "_law_strings" "_law_strings" s_q_strings f_q_strings d_q_strings
  g_q_strings : mg "_law_strings" = some (.ref f_q_strings)
  b_q_strings : Binds K d_q_strings ["_law_source_here"] []
  f_law : Addr
  d_law : FuncData
  F_law : Fun K "law" "law" s_law f_law d_law
  g_law : mg "law" = some (.ref f_law)
  b_law : Binds K d_law ["_law_script"] []
  z_bool : mg "bool" = none
  z_int : mg "int" = none
  z_isinstance : mg "isinstance" = none
  z_len : mg "len" = none
  z_list : mg "list" = none
  z_max : mg "max" = none
  z_range : mg "range" = none
  z_sum : mg "sum" = none
end K4

namespace K4
open PySem PySem.Spec PyProof.Rows L2 TL G
section
variable {P : Program} {w : World} {K : PySem.W.Frag} {mg : Str → Option Value} {base : Heap}
/-! ### the next number -/
def spNext : Sp := fun vs H Q _ => ∃ (a : Addr) (c m : Int), vs = [.ref a, .int m] ∧ Src H a c ∧ c ≤ 1000000000 ∧ 1 ≤ m ∧ m < 1000000000 ∧
  ∀ H' k, 0 ≤ k → k < m → ExA a H H' → Src H' a (c + 1) → Q (.int k) H'
def primes : List Int := [2147483647, 2147483629, 2147483587, 2147483579, 2147483563, 2147483549, 2147483543, 2147483497, 2147483489, 2147483477, 2147483423]
theorem primes_ok : ∀ p ∈ primes, 2147483000 < p ∧ p < 2147483648 := by decide
theorem ok_q_next (T : Txt K mg) : FnOk P w K mg base CX0 1 T.f_q_next T.d_q_next ["_law_source_here", "_law_many"] spNext := by
  refine T.F_q_next.ok sc_q_next (fun vs H Q E h => ?_) (fun cdv A outer s H vs Q E hr h => ?_)
  · obtain ⟨a, c, m, rfl, _⟩ := h
    rfl
  · obtain ⟨a, c, m, rfl, ⟨x, y, z, ha, y0, yc⟩, hc, m1, m2, k⟩ := h
    refine ⟨_, (pss_cons (ps_if (pt_cmpR op_gt (pe_ix ix_list (pv 0) pe_int (fun _ _ => rfl)) pe_int (nomark _))
    (pss_cons (ps_set (i := 2) sc_q_next.nd rfl (.inl rfl) (pe_op op_modN (pe_callTy call_int1 (by rfl) T.z_int (by decide +kernel) (pa_cons (pe_ix ix_list (pv 0) pe_int (fun _ _ => rfl)) pa_nil)) (pv 1)))
    (pss_cons (ps_asg (pe_op op_fdivN (pe_callTy call_int1 (by rfl) T.z_int (by decide +kernel) (pa_cons (pe_ix ix_list (pv 0) pe_int (fun _ _ => rfl)) pa_nil)) (pv 1)) (pg_sub (pv 0) pe_int set_list))
    (pss_one (ps_ret (pv 2)))))
    pss_nil)
    (pss_cons (ps_asg (pe_op op_add (pe_ix ix_list (pv 0) pe_int (fun _ _ => rfl)) pe_int) (pg_sub (pv 0) pe_int set_list))
    (pss_cons (ps_set (i := 3) sc_q_next.nd rfl (.inl rfl) (pe_lst (pa_cons pe_int (pa_cons pe_int (pa_cons pe_int (pa_cons pe_int (pa_cons pe_int (pa_cons pe_int (pa_cons pe_int (pa_cons pe_int pa_nil))))))))))
    (pss_cons (ps_set (i := 4) sc_q_next.nd rfl (.inl rfl) (pe_ix ix_list (pe_op op_cat (pv 3) (pe_lst (pa_cons pe_int (pa_cons pe_int (pa_cons pe_int pa_nil))))) (pe_op op_modN (pe_callTy call_int1 (by rfl) T.z_int (by decide +kernel) (pa_cons (pe_ix ix_list (pv 0) pe_int (fun _ _ => rfl)) pa_nil)) pe_int) (fun _ _ => rfl)))
    (pss_cons (ps_set (i := 5) sc_q_next.nd rfl (.inl rfl) (pe_op op_add (pe_op op_add (pe_op op_modN (pe_callTy call_int1 (by rfl) T.z_int (by decide +kernel) (pa_cons (pe_ix ix_list (pv 0) pe_int (fun _ _ => rfl)) pa_nil)) (pv 4)) (pe_op op_mul pe_int (pe_ix ix_list (pv 0) pe_int (fun _ _ => rfl)))) pe_int))
    (pss_one (ps_ret (pe_op op_modN (pe_callTy call_int1 (by rfl) T.z_int (by decide +kernel) (pa_cons (pe_op op_fdivN (pe_op op_modN (pe_callTy call_int1 (by rfl) T.z_int (by decide +kernel) (pa_cons (pe_op op_pow (pv 5) pe_int) pa_nil)) (pv 4)) pe_int) pa_nil)) (pv 1))))))))), ?_⟩
    refine ⟨.ref a, rfl, a, _, 2, .int z, rfl, rfl, SqL.of ha, atI_nat (j := 2) rfl, z, 0, rfl, rfl, _, rfl, ite2 (fun hz => ?_) (fun hz => ?_)⟩
    · have hz : (0 : Int) < z := of_decide_eq_true hz
      refine ⟨.ref a, rfl, a, _, 2, .int z, rfl, rfl, SqL.of ha, atI_nat (j := 2) rfl, .inl ⟨z, rfl, .int m, rfl, z, m, rfl, rfl, by omega, ?_⟩⟩
      refine ⟨.ref a, rfl, a, _, 2, .int z, rfl, rfl, SqL.of ha, atI_nat (j := 2) rfl, .inl ⟨z, rfl, .int m, rfl, z, m, rfl, rfl, ⟨by omega, by omega⟩, ?_⟩⟩
      refine ⟨.ref a, rfl, a, _, 2, 2, rfl, rfl, ha, rfl, ?_⟩
      exact ⟨_, rfl, k _ _ (Int.fmod_nonneg_of_pos _ (by omega)) (Int.fmod_lt_of_pos _ (by omega)) ExA.put ⟨x, y, _, upd_same, y0, by omega⟩⟩
    · -- source[1] = source[1] + 1
      refine ⟨.ref a, rfl, a, _, 1, .int y, rfl, rfl, SqL.of ha, atI_nat (j := 1) rfl, y, 1, rfl, rfl, ?_⟩
      refine ⟨.ref a, rfl, a, _, 1, 1, rfl, rfl, ha, rfl, ?_⟩
      have h1 : (upd H a (.lst [V.int x, V.int (y + 1), V.int z])) a = some (.lst [V.int x, V.int (y + 1), V.int z]) := upd_same
      show tSeq _ _ _ _ (upd H a (.lst [V.int x, V.int (y + 1), V.int z]))
      -- the primes
      refine ⟨by show 8 ≤ sizeLine; decide, fun p1 n1 => ?_⟩
      have a1 : p1 ≠ a := new_ne h1 n1
      refine ⟨.ref p1, rfl, by show 3 ≤ sizeLine; decide, fun p2 n2 => ?_⟩
      have h2 := (same_upd (o := .lst [V.int 2147483647, V.int 2147483629, V.int 2147483587, V.int 2147483579, V.int 2147483563, V.int 2147483549, V.int 2147483543, V.int 2147483497]) n1) _ _ h1
      have a2 : p2 ≠ a := new_ne h2 n2
      have a3 : p2 ≠ p1 := new_ne upd_same n2
      refine ⟨p1, p2, _, _, rfl, rfl, (by rw [upd_ne a3.symm]; exact upd_same), upd_same, (by show 8 + 3 ≤ sizeLine; decide), fun p3 n3 => ?_⟩
      have h3 := (same_upd (o := .lst [V.int 2147483489, V.int 2147483477, V.int 2147483423]) n2) _ _ h2
      have a4 : p3 ≠ a := new_ne h3 n3
      have h4 := (same_upd (o := .lst (primes.map V.int)) n3) _ _ h3
      have e4 : ExA a H (upd (upd (upd (upd H a (.lst [V.int x, V.int (y + 1), V.int z])) p1 (.lst [V.int 2147483647, V.int 2147483629, V.int 2147483587, V.int 2147483579, V.int 2147483563, V.int 2147483549, V.int 2147483543, V.int 2147483497])) p2 (.lst [V.int 2147483489, V.int 2147483477, V.int 2147483423])) p3 (.lst (primes.map V.int))) :=
        ((ExA.put.trans (ExA.new n1)).trans (ExA.new n2)).trans (ExA.new n3)
      have l4 : (upd (upd (upd (upd H a (.lst [V.int x, V.int (y + 1), V.int z])) p1 (.lst [V.int 2147483647, V.int 2147483629, V.int 2147483587, V.int 2147483579, V.int 2147483563, V.int 2147483549, V.int 2147483543, V.int 2147483497])) p2 (.lst [V.int 2147483489, V.int 2147483477, V.int 2147483423])) p3 (.lst (primes.map V.int))) p3 = some (.lst (primes.map V.int)) := upd_same
      obtain ⟨v, hv, hm⟩ := atI_lt (xs := primes.map V.int) (i := (y + 1).fmod 11) (Int.fmod_nonneg_of_pos _ (by decide)) (Int.fmod_lt_of_pos _ (by decide))
      obtain ⟨pr, hpr, rfl⟩ := ints_mem hm
      have hp := primes_ok pr hpr
      -- prime
      refine ⟨.ref a, rfl, a, _, 1, .int (y + 1), rfl, rfl, SqL.of h4, atI_nat (j := 1) rfl, .inl ⟨y + 1, rfl, y + 1, 11, rfl, rfl, (by show (11 : Int) ≠ 0; decide), ?_⟩⟩
      refine ⟨p3, primes.map V.int, _, _, rfl, rfl, SqL.of l4, hv, ?_⟩
      -- mixed
      refine ⟨.ref a, rfl, a, _, 0, .int x, rfl, rfl, SqL.of h4, atI_nat (j := 0) rfl, .inl ⟨x, rfl, .int pr, rfl, x, pr, rfl, rfl, by omega, ?_⟩⟩
      refine ⟨.ref a, rfl, a, _, 1, .int (y + 1), rfl, rfl, SqL.of h4, atI_nat (j := 1) rfl, 7919, y + 1, rfl, rfl, .inl ⟨by decide, by decide⟩, ?_⟩
      have b1 := Int.fmod_nonneg_of_pos x (show 0 < pr by omega)
      have b2 := Int.fmod_lt_of_pos x (show 0 < pr by omega)
      refine ⟨_, _, rfl, rfl, _, _, rfl, rfl, ?_⟩
      -- the return
      refine ⟨_, rfl, _, _, rfl, rfl, ⟨by decide, by decide, ?_⟩, .inl ⟨_, rfl, .int pr, rfl, _, pr, rfl, rfl, by omega, _, 13, rfl, rfl, ⟨by decide, by decide⟩, .inl ⟨_, rfl, .int m, rfl, _, m, rfl, rfl, by omega, ?_⟩⟩⟩
      · show (x.fmod pr + 7919 * (y + 1) + 1).natAbs < 2 ^ 64
        have : (x.fmod pr + 7919 * (y + 1) + 1) < 18446744073709551616 := by omega
        omega
      · exact k _ _ (Int.fmod_nonneg_of_pos _ (by omega)) (Int.fmod_lt_of_pos _ (by omega)) e4 ⟨x, y + 1, z, h4, by omega, by omega⟩
/-! ### one of some items -/
def spPick (K : PySem.W.Frag) : Sp := fun vs H Q _ => ∃ (a : Addr) (c : Int) (it : V), vs = [.ref a, it] ∧ Src H a c ∧ c ≤ 1000000000 ∧
  ((∃ s : Str, it = .str s ∧ 1 ≤ s.length ∧ s.length ≤ 1000 ∧ ∀ H' ch, ch ∈ tl s → ExA a H H' → Src H' a (c + 1) → Q (.str ⟨#[ch]⟩) H') ∨
   (∃ (p : Addr) (xs : List V), it = .ref p ∧ p ≠ a ∧ SqL K H p xs ∧ 1 ≤ xs.length ∧ xs.length ≤ 1000 ∧ ∀ H' v, v ∈ xs → ExA a H H' → Src H' a (c + 1) → Q v H'))
theorem ok_q_pick (T : Txt K mg) : FnOk P w K mg base CX0 2 T.f_q_pick T.d_q_pick ["_law_source_here", "_law_items"] (spPick K) := by
  refine T.F_q_pick.ok sc_q_pick (fun vs H Q E h => ?_) (fun cdv A outer s H vs Q E hr h => ?_)
  · obtain ⟨a, c, it, rfl, _⟩ := h
    rfl
  · obtain ⟨a, c, it, rfl, hs, hc, h⟩ := h
    refine ⟨_, (pss_one (ps_ret (pe_ix ix_seq (pv 1) (pe_call (ok_q_next T) (hr.mono (by decide)) (by rfl) T.g_q_next T.F_q_next.kp T.b_q_next .nil pass0 (pa_cons (pv 0) (pa_cons (pe_callB call_len (by rfl) T.z_len (by decide +kernel) (pa_cons (pv 1) pa_nil)) pa_nil))) (fun _ _ => rfl)))), ?_⟩
    rcases h with ⟨z, rfl, l1, l2, k⟩ | ⟨p, xs, rfl, np, hx, l1, l2, k⟩
    · refine ⟨_, rfl, .ref a, rfl, .str z, rfl, _, z.length, rfl, ⟨Nat.le_of_lt (small1000 l2), rfl⟩, a, c, _, rfl, hs, hc, by omega, by omega, fun H' i i0 i1 e q => ?_⟩
      obtain ⟨n, rfl⟩ := Int.eq_ofNat_of_zero_le i0
      have hn : n < (tl z).length := by rw [← len_tl]; omega
      exact .inr (.inr ⟨z, _, _, rfl, rfl, Nat.le_of_lt (small1000 l2), atI_nat (List.getElem?_eq_getElem hn), k H' _ (List.getElem_mem hn) e q⟩)
    · refine ⟨_, rfl, .ref a, rfl, .ref p, rfl, _, xs.length, rfl, .inl ⟨xs, hx, rfl⟩, a, c, _, rfl, hs, hc, by omega, by omega, fun H' i i0 i1 e q => ?_⟩
      obtain ⟨v, hv, hm⟩ := atI_lt (xs := xs) i0 i1
      exact .inl ⟨p, xs, _, v, rfl, rfl, e.seq np hx, hv, k H' v hm e q⟩
theorem pickS {K : PySem.W.Frag} {a : Addr} {c : Int} {t : Str} {H : Hp} {Q : VK} {E : XK} (hs : Src H a c) (hc : c ≤ 1000000000) (l : 1 ≤ t.length ∧ t.length ≤ 1000)
    (k : ∀ H' ch, ch ∈ tl t → ExA a H H' → Src H' a (c + 1) → Q (.str ⟨#[ch]⟩) H') : spPick K [.ref a, .str t] H Q E := ⟨a, c, .str t, rfl, hs, hc, .inl ⟨t, rfl, l.1, l.2, k⟩⟩
theorem pickL {K : PySem.W.Frag} {a p : Addr} {c : Int} {xs : List V} {H : Hp} {Q : VK} {E : XK} (hs : Src H a c) (hc : c ≤ 1000000000) (np : p ≠ a) (hx : H p = some (.lst xs)) (l : 1 ≤ xs.length ∧ xs.length ≤ 1000)
    (k : ∀ H' v, v ∈ xs → ExA a H H' → Src H' a (c + 1) → Q v H') : spPick K [.ref a, .ref p] H Q E := ⟨a, c, .ref p, rfl, hs, hc, .inr ⟨p, xs, rfl, np, SqL.of hx, l.1, l.2, k⟩⟩
/-! ### a source of a cell; the sources of a script -/
def spSource (K : PySem.W.Frag) : Sp := fun vs H Q _ => ∃ (p : Addr) (ns : List Int) (k : Int), vs = [.ref p, .int k] ∧ SqL K H p (ns.map V.int) ∧ 1 ≤ ns.length ∧ ns.length ≤ 1000 ∧ 0 ≤ k ∧ k ≤ 1000 ∧
  ∀ H' a, H a = none → Same H H' → Src H' a 3000 → Q (.ref a) H'
theorem dp_ints {K : PySem.W.Frag} {H : Hp} : ∀ ns : List Int, DpAll K H (ns.map V.int) (ns.map PyData.int)
  | [] => .nil
  | n :: r => .cons (.int n) (dp_ints r)
theorem eqv_nil : ∀ ns : List Int, PyData.eqv (.list (ns.map PyData.int)) (.list []) = ns.isEmpty
  | [] => rfl
  | n :: r => rfl
theorem ok_q_source (T : Txt K mg) : FnOk P w K mg base CX0 1 T.f_q_source T.d_q_source ["_law_script", "_law_k"] (spSource K) := by
  refine T.F_q_source.ok sc_q_source (fun vs H Q E h => ?_) (fun cdv A outer s H vs Q E hr h => ?_)
  · obtain ⟨p, ns, k, rfl, _⟩ := h
    rfl
  · obtain ⟨p, ns, k, rfl, hx, h1, hl, k0, k1, q⟩ := h
    refine ⟨_, (pss_cons (ps_set (i := 2) sc_q_source.nd rfl (.inl rfl) (pe_ifExp (pt_cmpR (op_neD hr.units) (pv 0) (pe_lst pa_nil) (nomark _)) (pe_ix ix_list (pv 0) (pe_op op_modN (pe_callTy call_int1 (by rfl) T.z_int (by decide +kernel) (pa_cons (pv 1) pa_nil)) (pe_callB call_len (by rfl) T.z_len (by decide +kernel) (pa_cons (pv 0) pa_nil))) (fun _ _ => rfl)) pe_int))
    (pss_one (ps_ret (pe_lst (pa_cons (pe_callTy call_int1 (by rfl) T.z_int (by decide +kernel) (pa_cons (pv 2) pa_nil)) (pa_cons (pe_op op_mul pe_int (pv 1)) (pa_cons (pe_ifExp (pt_cmpR op_ge (pv 2) (pe_op op_pow pe_int pe_int) (nomark _)) (pe_op op_fdivW (pe_callTy call_int1 (by rfl) T.z_int (by decide +kernel) (pa_cons (pv 2) pa_nil)) (pe_op op_pow pe_int pe_int)) pe_int) pa_nil))))))), ?_⟩
    refine ⟨.ref p, rfl, Nat.zero_le _, fun e0 ne0 => ?_⟩
    have s0 : Same H (upd H e0 (.lst [])) := same_upd ne0
    refine ⟨.list (ns.map PyData.int), .list [], .lst (s0.seq hx) (dp_ints ns), .lst (SqL.of upd_same) .nil, PySem.W.ke_shaped_ints ns, PySem.W.ke_shaped_ints [], _, rfl, ?_⟩
    rw [eqv_nil, show ns.isEmpty = false by cases ns with | nil => cases h1 | cons _ _ => rfl]
    refine iteT ?_
    have hm : (0 : Int) < ((ns.map V.int).length : Int) := by rw [List.length_map]; omega
    refine ⟨.ref p, rfl, .int k, rfl, .inl ⟨k, rfl, .ref p, rfl, _, _, rfl, .inl ⟨_, s0.seq hx, rfl⟩, k, _, rfl, rfl, by omega, ?_⟩⟩
    obtain ⟨v, hv, hm⟩ := atI_lt (xs := ns.map V.int) (i := k.fmod (((ns.map V.int).length : Nat) : Int)) (Int.fmod_nonneg_of_pos _ hm) (Int.fmod_lt_of_pos _ hm)
    obtain ⟨x, _, rfl⟩ := ints_mem hm
    refine ⟨p, _, _, _, rfl, rfl, s0.seq hx, hv, ?_⟩
    have fin : ∀ z : Int, ∀ a, (upd H e0 (.lst [])) a = none → Q (.ref a) (upd (upd H e0 (.lst [])) a (.lst [.int x, .int (3 * k), .int z])) := fun z a na =>
      q _ a (s0.free na) (s0.trans (same_upd na)) ⟨x, 3 * k, z, upd_same, by omega, by omega⟩
    refine ⟨.int x, rfl, .inl ⟨x, rfl, .int k, rfl, 3, k, rfl, rfl, .inl ⟨by decide, by decide⟩, .int x, rfl, 10, 18, rfl, rfl, ⟨by decide, by decide, by decide⟩, x, _, rfl, rfl, _, rfl, ?_⟩⟩
    refine ite2 (fun _ => ?_) (fun _ => ?_)
    · refine ⟨.int x, rfl, .inl ⟨x, rfl, 10, 18, rfl, rfl, ⟨by decide, by decide, by decide⟩, x, _, rfl, rfl, ⟨by decide, by decide⟩, ?_⟩⟩
      exact ⟨by show 3 ≤ sizeLine; decide, fin _⟩
    · exact ⟨by show 3 ≤ sizeLine; decide, fin _⟩
theorem cut_to (xs : List V) (m : Nat) : cutV xs none (some (m : Int)) = xs.take m := by
  unfold cutV
  rw [HT.sIx_none, show HT.sIx xs.length xs.length (some (m : Int)) = min m xs.length from HT.sIx_nat xs.length xs.length m, Nat.sub_zero, List.drop_zero]
  exact (List.take_eq_take_min).symm
def spRounds (K : PySem.W.Frag) : Sp := fun vs H Q _ => ∃ (p : Addr) (ns : List Int) (m : Nat), vs = [.ref p, .int (m : Int)] ∧ SqL K H p (ns.map V.int) ∧ m ≤ 60 ∧
  ∀ H' r (srcs : List Addr), H r = none → Same H H' → H' r = some (.lst (srcs.map V.ref)) → srcs.length ≤ 61 → srcs.Nodup → (∀ a ∈ srcs, Src H' a 3000 ∧ H a = none ∧ a ≠ r) → Q (.ref r) H'
theorem ok_q_rounds (T : Txt K mg) : FnOk P w K mg base CX0 2 T.f_q_rounds T.d_q_rounds ["_law_script", "_law_most"] (spRounds K) := by
  refine T.F_q_rounds.ok sc_q_rounds (fun vs H Q E h => ?_) (fun cdv A outer s H vs Q E hr h => ?_)
  · obtain ⟨p, ns, m, rfl, _⟩ := h
    rfl
  · obtain ⟨p, ns, m, rfl, hx, hm, q⟩ := h
    refine ⟨_, (pss_cons (ps_set (i := 2) sc_q_rounds.nd rfl (.inl rfl) (pe_op op_modN (pe_callTy call_int1 (by rfl) T.z_int (by decide +kernel) (pa_cons (pe_op op_add (pe_op op_add (pe_op op_mul (pe_callB (cr_sum rfl) (by rfl) T.z_sum (by decide +kernel) (pa_cons (pv 0) pa_nil)) pe_int) (pe_op op_mul pe_int (pe_callB call_len (by rfl) T.z_len (by decide +kernel) (pa_cons (pv 0) pa_nil)))) pe_int) pa_nil)) (pe_op op_pow pe_int pe_int)))
    (pss_cons (ps_set (i := 3) sc_q_rounds.nd rfl (.inr rfl) (pe_op op_cat (pe_callTy call_list_of (by rfl) T.z_list (by decide +kernel) (pa_cons (pe_slice sl_list (pv 0) po_none (po_some (pv 1))) pa_nil)) (pe_lst (pa_cons (pv 2) pa_nil))))
    (pss_one (ps_ret (pe_lc (own := [("_law_k", 4)]) (g := gName 4) (tt := tYes) rfl sc_q_rounds.nd (pi_range1 (by rfl) T.z_range (pa_cons (pe_callB call_len (by rfl) T.z_len (by decide +kernel) (pa_cons (pv 3) pa_nil)) pa_nil)) (blkOk_by (N := ["_law_script", "_law_most", "_law_blend", "_law_cells", "_law_k"]) (sc := defScope s_q_rounds) (by decide +kernel)) (fun _ _ _ _ _ => (pg_name (i := 4) sc_q_rounds.nd rfl (Or.inl rfl))) (fun _ _ _ _ _ => pts_nil) (fun _ _ _ _ _ => (pe_call (ok_q_source T) (hr.mono (by decide)) (by rfl) T.g_q_source T.F_q_source.kp T.b_q_source .nil pass0 (pa_cons (pv 3) (pa_cons (pv 4) pa_nil))))))))), ?_⟩
    refine ⟨.ref p, rfl, p, ns, rfl, hx, _, _, rfl, rfl, .inr ⟨by decide, by decide⟩, .ref p, rfl, _, _, rfl, .inl ⟨_, hx, rfl⟩, _, _, rfl, rfl, .inl ⟨by decide, by decide⟩, _, _, rfl, rfl, _, _, rfl, rfl,
      .inl ⟨_, rfl, 10, 17, rfl, rfl, ⟨by decide, by decide, by decide⟩, _, _, rfl, rfl, (by show ((10 : Int) ^ 17) ≠ 0; decide), ?_⟩⟩
    obtain ⟨b, hb⟩ : ∃ b, b = (ns.sum * 48271 + 104729 * (((ns.map V.int).length : Nat) : Int) + 17).fmod (10 ^ Int.toNat 17) := ⟨_, rfl⟩
    refine ⟨.ref p, rfl, .int m, rfl, m, rfl, p, _, rfl, hx, fun c nc => ?_⟩
    rw [cut_to]
    refine ⟨c, _, rfl, .inl (SqL.of upd_same), fun l nl => ?_⟩
    have lc : l ≠ c := new_ne upd_same nl
    refine ⟨.int b, (by rw [hb]; rfl), by show 1 ≤ sizeLine; decide, fun d nd => ?_⟩
    have dl : d ≠ l := new_ne upd_same nd
    refine ⟨l, d, _, _, rfl, rfl, (by rw [upd_ne dl.symm]; exact upd_same), upd_same, ?_, fun e ne => ?_⟩
    · rw [List.length_take]
      show min m _ + 1 ≤ sizeLine
      exact Nat.le_of_lt (small1000 (by omega))
    have sm : Same H (upd (upd (upd (upd H c (.lst ((ns.map V.int).take m))) l (.lst ((ns.map V.int).take m))) d (.lst [.int b])) e (.lst ((ns.map V.int).take m ++ [.int b]))) :=
      (((same_upd nc).trans (same_upd nl)).trans (same_upd nd)).trans (same_upd ne)
    have he : (upd (upd (upd (upd H c (.lst ((ns.map V.int).take m))) l (.lst ((ns.map V.int).take m))) d (.lst [.int b])) e (.lst ((ns.map V.int).take m ++ [.int b]))) e = some (.lst ((ns.take m ++ [b]).map V.int)) := by
      rw [upd_same, List.map_append, List.map_take]
      rfl
    have hle : (ns.take m ++ [b]).length ≤ 61 := by
      rw [List.length_append, List.length_take]
      show min m _ + 1 ≤ 61
      omega
    have hl1 : 1 ≤ (ns.take m ++ [b]).length := by
      rw [List.length_append]
      exact Nat.le_add_left _ _
    generalize ns.take m ++ [b] = cs at he hle hl1
    refine ⟨.ref e, rfl, _, cs.length, rfl, .inl ⟨_, SqL.of he, (List.length_map _).symm⟩, cs.length, rfl, by omega, by omega, fun D nD => ?_⟩
    have De : e ≠ D := ne_of_none he nD
    refine lc_range (lo := 0) (n := cs.length) (fun i H' => ∃ srcs : List Addr, srcs.length = i ∧ Same H H' ∧ H' e = some (.lst (cs.map V.int)) ∧ H' D = some (.lst (srcs.map V.ref)) ∧ srcs.Nodup ∧ ∀ a ∈ srcs, Src H' a 3000 ∧ H a = none ∧ a ≠ D)
      ⟨[], rfl, sm.trans (same_upd nD), (same_upd nD) _ _ he, upd_same, .nil, fun a h => nomatch h⟩ ?_ ?_
    · rintro i H' hi ⟨srcs, rfl, s1, h1, h2, h3, h4⟩
      refine ⟨rfl, .ref e, rfl, .int _, rfl, e, cs, _, rfl, SqL.of h1, hl1, by omega, by omega, by omega, fun H2 a na s2 sa => ?_⟩
      have aD : a ≠ D := new_ne h2 na
      have fD : H D = none := sm.free nD
      refine ⟨_, s2 _ _ h2, ?_, srcs ++ [a], by rw [List.length_append]; rfl, ?_, ?_, ?_, ?_, ?_⟩
      · rw [List.length_map]
        exact small1000 (by omega)
      · intro x o hxo
        rw [upd_ne (ne_of_none hxo fD)]
        exact s2 _ _ (s1 _ _ hxo)
      · rw [upd_ne De]
        exact s2 _ _ h1
      · rw [upd_same, List.map_append]
        rfl
      · rw [List.nodup_append]
        refine ⟨h3, by simp, fun x hx y hy => ?_⟩
        rw [List.mem_singleton] at hy
        subst hy
        obtain ⟨o, ho⟩ := (h4 x hx).1.some
        exact ne_of_none ho na
      · intro x hx
        rcases List.mem_append.mp hx with hx | hx
        · obtain ⟨g1, g2, g3⟩ := h4 x hx
          refine ⟨?_, g2, g3⟩
          obtain ⟨u, v, z, g, g0, g5⟩ := g1.same s2
          exact ⟨u, v, z, by rw [upd_ne g3]; exact g, g0, g5⟩
        · rw [List.mem_singleton] at hx
          subst hx
          refine ⟨?_, s1.free na, aD⟩
          obtain ⟨u, v, z, g, g0, g5⟩ := sa
          exact ⟨u, v, z, by rw [upd_ne aD]; exact g, g0, g5⟩
    · rintro H' ⟨srcs, hl, s1, h1, h2, h3, h4⟩
      exact q H' D srcs (sm.free nD) s1 h2 (by omega) h3 h4
end
end K4

namespace K4
open PySem PySem.Spec PyProof.Rows L2 TL G M
section
variable {P : Program} {w : World} {K : PySem.W.Frag} {mg : Str → Option Value} {base : Heap}
def Asc (s : Str) : Prop := (∀ c ∈ tl s, c < 128) ∧ s.length ≤ 900
theorem take_filter {α : Type} (f : α → Bool) {l : List α} {i : Nat} {x : α} (h : l[i]? = some x) : (l.take (i + 1)).filter f = (l.take i).filter f ++ (if f x then [x] else []) := by
  rw [List.take_add_one, h, List.filter_append]
  congr 1
  show [x].filter f = _
  rw [List.filter_cons]
  rfl
def spFold : Sp := fun vs H Q _ => ∃ v : Str, vs = [.str v] ∧ Asc v ∧ ∀ H', Same H H' → Q (.str (foldS v)) H'
theorem ok_fold (T : Txt K mg) : FnOk P w K mg base CX0 1 T.f_fold T.d_fold ["value"] spFold := by
  refine T.F_fold.ok sc_fold (fun vs H Q E h => ?_) (fun cdv A outer s H vs Q E hr h => ?_)
  · obtain ⟨v, rfl, _⟩ := h
    rfl
  · obtain ⟨v, rfl, ⟨ha, hl⟩, q⟩ := h
    refine ⟨_, (pss_one (ps_ret (pe_join pe_str (pe_lc (own := [("part", 1)]) (g := gName 1) rfl sc_fold.nd (pi_list (pe_split (pe_lower (pv 0)) pe_str)) (blkOk_by (N := ["value", "part"]) (sc := defScope s_fold) (by decide +kernel)) (fun _ _ _ _ _ => (pg_name (i := 1) sc_fold.nd rfl (Or.inl rfl))) (fun _ _ _ _ _ => (pts_one (pt_cmpR op_ne (pv 1) pe_str (nomark _)))) (fun _ _ _ _ _ => (pv 1)))))), ?_⟩
    have hz := split_size ha
    refine ⟨⟨_, rfl⟩, .str v, rfl, ⟨_, rfl⟩, v, rfl, rfl, by omega, ⟨_, rfl⟩, Txt.lower v, " ", rfl, rfl, by decide +kernel, Nat.le_of_lt (small1000 (by rw [len_lower ha]; omega)), fun p np => ?_⟩
    have hz2 : (Txt.split (Txt.lower v) (" " : Str)).length ≤ 901 := by omega
    have hz1 : ((Txt.split (Txt.lower v) (" " : Str)).map (·.length)).sum ≤ 900 := by omega
    have q2 : ∀ H', Same H H' → Q (.str (Txt.join (" " : Str) ((Txt.split (Txt.lower v) (" " : Str)).filter fun (p : Str) => !decide (p = ("" : Str))))) H' := q
    generalize (Txt.split (Txt.lower v) (" " : Str)) = ps at hz2 hz1 q2
    have s1 : Same H (upd H p (.lst (ps.map V.str))) := same_upd np
    have h1 : (upd H p (.lst (ps.map V.str))) p = some (.lst (ps.map V.str)) := upd_same
    refine ⟨p, rfl, ⟨_, SqL.of upd_same⟩, fun D nD => ?_⟩
    have pD : p ≠ D := new_ne upd_same nD |>.symm
    have fD : H D = none := s1.free nD
    refine lc_list (K := K) (a := p) (xs := ps.map V.str) (fun i H' => Same H H' ∧ H' p = some (.lst (ps.map V.str)) ∧ H' D = some (.lst (((ps.take i).filter fun (p : Str) => !decide (p = ("" : Str))).map V.str)))
      ⟨s1.trans (same_upd nD), (same_upd nD) _ _ h1, upd_same⟩ (fun i H' _ ⟨_, h, _⟩ => SqL.of h) ?_ ?_
    · rintro i x H' hi ⟨s2, h2, h3⟩
      obtain ⟨z, hz, rfl⟩ : ∃ z, ps[i]? = some z ∧ x = V.str z := by
        rw [List.getElem?_map] at hi
        cases e : ps[i]? with
        | none =>
          rw [e] at hi
          cases hi
        | some z =>
          rw [e] at hi
          exact ⟨z, rfl, (Option.some.inj hi).symm⟩
      have hf := take_filter (fun (p : Str) => !decide (p = ("" : Str))) hz
      refine ⟨rfl, .str z, rfl, rfl, _, rfl, ?_⟩
      have ed : decide (V.str z = V.str (Str.ofString "")) = decide (z = ("" : Str)) := by
        by_cases e : z = ("" : Str)
        · rw [e, decide_eq_true rfl, decide_eq_true rfl]
        · rw [decide_eq_false e, decide_eq_false (fun q => e (V.str.inj q))]
      rw [ed]
      cases hb : !decide (z = ("" : Str)) with
      | true =>
        refine iteT ⟨.str z, rfl, _, h3, ?_, fun b o e => ?_, ?_, ?_⟩
        · rw [List.length_map]
          have := List.length_filter_le (fun (p : Str) => !decide (p = ("" : Str))) (ps.take i)
          have e3 := List.length_take (i := i) (l := ps)
          exact small1000 (by omega)
        · rw [upd_ne (ne_of_none e fD)]
          exact s2 _ _ e
        · rw [upd_ne pD]
          exact h2
        · rw [upd_same, hf, hb, List.map_append]
          rfl
      | false =>
        refine iteF ⟨s2, h2, ?_⟩
        rw [hf, hb, h3]
        simp
    · rintro H' ⟨s2, h2, h3⟩
      rw [List.length_map, List.take_length] at h3
      refine ⟨_, D, _, rfl, rfl, .inl (SqL.of h3), ?_, q2 H' s2⟩
      have g1 := sum_filter (fun (p : Str) => !decide (p = ("" : Str))) (fun (x : Str) => x.length) ps
      have g2 := List.length_filter_le (fun (p : Str) => !decide (p = ("" : Str))) ps
      show _ + _ * 1 ≤ 16777216
      omega
def spNormal : Sp := fun vs H Q _ => ∃ f v : Str, vs = [.str f, .str v] ∧ ((f = "text" ∧ Asc v ∧ ∀ H', Same H H' → Q (.str (foldS v)) H') ∨ (f = "exact" ∧ Q (.str v) H) ∨ (f = "integer" ∧ Q (.str v) H))
theorem ok_normal (T : Txt K mg) : FnOk P w K mg base CX0 2 T.f_normal T.d_normal ["syntax", "value"] spNormal := by
  refine T.F_normal.ok sc_normal (fun vs H Q E h => ?_) (fun cdv A outer s H vs Q E hr h => ?_)
  · obtain ⟨f, v, rfl, _⟩ := h
    rfl
  · obtain ⟨f, v, rfl, h⟩ := h
    refine ⟨_, (pss_cons (ps_if (pt_cmpR op_eq (pv 0) pe_str (nomark _))
    (pss_one (ps_ret (pe_call (ok_fold T) (hr.mono (by decide)) (by rfl) T.g_fold T.F_fold.kp T.b_fold .nil pass0 (pa_cons (pv 1) pa_nil))))
    pss_nil)
    (pss_cons (ps_if (pt_cmpR op_eq (pv 0) pe_str (nomark _))
    (pss_one ps_never)
    pss_nil)
    (pss_one (ps_ret (pv 1))))), ?_⟩
    rcases h with ⟨rfl, ha, q⟩ | ⟨rfl, q⟩ | ⟨rfl, q⟩
    · refine ⟨_, rfl, rfl, _, rfl, ite2 (fun _ => ?_) (fun e => absurd (decide_eq_true rfl) e)⟩
      exact ⟨_, rfl, v, rfl, ha, q⟩
    · refine ⟨_, rfl, rfl, _, rfl, ite2 (fun e => absurd (V.str.inj (of_decide_eq_true e)) (by decide +kernel)) (fun _ => ?_)⟩
      refine ⟨_, rfl, rfl, _, rfl, ite2 (fun e => absurd (V.str.inj (of_decide_eq_true e)) (by decide +kernel)) (fun _ => ?_)⟩
      exact ⟨_, rfl, q⟩
    · refine ⟨_, rfl, rfl, _, rfl, ite2 (fun e => absurd (V.str.inj (of_decide_eq_true e)) (by decide +kernel)) (fun _ => ?_)⟩
      refine ⟨_, rfl, rfl, _, rfl, ite2 (fun e => absurd (V.str.inj (of_decide_eq_true e)) (by decide +kernel)) (fun _ => ?_)⟩
      exact ⟨_, rfl, q⟩
def spRank : Sp := fun vs H Q _ => ∃ f u : Str, vs = [.str f, .str u] ∧ ((f = "integer" ∧ NumL (tl u) ∧ u.length ≤ 640 ∧ Q (.int (valL (tl u))) H) ∨ (f ≠ "integer" ∧ Q (.str u) H))
theorem ok_rank (T : Txt K mg) : FnOk P w K mg base CX0 1 T.f_rank T.d_rank ["syntax", "normal_form"] spRank := by
  refine T.F_rank.ok sc_rank (fun vs H Q E h => ?_) (fun cdv A outer s H vs Q E hr h => ?_)
  · obtain ⟨f, v, rfl, _⟩ := h
    rfl
  · obtain ⟨f, u, rfl, h⟩ := h
    refine ⟨_, (pss_one (ps_ret (pe_ifExp (pt_cmpR op_eq (pv 0) pe_str (nomark _)) (pe_callTy call_int_str (by rfl) T.z_int (by decide +kernel) (pa_cons (pv 1) pa_nil)) (pv 1)))), ?_⟩
    rcases h with ⟨rfl, hn, hl, q⟩ | ⟨h2, q⟩
    · exact ⟨_, rfl, rfl, _, rfl, ite2 (fun _ => ⟨.str u, rfl, u, _, rfl, int_num hn hl, hl, q⟩) (fun e => absurd (decide_eq_true rfl) e)⟩
    · exact ⟨_, rfl, rfl, _, rfl, ite2 (fun e => absurd (V.str.inj (of_decide_eq_true e)) h2) (fun _ => ⟨_, rfl, q⟩)⟩
def spIsLess : Sp := fun vs H Q _ => ∃ f x y : Str, vs = [.str f, .str x, .str y] ∧
  ((f = "integer" ∧ NumL (tl x) ∧ NumL (tl y) ∧ x.length ≤ 640 ∧ y.length ≤ 640 ∧ Q (.bl (decide (valL (tl x) < valL (tl y)))) H) ∨
   (f = "text" ∧ Asc x ∧ Asc y ∧ ∀ H', Same H H' → Q (.bl (decide (lowL (tl x) < lowL (tl y)))) H') ∨
   (f = "exact" ∧ Q (.bl (decide (tl x < tl y))) H))
theorem ok_is_less (T : Txt K mg) : FnOk P w K mg base CX0 3 T.f_is_less T.d_is_less ["syntax", "one", "other"] spIsLess := by
  refine T.F_is_less.ok sc_is_less (fun vs H Q E h => ?_) (fun cdv A outer s H vs Q E hr h => ?_)
  · obtain ⟨f, x, y, rfl, _⟩ := h
    rfl
  · obtain ⟨f, x, y, rfl, h⟩ := h
    refine ⟨_, (pss_one (ps_ret (pe_cmpR (Kw0.op_or op_lt op_lt_str) (pe_call (ok_rank T) (hr.mono (by decide)) (by rfl) T.g_rank T.F_rank.kp T.b_rank .nil pass0 (pa_cons (pv 0) (pa_cons (pe_call (ok_normal T) (hr.mono (by decide)) (by rfl) T.g_normal T.F_normal.kp T.b_normal .nil pass0 (pa_cons (pv 0) (pa_cons (pv 1) pa_nil))) pa_nil))) (pe_call (ok_rank T) (hr.mono (by decide)) (by rfl) T.g_rank T.F_rank.kp T.b_rank .nil pass0 (pa_cons (pv 0) (pa_cons (pe_call (ok_normal T) (hr.mono (by decide)) (by rfl) T.g_normal T.F_normal.kp T.b_normal .nil pass0 (pa_cons (pv 0) (pa_cons (pv 2) pa_nil))) pa_nil))) (nomark _)))), ?_⟩
    have n1 : ("text" : Str) ≠ "integer" := by decide +kernel
    have n2 : ("exact" : Str) ≠ "integer" := by decide +kernel
    rcases h with ⟨rfl, hx, hy, lx, ly, q⟩ | ⟨rfl, hx, hy, q⟩ | ⟨rfl, q⟩
    · refine ⟨_, rfl, _, rfl, .str x, rfl, _, _, rfl, .inr (.inr ⟨rfl, _, _, rfl, .inl ⟨rfl, hx, lx, ?_⟩⟩)⟩
      exact ⟨_, rfl, _, rfl, .str y, rfl, _, _, rfl, .inr (.inr ⟨rfl, _, _, rfl, .inl ⟨rfl, hy, ly, .inl ⟨_, _, rfl, rfl, q⟩⟩⟩)⟩
    · refine ⟨_, rfl, _, rfl, .str x, rfl, _, _, rfl, .inl ⟨rfl, hx, fun H1 s1 => ⟨_, _, rfl, .inr ⟨n1, ?_⟩⟩⟩⟩
      refine ⟨_, rfl, _, rfl, .str y, rfl, _, _, rfl, .inl ⟨rfl, hy, fun H2 s2 => ⟨_, _, rfl, .inr ⟨n1, .inr ⟨_, _, rfl, rfl, ?_⟩⟩⟩⟩⟩
      have := q H2 (s1.trans s2)
      rw [← fold_is hx.1, ← fold_is hy.1] at this
      exact this
    · refine ⟨_, rfl, _, rfl, .str x, rfl, _, _, rfl, .inr (.inl ⟨rfl, _, _, rfl, .inr ⟨n2, ?_⟩⟩)⟩
      exact ⟨_, rfl, _, rfl, .str y, rfl, _, _, rfl, .inr (.inl ⟨rfl, _, _, rfl, .inr ⟨n2, .inr ⟨_, _, rfl, rfl, q⟩⟩⟩)⟩
end
end K4

namespace K4
open PySem PySem.Spec PyProof.Rows L2 TL G M
section
variable {P : Program} {w : World} {K : PySem.W.Frag} {mg : Str → Option Value} {base : Heap}
theorem find_low : ∀ c, c < 128 → if 65 ≤ c ∧ c ≤ 90 then Txt.find "ABCDEFGHIJKLMNOPQRSTUVWXYZ" ⟨#[c]⟩ = ((c - 65 : Nat) : Int) ∧ (tl ("abcdefghijklmnopqrstuvwxyz" : Str))[c - 65]? = some (lo1 c) else Txt.find "ABCDEFGHIJKLMNOPQRSTUVWXYZ" ⟨#[c]⟩ = -1 ∧ lo1 c = c := by decide +kernel
theorem if_true_of {c : Bool} {A B : Prop} (hc : c = true) (h : A) : if c = true then A else B := by
  rw [if_pos hc]
  exact h
theorem if_false_of {c : Bool} {A B : Prop} (hc : c = false) (h : B) : if c = true then A else B := by
  rw [hc, if_neg Bool.false_ne_true]
  exact h
def spLow : Sp := fun vs H Q _ => ∃ v : Str, vs = [.str v] ∧ Asc v ∧ ∀ z : Str, tl z = lowL (tl v) → Q (.str z) H
theorem ok_q_low (T : Txt K mg) : FnOk P w K mg base CX0 1 T.f_q_low T.d_q_low ["_law_thing"] spLow := by
  refine T.F_q_low.ok sc_q_low (fun vs H Q E h => ?_) (fun cdv A outer s H vs Q E hr h => ?_)
  · obtain ⟨v, rfl, _⟩ := h
    rfl
  · obtain ⟨v, rfl, ⟨ha, hl⟩, q⟩ := h
    refine ⟨_, (pss_cons (ps_set (i := 1) sc_q_low.nd rfl (.inl rfl) pe_str)
    (pss_cons (ps_for PassesOwn.never rfl (pi_str (pv 0)) (pg_name (i := 2) sc_q_low.nd rfl (.inl rfl))
    (pss_cons (ps_set (i := 3) sc_q_low.nd rfl (.inl rfl) (pe_m1 PySem.F.slot_str_find PySem.F.type_str_find mt_find pe_str (pv 2)))
    (pss_cons (ps_set (i := 4) sc_q_low.nd rfl (.inl rfl) (pe_ifExp (pt_cmpR op_ge (pv 3) pe_int (nomark _)) (pe_ix ix_str pe_str (pv 3) (fun _ _ => rfl)) (pv 2)))
    (pss_one (ps_if (PW.pt (pw_or (pt_cmpR op_ne (pv 4) pe_str (nomark _)) (pw_or1 (PW.pt (pw_and (pt_cmpR op_ne (pv 1) pe_str (nomark _)) (pw_and1 (pt_cmpR op_ne (pe_ix ix_str (pv 1) (pe_un un_neg pe_int) (fun _ _ => rfl)) pe_str (nomark _))))))))
    (pss_one (ps_set (i := 1) sc_q_low.nd rfl (.inl rfl) (pe_op op_add_str (pv 1) (pv 4))))
    pss_nil)))))
    (pss_one (ps_ret (pe_ifExp (pt_cmpR op_eq (pe_slice sl_str (pv 1) (po_some (pe_un un_neg pe_int)) po_none) pe_str (nomark _)) (pe_slice sl_str (pv 1) po_none (po_some (pe_un un_neg pe_int))) (pv 1)))))), ?_⟩
    refine ⟨.str v, rfl, v, rfl, for_str (fun i σ H' => H' = H ∧ ∃ (z : Str) (y2 y3 y4 : Option V), σ = [some (.str v), some (.str z), y2, y3, y4] ∧ tl z = (((tl v).take i).map lo1).foldl lstep [] ∧ z.length ≤ i)
      ⟨rfl, "", none, none, none, rfl, empty_tl, by decide +kernel⟩ ?_ ?_⟩
    · rintro i c σ H' hc ⟨rfl, z, y2, y3, y4, rfl, hz, hzl⟩
      have h128 := ha c (List.mem_of_getElem? hc)
      have hi : i < (tl v).length := (List.getElem?_eq_some_iff.mp hc).1
      rw [← len_tl] at hi
      have hf := find_low c h128
      refine ⟨⟨_, rfl⟩, .str ⟨#[c]⟩, rfl, _, _, rfl, rfl, .int _, rfl, _, 0, rfl, rfl, _, rfl, ?_⟩
      have step : ∀ (Q' : VK) (σ' : L2.St), σ'[2]? = some (some (.str ⟨#[c]⟩)) → σ'[3]? = some (some (.int (Txt.find "ABCDEFGHIJKLMNOPQRSTUVWXYZ" ⟨#[c]⟩))) → Q' (.str ⟨#[lo1 c]⟩) H' →
          (if decide ((0 : Int) ≤ Txt.find "ABCDEFGHIJKLMNOPQRSTUVWXYZ" ⟨#[c]⟩) = true then tOp rIxS (tC (.str "abcdefghijklmnopqrstuvwxyz")) (tVar 3) σ' H' Q' else tVar 2 σ' H' Q') := by
        intro Q' σ' e2 e3 q'
        by_cases hb : 65 ≤ c ∧ c ≤ 90
        · rw [if_pos hb] at hf
          rw [hf.1] at e3 ⊢
          refine if_true_of (decide_eq_true (Int.natCast_nonneg _)) ⟨_, e3, _, _, lo1 c, rfl, rfl, by decide +kernel, atI_nat hf.2, q'⟩
        · rw [if_neg hb] at hf
          rw [hf.1] at e3 ⊢
          rw [hf.2] at q'
          exact if_false_of (decide_eq_false (by decide)) ⟨_, e2, q'⟩
      refine step _ _ rfl rfl ?_
      have yes : lstep (tl z) (lo1 c) = tl z ++ [lo1 c] → ∃ (z' : Str), z' = z ++ ⟨#[lo1 c]⟩ ∧ tl z' = (((tl v).take (i + 1)).map lo1).foldl lstep [] ∧ z'.length ≤ i + 1 := fun e => by
        refine ⟨_, rfl, ?_, ?_⟩
        · rw [foldl_take hc, ← hz, e, tl_append]
        · rw [len_tl, tl_append, List.length_append, ← len_tl]
          show z.length + 1 ≤ i + 1
          omega
      have no : lstep (tl z) (lo1 c) = tl z → tl z = (((tl v).take (i + 1)).map lo1).foldl lstep [] := fun e => by
        rw [foldl_take hc, ← hz, e]
      have hlen : z.length + (⟨#[lo1 c]⟩ : Str).length ≤ sizeLine := by
        show z.length + 1 ≤ sizeLine
        exact Nat.le_of_lt (small1000 (by omega))
      refine ⟨_, rfl, rfl, _, rfl, ?_⟩
      rw [str_ne, space_tl]
      by_cases hs : lo1 c = 32
      · refine if_false_of (by rw [hs]; rfl) ⟨_, rfl, rfl, _, rfl, ?_⟩
        rw [str_ne, empty_tl]
        by_cases hz0 : tl z = []
        · have e : lstep (tl z) (lo1 c) = tl z := if_neg (by rintro (q | ⟨q, _⟩); exact q hs; exact q hz0)
          refine if_false_of (by rw [hz0]; rfl) (iteF ⟨rfl, z, _, _, _, rfl, no e, by omega⟩)
        · obtain ⟨x, hx⟩ : ∃ x, (tl z).getLast? = some x := by
            cases e : (tl z).getLast? with
            | none => exact absurd (List.getLast?_eq_none_iff.mp e) hz0
            | some x => exact ⟨x, rfl⟩
          refine if_true_of (by simp [hz0]) ⟨_, rfl, 1, rfl, z, -1, x, rfl, rfl, Nat.le_of_lt (small1000 (by omega)), atI_end hx, rfl, _, rfl, ?_⟩
          rw [str_ne, space_tl]
          by_cases h32 : x = 32
          · have e : lstep (tl z) (lo1 c) = tl z := if_neg (by rintro (q | ⟨_, q⟩); exact q hs; exact q (by rw [hx, h32]))
            refine if_false_of (by subst h32; rfl) ⟨rfl, z, _, _, _, rfl, no e, by omega⟩
          · have e : lstep (tl z) (lo1 c) = tl z ++ [lo1 c] := if_pos (.inr ⟨hz0, by rw [hx]; intro q; exact h32 (Option.some.inj q)⟩)
            obtain ⟨z', ez, h1, h2⟩ := yes e
            refine if_true_of (by show (!decide ([x] = [32])) = true; simp [h32]) ⟨_, rfl, _, rfl, z, _, rfl, rfl, hlen, rfl, z', _, _, _, by rw [ez]; rfl, h1, h2⟩
      · have e : lstep (tl z) (lo1 c) = tl z ++ [lo1 c] := if_pos (.inl hs)
        obtain ⟨z', ez, h1, h2⟩ := yes e
        refine if_true_of (by show (!decide ([lo1 c] = [32])) = true; simp [hs]) (iteT ⟨_, rfl, _, rfl, z, _, rfl, rfl, hlen, rfl, z', _, _, _, by rw [ez]; rfl, h1, h2⟩)
    · rintro σ H' ⟨rfl, z, y2, y3, y4, rfl, hz, hzl⟩
      rw [List.take_length] at hz
      have hln : z.length ≤ sizeLine := Nat.le_of_lt (small1000 (by rw [← len_tl] at hzl; omega))
      refine ⟨.str z, rfl, 1, rfl, -1, rfl, z, rfl, hln, rfl, _, rfl, ?_⟩
      rw [str_eq, cutS_last, space_tl]
      by_cases hl32 : (tl z).getLast? = some 32
      · have e : (tl z).drop ((tl z).length - 1) = [32] := by
          obtain ⟨w, hw⟩ := List.getLast?_eq_some_iff.mp hl32
          rw [hw]
          simp
        refine if_true_of (decide_eq_true e) ⟨.str z, rfl, 1, rfl, -1, rfl, z, rfl, hln, ?_⟩
        refine q _ ?_
        rw [cutS_but, hz]
        unfold lowL lfin
        rw [hz] at hl32
        rw [if_pos hl32]
      · have e : (tl z).drop ((tl z).length - 1) ≠ [32] := by
          intro e
          apply hl32
          have := List.take_append_drop ((tl z).length - 1) (tl z)
          rw [e] at this
          rw [← this]
          simp
        refine if_false_of (decide_eq_false e) ⟨.str z, rfl, ?_⟩
        refine q _ ?_
        rw [hz]
        unfold lowL lfin
        rw [hz] at hl32
        rw [if_neg hl32]
end
end K4

namespace K4
open PySem PySem.Spec PyProof.Rows L2 TL G M
section
variable {P : Program} {w : World} {K : PySem.W.Frag} {mg : Str → Option Value} {base : Heap}
theorem minus_tl : tl ("-" : Str) = [45] := by decide +kernel
/-- the comparison of one sign with the minus -/
theorem sign_eq (c : Nat) : decide (V.str ⟨#[c]⟩ = V.str ("-" : Str)) = decide (c = 45) := by
  rw [str_eq, minus_tl]
  show decide ([c] = [45]) = _
  by_cases h : c = 45
  · rw [h]
    rfl
  · rw [decide_eq_false h, decide_eq_false (fun q => h (List.cons.inj q).1)]
def spLess0 : Sp := fun vs H Q _ => ∃ x y : Str, vs = [.str x, .str y] ∧ Dig (tl x) ∧ Dig (tl y) ∧ x.length ≤ 640 ∧ y.length ≤ 640 ∧ Q (.bl (decide (dv 0 (tl x) < dv 0 (tl y)))) H
theorem less_end {x y : Str} (hx : Dig (tl x)) (hy : Dig (tl y)) {Q : V → Prop} (q : Q (.bl (decide (dv 0 (tl x) < dv 0 (tl y))))) :
    ∃ c, V.bl (decide ((x.length : Int) < (y.length : Int))) = .bl c ∧ if c = true then Q (.bl true) else ∃ c, V.bl (decide (V.int (x.length : Int) = V.int (y.length : Int))) = .bl c ∧ if c = true then Q (.bl (decide (tl x < tl y))) else Q (.bl false) := by
  rw [← ltD_is hx hy] at q
  unfold ltD at q
  rw [← len_tl, ← len_tl] at q
  refine ⟨_, rfl, ?_⟩
  by_cases h : x.length < y.length
  · rw [decide_eq_true h, Bool.true_or] at q
    exact if_true_of (decide_eq_true (by omega)) q
  · rw [decide_eq_false h, Bool.false_or] at q
    refine if_false_of (decide_eq_false (by omega)) ⟨_, rfl, ?_⟩
    by_cases h2 : x.length = y.length
    · rw [decide_eq_true h2, Bool.true_and] at q
      exact if_true_of (decide_eq_true (by rw [h2])) q
    · rw [decide_eq_false h2, Bool.false_and] at q
      exact if_false_of (decide_eq_false (fun e => h2 (by have := V.int.inj e; omega))) q
theorem ok_nless0 (T : Txt K mg) : FnOk P w K mg base CX0 1 T.f_q_number_is_less T.d_q_number_is_less ["_law_one", "_law_two"] spLess0 := by
  refine T.F_q_number_is_less.ok sc_q_number_is_less (fun vs H Q E h => ?_) (fun cdv A outer s H vs Q E hr h => ?_)
  · obtain ⟨x, y, rfl, _⟩ := h
    rfl
  · obtain ⟨x, y, rfl, hx, hy, lx, ly, q⟩ := h
    obtain ⟨c, r, ex, hc⟩ := hx.first
    obtain ⟨d, u, ey, hd⟩ := hy.first
    have zx : x.length ≤ sizeLine := Nat.le_of_lt (small1000 (by omega))
    have zy : y.length ≤ sizeLine := Nat.le_of_lt (small1000 (by omega))
    have ax : atI x.cps.toList 0 = some c := by
      show atI (tl x) 0 = _
      rw [ex]
      exact atI_nat (j := 0) rfl
    have ay : atI y.cps.toList 0 = some d := by
      show atI (tl y) 0 = _
      rw [ey]
      exact atI_nat (j := 0) rfl
    refine ⟨_, (pss_cons (ps_if (PW.pt (pw_and (pt_cmpR op_eq (pe_ix ix_str (pv 0) pe_int (fun _ _ => rfl)) pe_str (nomark _)) (pw_and1 (pt_cmpR op_eq (pe_ix ix_str (pv 1) pe_int (fun _ _ => rfl)) pe_str (nomark _)))))
    (pss_one ps_never)
    pss_nil)
    (pss_cons (ps_if (PW.pt (pw_or (pt_cmpR op_eq (pe_ix ix_str (pv 0) pe_int (fun _ _ => rfl)) pe_str (nomark _)) (pw_or1 (pt_cmpR op_eq (pe_ix ix_str (pv 1) pe_int (fun _ _ => rfl)) pe_str (nomark _)))))
    (pss_one (ps_ret (pe_cmpR op_eq (pe_ix ix_str (pv 0) pe_int (fun _ _ => rfl)) pe_str (nomark _))))
    pss_nil)
    (pss_one (ps_ret (pe_or (pe_cmpR op_lt (pe_callB call_len (by rfl) T.z_len (by decide +kernel) (pa_cons (pv 0) pa_nil)) (pe_callB call_len (by rfl) T.z_len (by decide +kernel) (pa_cons (pv 1) pa_nil)) (nomark _)) (pe_one (pe_and (pe_cmpR op_eq (pe_callB call_len (by rfl) T.z_len (by decide +kernel) (pa_cons (pv 0) pa_nil)) (pe_callB call_len (by rfl) T.z_len (by decide +kernel) (pa_cons (pv 1) pa_nil)) (nomark _)) (pe_one (pe_cmpR op_lt_str (pv 0) (pv 1) (nomark _)))))))))), ?_⟩
    refine ⟨.str x, rfl, x, 0, c, rfl, rfl, zx, ax, rfl, _, rfl, if_false_of (by rw [sign_eq]; exact decide_eq_false hc) ?_⟩
    refine iteF ⟨.str x, rfl, x, 0, c, rfl, rfl, zx, ax, rfl, _, rfl, if_false_of (by rw [sign_eq]; exact decide_eq_false hc) ?_⟩
    refine ⟨.str y, rfl, y, 0, d, rfl, rfl, zy, ay, rfl, _, rfl, if_false_of (by rw [sign_eq]; exact decide_eq_false hd) ?_⟩
    refine ⟨.str x, rfl, .str x, _, rfl, ⟨zx, rfl⟩, .str y, rfl, .str y, _, rfl, ⟨zy, rfl⟩, _, _, rfl, rfl, ?_⟩
    obtain ⟨b, e1, h1⟩ := less_end (Q := fun v => Q v H) hx hy q
    refine ⟨b, e1, ?_⟩
    cases b with
    | true => exact h1
    | false =>
      refine iteF ⟨.str x, rfl, .str x, _, rfl, ⟨zx, rfl⟩, .str y, rfl, .str y, _, rfl, ⟨zy, rfl⟩, rfl, ?_⟩
      rw [if_neg Bool.false_ne_true] at h1
      obtain ⟨b, e2, h2⟩ := h1
      refine ⟨b, e2, ?_⟩
      cases b with
      | true => exact iteT ⟨.str x, rfl, .str y, rfl, x, y, rfl, rfl, h2⟩
      | false => exact h2
def spLess : Sp := fun vs H Q _ => ∃ x y : Str, vs = [.str x, .str y] ∧ NumL (tl x) ∧ NumL (tl y) ∧ x.length ≤ 640 ∧ y.length ≤ 640 ∧ Q (.bl (decide (valL (tl x) < valL (tl y)))) H
theorem ok_q_number_is_less (T : Txt K mg) : FnOk P w K mg base CX0 2 T.f_q_number_is_less T.d_q_number_is_less ["_law_one", "_law_two"] spLess := by
  refine T.F_q_number_is_less.ok sc_q_number_is_less (fun vs H Q E h => ?_) (fun cdv A outer s H vs Q E hr h => ?_)
  · obtain ⟨x, y, rfl, _⟩ := h
    rfl
  · obtain ⟨x, y, rfl, nx, ny, lx, ly, q⟩ := h
    have zx : x.length ≤ sizeLine := Nat.le_of_lt (small1000 (by omega))
    have zy : y.length ≤ sizeLine := Nat.le_of_lt (small1000 (by omega))
    have at0 : ∀ {z : Str} {c : Nat} {r : List Nat}, tl z = c :: r → atI z.cps.toList 0 = some c := fun {z c r} e => by
      show atI (tl z) 0 = _
      rw [e]
      exact atI_nat (j := 0) rfl
    refine ⟨_, (pss_cons (ps_if (PW.pt (pw_and (pt_cmpR op_eq (pe_ix ix_str (pv 0) pe_int (fun _ _ => rfl)) pe_str (nomark _)) (pw_and1 (pt_cmpR op_eq (pe_ix ix_str (pv 1) pe_int (fun _ _ => rfl)) pe_str (nomark _)))))
    (pss_one (ps_ret (pe_call (ok_nless0 T) (hr.mono (by decide)) (by rfl) T.g_q_number_is_less T.F_q_number_is_less.kp T.b_q_number_is_less .nil pass0 (pa_cons (pe_slice sl_str (pv 1) (po_some pe_int) po_none) (pa_cons (pe_slice sl_str (pv 0) (po_some pe_int) po_none) pa_nil)))))
    pss_nil)
    (pss_cons (ps_if (PW.pt (pw_or (pt_cmpR op_eq (pe_ix ix_str (pv 0) pe_int (fun _ _ => rfl)) pe_str (nomark _)) (pw_or1 (pt_cmpR op_eq (pe_ix ix_str (pv 1) pe_int (fun _ _ => rfl)) pe_str (nomark _)))))
    (pss_one (ps_ret (pe_cmpR op_eq (pe_ix ix_str (pv 0) pe_int (fun _ _ => rfl)) pe_str (nomark _))))
    pss_nil)
    (pss_one (ps_ret (pe_or (pe_cmpR op_lt (pe_callB call_len (by rfl) T.z_len (by decide +kernel) (pa_cons (pv 0) pa_nil)) (pe_callB call_len (by rfl) T.z_len (by decide +kernel) (pa_cons (pv 1) pa_nil)) (nomark _)) (pe_one (pe_and (pe_cmpR op_eq (pe_callB call_len (by rfl) T.z_len (by decide +kernel) (pa_cons (pv 0) pa_nil)) (pe_callB call_len (by rfl) T.z_len (by decide +kernel) (pa_cons (pv 1) pa_nil)) (nomark _)) (pe_one (pe_cmpR op_lt_str (pv 0) (pv 1) (nomark _)))))))))), ?_⟩
    rcases nx with hx | ⟨rx, ex, hx, px⟩
    · obtain ⟨c, r, ex, hc⟩ := hx.first
      refine ⟨.str x, rfl, x, 0, c, rfl, rfl, zx, at0 ex, rfl, _, rfl, if_false_of (by rw [sign_eq]; exact decide_eq_false hc) ?_⟩
      refine iteF ⟨.str x, rfl, x, 0, c, rfl, rfl, zx, at0 ex, rfl, _, rfl, if_false_of (by rw [sign_eq]; exact decide_eq_false hc) ?_⟩
      rw [valL_dig hx] at q
      rcases ny with hy | ⟨ry, ey, hy, py⟩
      · obtain ⟨d, u, ey, hd⟩ := hy.first
        rw [valL_dig hy] at q
        have q : Q (.bl (decide (dv 0 (tl x) < dv 0 (tl y)))) H := by
          have e : decide ((dv 0 (tl x) : Int) < (dv 0 (tl y) : Int)) = decide (dv 0 (tl x) < dv 0 (tl y)) := by
            by_cases h : dv 0 (tl x) < dv 0 (tl y)
            · rw [decide_eq_true h, decide_eq_true (by omega)]
            · rw [decide_eq_false h, decide_eq_false (by omega)]
          rw [e] at q
          exact q
        refine ⟨.str y, rfl, y, 0, d, rfl, rfl, zy, at0 ey, rfl, _, rfl, if_false_of (by rw [sign_eq]; exact decide_eq_false hd) ?_⟩
        refine ⟨.str x, rfl, .str x, _, rfl, ⟨zx, rfl⟩, .str y, rfl, .str y, _, rfl, ⟨zy, rfl⟩, _, _, rfl, rfl, ?_⟩
        obtain ⟨b, e1, h1⟩ := less_end (Q := fun v => Q v H) hx hy q
        refine ⟨b, e1, ?_⟩
        cases b with
        | true => exact h1
        | false =>
          refine iteF ⟨.str x, rfl, .str x, _, rfl, ⟨zx, rfl⟩, .str y, rfl, .str y, _, rfl, ⟨zy, rfl⟩, rfl, ?_⟩
          rw [if_neg Bool.false_ne_true] at h1
          obtain ⟨b, e2, h2⟩ := h1
          refine ⟨b, e2, ?_⟩
          cases b with
          | true => exact iteT ⟨.str x, rfl, .str y, rfl, x, y, rfl, rfl, h2⟩
          | false => exact h2
      · refine ⟨.str y, rfl, y, 0, 45, rfl, rfl, zy, at0 ey, rfl, _, rfl, if_true_of (by rw [sign_eq]; rfl) ?_⟩
        refine ⟨.str x, rfl, x, 0, c, rfl, rfl, zx, at0 ex, rfl, ?_⟩
        rw [sign_eq, decide_eq_false hc]
        have e : valL (tl y) = -(dv 0 ry : Int) := by rw [ey]; rfl
        rw [e] at q
        have := hy.pos py
        rw [decide_eq_false (by omega)] at q
        exact q
    · refine ⟨.str x, rfl, x, 0, 45, rfl, rfl, zx, at0 ex, rfl, _, rfl, if_true_of (by rw [sign_eq]; rfl) ?_⟩
      have e : valL (tl x) = -(dv 0 rx : Int) := by rw [ex]; rfl
      rw [e] at q
      rcases ny with hy | ⟨ry, ey, hy, py⟩
      · obtain ⟨d, u, ey, hd⟩ := hy.first
        refine ⟨.str y, rfl, y, 0, d, rfl, rfl, zy, at0 ey, rfl, _, rfl, if_false_of (by rw [sign_eq]; exact decide_eq_false hd) ?_⟩
        refine ⟨.str x, rfl, x, 0, 45, rfl, rfl, zx, at0 ex, rfl, _, rfl, if_true_of (by rw [sign_eq]; rfl) ?_⟩
        refine ⟨.str x, rfl, x, 0, 45, rfl, rfl, zx, at0 ex, rfl, ?_⟩
        rw [sign_eq, decide_eq_true rfl]
        rw [valL_dig hy] at q
        have := hx.pos px
        rw [decide_eq_true (by omega)] at q
        exact q
      · refine ⟨.str y, rfl, y, 0, 45, rfl, rfl, zy, at0 ey, rfl, _, rfl, if_true_of (by rw [sign_eq]; rfl) ?_⟩
        have e1 : ∀ {z : Str} {r : List Nat}, tl z = 45 :: r → tl (cutS z (some 1) none) = r := fun {z r} e => by
          rw [show (1 : Int) = ((1 : Nat) : Int) from rfl, cutS_from, e]
          rfl
        refine ⟨.str y, rfl, 1, rfl, y, rfl, zy, .str x, rfl, 1, rfl, x, rfl, zx, _, _, rfl, (e1 ey).symm ▸ hy, (e1 ex).symm ▸ hx, Nat.le_trans (cutS_length ..) ly, Nat.le_trans (cutS_length ..) lx, ?_⟩
        have e : valL (tl y) = -(dv 0 ry : Int) := by rw [ey]; rfl
        rw [e] at q
        rw [e1 ex, e1 ey]
        have : decide (-(dv 0 rx : Int) < -(dv 0 ry : Int)) = decide (dv 0 ry < dv 0 rx) := by
          by_cases h : dv 0 ry < dv 0 rx
          · rw [decide_eq_true h, decide_eq_true (by omega)]
          · rw [decide_eq_false h, decide_eq_false (by omega)]
        rw [this] at q
        exact q
def spLawLess : Sp := fun vs H Q _ => ∃ f x y : Str, vs = [.str f, .str x, .str y] ∧
  ((f = "integer" ∧ NumL (tl x) ∧ NumL (tl y) ∧ x.length ≤ 640 ∧ y.length ≤ 640 ∧ Q (.bl (decide (valL (tl x) < valL (tl y)))) H) ∨
   (f = "text" ∧ Asc x ∧ Asc y ∧ Q (.bl (decide (lowL (tl x) < lowL (tl y)))) H) ∨
   (f = "exact" ∧ Q (.bl (decide (tl x < tl y))) H))
theorem ok_q_is_less (T : Txt K mg) : FnOk P w K mg base CX0 3 T.f_q_is_less T.d_q_is_less ["_law_form", "_law_one", "_law_two"] spLawLess := by
  refine T.F_q_is_less.ok sc_q_is_less (fun vs H Q E h => ?_) (fun cdv A outer s H vs Q E hr h => ?_)
  · obtain ⟨f, x, y, rfl, _⟩ := h
    rfl
  · obtain ⟨f, x, y, rfl, h⟩ := h
    refine ⟨_, (pss_cons (ps_if (pt_cmpR op_eq (pv 0) pe_str (nomark _))
    (pss_one (ps_ret (pe_call (ok_q_number_is_less T) (hr.mono (by decide)) (by rfl) T.g_q_number_is_less T.F_q_number_is_less.kp T.b_q_number_is_less .nil pass0 (pa_cons (pv 1) (pa_cons (pv 2) pa_nil)))))
    pss_nil)
    (pss_one (ps_ret (pe_ifExp (pt_cmpR op_eq (pv 0) pe_str (nomark _)) (pe_cmpR op_lt_str (pe_call (ok_q_low T) (hr.mono (by decide)) (by rfl) T.g_q_low T.F_q_low.kp T.b_q_low .nil pass0 (pa_cons (pv 1) pa_nil)) (pe_call (ok_q_low T) (hr.mono (by decide)) (by rfl) T.g_q_low T.F_q_low.kp T.b_q_low .nil pass0 (pa_cons (pv 2) pa_nil)) (nomark _)) (pe_cmpR op_lt_str (pv 1) (pv 2) (nomark _)))))), ?_⟩
    rcases h with ⟨rfl, hx, hy, lx, ly, q⟩ | ⟨rfl, hx, hy, q⟩ | ⟨rfl, q⟩
    · refine ⟨_, rfl, rfl, _, rfl, ite2 (fun _ => ?_) (fun e => absurd (decide_eq_true rfl) e)⟩
      exact ⟨.str x, rfl, .str y, rfl, x, y, rfl, hx, hy, lx, ly, q⟩
    · refine ⟨_, rfl, rfl, _, rfl, ite2 (fun e => absurd (V.str.inj (of_decide_eq_true e)) (by decide +kernel)) (fun _ => ?_)⟩
      refine ⟨_, rfl, rfl, _, rfl, ite2 (fun _ => ?_) (fun e => absurd (decide_eq_true rfl) e)⟩
      refine ⟨.str x, rfl, x, rfl, hx, fun z1 e1 => ⟨.str y, rfl, y, rfl, hy, fun z2 e2 => ⟨z1, z2, rfl, rfl, ?_⟩⟩⟩
      rw [← e1, ← e2] at q
      exact q
    · refine ⟨_, rfl, rfl, _, rfl, ite2 (fun e => absurd (V.str.inj (of_decide_eq_true e)) (by decide +kernel)) (fun _ => ?_)⟩
      refine ⟨_, rfl, rfl, _, rfl, ite2 (fun e => absurd (V.str.inj (of_decide_eq_true e)) (by decide +kernel)) (fun _ => ?_)⟩
      exact ⟨.str x, rfl, .str y, rfl, x, y, rfl, rfl, q⟩
end
end K4

namespace K4
open PySem PySem.Spec PyProof.Rows L2 TL G M
section
variable {P : Program} {w : World} {K : PySem.W.Frag} {mg : Str → Option Value} {base : Heap}
/-- all signs are from the space to the tilde -/
def Prn (s : Str) : Prop := ∀ c ∈ tl s, 32 ≤ c ∧ c ≤ 126
theorem Prn.app {a b : Str} (ha : Prn a) (hb : Prn b) : Prn (a ++ b) := fun c hc => by
  rw [tl_append] at hc
  rcases List.mem_append.mp hc with h | h
  · exact ha c h
  · exact hb c h
theorem Prn.one {c : Nat} (h : 32 ≤ c ∧ c ≤ 126) : Prn ⟨#[c]⟩ := fun d hd => by
  have : d = c := List.mem_singleton.mp hd
  rw [this]
  exact h
theorem Prn.sub {a b : Str} (ha : Prn a) (h : ∀ c ∈ tl b, c ∈ tl a) : Prn b := fun c hc => ha c (h c hc)
theorem mem_cut {z : Str} {lo hi : Option Int} {c : Nat} (h : c ∈ tl (cutS z lo hi)) : c ∈ tl z := by
  rw [tl_cut] at h
  exact List.mem_of_mem_drop (List.mem_of_mem_take h)
theorem Prn.cut {z : Str} {lo hi : Option Int} (h : Prn z) : Prn (cutS z lo hi) := h.sub fun _ => mem_cut
theorem prn_lit {s : Str} (h : (tl s).all (fun c => decide (32 ≤ c) && decide (c ≤ 126)) = true) : Prn s := fun c hc => by
  have := List.all_eq_true.mp h c hc
  rw [Bool.and_eq_true, decide_eq_true_eq, decide_eq_true_eq] at this
  exact this
def signsS : Str := ("aab  AB,+=" : Str) ++ ("\\" : Str)
def moreS : Str := " !\"#$&'()*+,-./0123456789:;<=>?@ABCDEFGHIJKLMNOPQRSTUVWXYZ[\\]^_`abcdefghijklmnopqrstuvwxyz{|}~"
theorem signsS_prn : Prn signsS := prn_lit (by decide +kernel)
theorem moreS_prn : Prn moreS := prn_lit (by decide +kernel)
theorem signsS_len : 1 ≤ signsS.length ∧ signsS.length ≤ 1000 := by decide +kernel
theorem moreS_len : 1 ≤ moreS.length ∧ moreS.length ≤ 1000 := by decide +kernel
/-! ### a drawn string -/
def spString : Sp := fun vs H Q _ => ∃ (a : Addr) (c : Int) (m : Nat), vs = [.ref a, .int (m : Int)] ∧ Src H a c ∧ c ≤ 900000000 ∧ 1 ≤ m ∧ m ≤ 60 ∧
  ∀ H' z, Prn z → 1 ≤ z.length → z.length ≤ m → ExA a H H' → Src H' a (c + (m : Int) + 3) → Q (.str z) H'
theorem ok_q_string (T : Txt K mg) : FnOk P w K mg base CX0 3 T.f_q_string T.d_q_string ["_law_source_here", "_law_most"] spString := by
  refine T.F_q_string.ok sc_q_string (fun vs H Q E h => ?_) (fun cdv A outer s H vs Q E hr h => ?_)
  · obtain ⟨a, c, m, rfl, _⟩ := h
    rfl
  · obtain ⟨a, c, m, rfl, hs, hc, m1, m2, q⟩ := h
    refine ⟨_, (pss_cons (ps_set (i := 2) sc_q_string.nd rfl (.inl rfl) (pe_op op_add_str pe_str pe_str))
    (pss_cons (ps_set (i := 3) sc_q_string.nd rfl (.inl rfl) pe_str)
    (pss_cons (ps_par (i := 4) (j := 5) (by rfl) sc_q_string.nd rfl rfl (by decide) rfl rfl (pa_cons (pe_call (ok_q_next T) (hr.mono (by decide)) (by rfl) T.g_q_next T.F_q_next.kp T.b_q_next .nil pass0 (pa_cons (pv 0) (pa_cons pe_int pa_nil))) (pa_cons pe_str pa_nil)) (by rfl))
    (pss_cons (ps_for PassesOwn.never rfl (pi_range1 (by rfl) T.z_range (pa_cons (pe_op op_add pe_int (pe_call (ok_q_next T) (hr.mono (by decide)) (by rfl) T.g_q_next T.F_q_next.kp T.b_q_next .nil pass0 (pa_cons (pv 0) (pa_cons (pv 1) pa_nil)))) pa_nil)) (pg_name (i := 6) sc_q_string.nd rfl (.inl rfl))
    (pss_one (ps_set (i := 5) sc_q_string.nd rfl (.inl rfl) (pe_op op_add_str (pv 5) (pe_call (ok_q_pick T) (hr.mono (by decide)) (by rfl) T.g_q_pick T.F_q_pick.kp T.b_q_pick .nil pass0 (pa_cons (pv 0) (pa_cons (pe_ifExp (pt_cmpR op_gt (pv 4) pe_int (nomark _)) (pv 2) (pv 3)) pa_nil)))))))
    (pss_cons (ps_set (i := 7) sc_q_string.nd rfl (.inl rfl) (pe_call (ok_q_next T) (hr.mono (by decide)) (by rfl) T.g_q_next T.F_q_next.kp T.b_q_next .nil pass0 (pa_cons (pv 0) (pa_cons (pe_callB call_len (by rfl) T.z_len (by decide +kernel) (pa_cons (pv 5) pa_nil)) pa_nil))))
    (pss_one (ps_ret (pe_ifExp (pt_cmpR op_ne (pe_bm PySem.F.plainAttrs_str PySem.F.slot_str_strip PySem.F.type_str_strip mt_stripChars (pv 5) (pa_cons pe_str pa_nil)) pe_str (nomark _)) (pv 5) (pe_op op_add_str (pe_op op_add_str (pe_slice sl_str (pv 5) po_none (po_some (pv 7))) pe_str) (pe_slice sl_str (pv 5) (po_some (pe_op op_add (pv 7) pe_int)) po_none)))))))))), ?_⟩
    refine ⟨_, _, rfl, rfl, by decide +kernel, ?_⟩
    refine ⟨.ref a, rfl, a, c, 4, rfl, hs, by omega, by decide, by decide, fun H1 way w0 w4 x1 s1 => ⟨_, _, rfl, ?_⟩⟩
    refine ⟨.ref a, rfl, .int m, rfl, a, c + 1, m, rfl, s1, by omega, by omega, by omega, fun H2 k k0 k1 x2 s2 => ⟨1, k, rfl, rfl, ?_⟩⟩
    obtain ⟨n, rfl⟩ := Int.eq_ofNat_of_zero_le k0
    refine ⟨1 + (n : Int), rfl, by omega, by omega, ?_⟩
    have hn : (1 + (n : Int)).toNat = n + 1 := by omega
    refine for_range (lo := 0) (n := (1 + (n : Int)).toNat) (fun i σ H' => ∃ (z : Str) (y6 : Option V), σ = [some (.ref a), some (.int m), some (.str signsS), some (.str moreS), some (.int way), some (.str z), y6, none] ∧ Prn z ∧ z.length = i ∧ ExA a H H' ∧ Src H' a (c + 2 + i))
      ⟨"", none, rfl, (fun c h => by rw [empty_tl] at h; cases h), by decide +kernel, x1.trans x2, s2.mono (by omega)⟩ ?_ ?_
    · rintro i σ H' hi ⟨z, y6, rfl, pz, lz, x3, s3⟩
      rw [hn] at hi
      refine ⟨.str z, rfl, .ref a, rfl, ?_⟩
      have fin : ∀ (t : Str), Prn t → ∀ (H4 : Hp) (ch : Nat), ch ∈ tl t → ExA a H' H4 → Src H4 a (c + 2 + i + 1) → (Prn (z ++ ⟨#[ch]⟩) ∧ (z ++ ⟨#[ch]⟩ : Str).length = i + 1 ∧ ExA a H H4 ∧ Src H4 a (c + 2 + ((i + 1 : Nat) : Int))) := fun t pt H4 ch hch x4 s4 =>
        ⟨pz.app (Prn.one (pt ch hch)), (by rw [len_app]; show z.length + 1 = i + 1; omega), x3.trans x4, s4.mono (by omega)⟩
      have zl : z.length + 1 ≤ sizeLine := line1000 (by omega)
      refine ⟨_, rfl, way, 0, rfl, rfl, _, rfl, ite2 (fun _ => ?_) (fun _ => ?_)⟩
      · exact ⟨.str signsS, rfl, a, _, .str signsS, rfl, s3, by omega, .inl ⟨signsS, rfl, signsS_len.1, signsS_len.2, fun H4 ch hch x4 s4 => ⟨z, ⟨#[ch]⟩, rfl, rfl, zl, z ++ ⟨#[ch]⟩, _, rfl, fin _ signsS_prn H4 ch hch x4 s4⟩⟩⟩
      · exact ⟨.str moreS, rfl, a, _, .str moreS, rfl, s3, by omega, .inl ⟨moreS, rfl, moreS_len.1, moreS_len.2, fun H4 ch hch x4 s4 => ⟨z, ⟨#[ch]⟩, rfl, rfl, zl, z ++ ⟨#[ch]⟩, _, rfl, fin _ moreS_prn H4 ch hch x4 s4⟩⟩⟩
    · rintro σ H' ⟨z, y6, rfl, pz, lz, x3, s3⟩
      rw [hn] at lz s3
      have zl : z.length ≤ sizeLine := line1000 (by omega)
      refine ⟨.ref a, rfl, .str z, rfl, .str z, z.length, rfl, ⟨zl, rfl⟩, a, _, _, rfl, s3, by omega, by omega, by omega, fun H4 k k0 k1 x4 s4 => ?_⟩
      obtain ⟨at', rfl⟩ := Int.eq_ofNat_of_zero_le k0
      refine ⟨.str z, rfl, rfl, z, _, rfl, rfl, zl, rfl, _, rfl, ite2 (fun _ => ?_) (fun _ => ?_)⟩
      · exact ⟨.str z, rfl, q H4 z pz (by omega) (by omega) (x3.trans x4) (s4.mono (by omega))⟩
      · have l1 : (cutS z none (some (at' : Int))).length = at' := by
          rw [len_tl, cutS_to, List.length_take, ← len_tl]
          omega
        have l2 : (cutS z (some ((at' : Int) + 1)) none).length = z.length - (at' + 1) := by
          rw [len_tl, show (at' : Int) + 1 = ((at' + 1 : Nat) : Int) from rfl, cutS_from, List.length_drop, ← len_tl]
        refine ⟨.str z, rfl, .int at', rfl, at', rfl, z, rfl, zl, _, _, rfl, rfl, (by rw [l1]; show at' + 1 ≤ sizeLine; exact line1000 (by omega)), .str z, rfl, .int at', rfl, at', 1, rfl, rfl, _, rfl, z, rfl, zl, _, _, rfl, rfl, ?_, ?_⟩
        · rw [len_app, l1, l2]
          show at' + 1 + _ ≤ sizeLine
          exact line1000 (by omega)
        · refine q H4 _ ((pz.cut.app (prn_lit (by decide +kernel))).app pz.cut) ?_ ?_ (x3.trans x4) (s4.mono (by omega))
          · rw [len_app, len_app, l1, l2]
            show 1 ≤ at' + 1 + _
            omega
          · rw [len_app, len_app, l1, l2]
            show at' + 1 + _ ≤ m
            omega
end
end K4

namespace K4
open PySem PySem.Spec PyProof.Rows L2 TL G M
section
variable {P : Program} {w : World} {K : PySem.W.Frag} {mg : Str → Option Value} {base : Heap}
theorem Prn.asc {s : Str} (h : Prn s) (l : s.length ≤ 900) : Asc s := ⟨fun c hc => by have := h c hc; omega, l⟩
theorem up_one {c : Nat} (h : 32 ≤ c ∧ c ≤ 126) : ∃ d, Txt.upper ⟨#[c]⟩ = ⟨#[d]⟩ ∧ 32 ≤ d ∧ d ≤ 126 := by
  refine ⟨up1 c, ?_, ?_⟩
  · rw [upper_ascii (x := ⟨#[c]⟩) (fun d hd => by rw [List.mem_singleton.mp hd]; omega)]
    simp
  · unfold up1
    split <;> omega
theorem lo_one {c : Nat} (h : 32 ≤ c ∧ c ≤ 126) : ∃ d, Txt.lower ⟨#[c]⟩ = ⟨#[d]⟩ ∧ 32 ≤ d ∧ d ≤ 126 := by
  refine ⟨lo1 c, ?_, ?_⟩
  · rw [lower_ascii (x := ⟨#[c]⟩) (fun d hd => by rw [List.mem_singleton.mp hd]; omega)]
    simp
  · unfold lo1
    split <;> omega
/-! ### the same, otherwise written -/
def spTurned : Sp := fun vs H Q _ => ∃ (a : Addr) (c : Int) (t : Str), vs = [.ref a, .str t] ∧ Src H a c ∧ c ≤ 900000000 ∧ Prn t ∧ t.length ≤ 60 ∧
  ∀ H' z, Prn z → z.length ≤ 130 → ExA a H H' → Src H' a (c + 130) → Q (.str z) H'
theorem ok_q_turned (T : Txt K mg) : FnOk P w K mg base CX0 3 T.f_q_turned T.d_q_turned ["_law_source_here", "_law_thing"] spTurned := by
  refine T.F_q_turned.ok sc_q_turned (fun vs H Q E h => ?_) (fun cdv A outer s H vs Q E hr h => ?_)
  · obtain ⟨a, c, t, rfl, _⟩ := h
    rfl
  · obtain ⟨a, c, t, rfl, hs, hc, pt, lt, q⟩ := h
    have zt : t.length ≤ sizeLine := line1000 (by omega)
    refine ⟨_, (pss_cons (ps_par (i := 2) (j := 3) (by rfl) sc_q_turned.nd rfl rfl (by decide) rfl rfl (pa_cons pe_str (pa_cons (pe_op op_sub pe_int (pe_callB call_len (by rfl) T.z_len (by decide +kernel) (pa_cons (pv 1) pa_nil))) pa_nil)) (by rfl))
    (pss_cons (ps_for PassesOwn.never rfl (pi_str (pv 1)) (pg_name (i := 4) sc_q_turned.nd rfl (.inl rfl))
    (Evl.pss_cut (ps_set (i := 2) sc_q_turned.nd rfl (.inl rfl) (pe_op op_add_str (pv 2) (pe_ifExp (pt_cmpR op_eq (pe_call (ok_q_next T) (hr.mono (by decide)) (by rfl) T.g_q_next T.F_q_next.kp T.b_q_next .nil pass0 (pa_cons (pv 0) (pa_cons pe_int pa_nil))) pe_int (nomark _)) (pe_upper (pv 4)) (pe_lower (pv 4)))))
    (pss_one (ps_if (PW.pt (pw_and (pt_cmpR op_eq (pv 4) pe_str (nomark _)) (pw_and (pt_cmpR op_gt (pv 3) pe_int (nomark _)) (pw_and1 (pt_cmpR op_eq (pe_call (ok_q_next T) (hr.mono (by decide)) (by rfl) T.g_q_next T.F_q_next.kp T.b_q_next .nil pass0 (pa_cons (pv 0) (pa_cons pe_int pa_nil))) pe_int (nomark _))))))
    (pss_one (ps_par (i := 2) (j := 3) (by rfl) sc_q_turned.nd rfl rfl (by decide) rfl rfl (pa_cons (pe_op op_add_str (pv 2) pe_str) (pa_cons (pe_op op_sub (pv 3) pe_int) pa_nil)) (by rfl)))
    pss_nil))))
    (Evl.pss_cut (ps_if (PW.pt (pw_and (pt_cmpR op_gt (pv 3) pe_int (nomark _)) (pw_and1 (pt_cmpR op_eq (pe_call (ok_q_next T) (hr.mono (by decide)) (by rfl) T.g_q_next T.F_q_next.kp T.b_q_next .nil pass0 (pa_cons (pv 0) (pa_cons pe_int pa_nil))) pe_int (nomark _)))))
    (pss_one (ps_set (i := 2) sc_q_turned.nd rfl (.inl rfl) (pe_call (ok_q_pick T) (hr.mono (by decide)) (by rfl) T.g_q_pick T.F_q_pick.kp T.b_q_pick .nil pass0 (pa_cons (pv 0) (pa_cons (pe_lst (pa_cons (pe_op op_add_str pe_str (pv 2)) (pa_cons (pe_op op_add_str (pv 2) pe_str) pa_nil))) pa_nil)))))
    pss_nil)
    (pss_one (ps_ret (pv 2)))))), ?_⟩
    refine ⟨.str t, rfl, .str t, _, rfl, ⟨zt, rfl⟩, 60, _, rfl, rfl, _, _, rfl, ?_⟩
    refine ⟨.str t, rfl, t, rfl, for_str (fun i σ H' => ∃ (z : Str) (r : Int) (y4 : Option V), σ = [some (.ref a), some (.str t), some (.str z), some (.int r), y4] ∧ Prn z ∧ z.length ≤ 2 * i ∧ ExA a H H' ∧ Src H' a (c + 2 * (i : Int)))
      ⟨"", _, none, rfl, (fun c h => by rw [empty_tl] at h; cases h), (by decide +kernel), ExA.refl a H, hs.mono (by omega)⟩ ?_ ?_⟩
    · rintro i ch σ H' hch ⟨z, r, y4, rfl, pz, lz, x3, s3⟩
      have hi : i < t.length := by rw [len_tl]; exact (List.getElem?_eq_some_iff.mp hch).1
      have pch := pt ch (List.mem_of_getElem? hch)
      -- found + upper or lower
      refine ⟨fun σ' H' => ∃ z', σ' = [some (.ref a), some (.str t), some (.str z'), some (.int r), some (.str ⟨#[ch]⟩)] ∧ Prn z' ∧ z'.length ≤ 2 * i + 1 ∧ ExA a H H' ∧ Src H' a (c + 2 * (i : Int) + 1), ?_, ?_⟩
      · refine ⟨.str z, rfl, .ref a, rfl, a, _, 2, rfl, s3, by omega, by decide, by decide, fun H4 k k0 k1 x4 s4 => ⟨rfl, _, rfl, ?_⟩⟩
        have fin : ∀ d, 32 ≤ d ∧ d ≤ 126 → Prn (z ++ ⟨#[d]⟩) ∧ (z ++ ⟨#[d]⟩ : Str).length ≤ 2 * i + 1 ∧ ExA a H H4 ∧ Src H4 a (c + 2 * (i : Int) + 1) := fun d hd =>
          ⟨pz.app (Prn.one hd), (by rw [len_app]; show z.length + 1 ≤ _; omega), x3.trans x4, s4⟩
        have zl : z.length + 1 ≤ sizeLine := line1000 (by omega)
        refine ite2 (fun _ => ?_) (fun _ => ?_)
        · obtain ⟨d, e, hd⟩ := up_one pch
          refine ⟨.str ⟨#[ch]⟩, rfl, ⟨_, rfl⟩, _, rfl, rfl, (by show 1 ≤ 5592405; decide), z, _, rfl, rfl, ?_⟩
          rw [e]
          exact ⟨zl, _, rfl, fin d hd⟩
        · obtain ⟨d, e, hd⟩ := lo_one pch
          refine ⟨.str ⟨#[ch]⟩, rfl, ⟨_, rfl⟩, _, rfl, rfl, (by show 1 ≤ 5592405; decide), z, _, rfl, rfl, ?_⟩
          rw [e]
          exact ⟨zl, _, rfl, fin d hd⟩
      · rintro σ' H4 ⟨z', rfl, pz', lz', x4, s4⟩
        have no : ∀ H5, ExA a H4 H5 → Src H5 a (c + 2 * (i : Int) + 2) → ∃ (z : Str) (r' : Int) (y4 : Option V), [some (V.ref a), some (.str t), some (.str z'), some (.int r), some (.str ⟨#[ch]⟩)] = [some (.ref a), some (.str t), some (.str z), some (.int r'), y4] ∧ Prn z ∧ z.length ≤ 2 * (i + 1) ∧ ExA a H H5 ∧ Src H5 a (c + 2 * ((i + 1 : Nat) : Int)) :=
          fun H5 x5 s5 => ⟨z', r, _, rfl, pz', by omega, x4.trans x5, s5.mono (by omega)⟩
        have no4 := no H4 (ExA.refl a H4) (s4.mono (by omega))
        refine ⟨.str ⟨#[ch]⟩, rfl, rfl, _, rfl, ite2 (fun _ => ?_) (fun _ => iteF no4)⟩
        refine ⟨.int r, rfl, r, 0, rfl, rfl, _, rfl, ite2 (fun _ => ?_) (fun _ => iteF no4)⟩
        refine ⟨.ref a, rfl, a, _, 2, rfl, s4, by omega, by decide, by decide, fun H5 k k0 k1 x5 s5 => ⟨rfl, _, rfl, ite2 (fun _ => ?_) (fun _ => no H5 x5 (s5.mono (by omega)))⟩⟩
        refine ⟨.str z', rfl, z', _, rfl, rfl, (by show z'.length + 1 ≤ sizeLine; exact line1000 (by omega)), .int r, rfl, r, 1, rfl, rfl, _, _, rfl, z' ++ " ", r - 1, _, rfl, pz'.app (prn_lit (by decide +kernel)), ?_, x4.trans x5, s5.mono (by omega)⟩
        rw [len_app]
        show z'.length + 1 ≤ 2 * (i + 1)
        omega
    · rintro σ H' ⟨z, r, y4, rfl, pz, lz, x3, s3⟩
      rw [← len_tl] at lz s3
      refine ⟨fun σ' H' => ∃ z', σ' = [some (.ref a), some (.str t), some (.str z'), some (.int r), y4] ∧ Prn z' ∧ z'.length ≤ 130 ∧ ExA a H H' ∧ Src H' a (c + 130), ?_, ?_⟩
      · have no : ∀ H5, ExA a H' H5 → Src H5 a (c + 130) → ∃ z', [some (V.ref a), some (.str t), some (.str z), some (.int r), y4] = [some (.ref a), some (.str t), some (.str z'), some (.int r), y4] ∧ Prn z' ∧ z'.length ≤ 130 ∧ ExA a H H5 ∧ Src H5 a (c + 130) :=
          fun H5 x5 s5 => ⟨z, rfl, pz, by omega, x3.trans x5, s5⟩
        refine ⟨.int r, rfl, r, 0, rfl, rfl, _, rfl, ite2 (fun _ => ?_) (fun _ => iteF (no H' (ExA.refl a H') (s3.mono (by omega))))⟩
        refine ⟨.ref a, rfl, a, _, 3, rfl, s3, by omega, by decide, by decide, fun H5 k k0 k1 x5 s5 => ⟨rfl, _, rfl, ite2 (fun _ => ?_) (fun _ => no H5 x5 (s5.mono (by omega)))⟩⟩
        have zl : z.length + 1 ≤ sizeLine := line1000 (by omega)
        refine ⟨.ref a, rfl, .str z, rfl, _, z, rfl, rfl, (by show 1 + z.length ≤ sizeLine; omega), .str z, rfl, z, _, rfl, rfl, zl, (by show 2 ≤ sizeLine; decide), fun p np => ?_⟩
        refine ⟨a, _, .ref p, rfl, s5.new np, by omega, .inr ⟨p, _, rfl, s5.ne np, SqL.of upd_same, (by show 1 ≤ 2; decide), (by show 2 ≤ 1000; decide), fun H6 v hv x6 s6 => ?_⟩⟩
        have hx : ExA a H H6 := ((x3.trans x5).trans (ExA.new np)).trans x6
        have sp : Prn (" " : Str) := prn_lit (by decide +kernel)
        rcases List.mem_cons.mp hv with rfl | hv
        · exact ⟨_, rfl, sp.app pz, (by rw [len_app]; show 1 + z.length ≤ 130; omega), hx, s6.mono (by omega)⟩
        · have := List.mem_singleton.mp hv
          subst this
          exact ⟨_, rfl, pz.app sp, (by rw [len_app]; show z.length + 1 ≤ 130; omega), hx, s6.mono (by omega)⟩
      · rintro σ' H6 ⟨z', rfl, pz', lz', x6, s6⟩
        exact ⟨_, rfl, q H6 z' pz' lz' x6 s6⟩
end
end K4

namespace K4
open PySem PySem.Spec PyProof.Rows L2 TL G M
section
variable {P : Program} {w : World} {K : PySem.W.Frag} {mg : Str → Option Value} {base : Heap}
def TextV (v : V) : Prop := ∃ z, v = .str z ∧ Prn z ∧ z.length ≤ 900
def spStrings : Sp := fun vs H Q _ => ∃ (a : Addr) (c : Int), vs = [.ref a] ∧ Src H a c ∧ c ≤ 800000000 ∧
  ∀ H' l xs, H l = none → l ≠ a → H' l = some (.lst xs) → xs.length ≤ 6 → (∀ v ∈ xs, TextV v) → ExA a H H' → Src H' a (c + 1000) → Q (.ref l) H'
theorem six : ∀ v ∈ ([.str "a", .str "B", .str "x", .str "~", .str "!", .str "  a"] : List V), ∃ z, v = .str z ∧ Prn z ∧ z.length ≤ 3 := by
  intro v hv
  simp only [List.mem_cons, List.not_mem_nil, or_false] at hv
  rcases hv with rfl | rfl | rfl | rfl | rfl | rfl <;> exact ⟨_, rfl, prn_lit (by decide +kernel), by decide +kernel⟩
theorem ok_q_strings (T : Txt K mg) : FnOk P w K mg base CX0 4 T.f_q_strings T.d_q_strings ["_law_source_here"] spStrings := by
  refine T.F_q_strings.ok sc_q_strings (fun vs H Q E h => ?_) (fun cdv A outer s H vs Q E hr h => ?_)
  · obtain ⟨a, c, rfl, _⟩ := h
    rfl
  · obtain ⟨a, c, rfl, hs, hc, q⟩ := h
    refine ⟨_, (pss_cons (ps_set (i := 1) sc_q_strings.nd rfl (.inl rfl) (pe_call (ok_q_string T) (hr.mono (by decide)) (by rfl) T.g_q_string T.F_q_string.kp T.b_q_string .nil pass0 (pa_cons (pv 0) (pa_cons (pe_call (ok_q_pick T) (hr.mono (by decide)) (by rfl) T.g_q_pick T.F_q_pick.kp T.b_q_pick .nil pass0 (pa_cons (pv 0) (pa_cons (pe_lst (pa_cons pe_int (pa_cons pe_int pa_nil))) pa_nil))) pa_nil))))
    (pss_cons (ps_set (i := 2) sc_q_strings.nd rfl (.inl rfl) (pe_lst (pa_cons (pv 1) (pa_cons (pe_call (ok_q_turned T) (hr.mono (by decide)) (by rfl) T.g_q_turned T.F_q_turned.kp T.b_q_turned .nil pass0 (pa_cons (pv 0) (pa_cons (pv 1) pa_nil))) pa_nil))))
    (pss_cons (ps_for PassesOwn.never rfl (pi_range1 (by rfl) T.z_range (pa_cons pe_int pa_nil)) (pg_name (i := 3) sc_q_strings.nd rfl (.inl rfl))
    (pss_cons (ps_set (i := 4) sc_q_strings.nd rfl (.inl rfl) (pe_call (ok_q_next T) (hr.mono (by decide)) (by rfl) T.g_q_next T.F_q_next.kp T.b_q_next .nil pass0 (pa_cons (pv 0) (pa_cons (pe_callB call_len (by rfl) T.z_len (by decide +kernel) (pa_cons (pv 1) pa_nil)) pa_nil))))
    (pss_cons (ps_set (i := 5) sc_q_strings.nd rfl (.inl rfl) (pe_op op_add_str (pe_op op_add_str (pe_slice sl_str (pv 1) po_none (po_some (pv 4))) (pe_call (ok_q_pick T) (hr.mono (by decide)) (by rfl) T.g_q_pick T.F_q_pick.kp T.b_q_pick .nil pass0 (pa_cons (pv 0) (pa_cons (pe_lst (pa_cons pe_str (pa_cons pe_str (pa_cons pe_str (pa_cons pe_str (pa_cons pe_str (pa_cons pe_str pa_nil))))))) pa_nil)))) (pe_slice sl_str (pv 1) (po_some (pe_op op_add (pv 4) pe_int)) po_none)))
    (pss_one (ps_expr (pe_bm PySem.F.plainAttrs_list PySem.F.slot_list_append PySem.F.type_list_append mt_append (pv 2) (pa_cons (pe_call (ok_q_pick T) (hr.mono (by decide)) (by rfl) T.g_q_pick T.F_q_pick.kp T.b_q_pick .nil pass0 (pa_cons (pv 0) (pa_cons (pe_lst (pa_cons (pv 5) (pa_cons (pe_op op_add_str (pe_slice sl_str (pv 1) po_none (po_some (pv 4))) pe_str) (pa_cons (pe_op op_add_str (pv 5) pe_str) pa_nil)))) pa_nil))) pa_nil)))))))
    (pss_one (ps_ret (pv 2)))))), ?_⟩
    -- first
    refine ⟨.ref a, rfl, .ref a, rfl, (by show 2 ≤ sizeLine; decide), fun p np => ?_⟩
    refine ⟨a, _, .ref p, rfl, hs.new np, by omega, .inr ⟨p, _, rfl, hs.ne np, SqL.of upd_same, (by show 1 ≤ 2; decide), (by show 2 ≤ 1000; decide), fun H1 v hv x1 s1 => ?_⟩⟩
    obtain ⟨m, rfl, m1, m2⟩ : ∃ m : Nat, v = .int m ∧ 1 ≤ m ∧ m ≤ 50 := by
      rcases List.mem_cons.mp hv with rfl | hv
      · exact ⟨5, rfl, by decide, by decide⟩
      · have := List.mem_singleton.mp hv
        subst this
        exact ⟨50, rfl, by decide, by decide⟩
    refine ⟨a, _, m, rfl, s1, by omega, m1, by omega, fun H2 z pz z1 z2 x2 s2 => ?_⟩
    -- found
    refine ⟨.str z, rfl, .ref a, rfl, .str z, rfl, a, _, z, rfl, s2, by omega, pz, by omega, fun H3 u pu lu x3 s3 => ⟨(by show 2 ≤ sizeLine; decide), fun l nl => ?_⟩⟩
    have x30 : ExA a H H3 := (((ExA.new np).trans x1).trans x2).trans x3
    have la : l ≠ a := s3.ne nl
    have nl0 : H l = none := by
      cases e : H l with
      | none => rfl
      | some o =>
        rw [x30 l o la e] at nl
        cases nl
    have zl : z.length ≤ sizeLine := line1000 (by omega)
    refine ⟨4, rfl, by decide, by decide, for_range (lo := 0) (n := 4) (fun i σ H' => ∃ xs y3 y4 y5, σ = [some (.ref a), some (.str z), some (.ref l), y3, y4, y5] ∧ H' l = some (.lst xs) ∧ xs.length = i + 2 ∧ (∀ v ∈ xs, TextV v) ∧ ExA a H H' ∧ Src H' a (c + 300 + 10 * (i : Int)))
      ⟨[.str z, .str u], none, none, none, rfl, upd_same, rfl, ?_, x30.mut nl0, (s3.mono (by omega)).new nl⟩ ?_ ?_⟩
    · intro v hv
      rcases List.mem_cons.mp hv with rfl | hv
      · exact ⟨z, rfl, pz, by omega⟩
      · have := List.mem_singleton.mp hv
        subst this
        exact ⟨u, rfl, pu, by omega⟩
    · rintro i σ H4 hi ⟨xs, y3, y4, y5, rfl, hl, lx, tx, x4, s4⟩
      refine ⟨.ref a, rfl, .str z, rfl, .str z, _, rfl, ⟨zl, rfl⟩, a, _, _, rfl, s4, by omega, by omega, by omega, fun H5 k k0 k1 x5 s5 => ?_⟩
      obtain ⟨n, rfl⟩ := Int.eq_ofNat_of_zero_le k0
      have l1 : (cutS z none (some (n : Int))).length ≤ 50 := Nat.le_trans (cutS_length ..) (by omega)
      have l2 : (cutS z (some ((n : Int) + 1)) none).length ≤ 50 := Nat.le_trans (cutS_length ..) (by omega)
      -- near
      refine ⟨.str z, rfl, .int n, rfl, n, rfl, z, rfl, zl, .ref a, rfl, (by show 6 ≤ sizeLine; decide), fun p5 np5 => ?_⟩
      refine ⟨a, _, .ref p5, rfl, s5.new np5, by omega, .inr ⟨p5, _, rfl, s5.ne np5, SqL.of upd_same, (by show 1 ≤ 6; decide), (by show 6 ≤ 1000; decide), fun H6 v hv x6 s6 => ?_⟩⟩
      obtain ⟨y, rfl, py, ly⟩ := six v hv
      have l3 : (cutS z none (some (n : Int)) ++ y).length ≤ 53 := by rw [len_app]; omega
      refine ⟨_, y, rfl, rfl, line1000 (by omega), .str z, rfl, .int n, rfl, n, 1, rfl, rfl, _, rfl, z, rfl, zl, _, _, rfl, rfl, line1000 (by omega), ?_⟩
      -- the append
      have pn : Prn (cutS z none (some (n : Int)) ++ y ++ cutS z (some ((n : Int) + 1)) none) := (pz.cut.app py).app pz.cut
      have ln : (cutS z none (some (n : Int)) ++ y ++ cutS z (some ((n : Int) + 1)) none).length ≤ 103 := by rw [len_app]; omega
      have x60 : ExA a H4 H6 := (x5.trans (ExA.new np5)).trans x6
      have hl6 := x60 _ _ la hl
      refine ⟨.ref l, rfl, .inl ⟨rfl, _, SqL.of hl6⟩, .ref a, rfl, _, rfl, .str z, rfl, .int n, rfl, n, rfl, z, rfl, zl, _, _, rfl, rfl, (by show _ + 1 ≤ sizeLine; exact line1000 (by omega)),
        _, rfl, _, _, rfl, rfl, (by show _ + 1 ≤ sizeLine; exact line1000 (by omega)), (by show 3 ≤ sizeLine; decide), fun p7 np7 => ?_⟩
      have hl7 := (same_upd (o := .lst [.str (cutS z none (some (n : Int)) ++ y ++ cutS z (some ((n : Int) + 1)) none), .str (cutS z none (some (n : Int)) ++ "b"), .str (cutS z none (some (n : Int)) ++ y ++ cutS z (some ((n : Int) + 1)) none ++ "z")]) np7) _ _ hl6
      refine ⟨a, _, .ref p7, rfl, s6.new np7, by omega, .inr ⟨p7, _, rfl, s6.ne np7, SqL.of upd_same, (by show 1 ≤ 3; decide), (by show 3 ≤ 1000; decide), fun H8 v hv x8 s8 => ?_⟩⟩
      have tv : TextV v := by
        simp only [List.mem_cons, List.not_mem_nil, or_false] at hv
        rcases hv with rfl | rfl | rfl
        · exact ⟨_, rfl, pn, by omega⟩
        · exact ⟨_, rfl, pz.cut.app (prn_lit (by decide +kernel)), by rw [len_app]; show _ + 1 ≤ 900; omega⟩
        · exact ⟨_, rfl, pn.app (prn_lit (by decide +kernel)), by rw [len_app]; show _ + 1 ≤ 900; omega⟩
      refine ⟨l, xs, v, rfl, rfl, x8 _ _ la hl7, small1000 (by omega), xs ++ [v], _, _, _, rfl, upd_same, by rw [List.length_append]; show xs.length + 1 = i + 1 + 2; omega, ?_, ?_, ?_⟩
      · intro v' hv'
        rcases List.mem_append.mp hv' with h | h
        · exact tx v' h
        · rw [List.mem_singleton.mp h]
          exact tv
      · exact (((x4.trans x60).trans (ExA.new np7)).trans x8).mut nl0
      · exact (s8.mono (by omega)).mut la
    · rintro σ H4 ⟨xs, y3, y4, y5, rfl, hl, lx, tx, x4, s4⟩
      exact ⟨_, rfl, q H4 l xs nl0 la hl (by omega) tx x4 (s4.mono (by omega))⟩
end
end K4

namespace K4
open PySem PySem.Spec PyProof.Rows L2 TL G M
/-! ### digits -/
def PosD (l : List Nat) : Prop := ∃ c r, l = c :: r ∧ (49 ≤ c ∧ c ≤ 57) ∧ Digs r
theorem PosD.dig {l : List Nat} (h : PosD l) : Dig l := by
  obtain ⟨c, r, rfl, hc, hr⟩ := h
  refine ⟨fun d hd => ?_, .inr ⟨c, r, rfl, hc.1⟩⟩
  rcases List.mem_cons.mp hd with rfl | hd
  · omega
  · exact hr d hd
theorem PosD.not0 {l : List Nat} (h : PosD l) : l ≠ [48] := by
  obtain ⟨c, r, rfl, hc, hr⟩ := h
  intro e
  have := (List.cons.inj e).1
  omega
theorem PosD.take {l : List Nat} (h : PosD l) {k : Nat} (hk : 1 ≤ k) : PosD (l.take k) := by
  obtain ⟨c, r, rfl, hc, hr⟩ := h
  obtain ⟨j, rfl⟩ : ∃ j, k = j + 1 := ⟨k - 1, by omega⟩
  exact ⟨c, r.take j, rfl, hc, fun d hd => hr d (List.mem_of_mem_take hd)⟩
theorem PosD.put {l : List Nat} (h : PosD l) {n d : Nat} (hd : 49 ≤ d ∧ d ≤ 57) : PosD (l.take n ++ [d] ++ l.drop (n + 1)) := by
  obtain ⟨c, r, rfl, hc, hr⟩ := h
  cases n with
  | zero => exact ⟨d, r, rfl, hd, hr⟩
  | succ n =>
    refine ⟨c, r.take n ++ [d] ++ r.drop (n + 1), rfl, hc, fun x hx => ?_⟩
    rcases List.mem_append.mp hx with hx | hx
    · rcases List.mem_append.mp hx with hx | hx
      · exact hr x (List.mem_of_mem_take hx)
      · rw [List.mem_singleton.mp hx]
        omega
    · exact hr x (List.mem_of_mem_drop hx)
theorem joinE : ∀ ls : List (List Nat), joinL [] ls = ls.flatten
  | [] => rfl
  | [p] => by
    show p = p ++ []
    rw [List.append_nil]
  | p :: q :: r => by
    show p ++ ([] ++ joinL [] (q :: r)) = p ++ (q :: r).flatten
    rw [joinE (q :: r), List.nil_append]
theorem join_empty (ys : List Str) : tl (Txt.join ("" : Str) ys) = (ys.map tl).flatten := by
  rw [join_eq, tl_join, empty_tl, joinE]
theorem ones {ys : List Str} (h : ∀ y ∈ ys, ∃ c, y = ⟨#[c]⟩ ∧ 48 ≤ c ∧ c ≤ 57) : Digs (ys.map tl).flatten ∧ (ys.map tl).flatten.length = ys.length ∧ (ys.map (·.length)).sum = ys.length := by
  induction ys with
  | nil => exact ⟨fun c hc => (by cases hc), rfl, rfl⟩
  | cons y r ih =>
    obtain ⟨h1, h2, h3⟩ := ih fun x hx => h x (List.mem_cons_of_mem _ hx)
    obtain ⟨c, rfl, hc⟩ := h y (List.mem_cons_self ..)
    refine ⟨fun d hd => ?_, ?_, ?_⟩
    · rcases List.mem_cons.mp hd with rfl | hd
      · exact hc
      · exact h1 d hd
    · show (r.map tl).flatten.length + 1 = r.length + 1
      rw [h2]
    · rw [List.map_cons, List.sum_cons, h3]
      show 1 + r.length = r.length + 1
      omega
theorem nines : ∀ ch ∈ tl ("123456789" : Str), 49 ≤ ch ∧ ch ≤ 57 := by decide +kernel
theorem fours : ∀ ch ∈ tl ("0129" : Str), 48 ≤ ch ∧ ch ≤ 57 := by decide +kernel
theorem nines_len : 1 ≤ ("123456789" : Str).length ∧ ("123456789" : Str).length ≤ 1000 := by decide +kernel
theorem fours_len : 1 ≤ ("0129" : Str).length ∧ ("0129" : Str).length ≤ 1000 := by decide +kernel
section
variable {P : Program} {w : World} {K : PySem.W.Frag} {mg : Str → Option Value} {base : Heap}
def NumV (v : V) : Prop := ∃ z, v = .str z ∧ NumL (tl z) ∧ z.length ≤ 40
def spNumbers : Sp := fun vs H Q _ => ∃ (a : Addr) (c : Int), vs = [.ref a] ∧ Src H a c ∧ c ≤ 800000000 ∧
  ∀ H' l xs, H l = none → l ≠ a → H' l = some (.lst xs) → xs.length ≤ 6 → (∀ v ∈ xs, NumV v) → ExA a H H' → Src H' a (c + 1000) → Q (.ref l) H'
theorem free_of {a l : Addr} {H H' : Hp} (x : ExA a H H') (la : l ≠ a) (n : H' l = none) : H l = none := by
  cases e : H l with
  | none => rfl
  | some o =>
    rw [x l o la e] at n
    cases n
theorem ok_q_numbers (T : Txt K mg) : FnOk P w K mg base CX0 3 T.f_q_numbers T.d_q_numbers ["_law_source_here"] spNumbers := by
  refine T.F_q_numbers.ok sc_q_numbers (fun vs H Q E h => ?_) (fun cdv A outer s H vs Q E hr h => ?_)
  · obtain ⟨a, c, rfl, _⟩ := h
    rfl
  · obtain ⟨a, c, rfl, hs, hc, q⟩ := h
    refine ⟨_, (pss_cons (ps_par (i := 1) (j := 2) (by rfl) sc_q_numbers.nd rfl rfl (by decide) rfl rfl (pa_cons (pe_call (ok_q_pick T) (hr.mono (by decide)) (by rfl) T.g_q_pick T.F_q_pick.kp T.b_q_pick .nil pass0 (pa_cons (pv 0) (pa_cons (pe_lst (pa_cons pe_int (pa_cons pe_int (pa_cons pe_int (pa_cons pe_int (pa_cons pe_int pa_nil)))))) pa_nil))) (pa_cons (pe_lst (pa_cons pe_str pa_nil)) pa_nil)) (by rfl))
    (pss_cons (ps_set (i := 3) sc_q_numbers.nd rfl (.inl rfl) (pe_op op_add_str (pe_call (ok_q_pick T) (hr.mono (by decide)) (by rfl) T.g_q_pick T.F_q_pick.kp T.b_q_pick .nil pass0 (pa_cons (pv 0) (pa_cons pe_str pa_nil))) (pe_join pe_str (pe_lc (own := [("_law_turn", 4)]) (g := gName 4) (tt := tYes) rfl sc_q_numbers.nd (pi_range1 (by rfl) T.z_range (pa_cons (pe_op op_sub (pv 1) pe_int) pa_nil)) (blkOk_by (N := ["_law_source_here", "_law_many", "_law_found", "_law_first", "_law_turn", "_law_at", "_law_near"]) (sc := defScope s_q_numbers) (by decide +kernel)) (fun _ _ _ _ _ => (pg_name (i := 4) sc_q_numbers.nd rfl (Or.inl rfl))) (fun _ _ _ _ _ => pts_nil) (fun _ _ _ _ _ => (pe_call (ok_q_pick T) (hr.mono (by decide)) (by rfl) T.g_q_pick T.F_q_pick.kp T.b_q_pick .nil pass0 (pa_cons (pv 0) (pa_cons pe_str pa_nil))))))))
    (pss_cons (ps_for PassesOwn.never rfl (pi_range1 (by rfl) T.z_range (pa_cons pe_int pa_nil)) (pg_name (i := 4) sc_q_numbers.nd rfl (.inl rfl))
    (pss_cons (ps_set (i := 5) sc_q_numbers.nd rfl (.inl rfl) (pe_call (ok_q_next T) (hr.mono (by decide)) (by rfl) T.g_q_next T.F_q_next.kp T.b_q_next .nil pass0 (pa_cons (pv 0) (pa_cons (pe_callB call_len (by rfl) T.z_len (by decide +kernel) (pa_cons (pv 3) pa_nil)) pa_nil))))
    (pss_cons (ps_set (i := 6) sc_q_numbers.nd rfl (.inl rfl) (pe_op op_add_str (pe_op op_add_str (pe_slice sl_str (pv 3) po_none (po_some (pv 5))) (pe_call (ok_q_pick T) (hr.mono (by decide)) (by rfl) T.g_q_pick T.F_q_pick.kp T.b_q_pick .nil pass0 (pa_cons (pv 0) (pa_cons pe_str pa_nil)))) (pe_slice sl_str (pv 3) (po_some (pe_op op_add (pv 5) pe_int)) po_none)))
    (pss_cons (ps_set (i := 6) sc_q_numbers.nd rfl (.inl rfl) (pe_call (ok_q_pick T) (hr.mono (by decide)) (by rfl) T.g_q_pick T.F_q_pick.kp T.b_q_pick .nil pass0 (pa_cons (pv 0) (pa_cons (pe_lst (pa_cons (pv 6) (pa_cons (pe_slice sl_str (pv 6) po_none (po_some (pe_callB (call_max2 rfl) (by rfl) T.z_max (by decide +kernel) (pa_cons pe_int (pa_cons (pv 5) pa_nil))))) (pa_cons (pe_call (ok_q_pick T) (hr.mono (by decide)) (by rfl) T.g_q_pick T.F_q_pick.kp T.b_q_pick .nil pass0 (pa_cons (pv 0) (pa_cons pe_str pa_nil))) (pa_cons (pv 3) pa_nil))))) pa_nil))))
    (pss_one (ps_expr (pe_bm PySem.F.plainAttrs_list PySem.F.slot_list_append PySem.F.type_list_append mt_append (pv 2) (pa_cons (pe_op op_add_str (pe_call (ok_q_pick T) (hr.mono (by decide)) (by rfl) T.g_q_pick T.F_q_pick.kp T.b_q_pick .nil pass0 (pa_cons (pv 0) (pa_cons (pe_lst (pa_cons pe_str (pa_cons pe_str (pa_cons pe_str pa_nil)))) pa_nil))) (pv 6)) pa_nil))))))))
    (pss_one (ps_ret (pv 2)))))), ?_⟩
    -- many, found
    refine ⟨.ref a, rfl, (by show 5 ≤ sizeLine; decide), fun p np => ?_⟩
    refine ⟨a, _, .ref p, rfl, hs.new np, by omega, .inr ⟨p, _, rfl, hs.ne np, SqL.of upd_same, (by show 1 ≤ 5; decide), (by show 5 ≤ 1000; decide), fun H1 v hv x1 s1 => ?_⟩⟩
    obtain ⟨m, rfl, m1, m2⟩ : ∃ m : Nat, v = .int ((m : Int) + 1) ∧ 0 ≤ m ∧ m ≤ 29 := by
      simp only [List.mem_cons, List.not_mem_nil, or_false] at hv
      rcases hv with rfl | rfl | rfl | rfl | rfl
      · exact ⟨0, rfl, by decide, by decide⟩
      · exact ⟨1, rfl, by decide, by decide⟩
      · exact ⟨8, rfl, by decide, by decide⟩
      · exact ⟨28, rfl, by decide, by decide⟩
      · exact ⟨29, rfl, by decide, by decide⟩
    refine ⟨(by show 1 ≤ sizeLine; decide), fun l nl => ⟨_, _, rfl, ?_⟩⟩
    have x10 : ExA a H H1 := (ExA.new np).trans x1
    have la : l ≠ a := s1.ne nl
    have nl0 : H l = none := free_of x10 la nl
    have s1l := s1.new (o := .lst [.str "0"]) nl
    have x1l : ExA a H (upd H1 l (.lst [.str "0"])) := x10.mut nl0
    have hl1 : (upd H1 l (.lst [.str "0"])) l = some (.lst [.str "0"]) := upd_same
    -- first
    refine ⟨.ref a, rfl, a, _, .str "123456789", rfl, s1l, by omega, .inl ⟨"123456789", rfl, nines_len.1, nines_len.2, fun H2 d hd x2 s2 => ?_⟩⟩
    have hd := nines d hd
    have x20 := x1l.trans x2
    have hl2 := x2 _ _ la hl1
    refine ⟨⟨_, rfl⟩, .int ((m : Int) + 1), rfl, _, 1, rfl, rfl, _, rfl, by omega, by omega, fun D nD => ?_⟩
    have aD : D ≠ a := s2.ne nD
    have nD0 : H D = none := free_of x20 aD nD
    have lD : l ≠ D := ne_of_none hl2 nD
    have hm : ((m : Int) + 1 - 1).toNat = m := by omega
    refine lc_range (lo := 0) (n := ((m : Int) + 1 - 1).toNat) (fun i H' => ∃ ys : List Str, H' D = some (.lst (ys.map V.str)) ∧ ys.length = i ∧ (∀ y ∈ ys, ∃ ch, y = ⟨#[ch]⟩ ∧ 48 ≤ ch ∧ ch ≤ 57) ∧ ExA a H H' ∧ Src H' a (c + 2 + (i : Int)) ∧ H' l = some (.lst [.str "0"]))
      ⟨[], upd_same, rfl, (fun y hy => nomatch hy), x20.mut nD0, (s2.mono (by omega)).new nD, by rw [upd_ne lD]; exact hl2⟩ ?_ ?_
    · rintro i H' hi ⟨ys, h1, h2, h3, x3, s3, h4⟩
      rw [hm] at hi
      refine ⟨rfl, .ref a, rfl, a, _, .str "0129", rfl, s3, by omega, .inl ⟨"0129", rfl, fours_len.1, fours_len.2, fun H4 ch hch x4 s4 => ?_⟩⟩
      refine ⟨_, x4 _ _ aD h1, (by rw [List.length_map]; exact small1000 (by omega)), ys ++ [⟨#[ch]⟩], by rw [upd_same, List.map_append]; rfl, by rw [List.length_append]; show ys.length + 1 = i + 1; omega, ?_, (x3.trans x4).mut nD0, (s4.mono (by omega)).mut aD, by rw [upd_ne lD]; exact x4 _ _ la h4⟩
      intro y hy
      rcases List.mem_append.mp hy with h | h
      · exact h3 y h
      · exact ⟨ch, List.mem_singleton.mp h, fours ch hch⟩
    · rintro H3 ⟨ys, h1, h2, h3, x3, s3, h4⟩
      rw [hm] at h2 s3
      obtain ⟨o1, o2, o3⟩ := ones h3
      refine ⟨_, D, ys, rfl, rfl, .inl (SqL.of h1), (by rw [o3]; show ys.length + ys.length * 0 ≤ 16777216; omega), ⟨#[d]⟩, _, rfl, rfl, ?_, ?_⟩
      · show 1 + (Txt.join ("" : Str) ys).length ≤ sizeLine
        rw [len_tl, join_empty, o2]
        exact line1000 (by omega)
      have pf : PosD (tl ((⟨#[d]⟩ : Str) ++ Txt.join ("" : Str) ys)) := by
        rw [tl_append, join_empty]
        exact ⟨d, _, rfl, hd, o1⟩
      have lf : ((⟨#[d]⟩ : Str) ++ Txt.join ("" : Str) ys).length ≤ 30 ∧ 1 ≤ ((⟨#[d]⟩ : Str) ++ Txt.join ("" : Str) ys).length := by
        rw [len_app, len_tl (Txt.join _ _), join_empty, o2]
        show 1 + ys.length ≤ 30 ∧ 1 ≤ 1 + ys.length
        omega
      obtain ⟨f, hf⟩ : ∃ f, f = (⟨#[d]⟩ : Str) ++ Txt.join ("" : Str) ys := ⟨_, rfl⟩
      rw [← hf] at pf lf
      show tSeq _ _ _ [some (.ref a), some (.int ((m : Int) + 1)), some (.ref l), some (.str ((⟨#[d]⟩ : Str) ++ Txt.join ("" : Str) ys)), none, none, none] H3
      rw [← hf]
      clear hf
      have fl : f.length ≤ sizeLine := line1000 (by omega)
      -- the loop
      refine ⟨5, rfl, by decide, by decide, for_range (lo := 0) (n := 5) (fun i σ H' => ∃ xs y4 y5 y6, σ = [some (.ref a), some (.int ((m : Int) + 1)), some (.ref l), some (.str f), y4, y5, y6] ∧ H' l = some (.lst xs) ∧ xs.length = i + 1 ∧ (∀ v ∈ xs, NumV v) ∧ ExA a H H' ∧ Src H' a (c + 100 + 10 * (i : Int)))
        ⟨[.str "0"], none, none, none, rfl, h4, rfl, ?_, x3, s3.mono (by omega)⟩ ?_ ?_⟩
      · intro v hv
        rw [List.mem_singleton.mp hv]
        refine ⟨_, rfl, .inl ⟨?_, .inl (by decide +kernel)⟩, by decide +kernel⟩
        rw [show tl ("0" : Str) = [48] by decide +kernel]
        intro c hc
        rw [List.mem_singleton.mp hc]
        omega
      · rintro i σ H4 hi ⟨xs, y4, y5, y6, rfl, hl, lx, tx, x4, s4⟩
        refine ⟨.ref a, rfl, .str f, rfl, .str f, _, rfl, ⟨fl, rfl⟩, a, _, _, rfl, s4, by omega, by omega, by omega, fun H5 k k0 k1 x5 s5 => ?_⟩
        obtain ⟨n, rfl⟩ := Int.eq_ofNat_of_zero_le k0
        have l1 : (cutS f none (some (n : Int))).length ≤ 30 := Nat.le_trans (cutS_length ..) (by omega)
        have l2 : (cutS f (some ((n : Int) + 1)) none).length ≤ 30 := Nat.le_trans (cutS_length ..) (by omega)
        have l1n : (cutS f none (some (n : Int))).length = n := by rw [len_tl, cutS_to, List.length_take, ← len_tl]; omega
        have l2n : (cutS f (some ((n : Int) + 1)) none).length = f.length - (n + 1) := by rw [len_tl, show (n : Int) + 1 = ((n + 1 : Nat) : Int) from rfl, cutS_from, List.length_drop, ← len_tl]
        refine ⟨.str f, rfl, .int n, rfl, n, rfl, f, rfl, fl, .ref a, rfl, a, _, .str "123456789", rfl, s5, by omega, .inl ⟨"123456789", rfl, nines_len.1, nines_len.2, fun H6 e he x6 s6 => ?_⟩⟩
        have he := nines e he
        have l3 : (cutS f none (some (n : Int)) ++ ⟨#[e]⟩).length = n + 1 := by rw [len_app, l1n]; rfl
        refine ⟨_, ⟨#[e]⟩, rfl, rfl, (by rw [l1n]; show n + 1 ≤ sizeLine; exact line1000 (by omega)), .str f, rfl, .int n, rfl, n, 1, rfl, rfl, _, rfl, f, rfl, fl, _, _, rfl, rfl, line1000 (by omega), ?_⟩
        have pg : PosD (tl (cutS f none (some (n : Int)) ++ ⟨#[e]⟩ ++ cutS f (some ((n : Int) + 1)) none)) := by
          rw [tl_append, tl_append, cutS_to, show (n : Int) + 1 = ((n + 1 : Nat) : Int) from rfl, cutS_from]
          exact pf.put he
        have lg : (cutS f none (some (n : Int)) ++ ⟨#[e]⟩ ++ cutS f (some ((n : Int) + 1)) none).length ≤ 30 := by rw [len_app, l3, l2n]; omega
        obtain ⟨g, hg⟩ : ∃ g, g = cutS f none (some (n : Int)) ++ ⟨#[e]⟩ ++ cutS f (some ((n : Int) + 1)) none := ⟨_, rfl⟩
        rw [← hg] at pg lg
        show tSeq _ _ _ [some (.ref a), some (.int ((m : Int) + 1)), some (.ref l), some (.str f), some _, some (.int n), some (.str (cutS f none (some (n : Int)) ++ ⟨#[e]⟩ ++ cutS f (some ((n : Int) + 1)) none))] H6
        rw [← hg]
        clear hg
        have gl : g.length ≤ sizeLine := line1000 (by omega)
        -- near
        refine ⟨.ref a, rfl, .str g, rfl, .str g, rfl, .int n, rfl, 1, n, rfl, _, rfl, g, rfl, gl, .ref a, rfl, a, _, .str "123456789", rfl, s6, by omega, .inl ⟨"123456789", rfl, nines_len.1, nines_len.2, fun H7 b hb x7 s7 => ?_⟩⟩
        have hb := nines b hb
        refine ⟨.str f, rfl, (by show 4 ≤ sizeLine; decide), fun p8 np8 => ?_⟩
        have x70 : ExA a H4 H7 := (x5.trans x6).trans x7
        have hl8 := (same_upd (o := .lst [.str g, .str (cutS g none (some (if (n : Int) > 1 then (n : Int) else 1))), .str ⟨#[b]⟩, .str f]) np8) _ _ (x70 _ _ la hl)
        refine ⟨a, _, .ref p8, rfl, s7.new np8, by omega, .inr ⟨p8, _, rfl, s7.ne np8, SqL.of upd_same, (by show 1 ≤ 4; decide), (by show 4 ≤ 1000; decide), fun H9 v hv x9 s9 => ?_⟩⟩
        obtain ⟨z, rfl, pz, lz⟩ : ∃ z, v = .str z ∧ PosD (tl z) ∧ z.length ≤ 30 := by
          simp only [List.mem_cons, List.not_mem_nil, or_false] at hv
          rcases hv with rfl | rfl | rfl | rfl
          · exact ⟨_, rfl, pg, lg⟩
          · refine ⟨_, rfl, ?_, Nat.le_trans (cutS_length ..) lg⟩
            have e1 : (if (n : Int) > 1 then (n : Int) else 1) = ((max 1 n : Nat) : Int) := by
              split <;> omega
            rw [e1, cutS_to]
            exact pg.take (by omega)
          · exact ⟨_, rfl, ⟨b, [], rfl, hb, fun c hc => nomatch hc⟩, by show 1 ≤ 30; decide⟩
          · exact ⟨_, rfl, pf, lf.1⟩
        have hl9 := x9 _ _ la hl8
        have zl : z.length ≤ sizeLine := line1000 (by omega)
        -- the append
        refine ⟨.ref l, rfl, .inl ⟨rfl, _, SqL.of hl9⟩, .ref a, rfl, (by show 3 ≤ sizeLine; decide), fun p10 np10 => ?_⟩
        have hl10 := (same_upd (o := .lst [.str "", .str "", .str "-"]) np10) _ _ hl9
        refine ⟨a, _, .ref p10, rfl, s9.new np10, by omega, .inr ⟨p10, _, rfl, s9.ne np10, SqL.of upd_same, (by show 1 ≤ 3; decide), (by show 3 ≤ 1000; decide), fun H11 v hv x11 s11 => ?_⟩⟩
        obtain ⟨u, rfl, lu, nu⟩ : ∃ u, v = .str u ∧ u.length ≤ 1 ∧ NumL (tl (u ++ z)) := by
          have h0 : ∃ u, V.str "" = .str u ∧ u.length ≤ 1 ∧ NumL (tl (u ++ z)) := ⟨_, rfl, by decide +kernel, .inl (by rw [tl_append, empty_tl]; exact pz.dig)⟩
          simp only [List.mem_cons, List.not_mem_nil, or_false] at hv
          rcases hv with rfl | rfl | rfl
          · exact h0
          · exact h0
          · exact ⟨_, rfl, by decide +kernel, .inr ⟨tl z, by rw [tl_append, show tl ("-" : Str) = [45] by decide +kernel]; rfl, pz.dig, pz.not0⟩⟩
        refine ⟨.str z, rfl, u, z, rfl, rfl, line1000 (by omega), ?_⟩
        refine ⟨l, xs, .str (u ++ z), rfl, rfl, x11 _ _ la hl10, small1000 (by omega), xs ++ [.str (u ++ z)], _, _, _, rfl, upd_same, by rw [List.length_append]; show xs.length + 1 = i + 1 + 1; omega, ?_, ?_, ?_⟩
        · intro v' hv'
          rcases List.mem_append.mp hv' with h | h
          · exact tx v' h
          · rw [List.mem_singleton.mp h]
            exact ⟨_, rfl, nu, by rw [len_app]; omega⟩
        · exact (((((x4.trans x70).trans (ExA.new np8)).trans x9).trans (ExA.new np10)).trans x11).mut nl0
        · exact (s11.mono (by omega)).mut la
      · rintro σ H4 ⟨xs, y4, y5, y6, rfl, hl, lx, tx, x4, s4⟩
        exact ⟨_, rfl, q H4 l xs nl0 la hl (by omega) tx x4 (s4.mono (by omega))⟩
end
end K4

namespace K4
open PySem PySem.Spec PyProof.Rows L2 TL G M
section
variable {P : Program} {w : World} {K : PySem.W.Frag} {mg : Str → Option Value} {base : Heap}
def Good (f : Str) (v : V) : Prop := (f = "integer" ∧ ∃ z, v = .str z ∧ NumL (tl z) ∧ z.length ≤ 640) ∨ (f = "text" ∧ ∃ z, v = .str z ∧ Asc z) ∨ (f = "exact" ∧ ∃ z, v = .str z)
theorem both {f : Str} {x y : V} (hx : Good f x) (hy : Good f y) : ∃ b, (∀ H Q E, (∀ H', Same H H' → Q (.bl b) H') → spIsLess [.str f, x, y] H Q E) ∧ (∀ H Q E, Q (.bl b) H → spLawLess [.str f, x, y] H Q E) := by
  have d1 : ¬ ("integer" : Str) = "text" := by decide +kernel
  have d2 : ¬ ("integer" : Str) = "exact" := by decide +kernel
  have d3 : ¬ ("text" : Str) = "exact" := by decide +kernel
  rcases hx with ⟨rfl, x, rfl, nx, lx⟩ | ⟨rfl, x, rfl, nx⟩ | ⟨rfl, x, rfl⟩
  · rcases hy with ⟨_, y, rfl, ny, ly⟩ | ⟨e, _⟩ | ⟨e, _⟩
    · exact ⟨_, fun H Q E q => ⟨_, x, y, rfl, .inl ⟨rfl, nx, ny, lx, ly, q H (Same.refl H)⟩⟩, fun H Q E q => ⟨_, x, y, rfl, .inl ⟨rfl, nx, ny, lx, ly, q⟩⟩⟩
    · exact absurd e d1
    · exact absurd e d2
  · rcases hy with ⟨e, _⟩ | ⟨_, y, rfl, ny⟩ | ⟨e, _⟩
    · exact absurd e.symm d1
    · exact ⟨_, fun H Q E q => ⟨_, x, y, rfl, .inr (.inl ⟨rfl, nx, ny, q⟩)⟩, fun H Q E q => ⟨_, x, y, rfl, .inr (.inl ⟨rfl, nx, ny, q⟩)⟩⟩
    · exact absurd e d3
  · rcases hy with ⟨e, _⟩ | ⟨e, _⟩ | ⟨_, y, rfl⟩
    · exact absurd e.symm d2
    · exact absurd e.symm d3
    · exact ⟨_, fun H Q E q => ⟨_, x, y, rfl, .inr (.inr ⟨rfl, q H (Same.refl H)⟩)⟩, fun H Q E q => ⟨_, x, y, rfl, .inr (.inr ⟨rfl, q⟩)⟩⟩
theorem kit_same (t : Value) : PySem.W.kitOne K t t = some true := by
  unfold PySem.W.kitOne
  rw [if_pos (beq_self_eq_true _)]
def spLaw (K : PySem.W.Frag) : Sp := fun vs H Q _ => ∃ (a : Addr) (ns : List Int), vs = [.ref a] ∧ SqL K H a (ns.map V.int) ∧ ns.length ≤ 63 ∧ ∀ H', Q (.bl true) H'
theorem ok_law (T : Txt K mg) : FnOk P w K mg base CX0 5 T.f_law T.d_law ["_law_script"] (spLaw K) := by
  refine T.F_law.ok sc_law (fun vs H Q E h => ?_) (fun cdv A outer s H vs Q E hr h => ?_)
  · obtain ⟨a, ns, rfl, _⟩ := h
    rfl
  · obtain ⟨s0, ns, rfl, hS, hlen, q⟩ := h
    refine ⟨_, (pss_cons (ps_for PassesOwn.never rfl (pi_list (pe_call (ok_q_rounds T) (hr.mono (by decide)) (by rfl) T.g_q_rounds T.F_q_rounds.kp T.b_q_rounds .nil pass0 (pa_cons (pv 0) (pa_cons pe_int pa_nil)))) (pg_name (i := 1) sc_law.nd rfl (.inl rfl))
    (pss_cons (ps_set (i := 2) sc_law.nd rfl (.inl rfl) (pe_call (ok_q_strings T) (hr.mono (by decide)) (by rfl) T.g_q_strings T.F_q_strings.kp T.b_q_strings .nil pass0 (pa_cons (pv 1) pa_nil)))
    (pss_one (ps_for PassesOwn.never rfl (pi_tup (pe_tup (pa_cons (pe_tup (pa_cons pe_str (pa_cons (pe_call (ok_q_numbers T) (hr.mono (by decide)) (by rfl) T.g_q_numbers T.F_q_numbers.kp T.b_q_numbers .nil pass0 (pa_cons (pv 1) pa_nil)) pa_nil))) (pa_cons (pe_tup (pa_cons pe_str (pa_cons (pv 2) pa_nil))) (pa_cons (pe_tup (pa_cons pe_str (pa_cons (pv 2) pa_nil))) pa_nil))))) (pg_tup rfl (pgs_cons (pg_name (i := 3) sc_law.nd rfl (.inl rfl)) (pgs_cons (pg_name (i := 4) sc_law.nd rfl (.inl rfl)) pgs_nil)))
    (pss_one (ps_for PassesOwn.never rfl (pi_list (pv 4)) (pg_name (i := 5) sc_law.nd rfl (.inl rfl))
    (pss_one (ps_for PassesOwn.never rfl (pi_list (pv 4)) (pg_name (i := 6) sc_law.nd rfl (.inl rfl))
    (pss_cons (ps_set (i := 7) sc_law.nd rfl (.inl rfl) (pe_call (ok_is_less T) (hr.mono (by decide)) (by rfl) T.g_is_less T.F_is_less.kp T.b_is_less .nil pass0 (pa_cons (pv 3) (pa_cons (pv 5) (pa_cons (pv 6) pa_nil)))))
    (pss_one (ps_if (PW.pt (pw_or (pt_not (pt_val (pe_callB call_isi (by rfl) T.z_isinstance (by decide +kernel) (pa_cons (pv 7) (pa_cons (pe_bltn (v := .ty "bool") (by rfl) T.z_bool (by decide +kernel) rfl) pa_nil))))) (pw_or1 (pt_cmpR op_ne (pv 7) (pe_call (ok_q_is_less T) (hr.mono (by decide)) (by rfl) T.g_q_is_less T.F_q_is_less.kp T.b_q_is_less .nil pass0 (pa_cons (pv 3) (pa_cons (pv 5) (pa_cons (pv 6) pa_nil)))) (nomark _)))))
    (pss_one (ps_ret pe_bl))
    pss_nil)))))))))))
    (pss_one (ps_ret (pe_and (pe_cmpR op_isBl (pe_call (ok_is_less T) (hr.mono (by decide)) (by rfl) T.g_is_less T.F_is_less.kp T.b_is_less .nil pass0 (pa_cons pe_str (pa_cons pe_str (pa_cons pe_str pa_nil)))) pe_bl (nomark _)) (pe_one (pe_cmpR op_isBl (pe_call (ok_is_less T) (hr.mono (by decide)) (by rfl) T.g_is_less T.F_is_less.kp T.b_is_less .nil pass0 (pa_cons pe_str (pa_cons pe_str (pa_cons pe_str pa_nil)))) pe_bl (nomark _))))))), ?_⟩
    refine ⟨.ref s0, rfl, s0, ns, 5, rfl, hS, by decide, fun H1 r srcs nr s1 hr1 ls nd hsrc => ?_⟩
    refine ⟨r, rfl, ⟨_, SqL.of hr1⟩, for_list (K := K) (a := r) (xs := srcs.map V.ref) (fun i σ H' => ∃ y1 y2 y3 y4 y5 y6 y7, σ = [some (.ref s0), y1, y2, y3, y4, y5, y6, y7] ∧ H' r = some (.lst (srcs.map V.ref)) ∧ ∀ b ∈ srcs.drop i, Src H' b 3000)
      ⟨none, none, none, none, none, none, none, rfl, hr1, fun b hb => (hsrc b hb).1⟩ (fun i σ H' _ ⟨_, _, _, _, _, _, _, _, h, _⟩ => SqL.of h) ?_ ?_⟩
    · rintro i x σ H2 hi ⟨y1, y2, y3, y4, y5, y6, y7, rfl, hr2, hs2⟩
      obtain ⟨a, ha, rfl⟩ : ∃ a, srcs[i]? = some a ∧ x = V.ref a := by
        rw [List.getElem?_map] at hi
        cases e : srcs[i]? with
        | none =>
          rw [e] at hi
          cases hi
        | some a =>
          rw [e] at hi
          exact ⟨a, rfl, (Option.some.inj hi).symm⟩
      have ed : srcs.drop i = a :: srcs.drop (i + 1) := by
        obtain ⟨h1, h2⟩ := List.getElem?_eq_some_iff.mp ha
        rw [List.drop_eq_getElem_cons h1, h2]
      have hsa : Src H2 a 3000 := hs2 a (by rw [ed]; exact List.mem_cons_self ..)
      have har : r ≠ a := fun e => (hsrc a (List.mem_of_getElem? ha)).2.2 e.symm
      have nda : ∀ b ∈ srcs.drop (i + 1), b ≠ a := by
        intro b hb e
        have : (srcs.drop i).Nodup := nd.sublist (List.drop_sublist i srcs)
        rw [ed, List.nodup_cons] at this
        exact this.1 (e ▸ hb)
      have after : ∀ H3, ExA a H2 H3 → H3 r = some (.lst (srcs.map V.ref)) ∧ ∀ b ∈ srcs.drop (i + 1), Src H3 b 3000 := fun H3 x3 => by
        refine ⟨x3 _ _ har hr2, fun b hb => ?_⟩
        obtain ⟨u, v, z, e, e0, e1⟩ := hs2 b (by rw [ed]; exact List.mem_cons_of_mem _ hb)
        exact ⟨u, v, z, x3 _ _ (nda b hb) e, e0, e1⟩
      refine ⟨.ref a, rfl, a, 3000, rfl, hsa, by decide, fun H3 l xs nl la hl lx tx x3 s3 => ?_⟩
      refine ⟨.ref a, rfl, a, _, rfl, s3, by decide, fun H4 m ys nm ma hm ly ty x4 s4 => ⟨(by show 2 ≤ sizeLine; decide), fun t1 nt1 => ?_⟩⟩
      have hl4 := x4 _ _ la hl
      refine ⟨.ref l, rfl, (by show 2 ≤ sizeLine; decide), fun t2 nt2 => ⟨.ref l, rfl, (by show 2 ≤ sizeLine; decide), fun t3 nt3 => ⟨(by show 3 ≤ sizeLine; decide), fun t0 nt0 => ?_⟩⟩⟩
      have g1 := same_upd (o := .tup [.str "integer", .ref m]) nt1
      have g2 := same_upd (o := .tup [.str "text", .ref l]) nt2
      have g3 := same_upd (o := .tup [.str "exact", .ref l]) nt3
      have g0 := same_upd (o := .tup [.ref t1, .ref t2, .ref t3]) nt0
      have gm := g0 _ _ (g3 _ _ (g2 _ _ (g1 _ _ hm)))
      have gl := g0 _ _ (g3 _ _ (g2 _ _ (g1 _ _ hl4)))
      have gt1 := g0 _ _ (g3 _ _ (g2 _ _ (upd_same (H := H4) (a := t1) (o := .tup [.str "integer", .ref m]))))
      have gt2 := g0 _ _ (g3 _ _ (upd_same (a := t2) (o := .tup [.str "text", .ref l])))
      have gt3 := g0 _ _ (upd_same (a := t3) (o := .tup [.str "exact", .ref l]))
      have x5 := (x3.trans x4).trans (ExA.of (((g1.trans g2).trans g3).trans g0))
      refine ⟨t0, rfl, ⟨_, SqT.of upd_same⟩, ?_⟩
      have ht0 := upd_same (H := upd (upd (upd H4 t1 (.tup [.str "integer", .ref m])) t2 (.tup [.str "text", .ref l])) t3 (.tup [.str "exact", .ref l])) (a := t0) (o := .tup [.ref t1, .ref t2, .ref t3])
      have rows : ∀ v ∈ ([.ref t1, .ref t2, .ref t3] : List V), ∃ (t : Addr) (f : Str) (p : Addr) (zs : List V), v = .ref t ∧
          (upd (upd (upd (upd H4 t1 (.tup [.str "integer", .ref m])) t2 (.tup [.str "text", .ref l])) t3 (.tup [.str "exact", .ref l])) t0 (.tup [.ref t1, .ref t2, .ref t3])) t = some (.tup [.str f, .ref p]) ∧
          (upd (upd (upd (upd H4 t1 (.tup [.str "integer", .ref m])) t2 (.tup [.str "text", .ref l])) t3 (.tup [.str "exact", .ref l])) t0 (.tup [.ref t1, .ref t2, .ref t3])) p = some (.lst zs) ∧ ∀ v ∈ zs, Good f v := by
        intro v hv
        simp only [List.mem_cons, List.not_mem_nil, or_false] at hv
        rcases hv with rfl | rfl | rfl
        · exact ⟨t1, _, m, ys, rfl, gt1, gm, fun v hv => by
            obtain ⟨z, e, h1, h2⟩ := ty v hv
            exact .inl ⟨rfl, z, e, h1, by omega⟩⟩
        · exact ⟨t2, _, l, xs, rfl, gt2, gl, fun v hv => by
            obtain ⟨z, e, h1, h2⟩ := tx v hv
            exact .inr (.inl ⟨rfl, z, e, h1.asc h2⟩)⟩
        · exact ⟨t3, _, l, xs, rfl, gt3, gl, fun v hv => by
            obtain ⟨z, e, h1, h2⟩ := tx v hv
            exact .inr (.inr ⟨rfl, z, e⟩)⟩
      obtain ⟨H5, hG⟩ : ∃ H5, H5 = upd (upd (upd (upd H4 t1 (.tup [.str "integer", .ref m])) t2 (.tup [.str "text", .ref l])) t3 (.tup [.str "exact", .ref l])) t0 (.tup [.ref t1, .ref t2, .ref t3]) := ⟨_, rfl⟩
      rw [← hG] at rows ht0 x5 ⊢
      clear hG g1 g2 g3 g0 gm gl gt1 gt2 gt3
      refine for_tup (K := K) (a := t0) (xs := [.ref t1, .ref t2, .ref t3]) (fun i σ H' => ∃ y3 y4 y5 y6 y7, σ = [some (.ref s0), some (.ref a), some (.ref l), y3, y4, y5, y6, y7] ∧ Same H5 H')
        ⟨y3, y4, y5, y6, y7, rfl, Same.refl H5⟩ (fun i σ H' _ ⟨_, _, _, _, _, _, s⟩ => SqT.of (s _ _ ht0)) ?_ ?_
      · rintro k x σ H6 hx ⟨y3, y4, y5, y6, y7, rfl, s6⟩
        obtain ⟨t, f, p, zs, rfl, ht, hp, good⟩ := rows x (List.mem_of_getElem? hx)
        refine ⟨t, [.str f, .ref p], rfl, SqT.of (s6 _ _ ht), rfl, .str f, [.ref p], rfl, .ref p, [], rfl, rfl, ?_⟩
        -- for one in row
        refine ⟨.ref p, rfl, p, rfl, ⟨_, SqL.of (s6 _ _ hp)⟩, for_list (K := K) (a := p) (xs := zs) (fun i σ H' => ∃ y5 y6 y7, σ = [some (.ref s0), some (.ref a), some (.ref l), some (.str f), some (.ref p), y5, y6, y7] ∧ Same H5 H')
          ⟨y5, y6, y7, rfl, s6⟩ (fun i σ H' _ ⟨_, _, _, _, s⟩ => SqL.of (s _ _ hp)) ?_ ?_⟩
        · rintro i1 x1 σ H7 h1 ⟨y5, y6, y7, rfl, s7⟩
          refine ⟨.ref p, rfl, p, rfl, ⟨_, SqL.of (s7 _ _ hp)⟩, for_list (K := K) (a := p) (xs := zs) (fun i σ H' => ∃ y6 y7, σ = [some (.ref s0), some (.ref a), some (.ref l), some (.str f), some (.ref p), some x1, y6, y7] ∧ Same H5 H')
            ⟨y6, y7, rfl, s7⟩ (fun i σ H' _ ⟨_, _, _, s⟩ => SqL.of (s _ _ hp)) ?_ ?_⟩
          · rintro i2 x2 σ H8 h2 ⟨y6, y7, rfl, s8⟩
            obtain ⟨b, p1, p2⟩ := both (good x1 (List.mem_of_getElem? h1)) (good x2 (List.mem_of_getElem? h2))
            refine ⟨.str f, rfl, x1, rfl, x2, rfl, ?_⟩
            dsimp only [tNil]
            refine p1 _ _ _ fun H9 s9 => ?_
            refine ⟨.bl b, rfl, .bl b, .ty "bool", _, _, true, rfl, .ty "bool", .base (.bl b), kit_same _, _, rfl, ?_⟩
            refine iteF ⟨.bl b, rfl, .str f, rfl, x1, rfl, x2, rfl, ?_⟩
            dsimp only [tNil]
            refine p2 _ _ _ ⟨rfl, _, rfl, ?_⟩
            refine if_false_of (by rw [decide_eq_true rfl]; rfl) ⟨_, _, rfl, s8.trans s9⟩
          · rintro σ H8 ⟨y6, y7, rfl, s8⟩
            exact ⟨_, _, _, rfl, s8⟩
        · rintro σ H7 ⟨y5, y6, y7, rfl, s7⟩
          exact ⟨_, _, _, _, _, rfl, s7⟩
      · rintro σ H6 ⟨y3, y4, y5, y6, y7, rfl, s6⟩
        obtain ⟨e1, e2⟩ := after H6 (x5.trans (ExA.of s6))
        exact ⟨_, _, _, _, _, _, _, rfl, e1, e2⟩
    · rintro σ H2 ⟨y1, y2, y3, y4, y5, y6, y7, rfl, hr2, hs2⟩
      have aA : Asc ("A" : Str) := ⟨by decide +kernel, by decide +kernel⟩
      have aB : Asc ("b" : Str) := ⟨by decide +kernel, by decide +kernel⟩
      refine ⟨_, "A", "b", rfl, .inr (.inl ⟨rfl, aA, aB, fun H3 s3 => ?_⟩)⟩
      rw [show decide (lowL (tl ("A" : Str)) < lowL (tl ("b" : Str))) = true by decide +kernel]
      refine ⟨_, _, rfl, rfl, _, rfl, if_true_of rfl ?_⟩
      refine ⟨_, "a", "B", rfl, .inr (.inr ⟨rfl, ?_⟩)⟩
      rw [show decide (tl ("a" : Str) < tl ("B" : Str)) = false by decide +kernel]
      exact ⟨_, _, rfl, rfl, q _⟩
end
theorem all_mk {l : PySem.W.OpenLaw} {w : World} {K : PySem.W.Frag} {h : Heap} {mg : Str → Option Value} {fa : Addr} (X : K.In h) (G : h.Ns mainGlobals mg) (hfa : mg "law" = some (.ref fa))
    {f1 : Addr} {od1 an1 : Option Addr} {sl1 : Array (Option Value)} {oc1 kV1 dc1 pm1 cd1 ct1 : Value} (a1 : PySem.W.nsIn K mainGlobals "fold" = some (some (.ref f1))) (l1 : K.lookup f1 = some ⟨oc1, od1, .func (PySem.W.fnOf "fold" "fold" (defArgs s_fold) (defBody s_fold) (defScope s_fold) .none kV1 dc1 pm1 an1 cd1 ct1), sl1⟩) (c1 : PySem.W.codeIn K cd1 "fold" = true) (k1 : PySem.W.keepIn K (.ref f1) = true)
    {f2 : Addr} {od2 an2 : Option Addr} {sl2 : Array (Option Value)} {oc2 kV2 dc2 pm2 cd2 ct2 : Value} (a2 : PySem.W.nsIn K mainGlobals "normal" = some (some (.ref f2))) (l2 : K.lookup f2 = some ⟨oc2, od2, .func (PySem.W.fnOf "normal" "normal" (defArgs s_normal) (defBody s_normal) (defScope s_normal) .none kV2 dc2 pm2 an2 cd2 ct2), sl2⟩) (c2 : PySem.W.codeIn K cd2 "normal" = true) (k2 : PySem.W.keepIn K (.ref f2) = true)
    {f3 : Addr} {od3 an3 : Option Addr} {sl3 : Array (Option Value)} {oc3 kV3 dc3 pm3 cd3 ct3 : Value} (a3 : PySem.W.nsIn K mainGlobals "rank" = some (some (.ref f3))) (l3 : K.lookup f3 = some ⟨oc3, od3, .func (PySem.W.fnOf "rank" "rank" (defArgs s_rank) (defBody s_rank) (defScope s_rank) .none kV3 dc3 pm3 an3 cd3 ct3), sl3⟩) (c3 : PySem.W.codeIn K cd3 "rank" = true) (k3 : PySem.W.keepIn K (.ref f3) = true)
    {f4 : Addr} {od4 an4 : Option Addr} {sl4 : Array (Option Value)} {oc4 kV4 dc4 pm4 cd4 ct4 : Value} (a4 : PySem.W.nsIn K mainGlobals "is_less" = some (some (.ref f4))) (l4 : K.lookup f4 = some ⟨oc4, od4, .func (PySem.W.fnOf "is_less" "is_less" (defArgs s_is_less) (defBody s_is_less) (defScope s_is_less) .none kV4 dc4 pm4 an4 cd4 ct4), sl4⟩) (c4 : PySem.W.codeIn K cd4 "is_less" = true) (k4 : PySem.W.keepIn K (.ref f4) = true)
    {f5 : Addr} {od5 an5 : Option Addr} {sl5 : Array (Option Value)} {oc5 kV5 dc5 pm5 cd5 ct5 : Value} (a5 : PySem.W.nsIn K mainGlobals "_law_source" = some (some (.ref f5))) (l5 : K.lookup f5 = some ⟨oc5, od5, .func (PySem.W.fnOf "_law_source" "_law_source" (defArgs s_q_source) (defBody s_q_source) (defScope s_q_source) .none kV5 dc5 pm5 an5 cd5 ct5), sl5⟩) (c5 : PySem.W.codeIn K cd5 "_law_source" = true) (k5 : PySem.W.keepIn K (.ref f5) = true)
    {f6 : Addr} {od6 an6 : Option Addr} {sl6 : Array (Option Value)} {oc6 kV6 dc6 pm6 cd6 ct6 : Value} (a6 : PySem.W.nsIn K mainGlobals "_law_next" = some (some (.ref f6))) (l6 : K.lookup f6 = some ⟨oc6, od6, .func (PySem.W.fnOf "_law_next" "_law_next" (defArgs s_q_next) (defBody s_q_next) (defScope s_q_next) .none kV6 dc6 pm6 an6 cd6 ct6), sl6⟩) (c6 : PySem.W.codeIn K cd6 "_law_next" = true) (k6 : PySem.W.keepIn K (.ref f6) = true)
    {f7 : Addr} {od7 an7 : Option Addr} {sl7 : Array (Option Value)} {oc7 kV7 dc7 pm7 cd7 ct7 : Value} (a7 : PySem.W.nsIn K mainGlobals "_law_pick" = some (some (.ref f7))) (l7 : K.lookup f7 = some ⟨oc7, od7, .func (PySem.W.fnOf "_law_pick" "_law_pick" (defArgs s_q_pick) (defBody s_q_pick) (defScope s_q_pick) .none kV7 dc7 pm7 an7 cd7 ct7), sl7⟩) (c7 : PySem.W.codeIn K cd7 "_law_pick" = true) (k7 : PySem.W.keepIn K (.ref f7) = true)
    {f8 : Addr} {od8 an8 : Option Addr} {sl8 : Array (Option Value)} {oc8 kV8 dc8 pm8 cd8 ct8 : Value} (a8 : PySem.W.nsIn K mainGlobals "_law_rounds" = some (some (.ref f8))) (l8 : K.lookup f8 = some ⟨oc8, od8, .func (PySem.W.fnOf "_law_rounds" "_law_rounds" (defArgs s_q_rounds) (defBody s_q_rounds) (defScope s_q_rounds) .none kV8 dc8 pm8 an8 cd8 ct8), sl8⟩) (c8 : PySem.W.codeIn K cd8 "_law_rounds" = true) (k8 : PySem.W.keepIn K (.ref f8) = true)
    {f9 : Addr} {od9 an9 : Option Addr} {sl9 : Array (Option Value)} {oc9 kV9 dc9 pm9 cd9 ct9 : Value} (a9 : PySem.W.nsIn K mainGlobals "_law_low" = some (some (.ref f9))) (l9 : K.lookup f9 = some ⟨oc9, od9, .func (PySem.W.fnOf "_law_low" "_law_low" (defArgs s_q_low) (defBody s_q_low) (defScope s_q_low) .none kV9 dc9 pm9 an9 cd9 ct9), sl9⟩) (c9 : PySem.W.codeIn K cd9 "_law_low" = true) (k9 : PySem.W.keepIn K (.ref f9) = true)
    {f10 : Addr} {od10 an10 : Option Addr} {sl10 : Array (Option Value)} {oc10 kV10 dc10 pm10 cd10 ct10 : Value} (a10 : PySem.W.nsIn K mainGlobals "_law_string" = some (some (.ref f10))) (l10 : K.lookup f10 = some ⟨oc10, od10, .func (PySem.W.fnOf "_law_string" "_law_string" (defArgs s_q_string) (defBody s_q_string) (defScope s_q_string) .none kV10 dc10 pm10 an10 cd10 ct10), sl10⟩) (c10 : PySem.W.codeIn K cd10 "_law_string" = true) (k10 : PySem.W.keepIn K (.ref f10) = true)
    {f11 : Addr} {od11 an11 : Option Addr} {sl11 : Array (Option Value)} {oc11 kV11 dc11 pm11 cd11 ct11 : Value} (a11 : PySem.W.nsIn K mainGlobals "_law_turned" = some (some (.ref f11))) (l11 : K.lookup f11 = some ⟨oc11, od11, .func (PySem.W.fnOf "_law_turned" "_law_turned" (defArgs s_q_turned) (defBody s_q_turned) (defScope s_q_turned) .none kV11 dc11 pm11 an11 cd11 ct11), sl11⟩) (c11 : PySem.W.codeIn K cd11 "_law_turned" = true) (k11 : PySem.W.keepIn K (.ref f11) = true)
    {f12 : Addr} {od12 an12 : Option Addr} {sl12 : Array (Option Value)} {oc12 kV12 dc12 pm12 cd12 ct12 : Value} (a12 : PySem.W.nsIn K mainGlobals "_law_number_is_less" = some (some (.ref f12))) (l12 : K.lookup f12 = some ⟨oc12, od12, .func (PySem.W.fnOf "_law_number_is_less" "_law_number_is_less" (defArgs s_q_number_is_less) (defBody s_q_number_is_less) (defScope s_q_number_is_less) .none kV12 dc12 pm12 an12 cd12 ct12), sl12⟩) (c12 : PySem.W.codeIn K cd12 "_law_number_is_less" = true) (k12 : PySem.W.keepIn K (.ref f12) = true)
    {f13 : Addr} {od13 an13 : Option Addr} {sl13 : Array (Option Value)} {oc13 kV13 dc13 pm13 cd13 ct13 : Value} (a13 : PySem.W.nsIn K mainGlobals "_law_is_less" = some (some (.ref f13))) (l13 : K.lookup f13 = some ⟨oc13, od13, .func (PySem.W.fnOf "_law_is_less" "_law_is_less" (defArgs s_q_is_less) (defBody s_q_is_less) (defScope s_q_is_less) .none kV13 dc13 pm13 an13 cd13 ct13), sl13⟩) (c13 : PySem.W.codeIn K cd13 "_law_is_less" = true) (k13 : PySem.W.keepIn K (.ref f13) = true)
    {f14 : Addr} {od14 an14 : Option Addr} {sl14 : Array (Option Value)} {oc14 kV14 dc14 pm14 cd14 ct14 : Value} (a14 : PySem.W.nsIn K mainGlobals "_law_numbers" = some (some (.ref f14))) (l14 : K.lookup f14 = some ⟨oc14, od14, .func (PySem.W.fnOf "_law_numbers" "_law_numbers" (defArgs s_q_numbers) (defBody s_q_numbers) (defScope s_q_numbers) .none kV14 dc14 pm14 an14 cd14 ct14), sl14⟩) (c14 : PySem.W.codeIn K cd14 "_law_numbers" = true) (k14 : PySem.W.keepIn K (.ref f14) = true)
    {f15 : Addr} {od15 an15 : Option Addr} {sl15 : Array (Option Value)} {oc15 kV15 dc15 pm15 cd15 ct15 : Value} (a15 : PySem.W.nsIn K mainGlobals "_law_strings" = some (some (.ref f15))) (l15 : K.lookup f15 = some ⟨oc15, od15, .func (PySem.W.fnOf "_law_strings" "_law_strings" (defArgs s_q_strings) (defBody s_q_strings) (defScope s_q_strings) .none kV15 dc15 pm15 an15 cd15 ct15), sl15⟩) (c15 : PySem.W.codeIn K cd15 "_law_strings" = true) (k15 : PySem.W.keepIn K (.ref f15) = true)
    {f16 : Addr} {od16 an16 : Option Addr} {sl16 : Array (Option Value)} {oc16 kV16 dc16 pm16 cd16 ct16 : Value} (a16 : PySem.W.nsIn K mainGlobals "law" = some (some (.ref f16))) (l16 : K.lookup f16 = some ⟨oc16, od16, .func (PySem.W.fnOf "law" "law" (defArgs s_law) (defBody s_law) (defScope s_law) .none kV16 dc16 pm16 an16 cd16 ct16), sl16⟩) (c16 : PySem.W.codeIn K cd16 "law" = true) (k16 : PySem.W.keepIn K (.ref f16) = true)
    (z_bool : PySem.W.nsIn K mainGlobals "bool" = some none)
    (z_int : PySem.W.nsIn K mainGlobals "int" = some none)
    (z_isinstance : PySem.W.nsIn K mainGlobals "isinstance" = some none)
    (z_len : PySem.W.nsIn K mainGlobals "len" = some none)
    (z_list : PySem.W.nsIn K mainGlobals "list" = some none)
    (z_max : PySem.W.nsIn K mainGlobals "max" = some none)
    (z_range : PySem.W.nsIn K mainGlobals "range" = some none)
    (z_sum : PySem.W.nsIn K mainGlobals "sum" = some none)
    : ∃ fd : FuncData, (∀ (s : Shared) (v : Value), BindsTo s fd ⟨[v], []⟩ [("_law_script", v)]) ∧ ∀ base : Heap, K.In base → base.Ns mainGlobals mg → FnOk l.prog w K mg base CX0 5 fa fd ["_law_script"] (spLaw K) := by
  have e := hfa.symm.trans (PySem.W.mg_of X G a16)
  cases e
  have F1 := fun_mk (st := s_fold) l1 c1 k1
  have b1 := F1.binds (ps := ["value"]) fun _ _ _ _ _ _ us hl => match us, hl with | [_], _ => rfl
  have F2 := fun_mk (st := s_normal) l2 c2 k2
  have b2 := F2.binds (ps := ["syntax", "value"]) fun _ _ _ _ _ _ us hl => match us, hl with | [_, _], _ => rfl
  have F3 := fun_mk (st := s_rank) l3 c3 k3
  have b3 := F3.binds (ps := ["syntax", "normal_form"]) fun _ _ _ _ _ _ us hl => match us, hl with | [_, _], _ => rfl
  have F4 := fun_mk (st := s_is_less) l4 c4 k4
  have b4 := F4.binds (ps := ["syntax", "one", "other"]) fun _ _ _ _ _ _ us hl => match us, hl with | [_, _, _], _ => rfl
  have F5 := fun_mk (st := s_q_source) l5 c5 k5
  have b5 := F5.binds (ps := ["_law_script", "_law_k"]) fun _ _ _ _ _ _ us hl => match us, hl with | [_, _], _ => rfl
  have F6 := fun_mk (st := s_q_next) l6 c6 k6
  have b6 := F6.binds (ps := ["_law_source_here", "_law_many"]) fun _ _ _ _ _ _ us hl => match us, hl with | [_, _], _ => rfl
  have F7 := fun_mk (st := s_q_pick) l7 c7 k7
  have b7 := F7.binds (ps := ["_law_source_here", "_law_items"]) fun _ _ _ _ _ _ us hl => match us, hl with | [_, _], _ => rfl
  have F8 := fun_mk (st := s_q_rounds) l8 c8 k8
  have b8 := F8.binds (ps := ["_law_script", "_law_most"]) fun _ _ _ _ _ _ us hl => match us, hl with | [_, _], _ => rfl
  have F9 := fun_mk (st := s_q_low) l9 c9 k9
  have b9 := F9.binds (ps := ["_law_thing"]) fun _ _ _ _ _ _ us hl => match us, hl with | [_], _ => rfl
  have F10 := fun_mk (st := s_q_string) l10 c10 k10
  have b10 := F10.binds (ps := ["_law_source_here", "_law_most"]) fun _ _ _ _ _ _ us hl => match us, hl with | [_, _], _ => rfl
  have F11 := fun_mk (st := s_q_turned) l11 c11 k11
  have b11 := F11.binds (ps := ["_law_source_here", "_law_thing"]) fun _ _ _ _ _ _ us hl => match us, hl with | [_, _], _ => rfl
  have F12 := fun_mk (st := s_q_number_is_less) l12 c12 k12
  have b12 := F12.binds (ps := ["_law_one", "_law_two"]) fun _ _ _ _ _ _ us hl => match us, hl with | [_, _], _ => rfl
  have F13 := fun_mk (st := s_q_is_less) l13 c13 k13
  have b13 := F13.binds (ps := ["_law_form", "_law_one", "_law_two"]) fun _ _ _ _ _ _ us hl => match us, hl with | [_, _, _], _ => rfl
  have F14 := fun_mk (st := s_q_numbers) l14 c14 k14
  have b14 := F14.binds (ps := ["_law_source_here"]) fun _ _ _ _ _ _ us hl => match us, hl with | [_], _ => rfl
  have F15 := fun_mk (st := s_q_strings) l15 c15 k15
  have b15 := F15.binds (ps := ["_law_source_here"]) fun _ _ _ _ _ _ us hl => match us, hl with | [_], _ => rfl
  have F16 := fun_mk (st := s_law) l16 c16 k16
  have b16 := F16.binds (ps := ["_law_script"]) fun _ _ _ _ _ _ us hl => match us, hl with | [_], _ => rfl
  let T : Txt K mg := {
    f_fold := _
    d_fold := _
    F_fold := F1
    g_fold := PySem.W.mg_of X G a1
    b_fold := b1
    f_normal := _
    d_normal := _
    F_normal := F2
    g_normal := PySem.W.mg_of X G a2
    b_normal := b2
    f_rank := _
    d_rank := _
    F_rank := F3
    g_rank := PySem.W.mg_of X G a3
    b_rank := b3
    f_is_less := _
    d_is_less := _
    F_is_less := F4
    g_is_less := PySem.W.mg_of X G a4
    b_is_less := b4
    f_q_source := _
    d_q_source := _
    F_q_source := F5
    g_q_source := PySem.W.mg_of X G a5
    b_q_source := b5
    f_q_next := _
    d_q_next := _
    F_q_next := F6
    g_q_next := PySem.W.mg_of X G a6
    b_q_next := b6
    f_q_pick := _
    d_q_pick := _
    F_q_pick := F7
    g_q_pick := PySem.W.mg_of X G a7
    b_q_pick := b7
    f_q_rounds := _
    d_q_rounds := _
    F_q_rounds := F8
    g_q_rounds := PySem.W.mg_of X G a8
    b_q_rounds := b8
    f_q_low := _
    d_q_low := _
    F_q_low := F9
    g_q_low := PySem.W.mg_of X G a9
    b_q_low := b9
    f_q_string := _
    d_q_string := _
    F_q_string := F10
    g_q_string := PySem.W.mg_of X G a10
    b_q_string := b10
    f_q_turned := _
    d_q_turned := _
    F_q_turned := F11
    g_q_turned := PySem.W.mg_of X G a11
    b_q_turned := b11
    f_q_number_is_less := _
    d_q_number_is_less := _
    F_q_number_is_less := F12
    g_q_number_is_less := PySem.W.mg_of X G a12
    b_q_number_is_less := b12
    f_q_is_less := _
    d_q_is_less := _
    F_q_is_less := F13
    g_q_is_less := PySem.W.mg_of X G a13
    b_q_is_less := b13
    f_q_numbers := _
    d_q_numbers := _
    F_q_numbers := F14
    g_q_numbers := PySem.W.mg_of X G a14
    b_q_numbers := b14
    f_q_strings := _
    d_q_strings := _
    F_q_strings := F15
    g_q_strings := PySem.W.mg_of X G a15
    b_q_strings := b15
    f_law := _
    d_law := _
    F_law := F16
    g_law := PySem.W.mg_of X G a16
    b_law := b16
    z_bool := PySem.W.mg_none_of X G z_bool
    z_int := PySem.W.mg_none_of X G z_int
    z_isinstance := PySem.W.mg_none_of X G z_isinstance
    z_len := PySem.W.mg_none_of X G z_len
    z_list := PySem.W.mg_none_of X G z_list
    z_max := PySem.W.mg_none_of X G z_max
    z_range := PySem.W.mg_none_of X G z_range
    z_sum := PySem.W.mg_none_of X G z_sum }
  exact ⟨_, fun s v => .of_eq rfl, fun base _ _ => ok_law T⟩
end K4
open PySem PySem.W PyProof.Rows
set_option maxHeartbeats 0 in
theorem PySem.Challenge.cw_dirservice_k04_orders_holds : PySem.Challenge.rw_dirservice_k04_orders.Holds := by
  w_on; o_law; k_head; (case hw => w_witness2)
  k_fill
  refine L2.walk_of (l := PySem.Challenge.rw_dirservice_k04_orders) (n := 63) (k := 5) (x := "_law_script") (CX := fun _ => L2.CX0) (sp := fun w => K4.spLaw _) rfl (by decide) rfl ⟨rfl, by decide, by decide⟩ (fun w h Y => PySem.W.kIn_of Y) ?F (fun _ _ a ns hl _ hS => ⟨a, ns, rfl, hS, hl, fun _ => rfl⟩) (fun _ _ _ _ _ h => h)
  case F =>
    intro w mg fa h KX G hmg
    refine' K4.all_mk KX G hmg ?a1 ?l1 ?c1 ?k1 ?a2 ?l2 ?c2 ?k2 ?a3 ?l3 ?c3 ?k3 ?a4 ?l4 ?c4 ?k4 ?a5 ?l5 ?c5 ?k5 ?a6 ?l6 ?c6 ?k6 ?a7 ?l7 ?c7 ?k7 ?a8 ?l8 ?c8 ?k8 ?a9 ?l9 ?c9 ?k9 ?a10 ?l10 ?c10 ?k10 ?a11 ?l11 ?c11 ?k11 ?a12 ?l12 ?c12 ?k12 ?a13 ?l13 ?c13 ?k13 ?a14 ?l14 ?c14 ?k14 ?a15 ?l15 ?c15 ?k15 ?a16 ?l16 ?c16 ?k16 ?z_bool ?z_int ?z_isinstance ?z_len ?z_list ?z_max ?z_range ?z_sum
    (case a1 => k_is); (case l1 => k_is); (case c1 => k_is); (case k1 => k_is); (case a2 => k_is); (case l2 => k_is); (case c2 => k_is); (case k2 => k_is); (case a3 => k_is); (case l3 => k_is); (case c3 => k_is); (case k3 => k_is); (case a4 => k_is); (case l4 => k_is); (case c4 => k_is); (case k4 => k_is); (case a5 => k_is); (case l5 => k_is); (case c5 => k_is); (case k5 => k_is); (case a6 => k_is); (case l6 => k_is); (case c6 => k_is); (case k6 => k_is); (case a7 => k_is); (case l7 => k_is); (case c7 => k_is); (case k7 => k_is); (case a8 => k_is); (case l8 => k_is); (case c8 => k_is); (case k8 => k_is); (case a9 => k_is); (case l9 => k_is); (case c9 => k_is); (case k9 => k_is); (case a10 => k_is); (case l10 => k_is); (case c10 => k_is); (case k10 => k_is); (case a11 => k_is); (case l11 => k_is); (case c11 => k_is); (case k11 => k_is); (case a12 => k_is); (case l12 => k_is); (case c12 => k_is); (case k12 => k_is); (case a13 => k_is); (case l13 => k_is); (case c13 => k_is); (case k13 => k_is); (case a14 => k_is); (case l14 => k_is); (case c14 => k_is); (case k14 => k_is); (case a15 => k_is); (case l15 => k_is); (case c15 => k_is); (case k15 => k_is); (case a16 => k_is); (case l16 => k_is); (case c16 => k_is); (case k16 => k_is); (case z_bool => k_is); (case z_int => k_is); (case z_isinstance => k_is); (case z_len => k_is); (case z_list => k_is); (case z_max => k_is); (case z_range => k_is); (case z_sum => k_is)

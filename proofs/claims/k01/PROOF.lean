import PyProof.Rows.All
import Wide.All
import OpenK.AllK
import Wide.FinOn
import HandS.Base
import HandS.Call
import HandS.List
import HandS.Comp
import HandS.Ends
import HandS.Iter
import HandS.Text
import HandS.Words
import HandS.WordsList
import HandS.Wide
import HandS.WideBits
import HandS.WideMore
import HandS.StrMore
import HandS.IsInst
import HandS.Style
import HandS.Evl
import HandS.Deep
import HandS.Conv
import HandS.Flow
import HandS.Defaults
import PyProof.ReprRoads
import HandS.WordsExc
import HandS.TryMany
import HandS.ExcOwn
import HandS.ExcInit
import HandS.ExcField
import HandS.ExcIs
import KE.KIsAll
import KE.KTryMore
import HandS.Exc
import HandS.OwnEq
import HandS.ClsMeth
import HandS.Star
import HandS.CallLocal
import HandS.MakeKw
import HandS.RaiseMore
import PyProof.Rows.StrCut
import HandS.Set
import HandS.Strs
import PyProof.EnumMake
import PyProof.Draws
import KE.IntTextLaws
import OpenK.KMore
import PyProof.Rows.RuleB_bool
import HandS.More
import PyProof.EqAt
import PyProof.EqKinds
import PyProof.TupleCall
import KE.KFromBytes
import KE.KExcInit
import KE.KExcMake
import KE.KLam
import HandS.Lambda
import HandS.EndBits
import HandS.Dict
import KE.KStateDown
import HandS.Head0
import HandS.Head1
import HandS.Head2
import HandS.HeadEnd
import HandS.HeadHook4
import HandS.HeadNt
import PySem.Challenge.RW_dirservice_k01_errors
set_option Elab.async false
set_option linter.all false
set_option maxRecDepth 100000
set_option maxHeartbeats 2000000
namespace G
open PySem PySem.Spec PyProof.Rows L2
/-! ### heaps -/
theorem same_upd {H : Hp} {p : Addr} {o : HO} (h : H p = none) : Same H (upd H p o) := fun b x e => by
  rw [upd_ne (ne_of_none e h)]
  exact e
/-- all but what stands at a stands as it stood -/
def ExA (a : Addr) (H H' : Hp) : Prop := ∀ b o, b ≠ a → H b = some o → H' b = some o
theorem ExA.refl (a : Addr) (H : Hp) : ExA a H H := fun _ _ _ h => h
theorem ExA.trans {a : Addr} {H H1 H2 : Hp} (x : ExA a H H1) (y : ExA a H1 H2) : ExA a H H2 := fun b o n h => y b o n (x b o n h)
theorem ExA.of {a : Addr} {H H' : Hp} (s : Same H H') : ExA a H H' := fun b o _ h => s b o h
theorem ExA.new {a : Addr} {H : Hp} {p : Addr} {o : HO} (h : H p = none) : ExA a H (upd H p o) := ExA.of (same_upd h)
theorem ExA.put {a : Addr} {H : Hp} {o : HO} : ExA a H (upd H a o) := fun b u n h => by
  rw [upd_ne n]
  exact h
theorem ExA.mut {a : Addr} {H H' : Hp} {p : Addr} {o : HO} (x : ExA a H H') (h : H p = none) : ExA a H (upd H' p o) := fun b u n e => by
  rw [upd_ne (ne_of_none e h)]
  exact x b u n e
theorem ExA.seq {K : PySem.W.Frag} {a p : Addr} {H H' : Hp} {xs : List V} (x : ExA a H H') (n : p ≠ a) (h : SqL K H p xs) : SqL K H' p xs := by
  rcases h with (h | ⟨o, h⟩) | h
  · exact .inl (.inl (x _ _ n h))
  · exact .inl (.inr ⟨o, x _ _ n h⟩)
  · exact .inr h
theorem ExA.tup {K : PySem.W.Frag} {a p : Addr} {H H' : Hp} {xs : List V} (x : ExA a H H') (n : p ≠ a) (h : SqT K H p xs) : SqT K H' p xs := by
  rcases h with (h | ⟨o, h⟩) | h
  · exact .inl (.inl (x _ _ n h))
  · exact .inl (.inr ⟨o, x _ _ n h⟩)
  · exact .inr h
theorem new_ne {H : Hp} {p a : Addr} {o : HO} (h : H a = some o) (hp : H p = none) : p ≠ a := fun e => by
  rw [e, h] at hp
  cases hp
/-! ### a source of numbers: a list of three, its counter in the middle -/
def Src (H : Hp) (a : Addr) (c : Int) : Prop := ∃ x y z : Int, H a = some (.lst [.int x, .int y, .int z]) ∧ 0 ≤ y ∧ y ≤ c
theorem Src.mono {H : Hp} {a : Addr} {c d : Int} (h : Src H a c) (l : c ≤ d) : Src H a d := by
  obtain ⟨x, y, z, e, h0, h1⟩ := h
  exact ⟨x, y, z, e, h0, by omega⟩
theorem Src.mut {H : Hp} {a p : Addr} {c : Int} {o : HO} (h : Src H a c) (n : p ≠ a) : Src (upd H p o) a c := by
  obtain ⟨x, y, z, e, h0, h1⟩ := h
  exact ⟨x, y, z, by rw [upd_ne n.symm]; exact e, h0, h1⟩
theorem Src.same {H H' : Hp} {a : Addr} {c : Int} (h : Src H a c) (s : Same H H') : Src H' a c := by
  obtain ⟨x, y, z, e, h0, h1⟩ := h
  exact ⟨x, y, z, s _ _ e, h0, h1⟩
theorem Src.some {H : Hp} {a : Addr} {c : Int} (h : Src H a c) : ∃ o, H a = Option.some o := by
  obtain ⟨x, y, z, e, _⟩ := h
  exact ⟨_, e⟩
theorem Src.ne {H : Hp} {a p : Addr} {c : Int} (h : Src H a c) (hp : H p = none) : p ≠ a := by
  obtain ⟨o, e⟩ := h.some
  exact new_ne e hp
theorem Src.new {H : Hp} {a p : Addr} {c : Int} {o : HO} (h : Src H a c) (hp : H p = none) : Src (upd H p o) a c := h.same (same_upd hp)
/-! ### items -/
theorem atI_lt {xs : List V} {i : Int} (h0 : 0 ≤ i) (h : i < (xs.length : Int)) : ∃ v, atI xs i = some v ∧ v ∈ xs := by
  obtain ⟨n, rfl⟩ := Int.eq_ofNat_of_zero_le h0
  have hn : n < xs.length := by omega
  exact ⟨xs[n], atI_nat (List.getElem?_eq_getElem hn), List.getElem_mem hn⟩
theorem ints_mem {ns : List Int} {v : V} (h : v ∈ ns.map V.int) : ∃ n, n ∈ ns ∧ v = .int n := by
  obtain ⟨n, hn, e⟩ := List.mem_map.mp h
  exact ⟨n, hn, e.symm⟩
/-! ### texts -/
open TL
theorem for_str {x : Str} {g : TG} {tb : TS} {D : Ends} {σ : L2.St} {H : Hp} (Pv : Nat → L2.St → Hp → Prop) (h0 : Pv 0 σ H)
    (hs : ∀ i c σ H, (tl x)[i]? = some c → Pv i σ H → g (.str ⟨#[c]⟩) σ H fun σ2 H2 => tb { D with nx := Pv (i + 1), ct := Pv (i + 1), bk := D.nx } σ2 H2) (hd : ∀ σ H, Pv (tl x).length σ H → D.nx σ H) :
    ∃ W : Nat → Nat → L2.St → Hp → Prop, (∃ m, W 0 m σ H) ∧ ∀ i m σ H, W i m σ H →
      ((Its x).stop i H ∧ D.nx σ H) ∨ ((Its x).go i H ∧ ∃ N : L2.St → Hp → Prop, (∀ σ' H', N σ' H' → ∃ m', m' < m ∧ W (i + 1) m' σ' H') ∧ ∀ v H', (Its x).yld i H v H' → g v σ H' fun σ2 H2 => tb { D with nx := N, ct := N, bk := D.nx } σ2 H2) := by
  have hz : (tl x).length = x.cps.size := by simp [tl]
  refine ⟨fun i m σ H => m = x.cps.size - i ∧ i ≤ x.cps.size ∧ Pv i σ H, ⟨x.cps.size, by simp, Nat.zero_le _, h0⟩, ?_⟩
  rintro i m σ H ⟨rfl, hi, p⟩
  by_cases hlt : i < x.cps.size
  · refine .inr ⟨hlt, Pv (i + 1), fun σ' H' p' => ⟨x.cps.size - (i + 1), by omega, rfl, hlt, p'⟩, fun v H' y => ?_⟩
    obtain ⟨e, c, hc, rfl⟩ := y
    subst e
    exact hs i c σ _ (by rw [← hc]; simp [tl]) p
  · have e : i = x.cps.size := by omega
    subst e
    exact .inl ⟨Nat.le_refl _, hd σ H (by rw [hz]; exact p)⟩
theorem tl_cut (z : Str) (lo hi : Option Int) : tl (cutS z lo hi) = ((tl z).drop (HT.sIx (tl z).length 0 lo)).take (HT.sIx (tl z).length (tl z).length hi - HT.sIx (tl z).length 0 lo) := by
  rw [← len_tl]
  rfl
theorem cutS_from (z : Str) (k : Nat) : tl (cutS z (some (k : Int)) none) = (tl z).drop k := by
  rw [tl_cut, HT.sIx_nat, HT.sIx_none]
  rcases Nat.le_total k (tl z).length with h | h
  · rw [Nat.min_eq_left h]
    exact List.take_of_length_le (by rw [List.length_drop]; omega)
  · rw [Nat.min_eq_right h, List.drop_eq_nil_of_le h, List.drop_eq_nil_of_le (Nat.le_refl _)]
    simp
theorem cutS_to (z : Str) (k : Nat) : tl (cutS z none (some (k : Int))) = (tl z).take k := by
  rw [tl_cut, HT.sIx_nat, HT.sIx_none, Nat.sub_zero, List.drop_zero]
  exact (List.take_eq_take_min).symm
theorem sIx_neg (n d : Nat) : HT.sIx n d (some (-1)) = n - 1 := by
  show (if (-1 : Int) < 0 then ((-1 : Int) + (n : Int)).toNat else min (-1 : Int).toNat n) = n - 1
  rw [if_pos (by decide)]
  omega
theorem cutS_last (z : Str) : tl (cutS z (some (-1)) none) = (tl z).drop ((tl z).length - 1) := by
  rw [tl_cut, sIx_neg, HT.sIx_none]
  exact List.take_of_length_le (by rw [List.length_drop]; omega)
theorem cutS_but (z : Str) : tl (cutS z none (some (-1))) = (tl z).dropLast := by
  rw [tl_cut, sIx_neg, HT.sIx_none, Nat.sub_zero, List.drop_zero, List.dropLast_eq_take]
theorem str_ne {a b : Str} : (!decide (V.str a = V.str b)) = !decide (tl a = tl b) := by
  by_cases h : a = b
  · subst h
    simp
  · rw [decide_eq_false (fun q => h (V.str.inj q)), decide_eq_false (fun q => h (ext_tl q))]
theorem str_eq {a b : Str} : decide (V.str a = V.str b) = decide (tl a = tl b) := by
  by_cases h : a = b
  · subst h
    simp
  · rw [decide_eq_false (fun q => h (V.str.inj q)), decide_eq_false (fun q => h (ext_tl q))]
theorem foldl_take {α β γ : Type} {f : α → β} {g : γ → β → γ} {a : γ} {l : List α} {i : Nat} {c : α} (h : l[i]? = some c) : ((l.take (i + 1)).map f).foldl g a = g (((l.take i).map f).foldl g a) (f c) := by
  rw [List.take_add_one, h, List.map_append, List.foldl_append]
  rfl
theorem atI_end {α : Type} {l : List α} {v : α} (h : l.getLast? = some v) : atI l (-1) = some v := by
  have hn : l ≠ [] := fun e => by
    subst e
    cases h
  have e : l = l.dropLast ++ [v] := by
    have := List.dropLast_concat_getLast hn
    rw [List.getLast?_eq_getLast hn] at h
    rw [Option.some.inj h] at this
    exact this.symm
  rw [e]
  exact atI_last _ _
theorem lc_str {x : Str} {g : TG} {tt : TT} {te : TE} {vs : List Nat} {σ : L2.St} {H1 : Hp} {D : Addr} {Qd : Hp → Prop} (Pv : Nat → Hp → Prop) (h0 : Pv 0 (upd H1 D (.lst [])))
    (hs : ∀ i c H, (tl x)[i]? = some c → Pv i H → g (.str ⟨#[c]⟩) (wipe σ vs) H fun σ2 H2 => wipe σ2 vs = wipe σ vs ∧ tt σ2 H2 fun b H3 =>
      if b = true then te σ2 H3 fun y H4 => ∃ acc, H4 D = some (.lst acc) ∧ acc.length < sizeLine ∧ Pv (i + 1) (upd H4 D (.lst (acc ++ [y]))) else Pv (i + 1) H3) (hd : ∀ H, Pv (tl x).length H → Qd H) :
    ∃ W : Nat → Nat → Hp → Prop, (∃ m, W 0 m (upd H1 D (.lst []))) ∧ ∀ i m H, W i m H →
      ((Its x).stop i H ∧ Qd H) ∨ ((Its x).go i H ∧ ∃ Nx : Hp → Prop, (∀ H', Nx H' → ∃ m', m' < m ∧ W (i + 1) m' H') ∧ ∀ v H', (Its x).yld i H v H' → g v (wipe σ vs) H' fun σ2 H2 => wipe σ2 vs = wipe σ vs ∧ tt σ2 H2 fun b H3 =>
        if b = true then te σ2 H3 fun y H4 => ∃ acc, H4 D = some (.lst acc) ∧ acc.length < sizeLine ∧ Nx (upd H4 D (.lst (acc ++ [y]))) else Nx H3) := by
  have hz : (tl x).length = x.cps.size := by simp [tl]
  refine ⟨fun i m H => m + i = x.cps.size ∧ Pv i H, ⟨x.cps.size, rfl, h0⟩, ?_⟩
  rintro i m H ⟨e, p⟩
  rcases Nat.eq_or_lt_of_le (show i ≤ x.cps.size by omega) with q | q
  · subst q
    exact .inl ⟨Nat.le_refl _, hd H (by rw [hz]; exact p)⟩
  · refine .inr ⟨q, Pv (i + 1), fun H' p' => ⟨m - 1, by omega, by omega, p'⟩, ?_⟩
    rintro v H' ⟨rfl, c, hc, rfl⟩
    exact hs i c _ (by rw [← hc]; simp [tl]) p
theorem if_true_of {c : Bool} {A B : Prop} (hc : c = true) (h : A) : if c = true then A else B := by
  rw [if_pos hc]
  exact h
theorem if_false_of {c : Bool} {A B : Prop} (hc : c = false) (h : B) : if c = true then A else B := by
  rw [hc, if_neg Bool.false_ne_true]
  exact h
theorem line20 {n : Nat} (h : n ≤ 50000) : n < sizeLine := Nat.lt_of_le_of_lt h (by decide)
theorem line1000 {n : Nat} (h : n ≤ 1000) : n ≤ sizeLine := Nat.le_of_lt (small1000 h)
theorem kit_same {K : PySem.W.Frag} (t : Value) : PySem.W.kitOne K t t = some true := by
  unfold PySem.W.kitOne
  rw [if_pos (beq_self_eq_true _)]
theorem len_app (a b : Str) : (a ++ b).length = a.length + b.length := by
  rw [len_tl, tl_append, List.length_append, ← len_tl, ← len_tl]
/-! ### strip -/
theorem tw_mem {p : Nat → Bool} {c : Nat} : ∀ {l : List Nat}, c ∈ l.takeWhile p → p c = true
  | [], h => nomatch h
  | d :: r, h => by
    rw [List.takeWhile_cons] at h
    split at h
    · rename_i q
      rcases List.mem_cons.mp h with rfl | h
      · exact q
      · exact tw_mem h
    · cases h
theorem dw_nil {p : Nat → Bool} : ∀ {l : List Nat}, (∀ c ∈ l, p c = true) → l.dropWhile p = []
  | [], _ => rfl
  | d :: r, h => by
    rw [List.dropWhile_cons, if_pos (h d (List.mem_cons_self ..))]
    exact dw_nil fun c hc => h c (List.mem_cons_of_mem _ hc)
theorem strip_none {goes : Nat → Bool} {x : Str} : tl (Txt.stripBy goes true true x) = [] ↔ (tl x).all goes = true := by
  rw [stripBy_eq, tl_strSub]
  have e1 : stripLo goes true x = ((tl x).takeWhile goes).length := rfl
  have e2 : stripHi goes true x (stripLo goes true x) = x.length - (((tl x).drop (stripLo goes true x)).reverse.takeWhile goes).length := rfl
  rw [e2, e1, len_tl]
  have hd : (tl x).drop ((tl x).takeWhile goes).length = (tl x).dropWhile goes := by
    have := List.takeWhile_append_dropWhile (p := goes) (l := tl x)
    conv => lhs; arg 2; rw [← this]
    rw [List.drop_left]
  rw [hd]
  have hl : ((tl x).takeWhile goes).length + ((tl x).dropWhile goes).length = (tl x).length := by
    rw [← List.length_append, List.takeWhile_append_dropWhile]
  constructor
  · intro h
    cases hw : (tl x).dropWhile goes with
    | nil =>
      rw [List.all_eq_true]
      intro c hc
      have := List.takeWhile_append_dropWhile (p := goes) (l := tl x)
      rw [hw, List.append_nil] at this
      rw [← this] at hc
      exact tw_mem hc
    | cons c r =>
      exfalso
      have hg : goes c = false := by
        have := List.head?_dropWhile_not goes (tl x)
        rw [hw] at this
        simpa using this
      have hlt : ((c :: r).reverse.takeWhile goes).length < (c :: r).length := by
        have h1 := List.takeWhile_prefix (l := (c :: r).reverse) goes
        rcases Nat.lt_or_ge ((c :: r).reverse.takeWhile goes).length (c :: r).reverse.length with q | q
        · rw [List.length_reverse] at q
          exact q
        · exfalso
          have e := h1.eq_of_length_le q
          have : c ∈ (c :: r).reverse.takeWhile goes := by
            rw [e]
            simp
          rw [tw_mem this] at hg
          cases hg
      rw [hw] at h hl
      rw [List.take_eq_nil_iff] at h
      rcases h with h | h
      · omega
      · cases h
  · intro h
    have hw : (tl x).dropWhile goes = [] := dw_nil fun c hc => List.all_eq_true.mp h c hc
    rw [hw]
    simp
theorem stripChars_none {x y : Str} : decide (tl (Txt.stripChars x y) = []) = (tl x).all fun c => decide (c ∈ tl y) := by
  have h : tl (Txt.stripChars x y) = [] ↔ (tl x).all y.cps.contains = true := strip_none
  have e : (tl x).all y.cps.contains = (tl x).all fun c => decide (c ∈ tl y) := by
    congr 1
    funext c
    by_cases q : c ∈ tl y
    · rw [decide_eq_true q]
      simpa [tl] using q
    · rw [decide_eq_false q]
      have : ¬ c ∈ y.cps := by simpa [tl] using q
      simpa using this
  rw [e] at h
  by_cases q : ((tl x).all fun c => decide (c ∈ tl y)) = true
  · rw [q, decide_eq_true (h.mpr q)]
  · rw [Bool.not_eq_true] at q
    rw [q, decide_eq_false fun z => by rw [h.mp z] at q; cases q]
end G

/-! Rules that the layer lacks: enumerate of a text; a text times an int. -/
namespace Rul
open PySem PySem.Spec PyProof.Rows L2
theorem draws_text {prog : Program} {w : World} {A : Around} (quiet : A.handled = none) (it : Addr) (x : Str) (t : Tok) :
    Draws prog w A it [it] x.cps.size (fun i v => ∃ c u, x.cps[i]? = some c ∧ v = .str ⟨#[c]⟩ u) (fun i h => h.IsStrIter it (strIterType x) x t i) := by
  unfold strIterType
  split
  · exact Draws.strAscii quiet it x t
  · exact Draws.strWide quiet it x t
/-- the signs of a text with their places, each pair new -/
def IteS (x : Str) : It where
  go := fun i _ => i < x.cps.size
  yld := fun i H v H' => ∃ T c, v = .ref T ∧ H T = none ∧ H' = upd H T (.tup [.int (i : Nat), .str ⟨#[c]⟩]) ∧ x.cps[i]? = some c
  stop := fun i _ => i = x.cps.size
theorem turn_text {P : Program} {w : World} {K : PySem.W.Frag} {elts : List Expr} {kk : Nat} {tpos : Pos} (x : Str) (t : Tok) (e it : Addr) :
    Turn P w K (.Tuple elts kk tpos) (IteS x) [e, it] e (fun i h => (∃ old, IsEnum h e it ((i : Nat) : Int) old) ∧ h.IsStrIter it (strIterType x) x t i ∧ e ≠ it) := by
  constructor
  case mem => exact List.mem_cons_self ..
  case obj =>
    rintro i h ⟨⟨old, he⟩, ⟨o, ho, _, hd⟩, _⟩ b hb
    rcases List.mem_cons.mp hb with q | q
    · rw [q]
      exact ⟨_, he, fun v z => nomatch z⟩
    · have q2 := List.mem_singleton.mp q
      exact ⟨o, q2 ▸ ho, fun v z => by rw [hd] at z; cases z⟩
  case keep =>
    rintro i h h' ⟨⟨old, he⟩, ⟨o, ho, r⟩, n⟩ k
    exact ⟨⟨old, k e (List.mem_cons_self ..) _ he⟩, ⟨o, k it (by simp) o ho, r⟩, n⟩
  case item =>
    intro X hP hw hK hc i pins s σ H E I hf st hg
    subst hP
    subst hw
    subst hK
    obtain ⟨⟨old, he⟩, hit, n⟩ := st
    have le : e < s.heap.objs.size := Heap.lt_size he
    have li : it < s.heap.objs.size := by
      obtain ⟨_, q, _⟩ := hit
      exact Heap.lt_size q
    have quiet : X.A.in1.handled = none := by
      have := I.ok.hd hc
      simpa using this
    refine wpAny_pyNext_enum_itemD (draws_text quiet it x t) he hit hg n (by simpa using n) fun u h' tk hu ho hit' hT hsz hk => ?_
    obtain ⟨c, v, hc', rfl⟩ := hu
    refine ⟨_, rfl, wpAny_letOwnedTupleGo_enum (s := { s with heap := h', toks := tk + 1 }) ho fun h2 he2 sb => ?_⟩
    have ht : h2.get? s.heap.objs.size = some { cls := .type "tuple", data := .seq #[.int i tk, .str ⟨#[c]⟩ v] } := (sb.2 _ (Nat.ne_of_gt le)).trans hT
    have new : ObjOk X.prog X.w (upd H s.heap.objs.size (.tup [.int (i : Nat), .str ⟨#[c]⟩])) h2 s.heap.objs.size (.tup [.int (i : Nat), .str ⟨#[c]⟩]) :=
      ⟨by show 2 ≤ sizeLine; decide, [.int i tk, .str ⟨#[c]⟩ v], .cons ⟨tk, rfl⟩ (.cons ⟨v, rfl⟩ .nil), ⟨_, ht, rfl, _, rfl⟩⟩
    have keep2 : ∀ b ob, b ∉ [e, it] → s.heap.get? b = some ob → h2.get? b = some ob := fun b ob hb q => by
      have b1 : b ≠ e := fun z => hb (by simp [z])
      have b2 : b ≠ it := fun z => hb (by simp [z])
      exact (sb.2 b b1).trans (hk b ob b1 b2 q)
    have I1 := I.turnedNew (t' := tk + 1) keep2 hf (Nat.le_refl _) new
    have fresh := I.hok.fresh (Nat.le_refl s.heap.objs.size)
    refine ⟨.ref s.heap.objs.size, _, I1, rfl, ⟨_, c, rfl, fresh, rfl, hc'⟩, ⟨⟨.str ⟨#[c]⟩ v, ?_⟩, ?_, n⟩, fun b hb => ?_⟩
    · have e1 : ((i + 1 : Nat) : Int) = (i : Int) + 1 := by omega
      rw [e1]
      exact he2
    · obtain ⟨o, q, r⟩ := hit'
      exact ⟨o, (sb.2 it n.symm).trans q, r⟩
    · have lb : b < s.heap.objs.size := by
        rcases List.mem_cons.mp hb with z | z
        · rw [z]
          exact le
        · rw [List.mem_singleton.mp z]
          exact li
      rw [upd_ne (Nat.ne_of_lt lb)]
      exact (hf b hb).1
  case done =>
    intro X hP hw hK hc i pins s σ H E I hf st hg
    subst hP
    subst hw
    subst hK
    obtain ⟨⟨old, he⟩, hit, n⟩ := st
    obtain ⟨f0, f1, f2, f3, f4, f5⟩ := hf it (by simp)
    have quiet : X.A.in1.handled = none := by
      have := I.ok.hd hc
      simpa using this
    have ei : i = x.cps.size := hg
    subst ei
    exact wpAny_pyNext_enum_endD (draws_text quiet it x t) he hit fun h' eb => ⟨rfl, I.turned (t' := s.toks) (fun b o hb q => eb b o hb q) f0 f1 f3 f4 f5⟩
  case self =>
    rintro A i s Q E ⟨⟨_, he⟩, _⟩ h
    exact wpAny_pyIter_enum he h
def iEnumS (ta : TA) : TI := fun σ H R => ta σ H fun vs H1 => ∃ x, vs = [.str x] ∧ R (IteS x) H1
theorem pi_enumS {X : Cx} {e : Expr} {ta : TA} {p pos tpos : Pos} {elts : List Expr} {kk : Nat} (hg : Gl X "enumerate") (hm : X.mg "enumerate" = none) (ha : PA X [e] ta)
    (hs : starEach [e] X.env = [(false, eval e X.env)] := by rfl) : PI X (.Tuple elts kk tpos) (.Call (.Name "enumerate" p) [e] [] pos) (iEnumS ta) := by
  constructor
  intro pins s σ H R I h
  refine Call_ (ld_blt I hg hm boot_enumerate (callWith_type1 (thn (ha.run pos pins s σ H _ I h) fun us s1 hq => ?_) hs rfl))
  obtain ⟨vs, H1, I1, r1, x, rfl, q⟩ := hq
  cases r1 with
  | cons r rr =>
    cases rr
    obtain ⟨t, rfl⟩ := r
    refine call_enumerate_str fun h' he hit hsz hk => wpAny_pyIter_enum he ?_
    have I2 := I1.kept (t' := s1.toks) hk
    refine ⟨s1.heap.objs.size + 1, [s1.heap.objs.size + 1, s1.heap.objs.size], _, _, H1, rfl, I2, turn_text x t (s1.heap.objs.size + 1) s1.heap.objs.size, ⟨⟨.none, he⟩, hit, Nat.succ_ne_self _⟩, fun b hb => ?_, q⟩
    have lb : s1.heap.objs.size ≤ b := by
      rcases List.mem_cons.mp hb with z | z
      · rw [z]
        exact Nat.le_succ _
      · rw [List.mem_singleton.mp z]
        exact Nat.le_refl _
    exact I1.fpOk lb (I1.hok.fresh lb)
theorem for_enumS {x : Str} {g : TG} {tb : TS} {D : Ends} {σ : L2.St} {H : Hp} (Pv : Nat → L2.St → Hp → Prop) (h0 : Pv 0 σ H)
    (hs : ∀ i c T σ H, x.cps.toList[i]? = some c → Pv i σ H → H T = none → g (.ref T) σ (upd H T (.tup [.int (i : Nat), .str ⟨#[c]⟩])) fun σ2 H2 => tb { D with nx := Pv (i + 1), ct := Pv (i + 1), bk := D.nx } σ2 H2)
    (hd : ∀ σ H, Pv x.cps.size σ H → D.nx σ H) :
    ∃ W : Nat → Nat → L2.St → Hp → Prop, (∃ m, W 0 m σ H) ∧ ∀ i m σ H, W i m σ H →
      ((IteS x).stop i H ∧ D.nx σ H) ∨ ((IteS x).go i H ∧ ∃ N : L2.St → Hp → Prop, (∀ σ' H', N σ' H' → ∃ m', m' < m ∧ W (i + 1) m' σ' H') ∧ ∀ v H', (IteS x).yld i H v H' → g v σ H' fun σ2 H2 => tb { D with nx := N, ct := N, bk := D.nx } σ2 H2) := by
  refine ⟨fun i m σ H => m + i = x.cps.size ∧ Pv i σ H, ⟨x.cps.size, rfl, h0⟩, ?_⟩
  rintro i m σ H ⟨e, p⟩
  rcases Nat.eq_or_lt_of_le (show i ≤ x.cps.size by omega) with q | q
  · subst q
    exact .inl ⟨rfl, hd σ H p⟩
  · refine .inr ⟨q, Pv (i + 1), fun σ' H' p' => ⟨m - 1, by omega, by omega, p'⟩, ?_⟩
    rintro v H' ⟨T, c, rfl, nT, rfl, hc⟩
    exact hs i c T σ H (by simpa using hc) p nT
/-- a text times an int -/
theorem op_mulS {X : Cx} : OpR X (binaryOp .Mult) (fun x y H Q => ∃ (z : Str) (n : Int), x = .str z ∧ y = .int n ∧ MulOk z n ∧ Q (.str (Txt.mul z n)) H) := by
  intro pins s σ H x y v u Q I rx ry h
  obtain ⟨z, n, rfl, rfl, ok, q⟩ := h
  obtain ⟨t, rfl⟩ := rx
  obtain ⟨k, rfl⟩ := ry
  exact SB.mul ok fun t' tk => ⟨.str _, H, I.tok tk, ⟨t', rfl⟩, q⟩
end Rul

/-! len(set(xs)), xs a list of texts: how many different ones there are -/
namespace Rul
open PySem PySem.Spec PyProof.Rows
/-- the different ones, in the order in which they are met -/
def uniq : List Str → List Str → List Str
  | acc, [] => acc
  | acc, x :: r => uniq (if acc.any (· == x) then acc else acc ++ [x]) r
theorem uniq_snoc : ∀ (l acc : List Str) (x : Str), uniq acc (l ++ [x]) = if (uniq acc l).any (· == x) then uniq acc l else uniq acc l ++ [x]
  | [], _, _ => rfl
  | y :: l, acc, x => uniq_snoc l _ x
theorem uniq_any (k : Str) : ∀ (l acc : List Str), (uniq acc l).any (· == k) = (acc.any (· == k) || l.any (· == k))
  | [], acc => by simp [uniq]
  | y :: l, acc => by
    show (uniq (if acc.any (· == y) then acc else acc ++ [y]) l).any (· == k) = _
    rw [uniq_any k l, List.any_cons]
    by_cases h : acc.any (· == y) = true
    · rw [if_pos h]
      by_cases e : y = k
      · subst e
        rw [h]
        simp
      · have : (y == k) = false := beq_eq_false_iff_ne.mpr e
        rw [this]
        simp
    · rw [if_neg h, List.any_append]
      simp [Bool.or_assoc]
theorem uniq_len : ∀ (l acc : List Str), (uniq acc l).length ≤ acc.length + l.length
  | [], acc => by simp [uniq]
  | y :: l, acc => by
    have h := uniq_len l (if acc.any (· == y) then acc else acc ++ [y])
    show (uniq (if acc.any (· == y) then acc else acc ++ [y]) l).length ≤ _
    split at h
    · rename_i q
      rw [if_pos q]
      simp only [List.length_cons]
      omega
    · rename_i q
      rw [if_neg q]
      simp only [List.length_cons, List.length_append, List.length_nil] at h ⊢
      omega
theorem uniq_all : ∀ (l acc : List Str), (uniq acc l).length = acc.length + l.length ↔ l.Nodup ∧ ∀ x ∈ l, x ∉ acc
  | [], acc => by simp [uniq]
  | y :: l, acc => by
    show (uniq (if acc.any (· == y) then acc else acc ++ [y]) l).length = _ ↔ _
    by_cases h : acc.any (· == y) = true
    · rw [if_pos h]
      have hl := uniq_len l acc
      constructor
      · intro e
        simp only [List.length_cons] at e
        omega
      · rintro ⟨_, hn⟩
        obtain ⟨z, hz, e⟩ := List.any_eq_true.mp h
        exact absurd ((eq_of_beq e) ▸ hz) (hn y (List.mem_cons_self ..))
    · rw [if_neg h]
      have ih := uniq_all l (acc ++ [y])
      simp only [List.length_append, List.length_cons, List.length_nil] at ih ⊢
      have hy : y ∉ acc := fun hm => h (List.any_eq_true.mpr ⟨y, hm, beq_self_eq_true y⟩)
      rw [show acc.length + (l.length + 1) = acc.length + (0 + 1) + l.length by omega, ih, List.nodup_cons]
      constructor
      · rintro ⟨nd, hn⟩
        refine ⟨⟨fun hm => hn y hm (List.mem_append_right _ (List.mem_singleton.mpr rfl)), nd⟩, fun x hx => ?_⟩
        rcases List.mem_cons.mp hx with rfl | hx
        · exact hy
        · exact fun z => hn x hx (List.mem_append_left _ z)
      · rintro ⟨⟨hm, nd⟩, hn⟩
        refine ⟨nd, fun x hx z => ?_⟩
        rcases List.mem_append.mp z with z | z
        · exact hn x (List.mem_cons_of_mem _ hx) z
        · exact hm (List.mem_singleton.mp z ▸ hx)
theorem uniq_nodup (l : List Str) : (uniq [] l).length = l.length ↔ l.Nodup := by
  have := uniq_all l []
  simp only [List.length_nil, Nat.zero_add] at this
  rw [this]
  exact ⟨fun h => h.1, fun h => ⟨h, fun _ _ z => nomatch z⟩⟩
section
variable {prog : Program} {w : World} {A : Around} {R : Result → Shared → Prop} {I : Addr} {fp wr : List Addr} {G : Array GenState → Array GenState → Prop} {n : Nat} {P : Nat → Value → Prop} {St : Nat → Shared → Prop}
/-- the set at S holds what was met among the first i -/
abbrev Met (prog : Program) (w : World) (h : Heap) (S : Addr) (xs : List Str) (i : Nat) : Prop := h.SetOf (PySem.strKind prog w) S (fun k => (uniq [] (xs.take i)).any (· == k)) (uniq [] (xs.take i)).length
theorem Met.stay {h h' : Heap} {S : Addr} {xs : List Str} {i : Nat} (m : Met prog w h S xs i) (k : ∀ o, h.get? S = some o → h'.get? S = some o) : Met prog w h' S xs i := by
  obtain ⟨o, es, ep, t, ho, r⟩ := m
  exact ⟨o, es, ep, t, k o ho, r⟩
theorem meets (W : WalksS prog w A.in1 I fp wr G n P St) (S : Addr) (apart : S ∉ fp) (xs : List Str) (hn : xs.length = n) (small : n + 1 < scanBound) (item : ∀ i v, P i v → ∃ t, v = .str (xs.getD i Str.empty) t) :
    ∀ (left i : Nat) (s : Shared), i + left = n → St i s → Met prog w s.heap S xs i → (∀ s', Moved (S :: wr) G s s' → Met prog w s'.heap S xs n → R (.ok (.ret .none)) s') →
      codeAny (model prog w) A (.builtin "set.update.loop" ⟨[.ref S, .ref I], []⟩) R s := by
  have sw : S ∉ wr := fun z => apart (W.sub _ z)
  have more : ∀ b ∈ wr, b ∈ S :: wr := fun b hb => List.mem_cons_of_mem _ hb
  intro left
  induction left with
  | zero =>
    intro i s hi st m k
    obtain rfl : i = n := by omega
    refine codeAny_builtin F.entry_set_update_loop ?_
    rw [Around.under_plainId F.plain_set_update_loop _]
    change wpAny _ A.in1 (pyNext (.ref I) >>= _) _ _ s
    refine wpAny_bind (W.done s _ _ st fun s' mv => ?_)
    change wpAny _ A.in1 (ret Value.none) _ _ s'
    exact wpAny_pure (k s' (mv.mono more) (m.stay fun o ho => mv.heap S _ sw ho))
  | succ left ih =>
    intro i s hi st m k
    have lt : i < n := by omega
    refine codeAny_builtin F.entry_set_update_loop ?_
    rw [Around.under_plainId F.plain_set_update_loop _]
    change wpAny _ A.in1 (pyNext (.ref I) >>= _) _ _ s
    refine wpAny_bind (W.item i s _ _ lt st fun v s1 hv st1 mv => ?_)
    obtain ⟨t, rfl⟩ := item i v hv
    have m1 : Met prog w s1.heap S xs i := m.stay fun o ho => mv.heap S _ sw ho
    change wpAny _ A.in1 (holding [Value.str (xs.getD i Str.empty) t] (setAdd S (.str (xs.getD i Str.empty) t)) >>= _) _ _ s1
    refine wpAny_bind (wpAny_holding ?_)
    unfold setAdd
    refine wpAny_holding (wpAny_bind ((PySem.strKind prog w).pyHash (k := xs.getD i Str.empty) (strKind_is _ _ _ _) ?_))
    have few : (uniq [] (xs.take i)).length + 1 < scanBound := by
      have h1 := uniq_len (xs.take i) []
      rw [List.length_take] at h1
      simp only [List.length_nil] at h1
      omega
    refine wpAny_setAddHashed_of (knd := PySem.strKind prog w) (s := { s1 with toks := s1.toks + 1 }) (strKind_is _ _ _ _) rfl m1 few fun h' sb m2 => ?_
    have hx : xs[i]? = some (xs.getD i Str.empty) := by
      rw [List.getD_eq_getElem?_getD, List.getElem?_eq_getElem (by omega)]
      rfl
    have m3 : Met prog w h' S xs (i + 1) := by
      have e : xs.take (i + 1) = xs.take i ++ [xs.getD i Str.empty] := by rw [List.take_add_one, hx]; rfl
      refine SetOf_congr m2 (fun k' => ?_) ?_
      · rw [e, uniq_any, uniq_any, List.any_append]
        by_cases q : k' = xs.getD i Str.empty
        · rw [← q]
          simp
        · rw [decide_eq_false q, List.any_cons, beq_eq_false_iff_ne.mpr (fun z => q z.symm)]
          simp
      · rw [e, uniq_snoc]
        split
        · rfl
        · rw [List.length_append]
          rfl
    refine wpAny_pure ⟨plainId_quiet F.plain_set_update_loop _, ih (i + 1) _ (by omega) (W.frame _ s1 _ _ st1 (Nat.le_succ _) fun b hb o e => ?_) m3 fun s2 mv2 m4 => ?_⟩
    · have ne : b ≠ S := fun z => apart (z ▸ hb)
      exact (sb.2 b ne).trans e
    · refine k s2 (Moved.trans W.gtrans ((mv.mono more).then_heap (Nat.le_succ _) fun b o hb e => ?_) mv2) m4
      have ne : b ≠ S := fun z => hb (z ▸ List.mem_cons_self)
      exact (sb.2 b ne).trans e
end
section
variable {prog : Program} {w : World} {A : Around} {E : Value → Shared → Prop} {s : Shared}
/-- the empty set that is laid first -/
abbrev bareSet (led : Bool) : Obj := { cls := .type "set", dict := none, data := .set #[] 0 (.fresh 0 0 led) }
set_option maxHeartbeats 6400000 in
theorem set_of_texts {l : Addr} {items : Array Value} {xs : List Str} {Q : Value → Shared → Prop} (quiet : A.handled = none) (hl : s.heap.IsList l items) (hi : StrsAre items.toList xs) (small : items.size + 1 < scanBound)
    (h : ∀ (h' : Heap) (tk : Nat), Met prog w h' s.heap.objs.size xs items.size → (∀ b o, b < s.heap.objs.size → s.heap.get? b = some o → h'.get? b = some o) → Q (.ref s.heap.objs.size) { s with heap := h', toks := tk }) :
    wpAny (model prog w) A (call (.type "set") [.ref l]) Q E s := by
  obtain ⟨c, tl, hmro⟩ := PySem.F.called_set.mro
  have hmade := PySem.F.called_set.made
  have hsub := PySem.F.called_set.sub
  refine wpAny_call (codeAny_of_tree (show wpAny _ _ (callAny (.type "set") _) _ _ _ from wpAny_pure ⟨Code.quiet_builtin _ (by decide +kernel), codeAny_builtin PySem.F.entry_type_call ?_⟩))
  rw [Around.under_plain (weight_type_call_type "set" [.ref l] []) rfl]
  have h1 := PySem.F.called_set.notType
  have h2 := PySem.F.called_set.canCreate
  have hct := PySem.F.typeCall_set_1 (.ref l)
  repeat (any_goals (first | assumption | wp_step))
  refine codeAny_mono (code_set_new_1 (.ref l) (E := E) (Q₁ := fun v s1 => ∃ led : Bool, v = .ref s.heap.objs.size ∧ s1 = { s with heap := s.heap.push (bareSet led) }) fun led => ⟨led, rfl, rfl⟩) fun r s1 hr => ?_
  match r, hr with
  | .error e, hr => exact hr
  | .ok (.ret v), hr =>
    obtain ⟨led, rfl, rfl⟩ := hr
    have at0 : (s.heap.push (bareSet led)).get? s.heap.objs.size = some (bareSet led) := Heap.get?_push_size _ rfl
    have ty0 : Shared.TypeIs { s with heap := s.heap.push (bareSet led) } (.ref s.heap.objs.size) "set" := ⟨_, at0, rfl⟩
    have hli := PySem.F.called_set.init.lookup
    have hbi := PySem.F.called_set.init.bind (.ref s.heap.objs.size)
    repeat (any_goals (first | assumption | wp_step))
    refine codeAny_mono (codeAny_call_builtin (R := wants (fun r s2 => r = .none ∧ ∃ h' tk, s2 = { s with heap := h', toks := tk } ∧ Met prog w h' s.heap.objs.size xs items.size ∧ ∀ b o, b < s.heap.objs.size → s.heap.get? b = some o → h'.get? b = some o) E)
      PySem.F.called_set.init.plain PySem.F.entry_set_init (check_set_init_1 ty0 ?_)) fun r2 s2 hr2 => ?_
    · obtain ⟨⟨oc, od, oda, osl⟩, hol, hcl, nl, hdl⟩ := hl
      simp only at hcl hdl
      subst hcl hdl
      have hol1 : (s.heap.push (bareSet led)).get? l = some { cls := .type "list", dict := od, data := .seq items nl, slots := osl } := Heap.get?_push_of_some _ hol
      have hsls := PySem.F.sub_list_set
      have hslf := PySem.F.sub_list_frozenset
      have hne : (Value.type "list" == Value.type "dict") = false := by decide
      have hl1 : (s.heap.push (bareSet led)).IsList l items := ⟨_, hol1, rfl, nl, rfl⟩
      unfold Builtin.«set.__init__» noKeywords Builtin.Frozenset.updateFrom
      generalize hPI : pyIter = PI
      wp_walk
      subst hPI
      refine wpAny_pyIter_list hl1 (wpAny_bind (wpAny_runValue ?_))
      have ltl : l < s.heap.objs.size := Heap.lt_size hol
      have quiet3 : A.in1.in1.in1.handled = none := by simp [quiet]
      have sz1 : (s.heap.push (bareSet led)).objs.size = s.heap.objs.size + 1 := Heap.size_push ..
      have ne1 : l ≠ (s.heap.push (bareSet led)).objs.size := fun z => by
        rw [sz1] at z
        rw [z] at ltl
        exact absurd ltl (Nat.not_lt.mpr (Nat.le_succ _))
      have apart : s.heap.objs.size ∉ [(s.heap.push (bareSet led)).objs.size, l] := fun z => by
        rw [sz1] at z
        rcases List.mem_cons.mp z with z | z
        · exact absurd z (Nat.ne_of_lt (Nat.lt_succ_self _))
        · exact absurd (List.mem_singleton.mp z) (Nat.ne_of_gt ltl)
      have hsz : xs.length = items.size := by rw [← StrsAre.len_eq hi, Array.length_toList]
      refine meets ((Walks.list quiet3 _ l ne1 items).toS) s.heap.objs.size apart xs hsz small (fun i v hv => SS.strs_at hi i v (by rw [Array.getElem?_toList]; exact hv)) items.size 0 _ (by omega)
        ⟨⟨_, Heap.get?_push_size _ rfl, rfl, rfl⟩, (hl1.push _)⟩ ?_ ?_
      · have g0 : ((s.heap.push (bareSet led)).push { cls := .type "list_iterator", data := .fields #[.ref l, .int 0 0] }).get? s.heap.objs.size = some (bareSet led) := Heap.get?_push_of_some _ at0
        exact SetOf_congr ((setObjOf_fresh (knd := PySem.strKind prog w) led).setOf g0 (by decide +kernel)) (fun _ => rfl) rfl
      · rintro ⟨h', g', d', tk', os'⟩ mv m'
        obtain rfl : g' = s.gens := mv.gens
        obtain rfl : d' = s.drawn := mv.drawn
        obtain rfl : os' = s.os := mv.os
        refine (show wpAny _ _ _ _ _ _ from wpAny_pure (show wpAny _ _ (ret Value.none) _ _ _ from wpAny_pure ⟨rfl, h', tk', rfl, m', fun b o hb e => ?_⟩))
        have ne2 : b ∉ [s.heap.objs.size, (s.heap.push (bareSet led)).objs.size] := fun z => by
          rw [sz1] at z
          rcases List.mem_cons.mp z with z | z
          · exact absurd z (Nat.ne_of_lt hb)
          · exact absurd (List.mem_singleton.mp z) (Nat.ne_of_lt (Nat.lt_succ_of_lt hb))
        exact mv.heap b o ne2 (Heap.get?_push_of_some _ (Heap.get?_push_of_some _ e))
    · match r2, hr2 with
      | .error e, hr2 => exact hr2
      | .ok (.ret v), hr2 =>
        obtain ⟨rfl, h', tk, rfl, m', k'⟩ := hr2
        repeat (any_goals (first | assumption | wp_step))
        exact h _ _ m' k'
end
end Rul
namespace L2
open PySem PySem.Spec PyProof.Rows
/-- len(set(xs)), xs a list of texts -/
def tLenTexts (K : PySem.W.Frag) (ta : TE) : TE := fun σ H Q => ta σ H fun x H1 => ∃ l, ∃ xs : List Str, x = .ref l ∧ SqL K H1 l (xs.map V.str) ∧ xs.length ≤ 1000 ∧ Q (.int (Rul.uniq [] xs).length) H1
theorem pe_lenTexts {X : Cx} {a : Expr} {ta : TE} {p p2 q pos : Pos} (hg : Gl X "len") (hm : X.mg "len" = none) (hg2 : Gl X "set") (hm2 : X.mg "set" = none) (ha : PE X a ta) (hc : X.calm = true := by rfl)
    (na : starEach [a] X.env = (false, eval a X.env) :: starEach [] X.env := by rfl) : PE X (.Call (.Name "len" p) [.Call (.Name "set" p2) [a] [] q] [] pos) (tLenTexts X.K ta) := by
  constructor
  intro pins s σ H Q I h
  refine Call_ (ld_blt I hg hm boot_len (callWith_builtin1 (args_cons ?_ rfl) rfl rfl))
  refine Call_ (ld_blt I hg2 hm2 boot_set (callWith_type1 (args_cons (thn (ha.run pins s σ H _ I h) fun v s1 hq => args_nil ?_) na) na rfl))
  obtain ⟨x, H1, I1, r1, l, xs, rfl, hs, few, q1⟩ := hq
  cases r1
  obtain ⟨its, r, pl, hz⟩ := I1.list hs
  have hl : its.toArray.size = xs.length := by rw [List.size_toArray, ← r.length, List.length_map]
  refine Rul.set_of_texts (I1.ok.hd hc) pl.isList (by simpa using strsAre_of r) (by rw [hl]; show xs.length + 1 < scanBound; unfold scanBound; omega) fun h' tk m k => args_nil ?_
  rw [hl] at m
  obtain ⟨o, es, ep, t, ho, hex, hd, _, _, _, hf, hn⟩ := m
  rw [List.take_length] at hn
  have I2 : Inv X pins σ H1 { s1 with heap := h', toks := tk } := I1.kept fun b ob e => k b ob (Heap.lt_size e) e
  have small : (Rul.uniq [] xs).length ≤ 1000 := by
    have := Rul.uniq_len xs []
    simp only [List.length_nil] at this
    omega
  exact call_len_set ho hex hd hf (by rw [hn]; show ((Rul.uniq [] xs).length : Int) < 2 ^ 63; omega) ⟨.int (Rul.uniq [] xs).length, H1, I2.tok _, ⟨_, by rw [hn]⟩, q1⟩
end L2

/-! The texts of names, on lists of codes. 92 backslash, 44 comma, 43 plus, 61 equals, 32 space -/
namespace Nm
/-- cut at each mark that has no backslash before it; acc: what is begun -/
def cut (m : Nat) : List Nat → List Nat → List (List Nat)
  | acc, [] => [acc]
  | acc, [c] => if c = 92 then [acc ++ [92]] else if c = m then [acc, []] else [acc ++ [c]]
  | acc, c :: d :: r => if c = 92 then cut m (acc ++ [92, d]) r else if c = m then acc :: cut m [] (d :: r) else cut m (acc ++ [c]) (d :: r)
theorem cut_nil (m : Nat) (acc : List Nat) : cut m acc [] = [acc] := by simp [cut]
theorem cut_esc (m : Nat) (acc : List Nat) (d : Nat) (r : List Nat) : cut m acc (92 :: d :: r) = cut m (acc ++ [92, d]) r := by
  simp [cut]
theorem cut_end (m : Nat) (acc : List Nat) : cut m acc [92] = [acc ++ [92]] := by simp [cut]
theorem cut_hit {m : Nat} (hm : m ≠ 92) (acc r : List Nat) : cut m acc (m :: r) = acc :: cut m [] r := by
  cases r with
  | nil => simp [cut, hm]
  | cons d r => simp [cut, hm]
theorem cut_miss {m c : Nat} (h : c ≠ 92) (hc : c ≠ m) (acc r : List Nat) : cut m acc (c :: r) = cut m (acc ++ [c]) r := by
  cases r with
  | nil => simp [cut, h, hc]
  | cons d r => simp [cut, h, hc]
/-- what a text stands for -/
def unesc : List Nat → List Nat
  | [] => []
  | [c] => if c = 92 then [] else [c]
  | c :: d :: r => if c = 92 then d :: unesc r else c :: unesc (d :: r)
theorem unesc_esc (d : Nat) (r : List Nat) : unesc (92 :: d :: r) = d :: unesc r := by simp [unesc]
theorem unesc_end : unesc [92] = [] := by simp [unesc]
theorem unesc_one {c : Nat} (h : c ≠ 92) (r : List Nat) : unesc (c :: r) = c :: unesc r := by
  cases r with
  | nil => simp [unesc, h]
  | cons d r => simp [unesc, h]
/-- the signs of a text, and whether they had a backslash; none behind a lone one -/
def parse : List Nat → Option (List (Nat × Bool))
  | [] => some []
  | [c] => if c = 92 then none else some [(c, false)]
  | c :: d :: r => if c = 92 then (parse r).map ((d, true) :: ·) else (parse (d :: r)).map ((c, false) :: ·)
theorem parse_esc (d : Nat) (r : List Nat) : parse (92 :: d :: r) = (parse r).map ((d, true) :: ·) := by simp [parse]
theorem parse_end : parse [92] = none := by simp [parse]
theorem parse_one {c : Nat} (h : c ≠ 92) (r : List Nat) : parse (c :: r) = (parse r).map ((c, false) :: ·) := by
  cases r with
  | nil => simp [parse, h]
  | cons d r => simp [parse, h]
def enc : List (Nat × Bool) → List Nat
  | [] => []
  | (c, true) :: r => 92 :: c :: enc r
  | (c, false) :: r => c :: enc r
theorem enc_app : ∀ a b : List (Nat × Bool), enc (a ++ b) = enc a ++ enc b
  | [], _ => rfl
  | (c, true) :: r, b => by
    show 92 :: c :: enc (r ++ b) = _
    rw [enc_app r b]
    rfl
  | (c, false) :: r, b => by
    show c :: enc (r ++ b) = _
    rw [enc_app r b]
    rfl
/-- a way through a text, two signs at a backslash -/
theorem walk {P : List Nat → Prop} (h0 : P []) (h1 : P [92]) (h2 : ∀ d r, P r → P (92 :: d :: r)) (h3 : ∀ c r, c ≠ 92 → P r → P (c :: r)) : ∀ (n : Nat) (l : List Nat), l.length ≤ n → P l
  | _, [], _ => h0
  | 0, _ :: _, h => absurd h (by simp)
  | n + 1, [c], h => by
    by_cases e : c = 92
    · rw [e]
      exact h1
    · exact h3 c [] e h0
  | n + 1, c :: d :: r, h => by
    simp only [List.length_cons] at h
    by_cases e : c = 92
    · rw [e]
      exact h2 d r (walk h0 h1 h2 h3 n r (by omega))
    · exact h3 c (d :: r) e (walk h0 h1 h2 h3 n (d :: r) (by simp only [List.length_cons]; omega))
theorem parse_enc {w : List Nat} : ∀ {ps : List (Nat × Bool)}, parse w = some ps → enc ps = w ∧ unesc w = ps.map (·.1) ∧ ∀ p ∈ ps, p.2 = false → p.1 ≠ 92 := by
  refine walk (P := fun w => ∀ {ps : List (Nat × Bool)}, parse w = some ps → enc ps = w ∧ unesc w = ps.map (·.1) ∧ ∀ p ∈ ps, p.2 = false → p.1 ≠ 92) ?_ ?_ ?_ ?_ w.length w (Nat.le_refl _)
  · intro ps h
    have : ps = [] := (Option.some.inj h).symm
    subst this
    exact ⟨rfl, rfl, fun p hp => nomatch hp⟩
  · intro ps h
    rw [parse_end] at h
    cases h
  · intro d r ih ps h
    rw [parse_esc] at h
    obtain ⟨q, hq, rfl⟩ := Option.map_eq_some_iff.mp h
    obtain ⟨e1, e2, e3⟩ := ih hq
    refine ⟨by show 92 :: d :: enc q = _; rw [e1], by rw [unesc_esc, e2]; rfl, fun p hp => ?_⟩
    rcases List.mem_cons.mp hp with rfl | hp
    · intro z
      cases z
    · exact e3 p hp
  · intro c r hc ih ps h
    rw [parse_one hc] at h
    obtain ⟨q, hq, rfl⟩ := Option.map_eq_some_iff.mp h
    obtain ⟨e1, e2, e3⟩ := ih hq
    refine ⟨by show c :: enc q = _; rw [e1], by rw [unesc_one hc, e2]; rfl, fun p hp => ?_⟩
    rcases List.mem_cons.mp hp with rfl | hp
    · exact fun _ => hc
    · exact e3 p hp
theorem enc_parse : ∀ {ps : List (Nat × Bool)}, (∀ p ∈ ps, p.2 = false → p.1 ≠ 92) → parse (enc ps) = some ps
  | [], _ => rfl
  | (c, true) :: r, h => by
    show parse (92 :: c :: enc r) = _
    rw [parse_esc, enc_parse fun p hp => h p (List.mem_cons_of_mem _ hp)]
    rfl
  | (c, false) :: r, h => by
    show parse (c :: enc r) = _
    rw [parse_one (h (c, false) (List.mem_cons_self ..) rfl), enc_parse fun p hp => h p (List.mem_cons_of_mem _ hp)]
    rfl
/-- whether a sign needs a backslash at the place i of n -/
def must (c i n : Nat) : Bool := decide (c = 44) || decide (c = 43) || decide (c = 61) || decide (c = 92) || (decide (c = 32) && (decide (i = 0) || decide (i + 1 = n)))
def mk (n : Nat) : Nat → List Nat → List (Nat × Bool)
  | _, [] => []
  | i, c :: r => (c, must c i n) :: mk n (i + 1) r
theorem mk_fst (n : Nat) : ∀ (l : List Nat) (i : Nat), (mk n i l).map (·.1) = l
  | [], _ => rfl
  | c :: r, i => by
    show c :: (mk n (i + 1) r).map (·.1) = _
    rw [mk_fst n r (i + 1)]
theorem mk_ok (n : Nat) : ∀ (l : List Nat) (i : Nat), ∀ p ∈ mk n i l, p.2 = false → p.1 ≠ 92
  | [], _, p, h => nomatch h
  | c :: r, i, p, h => by
    rcases List.mem_cons.mp h with rfl | h
    · intro z e
      have e : c = 92 := e
      subst e
      simp [must] at z
    · exact mk_ok n r (i + 1) p h
def esc (v : List Nat) : List Nat := enc (mk v.length 0 v)
/-- the value that a text tells, by the law's reading -/
def bare (w : List Nat) : Option (List Nat) := match parse w with
  | none => none
  | some ps => if ps = mk ps.length 0 (ps.map (·.1)) then some (ps.map (·.1)) else none
theorem bare_is (w : List Nat) : bare w = if esc (unesc w) = w then some (unesc w) else none := by
  unfold bare
  cases h : parse w with
  | none =>
    rw [if_neg]
    intro e
    have := enc_parse (mk_ok (unesc w).length (unesc w) 0)
    rw [show enc (mk (unesc w).length 0 (unesc w)) = w from e, h] at this
    cases this
  | some ps =>
    obtain ⟨e1, e2, e3⟩ := parse_enc h
    show (if ps = mk ps.length 0 (ps.map (·.1)) then some (ps.map (·.1)) else none) = _
    rw [e2]
    have el : (ps.map (·.1)).length = ps.length := List.length_map _
    by_cases q : ps = mk ps.length 0 (ps.map (·.1))
    · rw [if_pos q, if_pos]
      unfold esc
      rw [el, ← q, e1]
    · rw [if_neg q, if_neg]
      intro e
      apply q
      unfold esc at e
      rw [el] at e
      have := enc_parse (mk_ok ps.length (ps.map (·.1)) 0)
      rw [e, h] at this
      exact Option.some.inj this
/-! ### cutting -/
theorem cut_acc (m : Nat) (hm : m ≠ 92) (w : List Nat) : ∀ acc, ∃ p ps, cut m [] w = p :: ps ∧ cut m acc w = (acc ++ p) :: ps := by
  refine walk (P := fun w => ∀ acc, ∃ p ps, cut m [] w = p :: ps ∧ cut m acc w = (acc ++ p) :: ps) ?_ ?_ ?_ ?_ w.length w (Nat.le_refl _)
  · intro acc
    exact ⟨[], [], cut_nil m [], by rw [cut_nil, List.append_nil]⟩
  · intro acc
    exact ⟨[92], [], by rw [cut_end]; rfl, cut_end m acc⟩
  · intro d r ih acc
    obtain ⟨p, ps, e1, e2⟩ := ih [92, d]
    obtain ⟨p', ps', e1', e2'⟩ := ih (acc ++ [92, d])
    rw [e1] at e1'
    obtain ⟨rfl, rfl⟩ := List.cons.inj e1'
    exact ⟨[92, d] ++ p, ps, by rw [cut_esc]; exact e2, by rw [cut_esc, e2', List.append_assoc]⟩
  · intro c r hc ih acc
    by_cases q : c = m
    · subst q
      exact ⟨[], cut c [] r, cut_hit hm [] r, by rw [cut_hit hm, List.append_nil]⟩
    · obtain ⟨p, ps, e1, e2⟩ := ih [c]
      obtain ⟨p', ps', e1', e2'⟩ := ih (acc ++ [c])
      rw [e1] at e1'
      obtain ⟨rfl, rfl⟩ := List.cons.inj e1'
      exact ⟨[c] ++ p, ps, by rw [cut_miss hc q]; exact e2, by rw [cut_miss hc q, e2', List.append_assoc]⟩
theorem cut_plain {m : Nat} (hm : m ≠ 92) : ∀ (a : List Nat) (r acc : List Nat), 92 ∉ a → m ∉ a → cut m acc (a ++ m :: r) = (acc ++ a) :: cut m [] r
  | [], r, acc, _, _ => by rw [List.nil_append, cut_hit hm, List.append_nil]
  | c :: a, r, acc, h1, h2 => by
    have c1 : c ≠ 92 := fun e => h1 (by simp [e])
    have c2 : c ≠ m := fun e => h2 (by simp [e])
    rw [List.cons_append, cut_miss c1 c2, cut_plain hm a r (acc ++ [c]) (fun h => h1 (List.mem_cons_of_mem _ h)) (fun h => h2 (List.mem_cons_of_mem _ h)), List.append_assoc]
    rfl
/-- a text whose marks all have a backslash is not cut -/
theorem cut_one {m : Nat} (hm : m ≠ 92) : ∀ (ps : List (Nat × Bool)) (acc : List Nat), (∀ p ∈ ps, p.2 = false → p.1 ≠ 92 ∧ p.1 ≠ m) → cut m acc (enc ps) = [acc ++ enc ps]
  | [], acc, _ => by
    show cut m acc [] = _
    rw [cut_nil]
    show [acc] = [acc ++ []]
    rw [List.append_nil]
  | (c, true) :: r, acc, h => by
    show cut m acc (92 :: c :: enc r) = [acc ++ (92 :: c :: enc r)]
    rw [cut_esc, cut_one hm r _ fun p hp => h p (List.mem_cons_of_mem _ hp), List.append_assoc]
    rfl
  | (c, false) :: r, acc, h => by
    have hc := h (c, false) (List.mem_cons_self ..) rfl
    show cut m acc (c :: enc r) = [acc ++ (c :: enc r)]
    rw [cut_miss hc.1 hc.2, cut_one hm r _ fun p hp => h p (List.mem_cons_of_mem _ hp), List.append_assoc]
    rfl
theorem mk_eq (n : Nat) : ∀ (l : List Nat) (i : Nat), ∀ p ∈ mk n i l, p.2 = false → p.1 ≠ 61
  | [], _, p, h => nomatch h
  | c :: r, i, p, h => by
    rcases List.mem_cons.mp h with rfl | h
    · intro z e
      have e : c = 61 := e
      subst e
      simp [must] at z
    · exact mk_eq n r (i + 1) p h
theorem bare_whole {w v : List Nat} (h : bare w = some v) : cut 61 [] w = [w] := by
  rw [bare_is] at h
  by_cases e : esc (unesc w) = w
  · rw [← e]
    unfold esc
    exact cut_one (by decide) _ _ fun p hp z => ⟨mk_ok _ _ _ p hp z, mk_eq _ _ _ p hp z⟩
  · rw [if_neg e] at h
    cases h
/-! ### pairs -/
def wordL (w : List Nat) : Bool := decide (1 ≤ w.length) && decide (w.length ≤ 12) && !decide (w = [115, 101, 108, 102]) && w.all (fun c => decide (97 ≤ c) && decide (c ≤ 122))
def textL (v : List Nat) : Bool := decide (1 ≤ v.length) && decide (v.length ≤ 60) && !decide (10 ∈ v) && v.any (fun c => !decide (c = 32))
/-- what stands before the first equals sign, and behind it -/
def part : List Nat → List Nat × List Nat
  | [] => ([], [])
  | c :: r => if c = 61 then ([], r) else (c :: (part r).1, (part r).2)
def pairP (t : List Nat) : Option (List Nat × List Nat) := if wordL (part t).1 && decide (esc (unesc (part t).2) = (part t).2) then some ((part t).1, unesc (part t).2) else none
def pairL (t : List Nat) : Option (List Nat × List Nat) := match cut 61 [] t with
  | [w, r] => match bare r with
    | some v => if wordL w && textL v then some (w, v) else none
    | none => none
  | _ => none
theorem part_hit : ∀ (a r : List Nat), 61 ∉ a → part (a ++ 61 :: r) = (a, r)
  | [], r, _ => by simp [part]
  | c :: a, r, h => by
    have hc : c ≠ 61 := fun e => h (by simp [e])
    have ih := part_hit a r fun z => h (List.mem_cons_of_mem _ z)
    show (if c = 61 then ([], a ++ 61 :: r) else (c :: (part (a ++ 61 :: r)).1, (part (a ++ 61 :: r)).2)) = _
    rw [if_neg hc, ih]
theorem part_no : ∀ (a : List Nat), 61 ∉ a → part a = (a, [])
  | [], _ => rfl
  | c :: a, h => by
    have hc : c ≠ 61 := fun e => h (by simp [e])
    have ih := part_no a fun z => h (List.mem_cons_of_mem _ z)
    show (if c = 61 then ([], a) else (c :: (part a).1, (part a).2)) = _
    rw [if_neg hc, ih]
theorem word_free {w : List Nat} (h : wordL w = true) {c : Nat} (hc : c ∈ w) : 97 ≤ c ∧ c ≤ 122 := by
  unfold wordL at h
  rw [Bool.and_eq_true] at h
  have := List.all_eq_true.mp h.2 c hc
  rw [Bool.and_eq_true, decide_eq_true_eq, decide_eq_true_eq] at this
  exact this
theorem split61 (t : List Nat) : 61 ∉ t ∨ ∃ a r, t = a ++ 61 :: r ∧ 61 ∉ a := by
  induction t with
  | nil => exact .inl (by simp)
  | cons c t ih =>
    by_cases h : c = 61
    · exact .inr ⟨[], t, by rw [h]; rfl, by simp⟩
    · rcases ih with ih | ⟨a, r, e, ha⟩
      · refine .inl fun z => ?_
        rcases List.mem_cons.mp z with z | z
        · exact h z.symm
        · exact ih z
      · refine .inr ⟨c :: a, r, by rw [e]; rfl, fun z => ?_⟩
        rcases List.mem_cons.mp z with z | z
        · exact h z.symm
        · exact ha z
/-- the first piece of a cut text bears a backslash wherever the text has one before its first mark -/
theorem cut_first (a r : List Nat) (h : 92 ∈ a) (ha : 61 ∉ a) : ∀ acc p ps, cut 61 acc (a ++ 61 :: r) = p :: ps → 92 ∈ p := by
  intro acc p ps e
  have gen : ∀ (n : Nat) (a : List Nat), a.length ≤ n → 61 ∉ a → ∀ (r acc p : List Nat) (ps : List (List Nat)), (92 ∈ a ∨ 92 ∈ acc) → cut 61 acc (a ++ 61 :: r) = p :: ps → 92 ∈ p := by
    intro n
    induction n with
    | zero =>
      intro a hn _ r acc p ps hm e
      have : a = [] := List.length_eq_zero_iff.mp (by omega)
      subst this
      rw [List.nil_append, cut_hit (by decide)] at e
      obtain ⟨rfl, _⟩ := List.cons.inj e
      rcases hm with z | z
      · cases z
      · exact z
    | succ n ih =>
      intro a hn ha r acc p ps hm e
      match a, hn, ha, hm, e with
      | [], _, _, hm, e =>
        rw [List.nil_append, cut_hit (by decide)] at e
        obtain ⟨rfl, _⟩ := List.cons.inj e
        rcases hm with z | z
        · cases z
        · exact z
      | c :: a, hn, ha, hm, e =>
        have c61 : c ≠ 61 := fun z => ha (by simp [z])
        by_cases c92 : c = 92
        · subst c92
          obtain ⟨p0, ps0, _, e2⟩ := cut_acc 61 (by decide) (92 :: (a ++ 61 :: r)) acc
          have e0 : cut 61 acc (92 :: (a ++ 61 :: r)) = p :: ps := e
          have key : ∀ t acc p ps, cut 61 acc (92 :: t) = p :: ps → 92 ∈ p := by
            intro t acc p ps e
            cases t with
            | nil =>
              rw [cut_end] at e
              obtain ⟨rfl, _⟩ := List.cons.inj e
              simp
            | cons d t =>
              rw [cut_esc] at e
              obtain ⟨q, qs, _, e2⟩ := cut_acc 61 (by decide) t (acc ++ [92, d])
              rw [e2] at e
              obtain ⟨rfl, _⟩ := List.cons.inj e
              simp
          exact key _ _ _ _ e0
        · rw [List.cons_append, cut_miss c92 c61] at e
          refine ih a (by simp only [List.length_cons] at hn; omega) (fun z => ha (List.mem_cons_of_mem _ z)) r (acc ++ [c]) p ps ?_ e
          rcases hm with z | z
          · rcases List.mem_cons.mp z with z | z
            · exact absurd z.symm c92
            · exact .inl z
          · exact .inr (List.mem_append_left _ z)
  exact gen a.length a (Nat.le_refl _) ha r acc p ps (.inl h) e
theorem cut_none61 : ∀ (n : Nat) (t acc : List Nat), t.length ≤ n → 61 ∉ t → ∃ p, cut 61 acc t = [p]
  | _, [], acc, _, _ => ⟨acc, cut_nil 61 acc⟩
  | 0, _ :: _, _, h, _ => absurd h (by simp)
  | n + 1, c :: t, acc, h, h1 => by
    simp only [List.length_cons] at h
    have c61 : c ≠ 61 := fun z => h1 (by simp [z])
    have t61 : 61 ∉ t := fun z => h1 (List.mem_cons_of_mem _ z)
    by_cases c92 : c = 92
    · subst c92
      cases t with
      | nil => exact ⟨_, cut_end 61 acc⟩
      | cons d t =>
        rw [cut_esc]
        simp only [List.length_cons] at h
        exact cut_none61 n t _ (by omega) fun z => t61 (List.mem_cons_of_mem _ z)
    · rw [cut_miss c92 c61]
      exact cut_none61 n t _ (by omega) t61
theorem cut_ne (m : Nat) (hm : m ≠ 92) (w acc : List Nat) : cut m acc w ≠ [] := by
  obtain ⟨p, ps, _, e⟩ := cut_acc m hm w acc
  rw [e]
  simp
theorem cut_sole (m : Nat) (hm : m ≠ 92) (w : List Nat) : ∀ acc x, cut m acc w = [x] → x = acc ++ w := by
  refine walk (P := fun w => ∀ acc x, cut m acc w = [x] → x = acc ++ w) ?_ ?_ ?_ ?_ w.length w (Nat.le_refl _)
  · intro acc x h
    rw [cut_nil] at h
    rw [List.append_nil]
    exact (List.cons.inj h).1.symm
  · intro acc x h
    rw [cut_end] at h
    exact (List.cons.inj h).1.symm
  · intro d r ih acc x h
    rw [cut_esc] at h
    rw [ih _ x h, List.append_assoc]
    rfl
  · intro c r hc ih acc x h
    by_cases q : c = m
    · subst q
      rw [cut_hit hm] at h
      exact absurd (List.cons.inj h).2 (cut_ne c hm r [])
    · rw [cut_miss hc q] at h
      rw [ih _ x h, List.append_assoc]
      rfl
theorem pair_eq (t : List Nat) : pairL t = (pairP t).filter (fun p => textL p.2) := by
  rcases split61 t with h | ⟨a, r, rfl, ha⟩
  · obtain ⟨p, hp⟩ := cut_none61 t.length t [] (Nat.le_refl _) h
    unfold pairL pairP
    rw [hp, part_no t h]
    show none = _
    by_cases q : (wordL t && decide (esc (unesc []) = [])) = true
    · rw [if_pos q]
      rfl
    · rw [if_neg q]
      rfl
  · unfold pairP
    rw [part_hit a r ha]
    by_cases h92 : 92 ∈ a
    · have w : wordL a = false := by
        cases q : wordL a with
        | false => rfl
        | true =>
          have := word_free q h92
          omega
      show _ = Option.filter _ (if (wordL a && decide (esc (unesc r) = r)) = true then _ else none)
      rw [w, Bool.false_and, if_neg Bool.false_ne_true]
      unfold pairL
      cases hc : cut 61 [] (a ++ 61 :: r) with
      | nil => rfl
      | cons p ps =>
        have hp := cut_first a r h92 ha [] p ps hc
        have wp : wordL p = false := by
          cases q : wordL p with
          | false => rfl
          | true =>
            have := word_free q hp
            omega
        match ps with
        | [] => rfl
        | [x] =>
          show (match bare x with | some v => if (wordL p && textL v) = true then some (p, v) else none | none => none) = none
          cases bare x with
          | none => rfl
          | some v =>
            show (if (wordL p && textL v) = true then some (p, v) else none) = none
            rw [wp, Bool.false_and, if_neg Bool.false_ne_true]
        | _ :: _ :: _ => rfl
    · have hc : cut 61 [] (a ++ 61 :: r) = a :: cut 61 [] r := cut_plain (by decide) a r [] h92 ha
      unfold pairL
      rw [hc]
      show _ = Option.filter _ (if (wordL a && decide (esc (unesc r) = r)) = true then some (a, unesc r) else none)
      cases hb : bare r with
      | some v =>
        rw [bare_whole hb]
        show (match bare r with | some v => if (wordL a && textL v) = true then some (a, v) else none | none => none) = _
        have hb' := hb
        rw [bare_is] at hb
        by_cases e : esc (unesc r) = r
        · rw [if_pos e] at hb
          obtain rfl := Option.some.inj hb
          rw [hb', decide_eq_true e, Bool.and_true]
          show (if (wordL a && textL (unesc r)) = true then some (a, unesc r) else none) = _
          cases wordL a with
          | false => rfl
          | true =>
            rw [Bool.true_and, if_pos rfl]
            show _ = if textL (unesc r) = true then some (a, unesc r) else none
            rfl
        · rw [if_neg e] at hb
          cases hb
      | none =>
        have e : ¬ esc (unesc r) = r := by
          intro e
          rw [bare_is, if_pos e] at hb
          cases hb
        rw [decide_eq_false e, Bool.and_false, if_neg Bool.false_ne_true]
        cases hr : cut 61 [] r with
        | nil => rfl
        | cons x xs =>
          cases xs with
          | nil =>
            show (match bare x with | some v => if (wordL a && textL v) = true then some (a, v) else none | none => none) = none
            rw [cut_sole 61 (by decide) r [] x hr, List.nil_append, hb]
          | cons _ _ => rfl
/-! ### relative names, names -/
def all? {α : Type} : List (Option α) → Option (List α)
  | [] => some []
  | none :: _ => none
  | some a :: r => (all? r).map (a :: ·)
def leafP (t : List Nat) : Option (List (List Nat × List Nat)) :=
  if (cut 43 [] t).length > 4 then none else match all? ((cut 43 [] t).map pairP) with
    | none => none
    | some ps => if (ps.map (·.1)).Nodup then some ps else none
def nameP (t : List Nat) : Option (List (List (List Nat × List Nat))) :=
  if t = [] then some [] else if (cut 44 [] t).length > 12 then none else match all? ((cut 44 [] t).map leafP) with
    | none => none
    | some ls => if ls.all (fun ps => ps.all fun p => textL p.2) then some ls else none
/-- the law's: pair by pair, a word that was there ends it -/
def leafGo : List (List Nat × List Nat) → List (List Nat) → Option (List (List Nat × List Nat))
  | acc, [] => some acc
  | acc, t :: ts => match pairL t with
    | none => none
    | some p => if p.1 ∈ acc.map (·.1) then none else leafGo (acc ++ [p]) ts
def leafL (t : List Nat) : Option (List (List Nat × List Nat)) := match leafGo [] (cut 43 [] t) with
  | none => none
  | some ps => if ps.length ≤ 4 then some ps else none
def nameL (t : List Nat) : Option (List (List (List Nat × List Nat))) :=
  match all? ((if t = [] then [] else cut 44 [] t).map leafL) with
  | none => none
  | some ls => if ls.length > 12 then none else some ls
theorem all_some {α β : Type} {f : α → Option β} : ∀ {l : List α} {r : List β}, all? (l.map f) = some r ↔ l.map f = r.map some
  | [], r => by
    show some [] = some r ↔ [] = r.map some
    constructor
    · intro h
      rw [← Option.some.inj h]
      rfl
    · intro h
      cases r with
      | nil => rfl
      | cons _ _ => cases h
  | a :: l, r => by
    rw [List.map_cons]
    cases h : f a with
    | none =>
      show none = some r ↔ _
      constructor
      · intro z
        cases z
      · intro z
        cases r with
        | nil => cases z
        | cons b r => cases (List.cons.inj z).1
    | some b =>
      show (all? (l.map f)).map (b :: ·) = some r ↔ _
      constructor
      · intro z
        obtain ⟨q, hq, rfl⟩ := Option.map_eq_some_iff.mp z
        rw [(all_some (l := l)).mp hq]
        rfl
      · intro z
        cases r with
        | nil => cases z
        | cons c r =>
          obtain ⟨e1, e2⟩ := List.cons.inj z
          rw [(all_some (l := l)).mpr e2, Option.some.inj e1]
          rfl
theorem filter_some {α : Type} {o : Option α} {f : α → Bool} {a : α} : o.filter f = some a ↔ o = some a ∧ f a = true := by
  cases o with
  | none =>
    show none = some a ↔ _
    simp
  | some b =>
    show (if f b = true then some b else none) = some a ↔ _
    by_cases h : f b = true
    · rw [if_pos h]
      constructor
      · intro e
        have e := Option.some.inj e
        subst e
        exact ⟨rfl, h⟩
      · intro e
        exact e.1
    · rw [if_neg h]
      constructor
      · intro e
        cases e
      · intro e
        have e2 := Option.some.inj e.1
        subst e2
        exact absurd e.2 h
theorem go_is : ∀ (ts : List (List Nat)) (acc ps : List (List Nat × List Nat)), leafGo acc ts = some ps ↔ ∃ qs, ps = acc ++ qs ∧ ts.map pairL = qs.map some ∧ (∀ q ∈ qs, q.1 ∉ acc.map (·.1)) ∧ (qs.map (·.1)).Nodup
  | [], acc, ps => by
    show some acc = some ps ↔ _
    constructor
    · intro h
      exact ⟨[], by rw [← Option.some.inj h, List.append_nil], rfl, (fun q h => nomatch h), List.nodup_nil⟩
    · rintro ⟨qs, e, h, _, _⟩
      cases qs with
      | nil => rw [e, List.append_nil]
      | cons _ _ => cases h
  | t :: ts, acc, ps => by
    unfold leafGo
    cases ht : pairL t with
    | none =>
      show none = some ps ↔ _
      constructor
      · intro h
        cases h
      · rintro ⟨qs, e, h, _, _⟩
        rw [List.map_cons, ht] at h
        cases qs with
        | nil => cases h
        | cons _ _ => cases (List.cons.inj h).1
    | some p =>
      show (if p.1 ∈ acc.map (·.1) then none else leafGo (acc ++ [p]) ts) = some ps ↔ _
      by_cases hm : p.1 ∈ acc.map (·.1)
      · rw [if_pos hm]
        constructor
        · intro h
          cases h
        · rintro ⟨qs, e, h, hn, _⟩
          rw [List.map_cons, ht] at h
          cases qs with
          | nil => cases h
          | cons q qs =>
            have := Option.some.inj (List.cons.inj h).1
            subst this
            exact absurd hm (hn p (List.mem_cons_self ..))
      · rw [if_neg hm, go_is ts (acc ++ [p]) ps]
        constructor
        · rintro ⟨qs, e, h, hn, nd⟩
          refine ⟨p :: qs, by rw [e, List.append_assoc]; rfl, by rw [List.map_cons, ht, h]; rfl, fun q hq => ?_, ?_⟩
          · rcases List.mem_cons.mp hq with rfl | hq
            · exact hm
            · have := hn q hq
              rw [List.map_append] at this
              exact fun z => this (List.mem_append_left _ z)
          · rw [List.map_cons, List.nodup_cons]
            refine ⟨fun z => ?_, nd⟩
            obtain ⟨q, hq, e⟩ := List.mem_map.mp z
            have := hn q hq
            rw [List.map_append, e] at this
            exact this (List.mem_append_right _ (List.mem_singleton.mpr rfl))
        · rintro ⟨qs, e, h, hn, nd⟩
          rw [List.map_cons, ht] at h
          cases qs with
          | nil => cases h
          | cons q qs =>
            have := Option.some.inj (List.cons.inj h).1
            subst this
            rw [List.map_cons, List.nodup_cons] at nd
            refine ⟨qs, by rw [e, List.append_assoc]; rfl, (List.cons.inj h).2, fun q hq z => ?_, nd.2⟩
            rw [List.map_append] at z
            rcases List.mem_append.mp z with z | z
            · exact hn q (List.mem_cons_of_mem _ hq) z
            · have := List.mem_singleton.mp z
              exact nd.1 (List.mem_map.mpr ⟨q, hq, this⟩)
theorem pairs_eq : ∀ {ts : List (List Nat)} {qs : List (List Nat × List Nat)}, ts.map pairL = qs.map some ↔ ts.map pairP = qs.map some ∧ qs.all (fun p => textL p.2) = true
  | [], qs => by
    cases qs with
    | nil => simp
    | cons _ _ => simp
  | t :: ts, qs => by
    cases qs with
    | nil => simp
    | cons q qs =>
      rw [List.map_cons, List.map_cons, List.map_cons, List.cons_eq_cons, List.cons_eq_cons, pairs_eq (ts := ts), pair_eq, filter_some, List.all_cons, Bool.and_eq_true]
      constructor
      · rintro ⟨⟨a, b⟩, c, d⟩
        exact ⟨⟨a, c⟩, b, d⟩
      · rintro ⟨⟨a, c⟩, b, d⟩
        exact ⟨⟨a, b⟩, c, d⟩
theorem leaf_eq (t : List Nat) : leafL t = (leafP t).filter (fun ps => ps.all fun p => textL p.2) := by
  have key : ∀ ps, leafL t = some ps ↔ (leafP t).filter (fun ps => ps.all fun p => textL p.2) = some ps := by
    intro ps
    rw [filter_some]
    have hL : leafL t = some ps ↔ leafGo [] (cut 43 [] t) = some ps ∧ ps.length ≤ 4 := by
      unfold leafL
      cases leafGo [] (cut 43 [] t) with
      | none => simp
      | some qs =>
        show (if qs.length ≤ 4 then some qs else none) = some ps ↔ some qs = some ps ∧ _
        by_cases h : qs.length ≤ 4
        · rw [if_pos h]
          constructor
          · intro e
            exact ⟨e, by rw [← Option.some.inj e]; exact h⟩
          · intro e
            exact e.1
        · rw [if_neg h]
          constructor
          · intro e
            cases e
          · rintro ⟨e, l⟩
            rw [← Option.some.inj e] at l
            exact absurd l h
    have hP : leafP t = some ps ↔ (cut 43 [] t).length ≤ 4 ∧ (cut 43 [] t).map pairP = ps.map some ∧ (ps.map (·.1)).Nodup := by
      unfold leafP
      by_cases h : (cut 43 [] t).length > 4
      · rw [if_pos h]
        constructor
        · intro e
          cases e
        · rintro ⟨l, _⟩
          omega
      · rw [if_neg h]
        cases ha : all? ((cut 43 [] t).map pairP) with
        | none =>
          show none = some ps ↔ _
          constructor
          · intro e
            cases e
          · rintro ⟨_, e, _⟩
            rw [all_some.mpr e] at ha
            cases ha
        | some qs =>
          show (if (qs.map (·.1)).Nodup then some qs else none) = some ps ↔ _
          have hq := all_some.mp ha
          by_cases n : (qs.map (·.1)).Nodup
          · rw [if_pos n]
            constructor
            · intro e
              have e := Option.some.inj e
              subst e
              exact ⟨by omega, hq, n⟩
            · rintro ⟨_, e, _⟩
              rw [← all_some, ha] at e
              exact e
          · rw [if_neg n]
            constructor
            · intro e
              cases e
            · rintro ⟨_, e, n2⟩
              rw [← all_some, ha] at e
              have e := Option.some.inj e
              subst e
              exact absurd n2 n
    rw [hL, hP, go_is]
    constructor
    · rintro ⟨⟨qs, e, h, _, nd⟩, l⟩
      rw [List.nil_append] at e
      subst e
      have := pairs_eq.mp h
      have hl := congrArg List.length h
      rw [List.length_map, List.length_map] at hl
      exact ⟨⟨by omega, this.1, nd⟩, this.2⟩
    · rintro ⟨⟨l, h, nd⟩, ha⟩
      have hl := congrArg List.length h
      rw [List.length_map, List.length_map] at hl
      exact ⟨⟨ps, rfl, pairs_eq.mpr ⟨h, ha⟩, (fun q _ z => nomatch z), nd⟩, by omega⟩
  cases hl : leafL t with
  | none =>
    cases hp : (leafP t).filter (fun ps => ps.all fun p => textL p.2) with
    | none => rfl
    | some ps =>
      rw [(key ps).mpr hp] at hl
      cases hl
  | some ps => exact ((key ps).mp hl).symm
theorem leaves_eq : ∀ {ts : List (List Nat)} {qs : List (List (List Nat × List Nat))}, ts.map leafL = qs.map some ↔ ts.map leafP = qs.map some ∧ qs.all (fun ps => ps.all fun p => textL p.2) = true
  | [], qs => by
    cases qs with
    | nil => simp
    | cons _ _ => simp
  | t :: ts, qs => by
    cases qs with
    | nil => simp
    | cons q qs =>
      rw [List.map_cons, List.map_cons, List.map_cons, List.cons_eq_cons, List.cons_eq_cons, leaves_eq (ts := ts), leaf_eq, filter_some, List.all_cons, Bool.and_eq_true]
      constructor
      · rintro ⟨⟨a, b⟩, c, d⟩
        exact ⟨⟨a, c⟩, b, d⟩
      · rintro ⟨⟨a, c⟩, b, d⟩
        exact ⟨⟨a, b⟩, c, d⟩
theorem name_eq (t : List Nat) : nameL t = nameP t := by
  have key : ∀ ls, nameL t = some ls ↔ nameP t = some ls := by
    intro ls
    unfold nameL nameP
    by_cases h0 : t = []
    · rw [if_pos h0, if_pos h0]
      show (if ([] : List (List (List Nat × List Nat))).length > 12 then none else some []) = some ls ↔ _
      rw [if_neg (by simp)]
    · rw [if_neg h0, if_neg h0]
      have hL : (match all? ((cut 44 [] t).map leafL) with | none => none | some ls => if ls.length > 12 then none else some ls) = some ls ↔ (cut 44 [] t).map leafL = ls.map some ∧ ls.length ≤ 12 := by
        cases ha : all? ((cut 44 [] t).map leafL) with
        | none =>
          show none = some ls ↔ _
          constructor
          · intro e
            cases e
          · rintro ⟨e, _⟩
            rw [all_some.mpr e] at ha
            cases ha
        | some qs =>
          show (if qs.length > 12 then none else some qs) = some ls ↔ _
          rw [← all_some, ha]
          by_cases h : qs.length > 12
          · rw [if_pos h]
            constructor
            · intro e
              cases e
            · rintro ⟨e, l⟩
              rw [← Option.some.inj e] at l
              omega
          · rw [if_neg h]
            constructor
            · intro e
              exact ⟨e, by rw [← Option.some.inj e]; omega⟩
            · intro e
              exact e.1
      rw [hL, leaves_eq]
      by_cases hl : (cut 44 [] t).length > 12
      · rw [if_pos hl]
        constructor
        · rintro ⟨⟨e, _⟩, l⟩
          have := congrArg List.length e
          rw [List.length_map, List.length_map] at this
          omega
        · intro e
          cases e
      · rw [if_neg hl]
        cases ha : all? ((cut 44 [] t).map leafP) with
        | none =>
          show _ ↔ none = some ls
          constructor
          · rintro ⟨⟨e, _⟩, _⟩
            rw [all_some.mpr e] at ha
            cases ha
          · intro e
            cases e
        | some qs =>
          show _ ↔ (if (qs.all fun ps => ps.all fun p => textL p.2) = true then some qs else none) = some ls
          rw [← all_some, ha]
          have hq := congrArg List.length (all_some.mp ha)
          rw [List.length_map, List.length_map] at hq
          by_cases h : (qs.all fun ps => ps.all fun p => textL p.2) = true
          · rw [if_pos h]
            constructor
            · rintro ⟨⟨e, _⟩, _⟩
              exact e
            · intro e
              have e2 := Option.some.inj e
              subst e2
              exact ⟨⟨rfl, h⟩, by omega⟩
          · rw [if_neg h]
            constructor
            · rintro ⟨⟨e, h2⟩, _⟩
              have e2 := Option.some.inj e
              subst e2
              exact absurd h2 h
            · intro e
              cases e
  cases hl : nameL t with
  | none =>
    cases hp : nameP t with
    | none => rfl
    | some ps =>
      rw [(key ps).mpr hp] at hl
      cases hl
  | some ps => exact ((key ps).mp hl).symm
end Nm

namespace M
open PySem PyProof.Rows TL
/-! ### a text's normal form: word by word, and sign by sign -/
def lstep (acc : List Nat) (c : Nat) : List Nat := if c ≠ 32 ∨ (acc ≠ [] ∧ acc.getLast? ≠ some 32) then acc ++ [c] else acc
def lfin (acc : List Nat) : List Nat := if acc.getLast? = some 32 then acc.dropLast else acc
/-- the state behind whole words W and a begun one u -/
def lst (W : List (List Nat)) (u : List Nat) : List Nat := if u = [] then (if W = [] then [] else joinL [32] W ++ [32]) else joinL [32] (W ++ [u])
theorem joinL_snoc (S : List Nat) : ∀ (W : List (List Nat)) (u : List Nat), W ≠ [] → joinL S (W ++ [u]) = joinL S W ++ (S ++ u)
  | [], _, h => absurd rfl h
  | [p], u, _ => rfl
  | p :: q :: r, u, _ => by
    show p ++ (S ++ joinL S (q :: r ++ [u])) = p ++ (S ++ joinL S (q :: r)) ++ (S ++ u)
    rw [joinL_snoc S (q :: r) u (by simp)]
    simp only [List.append_assoc]
theorem joinL_last {W : List (List Nat)} {u v : List Nat} : joinL [32] (W ++ [u ++ v]) = joinL [32] (W ++ [u]) ++ v := by
  cases W with
  | nil => rfl
  | cons p r =>
    rw [joinL_snoc _ _ _ (by simp), joinL_snoc _ _ _ (by simp)]
    simp only [List.append_assoc]
theorem pre1 (c : Nat) (r : List Nat) : pre [32] (c :: r) = decide (c = 32) := by
  show ([c] == [32]) = decide (c = 32)
  by_cases h : c = 32
  · subst h
    rfl
  · rw [decide_eq_false h]
    simp [h]
theorem last_words {W : List (List Nat)} {u : List Nat} (hu : u ≠ []) (h : (32 : Nat) ∉ u) : (joinL [32] (W ++ [u])).getLast? ≠ some 32 := by
  have e : ∃ x, joinL [32] (W ++ [u]) = x ++ u := by
    cases W with
    | nil => exact ⟨[], rfl⟩
    | cons p r => exact ⟨joinL [32] (p :: r) ++ [32], by rw [joinL_snoc _ _ _ (by simp)]; simp only [List.append_assoc]⟩
  obtain ⟨x, e⟩ := e
  rw [e, List.getLast?_append]
  cases hl : u.getLast? with
  | none => exact absurd (List.getLast?_eq_none_iff.mp hl) hu
  | some y =>
    intro q
    have : y = 32 := by simpa using q
    subst this
    exact h (List.mem_of_getLast? hl)
theorem words_ne {W : List (List Nat)} {u : List Nat} (hu : u ≠ []) : joinL [32] (W ++ [u]) ≠ [] := by
  cases W with
  | nil => exact hu
  | cons p r =>
    rw [joinL_snoc _ _ _ (by simp)]
    simp
theorem low_words : ∀ (L : List Nat) (W : List (List Nat)) (u : List Nat), (32 : Nat) ∉ u → (∀ p ∈ W, p ≠ [] ∧ (32 : Nat) ∉ p) →
    lfin (L.foldl lstep (lst W u)) = joinL [32] (W ++ (spl [32] 0 u L).filter (fun p => decide (p ≠ [])))
  | [], W, u, hu, hW => by
    rw [spl_nil]
    show lfin (lst W u) = _
    by_cases e : u = []
    · subst e
      have e1 : List.filter (fun p : List Nat => decide (p ≠ [])) [[]] = [] := rfl
      rw [e1, List.append_nil]
      unfold lst
      rw [if_pos rfl]
      by_cases w : W = []
      · subst w
        rfl
      · rw [if_neg w]
        unfold lfin
        rw [if_pos (by simp), List.dropLast_concat]
    · have e1 : List.filter (fun p : List Nat => decide (p ≠ [])) [u] = [u] := by simp [e]
      rw [e1]
      unfold lst
      rw [if_neg e]
      unfold lfin
      rw [if_neg (last_words e hu)]
  | c :: r, W, u, hu, hW => by
    show lfin (r.foldl lstep (lstep (lst W u) c)) = _
    by_cases hc : c = 32
    · subst hc
      rw [spl_hit (by rw [pre1]; rfl)]
      by_cases e : u = []
      · subst e
        have e1 : lstep (lst W []) 32 = lst W [] := by
          unfold lstep
          refine if_neg ?_
          rintro (q | ⟨q1, q2⟩)
          · exact q rfl
          · unfold lst at q1 q2
            rw [if_pos rfl] at q1 q2
            by_cases w : W = []
            · rw [if_pos w] at q1
              exact q1 rfl
            · rw [if_neg w] at q2
              exact q2 (by simp)
        rw [e1, low_words r W [] (by simp) hW]
        rfl
      · have e1 : lstep (lst W u) 32 = lst (W ++ [u]) [] := by
          unfold lstep lst
          rw [if_neg e, if_pos rfl, if_neg (show ¬ W ++ [u] = [] by simp), if_pos]
          exact .inr ⟨words_ne e, last_words e hu⟩
        rw [e1, low_words r (W ++ [u]) [] (by simp) (fun p hp => by
          rcases List.mem_append.mp hp with hp | hp
          · exact hW p hp
          · rw [List.mem_singleton] at hp
            subst hp
            exact ⟨e, hu⟩)]
        have e2 : List.filter (fun p : List Nat => decide (p ≠ [])) (u :: spl [32] ([32].length - 1) [] r) = u :: List.filter (fun p : List Nat => decide (p ≠ [])) (spl [32] 0 [] r) := by
          rw [List.filter_cons, if_pos (by simp [e])]
          rfl
        rw [e2, List.append_assoc]
        rfl
    · rw [spl_miss (by rw [pre1, decide_eq_false hc])]
      have hu' : (32 : Nat) ∉ u ++ [c] := by
        intro q
        rcases List.mem_append.mp q with q | q
        · exact hu q
        · exact hc (List.mem_singleton.mp q).symm
      have e1 : lstep (lst W u) c = lst W (u ++ [c]) := by
        unfold lstep
        rw [if_pos (.inl hc)]
        unfold lst
        rw [if_neg (show ¬ u ++ [c] = [] by simp)]
        by_cases e : u = []
        · subst e
          rw [if_pos rfl]
          by_cases w : W = []
          · subst w
            rfl
          · rw [if_neg w]
            show _ = joinL [32] (W ++ [[c]])
            rw [joinL_snoc _ _ _ w]
            simp only [List.append_assoc]
        · rw [if_neg e, joinL_last]
      rw [e1, low_words r W (u ++ [c]) hu' hW]
/-! ### the program's form -/
def foldS (v : Str) : Str := Txt.join (" " : Str) ((Txt.split (Txt.lower v) (" " : Str)).filter fun (p : Str) => !decide (p = ("" : Str)))
def lowL (l : List Nat) : List Nat := lfin ((l.map lo1).foldl lstep [])
theorem space_tl : tl (" " : Str) = [32] := by decide +kernel
theorem empty_tl : tl ("" : Str) = [] := by decide +kernel
theorem is_empty (p : Str) : (!decide (p = ("" : Str))) = decide (tl p ≠ []) := by
  by_cases h : p = ("" : Str)
  · subst h
    decide +kernel
  · rw [decide_eq_false h]
    have : tl p ≠ [] := fun e => h (ext_tl (e.trans empty_tl.symm))
    simp [this]
theorem filter_tl : ∀ l : List Str, (l.filter fun (p : Str) => !decide (p = ("" : Str))).map tl = (l.map tl).filter fun p => decide (p ≠ [])
  | [] => rfl
  | p :: r => by
    rw [List.map_cons, List.filter_cons, List.filter_cons, is_empty p]
    by_cases h : tl p ≠ []
    · rw [if_pos (by simpa using h), if_pos (by simpa using h), List.map_cons, filter_tl r]
    · rw [if_neg (by simpa using h), if_neg (by simpa using h), filter_tl r]
theorem fold_is {v : Str} (ha : ∀ c ∈ tl v, c < 128) : tl (foldS v) = lowL (tl v) := by
  unfold foldS
  rw [join_eq, tl_join, filter_tl, split_spl _ _ (by rw [space_tl]; simp) (kind_ok (by decide +kernel)), space_tl]
  have e : tl (Txt.lower v) = (tl v).map lo1 := by
    rw [lower_ascii ha]
    simp [tl]
  rw [e]
  exact (low_words ((tl v).map lo1) [] [] (by simp) (fun p hp => nomatch hp)).symm
theorem spl_size (S : List Nat) : ∀ (L : List Nat) (k : Nat) (acc : List Nat), ((spl S k acc L).map List.length).sum ≤ acc.length + L.length ∧ (spl S k acc L).length ≤ L.length + 1
  | [], k, acc => by
    rw [spl_nil]
    simp
  | c :: r, 0, acc => by
    by_cases h : pre S (c :: r) = true
    · rw [spl_hit h]
      have ih := spl_size S r (S.length - 1) []
      simp only [List.map_cons, List.sum_cons, List.length_cons, List.length_nil] at ih ⊢
      omega
    · rw [spl_miss (by simpa using h)]
      have ih := spl_size S r 0 (acc ++ [c])
      simp only [List.length_append, List.length_cons, List.length_nil] at ih ⊢
      omega
  | c :: r, k + 1, acc => by
    have ih := spl_size S r k acc
    show ((spl S k acc r).map List.length).sum ≤ _ ∧ (spl S k acc r).length ≤ _
    simp only [List.length_cons]
    omega
theorem sum_filter {α : Type} (f : α → Bool) (g : α → Nat) : ∀ l : List α, ((l.filter f).map g).sum ≤ (l.map g).sum
  | [] => Nat.le_refl _
  | a :: r => by
    have ih := sum_filter f g r
    rw [List.filter_cons]
    split
    · simp only [List.map_cons, List.sum_cons]
      omega
    · simp only [List.map_cons, List.sum_cons]
      omega
theorem len_lower {v : Str} (ha : ∀ c ∈ tl v, c < 128) : (Txt.lower v).length = v.length := by
  rw [lower_ascii ha, len_tl, len_tl]
  simp [tl]
theorem split_size {v : Str} (ha : ∀ c ∈ tl v, c < 128) : ((Txt.split (Txt.lower v) (" " : Str)).map (·.length)).sum ≤ v.length ∧ (Txt.split (Txt.lower v) (" " : Str)).length ≤ v.length + 1 := by
  have e := split_spl (Txt.lower v) (" " : Str) (by rw [space_tl]; simp) (kind_ok (by decide +kernel))
  have h := spl_size (tl (" " : Str)) (tl (Txt.lower v)) 0 []
  rw [← e] at h
  rw [← len_tl, len_lower ha] at h
  have e2 : ((Txt.split (Txt.lower v) (" " : Str)).map tl).map List.length = (Txt.split (Txt.lower v) (" " : Str)).map (·.length) := by
    rw [List.map_map]
    refine List.map_congr_left fun x _ => ?_
    exact (len_tl x).symm
  rw [e2, List.length_map] at h
  simp only [List.length_nil] at h
  omega
end M

/-! A call by keywords alone. -/
namespace Kw0
open PySem PySem.Spec PyProof.Rows L2
theorem kbn {K : PySem.W.Frag} {x qual : Str} {st : Stmt} {f : Addr} {fd : FuncData} {ps ks : List Str} {n : Nat} (F : Fun K x qual st f fd) {g : List Value → List Value → List Value} {gV : List V → List V → List V}
    (rel : ∀ {vs : List V} {us : List Value} {zs : List V} {ws : List Value}, Vals vs us → Vals zs ws → Vals (gV vs zs) (g us ws))
    (h : ∀ (kV doc pm : Value) (an : Option Addr) (cdv ct : Value) (us ws : List Value), us.length = n → ws.length = ks.length →
      bindArgs (PySem.W.fnOf x qual (defArgs st) (defBody st) (defScope st) .none kV doc pm an cdv ct) ⟨us, ks.zip ws⟩ = pure (ps.zip (g us ws))) : KBn K fd ps n ks g gV := by
  obtain ⟨oc, od, kV, doc, pm, an, cdv, ct, osl, rfl, lk, hcd⟩ := F.ex
  exact ⟨fun s us ws _ l1 l2 => .of_eq (h kV doc pm an cdv ct us ws l1 l2), rel⟩
/-- the two of a call, as written, or the other way about -/
def two {α : Type} (o : Bool) : List α → List α
  | [a, b] => if o then [b, a] else [a, b]
  | l => l
theorem two_rel (o : Bool) {zs : List V} {ws : List Value} (r : Vals zs ws) : Vals (two o zs) (two o ws) := by
  cases r with
  | nil => exact .nil
  | cons r1 r =>
    cases r with
    | nil => exact .cons r1 .nil
    | cons r2 r =>
      cases r with
      | nil => cases o <;> first | exact .cons r1 (.cons r2 .nil) | exact .cons r2 (.cons r1 .nil)
      | cons r3 r => exact .cons r1 (.cons r2 (.cons r3 r))
theorem kb2 {K : PySem.W.Frag} {x qual : Str} {st : Stmt} {f : Addr} {fd : FuncData} {ps : List Str} {k1 k2 : Str} (o : Bool) (F : Fun K x qual st f fd)
    (h : ∀ (kV doc pm : Value) (an : Option Addr) (cdv ct a b : Value),
      bindArgs (PySem.W.fnOf x qual (defArgs st) (defBody st) (defScope st) .none kV doc pm an cdv ct) ⟨[], [k1, k2].zip [a, b]⟩ = pure (ps.zip (two o [a, b]))) : KBn K fd ps 0 [k1, k2] (fun _ ws => two o ws) (fun _ zs => two o zs) := by
  refine kbn F (fun _ r => two_rel o r) fun kV doc pm an cdv ct us ws l1 l2 => ?_
  match us, ws, l1, l2 with
  | [], [a, b], _, _ => exact h kV doc pm an cdv ct a b
section
variable {X : Cx} {CX : CXT} {k : Nat} {f : Addr} {fd : FuncData} {ps ks : List Str} {sp : Sp} {E : XK} {x : Str} {p pos : Pos} {kws : List Keyword} {tk : TA} {g : List Value → List Value → List Value} {gV : List V → List V → List V}
theorem pe_callN0 (F : FnOk X.prog X.w X.K X.mg X.base CX k f fd ps sp) (hr : Room k X.A) (hg : Gl X x) (hm : X.mg x = some (.ref f)) (hk : PySem.W.keepIn X.K (.ref f) = true) (hb : KBn X.K fd ps 0 ks g gV) (hx : Passes CX X E)
    (hkw : PK X kws tk) (hall : (backToKw pos (keywordEach kws X.env)).all (·.1.isSome) = true := by rfl) (hks : (backToKw pos (keywordEach kws X.env)).filterMap (·.1) = ks := by rfl)
    (hdb : (x == ("__debug__" : Str)) = false := by decide)
    (hpl : ((backTo pos (starEach [] X.env)).any (·.1) || (backToKw pos (keywordEach kws X.env)).any (·.1.isNone)) = false := by rfl) :
    PE X (.Call (.Name x p) [] kws pos) (tCallN 0 ks.length sp gV E tNil tk) := by
  refine ⟨fun pins s σ H Q I h => ?_⟩
  refine wpAny_Call_Name_kw (ld_glob I hg hm ?_ hdb)
  refine PySem.W.callWith_KW0 (h₀ := X.base) I.ok.mod.kin hk hall ?_ hpl
  refine thn (hkw.run pos pins s σ H _ I h) fun ws s2 ⟨zs, H2, I2, rz, l1, l2, q2⟩ => ⟨I2.kIn, ?_⟩
  rw [hks]
  exact run_fnN F hr hb hx I2 .nil rz l1 l2 q2
end
end Kw0

/-! Calls by one or three keywords alone; either of two rules for one operator; bools added. -/
namespace Kw0
open PySem PySem.Spec PyProof.Rows L2
theorem op_or {X : Cx} {f : Value → Value → Sem Value} {r1 r2 : R2} (h1 : OpR X f r1) (h2 : OpR X f r2) : OpR X f (fun x y H Q => r1 x y H Q ∨ r2 x y H Q) := by
  intro pins s σ H x y v u Q I rx ry h
  rcases h with h | h
  · exact h1 pins s σ H x y v u Q I rx ry h
  · exact h2 pins s σ H x y v u Q I rx ry h
theorem op_add_bb {X : Cx} : OpR X (binaryOp .Add) (fun x y H Q => ∃ j k, x = .bl j ∧ y = .bl k ∧ Q (.int (b2i j + b2i k)) H) := by
  intro pins s σ H x y v u Q I rx ry h
  obtain ⟨j, k, rfl, rfl, q⟩ := h
  cases rx
  cases ry
  exact add_bool ⟨.int (b2i j + b2i k), H, I.tok _, ⟨_, rfl⟩, q⟩
theorem kb1 {K : PySem.W.Frag} {x qual : Str} {st : Stmt} {f : Addr} {fd : FuncData} {ps : List Str} {k1 : Str} (F : Fun K x qual st f fd)
    (h : ∀ (kV doc pm : Value) (an : Option Addr) (cdv ct a : Value),
      bindArgs (PySem.W.fnOf x qual (defArgs st) (defBody st) (defScope st) .none kV doc pm an cdv ct) ⟨[], [k1].zip [a]⟩ = pure (ps.zip [a])) : KBn K fd ps 0 [k1] (fun _ ws => ws) (fun _ zs => zs) := by
  refine kbn F (fun _ r => r) fun kV doc pm an cdv ct us ws l1 l2 => ?_
  match us, ws, l1, l2 with
  | [], [a], _, _ => exact h kV doc pm an cdv ct a
def rev3 {α : Type} : List α → List α
  | [a, b, c] => [c, b, a]
  | l => l
theorem rev3_rel {zs : List V} {ws : List Value} (r : Vals zs ws) : Vals (rev3 zs) (rev3 ws) := by
  cases r with
  | nil => exact .nil
  | cons r1 r =>
    cases r with
    | nil => exact .cons r1 .nil
    | cons r2 r =>
      cases r with
      | nil => exact .cons r1 (.cons r2 .nil)
      | cons r3 r =>
        cases r with
        | nil => exact .cons r3 (.cons r2 (.cons r1 .nil))
        | cons r4 r => exact .cons r1 (.cons r2 (.cons r3 (.cons r4 r)))
theorem kb3r {K : PySem.W.Frag} {x qual : Str} {st : Stmt} {f : Addr} {fd : FuncData} {ps : List Str} {k1 k2 k3 : Str} (F : Fun K x qual st f fd)
    (h : ∀ (kV doc pm : Value) (an : Option Addr) (cdv ct a b c : Value),
      bindArgs (PySem.W.fnOf x qual (defArgs st) (defBody st) (defScope st) .none kV doc pm an cdv ct) ⟨[], [k1, k2, k3].zip [a, b, c]⟩ = pure (ps.zip [c, b, a])) : KBn K fd ps 0 [k1, k2, k3] (fun _ ws => rev3 ws) (fun _ zs => rev3 zs) := by
  refine kbn F (fun _ r => rev3_rel r) fun kV doc pm an cdv ct us ws l1 l2 => ?_
  match us, ws, l1, l2 with
  | [], [a, b, c], _, _ => exact h kV doc pm an cdv ct a b c
theorem kbm1 {K : PySem.W.Frag} {x qual : Str} {st : Stmt} {f : Addr} {fd : FuncData} {ps : List Str} {k1 : Str} (F : Fun K x qual st f fd)
    (h : ∀ (kV doc pm : Value) (an : Option Addr) (cdv ct a b : Value),
      bindArgs (PySem.W.fnOf x qual (defArgs st) (defBody st) (defScope st) .none kV doc pm an cdv ct) ⟨[a], [k1].zip [b]⟩ = pure (ps.zip [a, b])) : KBn K fd ps 1 [k1] (fun us ws => us ++ ws) (fun vs zs => vs ++ zs) := by
  refine kbn F (fun r1 r2 => r1.append r2) fun kV doc pm an cdv ct us ws l1 l2 => ?_
  match us, ws, l1, l2 with
  | [a], [b], _, _ => exact h kV doc pm an cdv ct a b
/-- a method's two keywords, as written in the def -/
theorem kbm2 {K : PySem.W.Frag} {x qual : Str} {st : Stmt} {f : Addr} {fd : FuncData} {ps : List Str} {k1 k2 : Str} (F : Fun K x qual st f fd)
    (h : ∀ (kV doc pm : Value) (an : Option Addr) (cdv ct a b c : Value),
      bindArgs (PySem.W.fnOf x qual (defArgs st) (defBody st) (defScope st) .none kV doc pm an cdv ct) ⟨[a], [k1, k2].zip [b, c]⟩ = pure (ps.zip [a, b, c])) : KBn K fd ps 1 [k1, k2] (fun us ws => us ++ ws) (fun vs zs => vs ++ zs) := by
  refine kbn F (fun r1 r2 => r1.append r2) fun kV doc pm an cdv ct us ws l1 l2 => ?_
  match us, ws, l1, l2 with
  | [a], [b, c], _, _ => exact h kV doc pm an cdv ct a b c
end Kw0

/-! A def with a star parameter by its place in the text; a local name that holds a class, called. -/
namespace Clx
open PySem PySem.Spec PyProof.Rows L2
section
variable {P : Program} {w : World} {K : PySem.W.Frag} {mg : Str → Option Value} {base : Heap}
def StarB (fd : FuncData) (ps : List Str) (pv : Str) : Prop := ∀ us rest : List Value, us.length = ps.length → bindArgs fd ⟨us ++ rest, []⟩ = (newTuple rest >>= fun t => pure (ps.zip us ++ [(pv, t)]))
theorem starB1 {fd : FuncData} {p1 pv : Str} (h0 : ∀ a, bindArgs fd ⟨[a], []⟩ = (newTuple [] >>= fun t => pure [(p1, a), (pv, t)])) (h1 : ∀ a r rs, bindArgs fd ⟨a :: r :: rs, []⟩ = (newTuple (r :: rs) >>= fun t => pure [(p1, a), (pv, t)])) : StarB fd [p1] pv :=
  fun us rest hl => StX.bind_star1 (B := fun z => bindArgs fd ⟨z, []⟩) h0 h1 us rest hl
def spStar (ps : List Str) (sp : Sp) : Sp := fun vs H Q E => ∃ ws rest, vs = ws ++ rest ∧ ws.length = ps.length ∧ rest.length ≤ sizeLine ∧ ∀ p, H p = Option.none → sp (ws ++ [V.ref p]) (upd H p (.tup rest)) Q E
theorem fun_star {x qual : Str} {st : Stmt} {f : Addr} {fd : FuncData} {N ps : List Str} {pv : Str} {k : Nat} {sp : Sp} (F : Fun K x qual st f fd) (hb : StarB fd ps pv) (S : FnScope N (ps ++ [pv]) (defScope st))
    (hbody : ∀ (cdv : Value) (A : Around) (outer : List Env) (s : Shared) (H : Hp) (vs : List V) (Q : VK) (E : XK), Room k (A.deeper (envOfC qual (defScope st) s.heap.objs.size f cdv)) → sp vs H Q E →
      ∃ t, PSs (cxOf CX0 P w K mg base N qual (defScope st) f cdv A outer s H E).nox (defBody st) t ∧ t { nx := fun _ H' => Q .non H', rt := Q } (start N vs) H) : FnR P w K mg base CX0 (k + 1) f (spStar ps sp) := by
  obtain ⟨oc, od, kV, doc, pm, an, cdv, ct, osl, rfl, lk, hcd⟩ := F.ex
  refine StX.fn_star (sp := sp) lk hcd S StX.cxUp_none hb fun A outer s H vs Q E hr hsp => ?_
  obtain ⟨t, h, q⟩ := hbody cdv A outer s H vs Q E hr hsp
  exact ⟨t, h.nox, q⟩
end
/-- x(..), x a local name that holds the class at C -/
def tMakeL (i : Nat) (C : Addr) (sp : Sp) (dvs : List V) (E : XK) (t : TA) : TE := fun σ H Q => σ[i]? = some (some (.ref C)) ∧ tMake C sp dvs E t σ H Q
section
variable {X : Cx} {CX : CXT} {k i : Nat} {f C : Addr} {fd : FuncData} {ps : List Str} {sp : Sp} {dvs : List V} {ds : List Value} {E : XK} {x : Str} {p pos : Pos} {e : Expr} {es : List Expr} {t : TA}
theorem pe_makeL (M : Mk X.K C f) (F : FnOk X.prog X.w X.K X.mg X.base CX k f fd ps sp) (hr : Room (k + 1) X.A) (hN : X.N[i]? = some x) (hv : Vis X.env.scope x) (hb : Binds X.K fd ps ds) (hd : Vals dvs ds) (hx : Passes CX X E) (ha : PA X (e :: es) t)
    (hdb : (x == ("__debug__" : Str)) = false := by decide) (hcd : (x == ("__classdict__" : Str)) = false := by decide)
    (he : starEach (e :: es) X.env = (false, eval e X.env) :: starEach es X.env := by rfl) (hpl : (backTo pos (starEach es X.env)).any (·.1) = false := by rfl) : PE X (.Call (.Name x p) (e :: es) [] pos) (tMakeL i C sp dvs E t) := by
  refine ⟨fun pins s σ H Q I h => ?_⟩
  obtain ⟨hs, ht⟩ := h
  refine wpAny_Call_Name_kw (thn ((pe_var (pos := p) hN hv hdb hcd).run pins s σ H (fun v H1 => v = .ref C ∧ H1 = H) I ⟨.ref C, hs, rfl, rfl⟩) fun u s1 ⟨v, H1, I1, r1, q1⟩ => ?_)
  obtain ⟨rfl, rfl⟩ := q1
  cases r1
  refine PySem.W.callWith_K (h₀ := X.base) I.ok.mod.kin M.kp (thn (ha.run pos pins s1 σ _ _ I1 ht) fun us s2 ⟨vs, H2, I2, r, q⟩ => ⟨I2.kIn, ?_⟩) he hpl
  exact run_make M F hr hb hd hx I2 r q
end
end Clx

/-! An own exception that is kept behind its except suite; making, calling methods where what is raised is wished for at the slots. -/
namespace Exk
open PySem PySem.Spec PyProof.Rows L2
/-- at a: an exception of the class cls with its own dict d -/
def exv (a : Addr) (cls : Value) (d : Option Addr) : HO := .ext fun h => ∃ (oe : Obj) (vs : Array Value), h.get? a = some oe ∧ Zc cls d oe ∧ oe.data = .fields vs
theorem exv_ok {P : Program} {w : World} {H : Hp} {h : Heap} {a : Addr} {cls : Value} {d : Option Addr} {oe : Obj} {vs : Array Value} (e : h.get? a = some oe) (z : Zc cls d oe) (hd : oe.data = .fields vs) : ObjOk P w H h a (exv a cls d) :=
  ⟨⟨oe, vs, e, z, hd⟩, ⟨_, e⟩, fun h1 h2 ⟨o, v, e1, z1, d1⟩ k => ⟨o, v, k _ e1, z1, d1⟩⟩
theorem exv_at {P : Program} {w : World} {H : Hp} {h : Heap} {a : Addr} {cls : Value} {d : Option Addr} (hok : HOk P w H h) (e : H a = some (exv a cls d)) : ∃ (oe : Obj) (vs : Array Value), h.get? a = some oe ∧ Zc cls d oe ∧ oe.data = .fields vs := by
  have x : ObjOk P w H h a (.ext fun h => ∃ (oe : Obj) (vs : Array Value), h.get? a = some oe ∧ Zc cls d oe ∧ oe.data = .fields vs) := hok a _ e
  exact x.1
section
variable {X : Cx} {pins : List (Addr × Obj)} {σ : L2.St} {H : Hp} {sI s' : Shared} {B : Heap}
theorem landedE (I : Inv X pins σ H sI) (nb : ∀ b o, sI.heap.get? b = some o → b ∉ frs X.stack → B.get? b = some o) (st : B.StaysIn s'.heap) (up : sI.heap.UpToSlots s'.heap) (os : s'.os = sI.os) (ag : AllBare s'.gens)
    {a : Addr} {cls : Value} {d : Option Addr} {oe : Obj} {vs : Array Value} (ha : sI.heap.get? a = none) (na : H a = none) (he : s'.heap.get? a = some oe) (hz : Zc cls d oe) (hd : oe.data = .fields vs) : Inv X pins σ (upd H a (exv a cls d)) s' := by
  have nf : ∀ b ∈ frs X.stack, ∀ o, sI.heap.get? b = some o → ∃ sl, s'.heap.get? b = some { o with slots := sl } := fun b hb o e => by
    obtain ⟨_, o', e', hd⟩ := I.stack.mem hb
    rw [e] at e'; cases e'
    exact up b o e hd
  have ne : ∀ {b : Addr} {o : Obj}, sI.heap.get? b = some o → b ≠ a := fun {b o} e z => by
    rw [z, ha] at e; cases e
  have neH : ∀ {b : Addr} {o : HO}, H b = some o → b ≠ a := fun {b o} e z => by
    rw [z, na] at e; cases e
  have hok' : HOk X.prog X.w (upd H a (exv a cls d)) s'.heap := fun b o q => by
    by_cases hb : b = a
    · subst hb
      rw [upd_same] at q
      cases q
      exact exv_ok he hz hd
    · rw [upd_ne hb] at q
      exact ((I.inGround nb).kept st b o q).stay (fun _ _ _ z => z) (fun c hc => by rw [upd_ne (neH hc)]; exact hc) fun c xs hc => by rw [upd_ne (neH hc)]; exact hc
  have J := I.call (ch := []) (h' := s'.heap) (g' := s'.gens) (t' := s'.toks) (d' := s'.drawn) (H' := upd H a (exv a cls d))
    ⟨fun b o e _ hb _ => st b o (nb b o e hb), fun b o e _ hb _ => nf b hb o e, fun b o e n _ => by rw [upd_ne (ne e)]; exact n, fun b o e _ => by
      by_cases hb : b ∈ frs X.stack
      · obtain ⟨sl, q⟩ := nf b hb o e
        exact ⟨_, q⟩
      · exact ⟨o, st b o (nb b o e hb)⟩, fun b xs e => by rw [upd_ne (neH e)]; exact e, fun b o u e => by rw [upd_ne (neH e)]; exact e, fun b ps e => ⟨#[], by rw [upd_ne (neH e), e]; simp⟩⟩
    hok' ag (fun _ z => nomatch z)
  obtain ⟨a1, a2, a3, a4, a5⟩ := s'
  have e5 : a5 = sI.os := os
  subst e5
  exact J
theorem suite_in {s : Shared} (I : Inv X pins σ H s) (a : Addr) : Inv (X.suite a (X.pn ++ pins)) [] σ H s :=
  ⟨I.ok.suite _ _, I.os, I.bare, I.base, I.loc, I.cell, I.free, I.freeC, fun p hp => I.pin p (by rw [List.append_nil] at hp; exact hp), I.hok, I.len⟩
theorem suite_out {s : Shared} {a : Addr} {pn' : List (Addr × Obj)} (I : Inv (X.suite a (X.pn ++ pins)) pn' σ H s) (ok : X.Ok) : Inv X pins σ H s :=
  ⟨ok, I.os, I.bare, I.base, I.loc, I.cell, I.free, I.freeC, fun p hp => I.pin p (List.mem_append_left _ hp), I.hok, I.len⟩
end
/-- whether an exception of the class c is what 'except S' names, S an own class -/
theorem exm_is {K : PySem.W.Frag} {c : Value} {S : Addr} {b : Bool} (hb : PySem.W.subIn K (.ref S) (.type "BaseException") = some true) (hc : PySem.W.isClsIn K S = true) (ht : PySem.W.typeIn K (.ref S) = some (.type "type")) (hs : PySem.W.subIn K c (.ref S) = some b) :
    PySem.W.exmOne K c (.ref S) = some b := by
  have hc2 : (PySem.W.clsIn K S).isSome = true := hc
  unfold PySem.W.exmOne
  rw [if_pos (by rw [hb] <;> rfl)]
  unfold PySem.W.kitCls
  simp only [hc2, ht, Bool.true_and, hs]
  first
    | rfl
    | exact if_pos (by decide)
    | simp
/-- what the clause 'except x as n' wishes of an exception of the body, the exception kept -/
def wKeep (K : PySem.W.Frag) (c : Value) (i : Nat) (ts : TS) (Wout : WX) (D : Ends) : WX := fun cls d σ H =>
  ∃ b, PySem.W.exmOne K cls c = some b ∧ (b = true → ∀ a, H a = none → ts { nx := fun σ' H' => D.nx (σ'.set i none) H', rt := D.rt, bk := fun σ' H' => D.bk (σ'.set i none) H', ct := fun σ' H' => D.ct (σ'.set i none) H' } (σ.set i (some (.ref a))) (upd H a (exv a cls d))) ∧
    (b = false → Wout cls d σ H)
section
variable {X : Cx} {x n : Str} {c : Value} {i : Nat} {body suite : List Stmt} {b₀ : Stmt} {np pos pos' : Pos} {tb : WX → TS} {ts : TS} {Wout : WX}
theorem ps_try_keep (hs : X.stack = X.env :: X.outer) (hf : X.env.frame = some X.env.locals) (hN : X.N.Nodup) (hi : X.N[i]? = some n) (hln : X.env.kindOf n = some .local) (hc : Names X x c) (tk : Takes X Wout)
    (hb : ∀ (W : WX) (pn : List (Addr × Obj)) (xe : Value → Shared → Prop), Takes (X.tr pn xe) W → PassesOwn (model X.prog X.w) X.A X.env xe → PSs (X.tr pn xe) body (tb W))
    (hsu : ∀ (a : Addr) (pn : List (Addr × Obj)), PSs (X.suite a pn) (b₀ :: suite) ts) :
    PS X (.Try body [.ExceptHandler (some (.Name x np)) (some n) (b₀ :: suite) pos'] [] [] pos) (fun D σ H => tb (wKeep X.K c i ts Wout D) D σ H) := by
  refine ⟨fun pins s σ H D I h => ?_⟩
  have ok := I.ok
  have hfr : X.A.frames = some (X.env :: X.outer) := by rw [ok.frames, hs]
  have hloc : Loc X.env.scope n := .inl hln
  refine wpAny_Try_except ?_
  refine wpAny_mono ((hb (wKeep X.K c i ts Wout D) (X.pn ++ pins) (fun e s₁ => wpAny (model X.prog X.w) X.A (noteFrame e X.env) (fun _ s₂ => wpAny (model X.prog X.w) X.A (setFlight e none) (fun _ s₃ =>
    wpAny (model X.prog X.w) X.A (handleBy e X.env [.ExceptHandler (some (.Name x np)) (some n) (b₀ :: suite) pos']) (SP X pins D) X.xe s₃) X.xe s₂) X.xe s₁) (fun u s' xx => ?_) PassesOwn.looking).run [] s σ H D (I.toTry _) h) (fun f s1 hsp => ?_) (fun e s1 he => he)
  · -- the catch
    obtain ⟨a, B, sI, pins', σ', H', cls, d, rfl, J', nb, up, sky, na, os, ag, b, hb1, hyes, hno⟩ := xx
    have J : Inv X pins σ' H' sI := J'.ofTry ok
    have sky' : Sky B (X.env :: X.outer) a (Zc cls d) X.env.locals s'.heap := by rw [← hs]; exact sky
    show wpAny (model X.prog X.w) X.A (noteFrame (.ref a) X.env) _ _ _
    refine Sky.land Zc.steady hfr hf sky' fun h3 fl3 up3 => ?_
    have J3 : Inv X pins σ' H' { s' with heap := h3 } := J.landed nb fl3.1 (up.trans up3) os ag
    obtain ⟨oe3, vs3, he3, hz3, hd3⟩ := fl3.there
    have notFr : ∀ {h : Heap} {o : Obj} {vs : Array Value}, h.FunFrames B (X.env :: X.outer) → h.get? a = some o → o.data = .fields vs → a ∉ frs (X.env :: X.outer) := fun {h o vs} ff e dd hm => by
      obtain ⟨_, o', e', hnf⟩ := ff.mem hm
      rw [e] at e'; cases e'
      exact hnf _ dd
    have nfr := notFr fl3.2.2.1 he3 hd3
    have nB : B.get? a = none := fl3.2.1
    have nI : sI.heap.get? a = none := by
      cases e : sI.heap.get? a with
      | none => rfl
      | some o =>
        have := nb a o e (by rw [hs]; exact nfr)
        rw [nB] at this
        cases this
    have nL : a ≠ X.env.locals := fun z => nfr (List.mem_filterMap.mpr ⟨X.env, List.mem_cons_self, by rw [hf, z]⟩)
    have nF : a ∉ X.fs := fun hm => by
      obtain ⟨e, he, q⟩ := List.mem_filterMap.mp hm
      exact nfr (List.mem_filterMap.mpr ⟨e, List.mem_cons_of_mem _ he, q⟩)
    have S3 := J3.suite he3 hd3 na nL nF
    refine wpAny_handleBy_cons (codeAny_handlers_test ?_) (by intro q; cases q)
    have LT : PySem.W.Looks (model X.prog X.w) h3 (typeOf (.ref a)) cls := fun A Q E s k q => wpAny_typeOf_ref (k _ _ he3) (by rw [hz3.1]; exact q)
    have LM := PySem.W.exm_one (M := model X.prog X.w) (J3.kIn) LT hb1
    have test : ∀ {Q : Value → Shared → Prop} {E : Value → Shared → Prop}, Q c { s' with heap := h3 } → wpAny (model X.prog X.w) (X.A.mark (some (.ref a))) (eval (.Name x np) X.env) Q E { s' with heap := h3 } := fun {Q E} q => by
      obtain ⟨hg, hdbg, hm | ⟨hm, hv, hnn⟩⟩ := hc
      · exact ld_glob (X := X.suite a ((a, oe3) :: (X.pn ++ pins))) S3 hg hm q hdbg
      · exact ld_blt (X := X.suite a ((a, oe3) :: (X.pn ++ pins))) S3 hg hm hv q hnn hdbg
    refine test (LM.here ?_)
    cases b with
    | true =>
      refine codeAny_handlers_suite_as ?_
      refine HandSPX.lands_againZ fl3 fun h4 fl4 up4 => ?_
      obtain ⟨oe4, vs4, he4, hz4, hd4⟩ := fl4.there
      have J4 : Inv X pins σ' (upd H' a (exv a cls d)) { s' with heap := h4 } := landedE (s' := { s' with heap := h4 }) J nb fl4.1 ((up.trans up3).trans up4) os ag nI na he4 hz4 hd4
      have S4 := suite_in J4 a
      refine store_ok (X := X.suite a (X.pn ++ pins)) (v := .ref a) S4 hN hi hloc rfl (fun s5 S5 => ?_) (.inr hln)
      refine wpAny_mono ((hsu a (X.pn ++ pins)).run [] s5 _ _ _ S5 (hyes rfl a na)) (fun f s6 hsp => ?_) (fun _ _ z => False.elim z)
      have end_ : ∀ {σ6 : L2.St} {H6 : Hp} {Q : Shared → Prop}, Inv (X.suite a (X.pn ++ pins)) [] σ6 H6 s6 → (∀ s7, Inv X pins (σ6.set i none) H6 s7 → Q s7) →
          wpAny (model X.prog X.w) X.A (do bindName X.env n .none; unbindBehindTheSuite X.env n pos') (fun _ s7 => Q s7) X.xe s6 := fun {σ6 H6 Q} S6 hq => gone_ok (suite_out S6 ok) hN hi hln hq
      cases f with
      | next =>
        obtain ⟨σ6, H6, S6, q6⟩ := hsp
        exact end_ S6 fun s7 J7 => ⟨_, _, J7, q6⟩
      | brk =>
        obtain ⟨σ6, H6, S6, q6⟩ := hsp
        exact end_ S6 fun s7 J7 => ⟨_, _, J7, q6⟩
      | cont =>
        obtain ⟨σ6, H6, S6, q6⟩ := hsp
        exact end_ S6 fun s7 J7 => ⟨_, _, J7, q6⟩
      | ret u =>
        obtain ⟨v6, σ6, H6, S6, r6, q6⟩ := hsp
        exact end_ S6 fun s7 J7 => ⟨_, _, _, J7, r6, q6⟩
    | false =>
      show wpAny _ X.A (handleBy (.ref a) X.env []) _ _ _
      refine wpAny_handleBy_nil ?_
      obtain ⟨k1, k2, k3, oe, vs, T, oT, ts', he, hz, hd, h1, hr⟩ := id fl3
      unfold PySem.passOn
      refine wpAny_bind (wpAny_field he hd h1 ?_)
      rw [if_neg (show ¬ ((Value.ref T == Value.none) = true) from by simp)]
      have fin : wpAny (model X.prog X.w) X.A (setFlight (.ref a) X.env.frame) (fun _ s4 => wpAny (model X.prog X.w) X.A (throw (.ref a) : Sem Flow) (SP X pins D) X.xe s4) X.xe { s' with heap := h3 } := by
        rw [hf]
        refine HandSPX.setFlight_upZ fl3 fun h4 hh4 up4 => wpAny_throw (tk _ _ ?_)
        exact ⟨a, B, sI, pins, σ', H', cls, d, rfl, J, nb, (up.trans up3).trans up4, .inr (.inr (by rw [hs]; exact hh4)), na, os, ag, hno rfl⟩
      first
        | exact wpAny_bind (wpAny_pure (wpAny_bind fin))
        | exact wpAny_bind fin
  · cases f with
    | next =>
      obtain ⟨σ1, H1, J1, q1⟩ := hsp
      exact wpAny_execs_nil ⟨_, _, J1.ofTry ok, q1⟩
    | brk =>
      obtain ⟨σ1, H1, J1, q1⟩ := hsp
      exact ⟨_, _, J1.ofTry ok, q1⟩
    | cont =>
      obtain ⟨σ1, H1, J1, q1⟩ := hsp
      exact ⟨_, _, J1.ofTry ok, q1⟩
    | ret u =>
      obtain ⟨v1, σ1, H1, J1, r1, q1⟩ := hsp
      exact ⟨_, _, _, J1.ofTry ok, r1, q1⟩
end
/-- e.f, e a kept exception of the class at C -/
def tXv (C : Addr) (f : Str) (te : TE) : TE := fun σ H Q => te σ H fun x H1 => ∃ (a dd : Addr) (fs : List (Str × V)) (v : V), x = .ref a ∧ H1 a = some (exv a (.ref C) (some dd)) ∧ H1 dd = some (.xd fs) ∧ fs.lookup f = some v ∧ Q v H1
theorem pe_xv {X : Cx} {C : Addr} {e : Expr} {te : TE} {pos : Pos} {n : Str} (T : XfC X.K C) (hno : PySem.W.findIn X.K (.ref C) n = some none) (he : PE X e te) (hb : attributeBase e n X.env (eval e X.env) = eval e X.env := by rfl) :
    PE X (.Attribute e n pos) (tXv C n te) := by
  refine ⟨fun pins s σ H Q I h => ?_⟩
  refine attr_of hb (thn (he.run pins s σ H _ I h) fun u s1 hh => ?_)
  obtain ⟨x, H1, I1, rx, a, dd, fs, v, ex, ha, ea, l, q⟩ := hh
  subst ex
  obtain rfl : u = Value.ref a := rx
  obtain ⟨oe, vs, e1, hz, hd⟩ := exv_at I1.hok ha
  have hx : ObjOk X.prog X.w H1 s1.heap dd (.xd fs) := I1.hok dd _ ea
  obtain ⟨mA, hns, hr⟩ := hx
  obtain ⟨od, ho, hl⟩ := lookIn_ns hns
  obtain ⟨u, hu, ru⟩ := RelO.some_of (v := v) (o := mA n) (by rw [← l]; exact hr n)
  have J : PySem.W.InstAt s1.heap a oe C (some od) := ⟨e1, hz.1, by unfold PySem.W.notCls; rw [hd] <;> rfl, by rw [hz.2]; exact ho⟩
  exact HandSPX.exc_get I1.kIn J T.ga T.gg T.exC (PySem.W.findObj_own T.hdC hno rfl (by rw [hl, hu])) (handed_of ru) ⟨v, H1, I1.tok _, ru, q⟩
/-! ### making, a method: what is raised is wished for at the slots -/
def tMakeS (C : Addr) (sp : Sp) (E : L2.St → XK) (t : TA) : TE := fun σ H Q => t σ H fun vs H1 => ∀ x dx, H1 x = none → H1 dx = none → dx ≠ x →
  sp (.ref x :: vs) (upd (upd H1 dx (.own x)) x (.ins C dx [])) (fun v H2 => v = .non ∧ Q (.ref x) H2) (E σ)
def tMethS (C : Addr) (m : Str) (sp : Sp) (E : L2.St → XK) (ta : TE) (t : TA) : TE := fun σ H Q => ta σ H fun x H1 => ∃ a dx fs, x = .ref a ∧ H1 a = some (.ins C dx fs) ∧ fs.lookup m = none ∧ t σ H1 fun vs H2 => sp (.ref a :: vs) H2 Q (E σ)
section
variable {X : Cx} {CX : CXT} {k : Nat} {f C : Addr} {fd : FuncData} {ps : List Str} {sp : Sp} {E : L2.St → XK} {x m : Str} {p pos apos : Pos} {e o : Expr} {es : List Expr} {ta : TE} {t : TA}
theorem run_makeS {pins : List (Addr × Obj)} {σ : L2.St} {H : Hp} {s : Shared} {Q : VK} {us : List Value} {vs : List V} (M : Mk X.K C f) (F : FnOk X.prog X.w X.K X.mg X.base CX k f fd ps sp) (hr : Room (k + 1) X.A) (hb : Binds X.K fd ps [])
    (hx : PassesAt CX X σ (E σ)) (I : Inv X pins σ H s) (r : Vals vs us)
    (h : ∀ x dx, H x = none → H dx = none → dx ≠ x → sp (.ref x :: vs) (upd (upd H dx (.own x)) x (.ins C dx [])) (fun v H2 => v = .non ∧ Q (.ref x) H2) (E σ)) :
    wpAny (model X.prog X.w) X.A (call (.ref C) us) (EP X pins σ Q) X.xe s := by
  have hq := h (s.heap.objs.size + 1) s.heap.objs.size (I.hok.fresh (Nat.le_succ _)) (I.hok.fresh (Nat.le_refl _)) (Nat.ne_of_lt (Nat.lt_succ_self _))
  have I2 := Inv.made (C := C) I
  have r2 : Vals (V.ref (s.heap.objs.size + 1) :: vs) (Value.ref (s.heap.objs.size + 1) :: us) := .cons rfl r
  have hl : (Value.ref (s.heap.objs.size + 1) :: us).length = ps.length := by
    have e := r2.length
    rw [F.len _ _ _ _ hq] at e
    exact e.symm
  have b := hb _ (Value.ref (s.heap.objs.size + 1) :: us) I2.kIn (by rw [List.append_nil]; exact hl)
  rw [List.append_nil] at b
  refine wpAny_call (make_map (f := f) I.kIn M.makes M.init (beq_iff_eq.mp M.fn) (codeAny_mono (F.run _ X.stack _ _ ⟨Value.ref (s.heap.objs.size + 1) :: us, []⟩ (Value.ref (s.heap.objs.size + 1) :: us) _ _ (E σ) (hr.make C us [])
    (I2.env0.make C us []) b r2 hq) fun r s' hq' => ?_))
  cases r with
  | error e => exact hx pins _ _ e s' I2 hq'
  | ok fl =>
    cases fl with
    | ret u =>
      obtain ⟨v, H', I3, rv, ev, q3⟩ := I2.after hq'
      subst ev
      exact ⟨rv, ⟨V.ref (s.heap.objs.size + 1), H', I3, rfl, q3⟩⟩
    | next => exact False.elim hq'
    | brk => exact False.elim hq'
    | cont => exact False.elim hq'
theorem pe_makeS (M : Mk X.K C f) (F : FnOk X.prog X.w X.K X.mg X.base CX k f fd ps sp) (hr : Room (k + 1) X.A) (hg : Gl X x) (hm : X.mg x = some (.ref C)) (hb : Binds X.K fd ps []) (hx : ∀ σ, PassesAt CX X σ (E σ))
    (ha : PA X (e :: es) t) (hdb : (x == ("__debug__" : Str)) = false := by decide) (he : starEach (e :: es) X.env = (false, eval e X.env) :: starEach es X.env := by rfl) (hpl : (backTo pos (starEach es X.env)).any (·.1) = false := by rfl) :
    PE X (.Call (.Name x p) (e :: es) [] pos) (tMakeS C sp E t) := by
  refine ⟨fun pins s σ H Q I h => ?_⟩
  refine wpAny_Call_Name_kw (ld_glob I hg hm ?_ hdb)
  refine PySem.W.callWith_K (h₀ := X.base) I.ok.mod.kin M.kp (thn (ha.run pos pins s σ H _ I h) fun us s1 ⟨vs, H1, I1, r, q⟩ => ⟨I1.kIn, ?_⟩) he hpl
  exact run_makeS M F hr hb (hx σ) I1 r q
theorem pe_methS {pl : Sem Bool} (he : PE X o ta) (c : Cls X.K C) (hm : Meth X.K C m f) (F : FnOk X.prog X.w X.K X.mg X.base CX k f fd ps sp) (hr : Room k X.A) (hb : Binds X.K fd ps []) (hx : ∀ σ, PassesAt CX X σ (E σ)) (ha : PA X (e :: es) t)
    (hst : starEach (e :: es) X.env = (false, eval e X.env) :: starEach es X.env := by rfl) (hpl : (backTo pos (starEach es X.env)).any (·.1) = false := by rfl)
    (ht : eval (.Call (.Attribute o m apos) (e :: es) [] pos) X.env = (do
      let ov ← eval o X.env
      standAt apos.atName
      let (f, first) ← holding [ov] (getMethod ov m pl)
      callWith pos f first (backTo pos (starEach (e :: es) X.env)) (backToKw pos (keywordEach [] X.env))) := by rfl) :
    PE X (.Call (.Attribute o m apos) (e :: es) [] pos) (tMethS C m sp E ta t) := by
  refine ⟨fun pins s σ H Q I h => ?_⟩
  refine PySem.W.methodCall_KW (pl := pl) (thn (he.run pins s σ H _ I h) fun u s1 ⟨x, H1, I1, rx, a, dx, fs, ex, ea, l, q⟩ => ?_) ht
  subst ex
  obtain rfl : u = Value.ref a := rx
  refine getmeth_ok I1 ea c hm l ?_
  refine PySem.W.callWith_K (first := [.ref a]) (h₀ := X.base) I.ok.mod.kin hm.kp (thn (ha.run pos pins s1 σ H1 _ I1 q) fun us s2 ⟨vs, H2, I2, r, q2⟩ => ⟨I2.kIn, ?_⟩) hst hpl
  exact run_fnS (us := .ref a :: us) (vs := .ref a :: vs) F hr hb (hx σ) I2 (.cons rfl r) q2
end
end Exk

/-! isinstance of a kept exception that has a dict of its own. -/
namespace Exd
open PySem PySem.Spec PySem.Calls PyProof.Rows PySem.W
section
variable {prog : Program} {w : World} {A : Around} {E : Value → Shared → Prop} {s : Shared} {K : Frag} {x D : Addr} {ox : Obj} {od : Option Obj}
theorem find_class (hd : hasDictIn K D = true) (ha : findIn K (.ref D) "__class__" = some (some (.builtin "object.__class__"))) (hn : specialIn K (.builtin "object.__class__") "__get__" = some (some (.builtin "getset_descriptor.__get__")))
    (ht : takesIn K (.builtin "object.__class__") = some true) : findObj K D od "__class__" = some (.bind (.builtin "getset_descriptor.__get__") (.builtin "object.__class__")) := by
  obtain ⟨cd, hc, _⟩ := any_some hd
  unfold findObj
  rw [hc]
  simp [ha, hn, ht]
/-- what the class at D says of its exceptions' __class__ -/
structure ClsD (K : Frag) (D : Addr) : Prop where
  ga : findIn K (.ref D) "__getattribute__" = some (some (.builtin "BaseException.__getattribute__"))
  gg : findIn K (.ref D) "__getattr__" = some none
  ex : subIn K (.ref D) (.type "BaseException") = some true
  hd : hasDictIn K D = true
  ha : findIn K (.ref D) "__class__" = some (some (.builtin "object.__class__"))
  hn : specialIn K (.builtin "object.__class__") "__get__" = some (some (.builtin "getset_descriptor.__get__"))
  ht : takesIn K (.builtin "object.__class__") = some true
  hm : mroIn K D (.type "object") = some true
theorem get_class {Q : Option Value → Shared → Prop} (T : ClsD K D) (X : K.In s.heap) (I : InstAt s.heap x ox D od) (h : Q (some (.ref D)) { s with toks := s.toks + 1 }) : wpAny (model prog w) A (getAttr? (.ref x) "__class__") Q E s := by
  obtain ⟨hp, g, d, t, os⟩ := s
  have ty := I.type (M := model prog w)
  have la := looks_findIn (M := model prog w) X T.ga
  have lb := looks_findIn (M := model prog w) X T.gg
  have lc := looks_find (M := model prog w) X I (find_class T.hd T.ha T.hn T.ht)
  have isE : Looks (model prog w) hp (isInstance (.ref x) (.type "BaseException")) true := ty.andThen (looks_subIn X T.ex)
  have n0 : (Value.builtin "BaseException.__getattribute__" == Value.builtin "object.__getattribute__") = false := by decide +kernel
  have n1 : (onTheHeap (Value.ref D) && Value.builtin "BaseException.__getattribute__" == Value.builtin "object.__getattribute__") = false := by rw [n0]; rfl
  have n2 : (false && onTheHeap (Value.builtin "BaseException.__getattribute__")) = false := rfl
  unfold getAttr? getAttrBy? getAttrBy
  refine wpAny_bind (wpAny_mkText (wpAny_bind (wpAny_attempt (wpAny_holding (wpAny_bind (ty.at (wpAny_bind (la.at ?_))))))))
  show wpAny _ _ (ite ((onTheHeap (Value.ref D) && Value.builtin "BaseException.__getattribute__" == Value.builtin "object.__getattribute__") = true) _ _) _ _ _
  rw [n1, if_neg Bool.false_ne_true]; unfold getAttrByItsOwn hookBefore
  refine wpAny_bind ?_; rw [if_pos (show onTheHeap (Value.ref D) = true from rfl)]
  refine lb.at ?_; refine wpAny_bind (wpAny_attempt (wpAny_holding ?_)); unfold callGetattribute
  rw [n2, if_neg Bool.false_ne_true]; unfold boundAndCalled
  rw [PySem.F.excAttr_ValueError.ga.bind (.ref x)]; refine wpAny_bind (wpAny_pure ?_)
  show wpAny _ _ (call (.builtin "BaseException.__getattribute__") [.ref x, .str "__class__" t]) _ _ _; refine wpAny_call (codeAny_call_builtin (PySem.F.excAttr_ValueError.ga.plain) PySem.F.entry_bexc_ga ?_)
  refine check_slot (s := ⟨hp, g, d, t + 1, os⟩) (i := "BaseException.__getattribute__") (owner := "BaseException") (n := "__getattribute__") (self := .ref x) (rest := [.str "__class__" t]) (kw := []) (by decide +kernel) (by decide +kernel) isE
    (PySem.F.args_bexc_ga (.ref x) (.str "__class__" t)) ?_
  unfold Builtin.«object.__getattribute__»; refine wpAny_bind (wpAny_of_eq (a := ((Value.ref x : Value), [Value.str "__class__" t])) rfl ?_)
  refine wpAny_bind (wpAny_pure (wpAny_bind (ty.at (wpAny_bind (lc.at ?_)))))
  show wpAny _ _ (holding [Value.builtin "object.__class__"] (call (.builtin "getset_descriptor.__get__") [.builtin "object.__class__", .ref x, .ref D]) >>= fun v => ret v) _ _ _
  refine wpAny_bind (wpAny_holding (wpAny_call (class_get (s := ⟨hp, g, d, t + 1, os⟩) X I T.hm (wpAny_pure ?_))))
  show wpAny _ _ (handedOut (Value.ref D)) _ _ _
  rw [handedOut_of (v := Value.ref D) (by rfl)]
  first
    | exact wpAny_pure (wpAny_pure h)
    | exact wpAny_pure h
theorem kitx (T : ClsD K D) : KitX K (.ref x) (.ref D) (fun h => InstAt h x ox D od) := by
  obtain ⟨cd, hc, _⟩ := any_some T.hd
  obtain ⟨o, ho, hcls⟩ : ∃ o, K.lookup D = some o ∧ o.data = .cls cd := by
    unfold clsIn at hc
    split at hc
    · rename_i c' d' cd' sl' e
      exact ⟨_, e, by rw [← Option.some.inj hc]⟩
    · cases hc
  obtain ⟨oc, oo, od2, os2⟩ := o
  simp only at hcls
  subst hcls
  refine ⟨fun _ _ _ I => I.type, fun M h X _ A' Q' E' s' k q => ?_, fun h tp dd its n sl X htp => ?_, fun X I k => get_class T X I k⟩
  · unfold isType loadHead
    exact wpAny_bind (wpAny_loadPart (k _ _ (X _ _ ho)) (wpAny_pure q))
  · cases e : (Value.ref D == Value.ref tp) with
    | false => rfl
    | true =>
      have e : D = tp := Value.ref.inj (eq_of_beq e)
      subst e
      rw [X _ _ ho] at htp
      cases htp
end
end Exd
namespace Exd
open PySem PySem.Spec PyProof.Rows L2 Exk
/-- at a: a kept exception of the class at D, its dict at dd -/
def KeptAt (H : Hp) (a D dd : Addr) (fs : List (Str × V)) : Prop := H a = some (exv a (.ref D) (some dd)) ∧ H dd = some (.xd fs)
section
variable {X : Cx} {pins : List (Addr × Obj)} {σ : L2.St} {H : Hp} {s : Shared}
theorem kept_inst {a D dd : Addr} {fs : List (Str × V)} (I : Inv X pins σ H s) (k : KeptAt H a D dd fs) : ∃ (oe od : Obj), PySem.W.InstAt s.heap a oe D (some od) := by
  obtain ⟨oe, vs, e1, hz, hd⟩ := exv_at I.hok k.1
  obtain ⟨mA, hns, _⟩ := (show ObjOk X.prog X.w H s.heap dd (.xd fs) from I.hok dd _ k.2)
  obtain ⟨od, ho, _⟩ := lookIn_ns hns
  exact ⟨oe, od, e1, hz.1, by unfold PySem.W.notCls; rw [hd] <;> rfl, by rw [hz.2]; exact ho⟩
/-- isinstance(e, C), e a kept exception -/
def rIsiE (K : PySem.W.Frag) : List V → Hp → VK → Prop := fun xs H Q => ∃ (a D dd : Addr) (fs : List (Str × V)) (c : V) (u : Value) (b : Bool), xs = [.ref a, c] ∧ KeptAt H a D dd fs ∧ ClsD K D ∧ ClsV c u ∧ PySem.W.kitOne K (.ref D) u = some b ∧ Q (.bl b) H
theorem call_isiE : CallR X (.builtin "isinstance") (rIsiE X.K) := by
  intro pins s σ H xs us Q I r h
  obtain ⟨a, D, dd, fs, c, u, b, rfl, k, T, cu, e, q⟩ := h
  obtain ⟨u1, u2, rfl, r1, r2⟩ := vals2 r
  obtain rfl := cu.eq r2
  cases (show u1 = Value.ref a from r1)
  obtain ⟨oe, od, J⟩ := kept_inst I k
  exact PySem.W.kia_one (kitx T) I.kIn J e (fun z => nomatch z) fun tk => ⟨.bl b, H, I.tok tk, rfl, q⟩
/-- isinstance(e, (C1, C2, ..)) -/
def rIsiTE (K : PySem.W.Frag) : List V → Hp → VK → Prop := fun xs H Q => ∃ (a D dd : Addr) (fs : List (Str × V)) (tp : Addr) (cs : List V) (us : List Value) (b : Bool), xs = [.ref a, .ref tp] ∧ KeptAt H a D dd fs ∧ ClsD K D ∧ H tp = some (.tup cs) ∧ Paired ClsV cs us ∧ PySem.W.kitAny K (.ref D) us = some b ∧ Q (.bl b) H
theorem call_isiTE : CallR X (.builtin "isinstance") (rIsiTE X.K) := by
  intro pins s σ H xs us Q I r h
  obtain ⟨a, D, dd, fs, tp, cs, ws, b, rfl, k, T, hT, cu, e, q⟩ := h
  obtain ⟨u1, u2, rfl, r1, r2⟩ := vals2 r
  cases (show u1 = Value.ref a from r1)
  cases (show u2 = Value.ref tp from r2)
  obtain ⟨oe, od, J⟩ := kept_inst I k
  obtain ⟨_, its, rv, ⟨oc, o2, dt, sl⟩, h1, h2, n, h3⟩ := (show ObjOk X.prog X.w H s.heap tp (.tup cs) from I.hok tp _ hT)
  obtain rfl := ClsV.all cu rv
  simp only at h2 h3
  subst h2 h3
  exact PySem.W.kia_tup (kitx T) I.kIn J h1 e (fun z => nomatch z) fun tk => ⟨.bl b, H, I.tok tk, rfl, q⟩
end
end Exd

/-! Own exception classes over ValueError, LookupError or ArithmeticError, made as values, by position and by name. -/
namespace PySem.ExG
open PySem PySem.W PySem.Calls PyProof.Rows PySem.HandSPX
/-- own classes, then the tail t -/
def overT (t : List Value) : List Value → Bool
  | .ref _ :: r => overT t r
  | l => l == t
theorem overT_cases (t : List Value) : ∀ l : List Value, overT t l = true → (∃ c r, l = .ref c :: r ∧ overT t r = true) ∨ l = t
  | [], e => .inr (beq_iff_eq.mp e)
  | .ref c :: r, e => .inl ⟨c, r, rfl, e⟩
  | .none :: _, e | .ellipsis :: _, e | .notImplemented :: _, e | .bool _ :: _, e | .int _ _ :: _, e | .float _ _ :: _, e | .str _ _ :: _, e | .bytes _ _ :: _, e | .type _ :: _, e | .builtin _ :: _, e => .inr (beq_iff_eq.mp e)
/-- what is asked of the classes above an own exception class -/
structure Above (newId initId : String) (bm : List Value) : Prop where
  ex : ∃ (B : String) (bmB : List Value), ExcBaseFacts B newId initId bmB ∧ ∀ X : String, bm.contains (.type X) = bmB.contains (.type X)
  ps : ∀ self : Value, refuseLoop self "__setattr__" bm = pure ()
  ob : bm.contains (.type "object") = true
theorem above_of {B newId initId : String} {t : List Value} (F : ExcBaseFacts B newId initId t) (S : StoreFacts B t "object.__setattr__" "object") : ∀ l : List Value, overT t l = true → Above newId initId l := by
  have main : ∀ l : List Value, overT t l = true → (∀ X : String, l.contains (.type X) = t.contains (.type X)) ∧ ∀ self : Value, refuseLoop self "__setattr__" l = pure () := fun l => by
    induction l with
    | nil =>
      intro e
      rcases overT_cases t [] e with ⟨c, r, q, _⟩ | q
      · cases q
      · rw [q]
        exact ⟨fun _ => rfl, fun self => S.passes self⟩
    | cons a r ih =>
      intro e
      rcases overT_cases t (a :: r) e with ⟨c, r', q, h⟩ | q
      · obtain ⟨rfl, rfl⟩ := List.cons.inj q
        obtain ⟨i1, i2⟩ := ih h
        exact ⟨fun X => by rw [List.contains_cons, i1 X]; rfl, fun self => by rw [refuseLoop_ref]; exact i2 self⟩
      · rw [q]
        exact ⟨fun _ => rfl, fun self => S.passes self⟩
  intro l e
  obtain ⟨m1, m2⟩ := main l e
  exact ⟨⟨B, t, F, m1⟩, m2, by rw [m1]; exact S.hasOwner⟩
section
variable {M : Model} {A : Around} {E : Value → Shared → Prop} {h : Heap} {g : Array GenState} {d : Drawn} {t : Nat} {os : OsState}
variable {nm q : Str} {C N : Addr} {bs bm bmB : List Value} {hdct : Bool} {sn : List Str} {sub : List Value} {ab : Bool} {col : Option Bool} {dd : Option Addr} {k0 k1 k2 k3 k5 : Option Value} {B newId initId : String}
theorem chk_newK (F : ExcBaseFacts B newId initId bmB) (same : ∀ X : String, bm.contains (.type X) = bmB.contains (.type X)) {us : List Value} {kw : List (Str × Value)} {Q : Unit → Shared → Prop}
    (eC : h.get? C = some (excClassObj nm q C N bs bm hdct sn sub ab col dd k0 k1 k2 k3 k5 newId)) (z : Q () ⟨h, g, d, t, os⟩) : wpAny M A (checkBuiltinCall newId ⟨.ref C :: us, kw⟩) Q E ⟨h, g, d, t, os⟩ := by
  have inB : (Value.ref C :: bm).contains (.type B) = true := by rw [List.contains_cons, same, F.hasB, Bool.or_true]
  have st := F.noStar
  simp only [checkBuiltinCall, F.newKind, F.newSplit, F.newRow]
  repeat (first | (refine wpAny_loadPart_at eC ?_) | (refine wpAny_isSubtype_exc eC ?_; rw [inB]) | (refine wpAny_staticBase_exc eC ?_) | (refine wpAny_madeBy_exc eC ?_) | (simp only [bne_self_eq_false, Bool.false_eq_true, if_false]) | wp_step)
  exact z
end
section
variable {prog : Program} {w : World} {A : Around} {E : Value → Shared → Prop} {R : Result → Shared → Prop} {h : Heap} {g : Array GenState} {d : Drawn} {t : Nat} {os : OsState}
variable {nm q : Str} {C N : Addr} {bs bm bmB : List Value} {hdct : Bool} {sn : List Str} {sub : List Value} {ab : Bool} {col : Option Bool} {dd : Option Addr} {k0 k1 k2 k3 k5 : Option Value} {B newId initId : String}
/-- the heap behind the new exception -/
abbrev laid (h : Heap) (C : Addr) (us : List Value) : Heap := (h.push (W.kdv_tup us)).push (excO C h.objs.size)
theorem newK (F : ExcBaseFacts B newId initId bmB) (same : ∀ X : String, bm.contains (.type X) = bmB.contains (.type X)) {us : List Value} {kw : List (Str × Value)} (eC : h.get? C = some (excClassObj nm q C N bs bm hdct sn sub ab col dd k0 k1 k2 k3 k5 newId))
    (z : R (.ok (.ret (.ref (h.objs.size + 1)))) ⟨laid h C us, g, d, t, os⟩) (hu : us.length ≤ sizeLine) : codeAny (model prog w) A (.builtin newId ⟨.ref C :: us, kw⟩) R ⟨h, g, d, t, os⟩ := by
  have en := F.ends
  have c1 : (Value.ref C :: bm).contains (.type B) = true := by rw [List.contains_cons, same, F.hasB, Bool.or_true]
  have c2 : (Value.ref C :: bm).contains (.type "AttributeError") = false := by rw [List.contains_cons, same, F.noAttr]; rfl
  have c3 : (Value.ref C :: bm).contains (.type "NameError") = false := by rw [List.contains_cons, same, F.noName]; rfl
  refine codeAny_builtinAt F.entry ?_
  unfold Builtin.«BaseException.__new__»
  refine wpAt_bind ?_
  show wpAt _ _ _ (stack >>= _) _ _ _
  refine wpAt_bind (wpAt_stack fun p below => wpAt_of_wpAny ?_)
  wp_walk
  refine wpAt_of_wpAny ?_
  rw [F.owner]
  repeat (first | (with_reducible refine wpAny_madeHere_exc F.canon eC ?_) | (with_reducible refine wpAny_loadPart_at eC ?_) | (with_reducible refine wpAny_isSubtype_exc eC ?_; first | rw [c1] | rw [c2] | rw [c3]) | wp_step)
  show R _ _
  rw [Heap.size_push]
  exact z
/-- type.__call__ on such a class, its __init__ being fI (an own def, or the built-in one) -/
theorem tcallK (F : ExcBaseFacts B newId initId bmB) (same : ∀ X : String, bm.contains (.type X) = bmB.contains (.type X)) {us : List Value} {kw : List (Str × Value)} {fI : Value} {Q : Fin → Shared → Prop}
    (eC : h.get? C = some (excClassObj nm q C N bs bm hdct sn sub ab col dd k0 k1 k2 k3 k5 newId))
    (li : W.Looks (model prog w) h (typeLookup (.ref C) "__init__") (some fI)) (lb : ∀ self, W.Looks (model prog w) h (bindSpecial fI self) (fI, [self])) (hu : us.length ≤ sizeLine)
    (z : codeAny (model prog w) A (.call fI ⟨.ref (h.objs.size + 1) :: us, kw⟩)
      (fun r s' => match r with | .ok (.ret v) => v = .none ∧ Q (.done (.ret (.ref (h.objs.size + 1)))) s' | .ok _ => False | .error e => E e s') ⟨laid h C us, g, d, t, os⟩) :
    wpAny (model prog w) A (Builtin.«type.__call__» ⟨.ref C :: us, kw⟩) Q E ⟨h, g, d, t, os⟩ := by
  repeat (first | (with_reducible refine wpAny_loadPart_at eC ?_) | (with_reducible refine wpAny_madeBy_exc eC ?_) | wp_step)
  refine codeAny_call_builtin_code (Code.quiet_builtin _ F.quiet) (chk_newK F same eC ?_)
  refine newK F same eC ?_ hu
  show wpAny _ _ _ _ _ _
  have kp : ∀ b o, h.get? b = some o → (laid h C us).get? b = some o := fun b o e => Heap.get?_push_of_some _ (Heap.get?_push_of_some _ e)
  have eC1 := kp _ _ eC
  have ne : (laid h C us).get? (h.objs.size + 1) = some (excO C h.objs.size) := by heap_get
  have own : (Value.ref C :: bm).contains (.ref C) = true := by simp
  have li1 := li.keeps kp
  have lb1 := (lb (.ref (h.objs.size + 1))).keeps kp
  unfold isInstance
  repeat (first | (with_reducible refine wpAny_loadPart_at ne ?_) | (with_reducible refine wpAny_isSubtype_exc eC1 ?_; rw [own]) | wp_step)
  show wpAny _ _ (typeLookup (.ref C) _) _ _ _
  refine li1.at ?_
  refine wpAny_holding (wpAny_bind (lb1.at ?_))
  refine wpAny_bind (wpAny_call (codeAny_mono z fun r s' y => ?_))
  rcases r with e | (v | _ | _ | _) <;> first | exact y | exact y.elim | skip
  obtain ⟨rfl, y⟩ := y
  first
    | exact wpAny_pure (wpAny_pure y)
    | (wp_walk; exact y)
theorem chk_tcallK {us : List Value} {kw : List (Str × Value)} {Q : Unit → Shared → Prop} (eC : h.get? C = some (excClassObj nm q C N bs bm hdct sn sub ab col dd k0 k1 k2 k3 k5 newId)) (z : Q () ⟨h, g, d, t, os⟩) :
    wpAny (model prog w) A (checkBuiltinCall "type.__call__" ⟨.ref C :: us, kw⟩) Q E ⟨h, g, d, t, os⟩ := by
  have f3 := tc_sub
  have isT : (⟨h, g, d, t, os⟩ : Shared).TypeIs (.ref C) "type" := ⟨_, eC, rfl⟩
  simp only [checkBuiltinCall, tc_kind, tc_split]
  repeat (any_goals (first | assumption | (with_reducible refine wpAny_loadPart_at eC ?_) | (with_reducible refine wpAny_onRaise ?_) | (with_reducible refine wpAny_map ?_) | wp_step))
theorem callK (F : ExcBaseFacts B newId initId bmB) (same : ∀ X : String, bm.contains (.type X) = bmB.contains (.type X)) {us : List Value} {kw : List (Str × Value)} {fI : Value}
    (eC : h.get? C = some (excClassObj nm q C N bs bm hdct sn sub ab col dd k0 k1 k2 k3 k5 newId))
    (li : W.Looks (model prog w) h (typeLookup (.ref C) "__init__") (some fI)) (lb : ∀ self, W.Looks (model prog w) h (bindSpecial fI self) (fI, [self])) (hu : us.length ≤ sizeLine)
    (z : codeAny (model prog w) (A.under (.builtin "type.__call__" ⟨.ref C :: us, kw⟩)) (.call fI ⟨.ref (h.objs.size + 1) :: us, kw⟩) (W.InitBack (h.objs.size + 1) R) ⟨laid h C us, g, d, t, os⟩) :
    codeAny (model prog w) A (.call (.ref C) ⟨us, kw⟩) R ⟨h, g, d, t, os⟩ := by
  have f1 := tc_lookup
  have f2 := tc_bind (.ref C)
  have isT : (⟨h, g, d, t, os⟩ : Shared).TypeIs (.ref C) "type" := ⟨_, eC, rfl⟩
  refine codeAny_of_tree ?_
  show wpAny _ _ (callAny (.ref C) _) _ _ _
  repeat (any_goals (first | assumption | (with_reducible refine wpAny_loadPart_at eC ?_) | wp_step))
  refine ⟨rfl, ?_⟩
  refine codeAny_call_builtin_at (Code.quiet_builtin _ (by decide +kernel)) entry_typeCall (chk_tcallK eC (tcallK F same eC li lb hu ?_))
  refine codeAny_mono z fun r s' y => ?_
  rcases r with e | (v | _ | _ | _) <;> exact y
end
section
open Builtin Builtin.ObjectAttr
variable {prog : Program} {w : World} {A : Around} {E : Value → Shared → Prop} {R : Result → Shared → Prop} {hp : Heap} {g : Array GenState} {d : Drawn} {t : Nat} {os : OsState}
/-- the class's part of a store on one of its exceptions -/
structure StoreC (K : W.Frag) (C : Addr) (cd : ClassData) : Prop where
  cls : W.clsIn K C = some cd
  hd : cd.hasDict = true
  ps : ∀ self : Value, refuseLoop self "__setattr__" cd.mro = pure ()
  ob : cd.mro.contains (.type "object") = true
theorem StoreC.ne {K : W.Frag} {C : Addr} {cd : ClassData} (S : StoreC K C cd) : cd.mro.isEmpty = false := by
  cases e : cd.mro with
  | nil =>
    have := S.ob
    rw [e] at this
    cases this
  | cons _ _ => rfl
theorem store_first {K : W.Frag} {name : Str} {tk : Tok} {v : Value} {x C : Addr} {fv : Array Value} {cd : ClassData} (X : K.In hp) (ex : hp.get? x = some { cls := .ref C, data := .fields fv }) (S : StoreC K C cd) (no : W.findIn K (.ref C) name = some none)
    (z : ∀ h' tk' dx, (∀ b o, b ≠ x → hp.get? b = some o → h'.get? b = some o) → hp.objs.size ≤ dx → dx ≠ x → h'.get? x = some { cls := .ref C, dict := some dx, data := .fields fv } → h'.Ns1 dx (fun y => if y = name then some v else none) → R (.ok (.ret .none)) ⟨h', g, d, tk', os⟩) :
    codeAny (model prog w) A (.call (.builtin "object.__setattr__") ⟨[.ref x, .str name tk, v], []⟩) R ⟨hp, g, d, t, os⟩ := by
  have J : W.InstAt hp x { cls := .ref C, data := .fields fv } C none := ⟨ex, rfl, rfl, trivial⟩
  have so := F.store_object
  have xs : x ≠ hp.objs.size := Nat.ne_of_lt (Heap.lt_size ex)
  have su : W.Looks (model prog w) hp (isInstance (.ref x) (.type "object")) true := J.type.andThen (W.looks_mroIn X (by unfold W.mroIn; rw [S.cls, Option.bind_some, if_neg (by rw [S.ne]; decide), S.ob]))
  have lm : W.Looks (model prog w) hp (mroOf (.ref C)) cd.mro := (W.looks_clsIn X S.cls).andThen .now
  have l3 : W.Looks (model prog w) hp (Builtin.ObjectAttr.storeTaker? none) none := .now
  have lc : W.Looks (model prog w) hp (classData C) cd := W.looks_clsIn X S.cls
  refine codeAny_call_builtin so.slot.plain so.entry (@W.check_slot (model prog w) _ _ ⟨hp, g, d, t, os⟩ "object.__setattr__" "object" "__setattr__" (.ref x) [.str name tk, v] [] _ so.kind so.split su (so.args (.ref x) (.str name tk) v) ?_)
  rw [W.osa_eq, refuse_eq]
  refine wpAny_bind (wpAny_bind (J.type.at (wpAny_bind (lm.at ?_))))
  rw [S.ps]
  refine wpAny_pure (wpAny_bind (J.type.at (wpAny_bind ((W.looks_findIn X no).at (wpAny_bind (l3.at ?_))))))
  show wpAny _ _ (storeInOwnDict (.ref x) (.ref C) (.str name tk) name v false) _ _ _
  have hdt := S.hd
  clear S lm
  obtain ⟨nm, bs, mro, ns, qn, hd, sn, sb, ab, col, del⟩ := cd
  dsimp only at hdt
  subst hdt
  unfold storeInOwnDict ownDictForStores
  repeat (first | (with_reducible refine store_in_new ?_ ?_) | (with_reducible refine wpAny_loadPart_at ex ?_) | (with_reducible refine lc.at ?_) | wp_step)
  · exact ⟨_, #[], _, (Heap.get?_update_ne _ _ _ _ xs.symm).trans (Heap.get?_push_at rfl rfl), rfl, fun e he => absurd he (by simp), fun _ => rfl⟩
  · intro h' tk' hn hs
    have e1 : (hp.push { cls := .type "dict", data := .dict #[] }).get? x = some { cls := .ref C, data := .fields fv } := Heap.get?_push_of_some _ ex
    exact z h' tk' hp.objs.size (fun b o nb ho => (hs.2 b (Nat.ne_of_lt (Heap.lt_size ho))).trans ((Heap.get?_update_ne _ _ _ _ nb).trans (Heap.get?_push_of_some _ ho))) (Nat.le_refl _) xs.symm ((hs.2 x xs).trans (Heap.get?_update_self _ e1 rfl)) hn
theorem store_more {K : W.Frag} {name : Str} {tk : Tok} {v : Value} {x C dx : Addr} {fv : Array Value} {cd : ClassData} {m0 : Str → Option Value} {nl : List Str} (X : K.In hp) (ex : hp.get? x = some { cls := .ref C, dict := some dx, data := .fields fv }) (hn : hp.Ns1 dx m0) (wi : Within m0 nl) (nz : nl.length ≤ 1000)
    (S : StoreC K C cd) (no : W.findIn K (.ref C) name = some none)
    (z : ∀ h' tk', (∀ b o, b ≠ dx → hp.get? b = some o → h'.get? b = some o) → h'.Ns1 dx (fun y => if y = name then some v else m0 y) → R (.ok (.ret .none)) ⟨h', g, d, tk', os⟩) :
    codeAny (model prog w) A (.call (.builtin "object.__setattr__") ⟨[.ref x, .str name tk, v], []⟩) R ⟨hp, g, d, t, os⟩ := by
  obtain ⟨oD, esD, epD, hoD, hdD, _⟩ := hn.count wi
  have J : W.InstAt hp x { cls := .ref C, dict := some dx, data := .fields fv } C (some oD) := ⟨ex, rfl, rfl, hoD⟩
  have so := F.store_object
  have su : W.Looks (model prog w) hp (isInstance (.ref x) (.type "object")) true := J.type.andThen (W.looks_mroIn X (by unfold W.mroIn; rw [S.cls, Option.bind_some, if_neg (by rw [S.ne]; decide), S.ob]))
  have lm : W.Looks (model prog w) hp (mroOf (.ref C)) cd.mro := (W.looks_clsIn X S.cls).andThen .now
  have l3 : W.Looks (model prog w) hp (Builtin.ObjectAttr.storeTaker? none) none := .now
  have lc : W.Looks (model prog w) hp (classData C) cd := W.looks_clsIn X S.cls
  refine codeAny_call_builtin so.slot.plain so.entry (@W.check_slot (model prog w) _ _ ⟨hp, g, d, t, os⟩ "object.__setattr__" "object" "__setattr__" (.ref x) [.str name tk, v] [] _ so.kind so.split su (so.args (.ref x) (.str name tk) v) ?_)
  rw [W.osa_eq, refuse_eq]
  refine wpAny_bind (wpAny_bind (J.type.at (wpAny_bind (lm.at ?_))))
  rw [S.ps]
  refine wpAny_pure (wpAny_bind (J.type.at (wpAny_bind ((W.looks_findIn X no).at (wpAny_bind (l3.at ?_))))))
  show wpAny _ _ (storeInOwnDict (.ref x) (.ref C) (.str name tk) name v false) _ _ _
  have hdt := S.hd
  clear S lm
  obtain ⟨nm, bs, mro, ns, qn, hd, sn, sb, ab, col, del⟩ := cd
  dsimp only at hdt
  subst hdt
  unfold storeInOwnDict ownDictForStores
  repeat (first | (with_reducible refine OEX.store_in_old hn wi nz ?_) | (with_reducible refine wpAny_loadPart_at ex ?_) | (with_reducible refine lc.at ?_) | wp_step)
  exact fun h' tk' hn' hs => z h' tk' (fun b o nb ho => (hs.2 b nb).trans ho) hn'
end
end PySem.ExG
namespace ExG
open PySem PySem.Spec PyProof.Rows L2
/-- what the written part says of an own exception class; iI: its __init__ -/
structure OexG (K : PySem.W.Frag) (C : Addr) (iI : String) : Prop where
  cls : ∃ nm q N bs bm sn sub ab col dd k0 k1 k2 k3 k5 newId, K.lookup C = some (excClassObj nm q C N bs bm true sn sub ab col dd k0 k1 k2 k3 k5 newId) ∧ PySem.ExG.Above newId iI bm
  sa : PySem.W.findIn K (.ref C) "__setattr__" = some (some (.builtin "object.__setattr__"))
  kC : PySem.W.keepIn K (.ref C) = true
theorem OexG.store {K : PySem.W.Frag} {C : Addr} {iI : String} (T : OexG K C iI) : ∃ cd, PySem.ExG.StoreC K C cd := by
  obtain ⟨nm, q, N, bs, bm, sn, sub, ab, col, dd, k0, k1, k2, k3, k5, ni, hC, up⟩ := T.cls
  refine ⟨{ name := nm, bases := bs, mro := .ref C :: bm, ns := N, qualname := q, hasDict := true, slotNames := sn, subclasses := sub, abstract := ab, collection := col, hasDel := false }, by unfold PySem.W.clsIn; rw [hC] <;> rfl, rfl, fun self => ?_, ?_⟩
  · show refuseLoop self "__setattr__" (.ref C :: bm) = pure ()
    rw [refuseLoop_ref]
    exact up.ps self
  · show (Value.ref C :: bm).contains (.type "object") = true
    rw [List.contains_cons, up.ob, Bool.or_true]
/-- at a: an exception of the class at C with the fields fs -/
def Err (H : Hp) (a C : Addr) (fs : List (Str × V)) : Prop := (fs = [] ∧ H a = some (exo a C none)) ∨ ∃ dx, H a = some (exo a C (some dx)) ∧ H dx = some (exd dx fs)
theorem Err.ext {H H' : Hp} {a C : Addr} {fs : List (Str × V)} (s : ∀ b o, H b = some o → H' b = some o) (h : Err H a C fs) : Err H' a C fs := h.imp (fun ⟨e, h⟩ => ⟨e, s _ _ h⟩) fun ⟨dx, h, k⟩ => ⟨dx, s _ _ h, s _ _ k⟩
section
variable {X : Cx} {pins : List (Addr × Obj)} {σ : L2.St} {H : Hp} {s : Shared} {a C dx : Addr} {f : Str} {y : V} {u : Value} {fs : List (Str × V)} {Q : Unit → Shared → Prop} {E : Value → Shared → Prop} {A : Around} {iI : String}
theorem st_first (T : OexG X.K C iI) (I : Inv X pins σ H s) (e : H a = some (exo a C none)) (no : PySem.W.findIn X.K (.ref C) f = some none) (ry : RelV y u)
    (z : ∀ dx s', H dx = none → dx ≠ a → Inv X pins σ (upd (upd H dx (exd dx [(f, y)])) a (exo a C (some dx))) s' → Q () s') : wpAny (model X.prog X.w) A (setAttr (.ref a) f u) Q E s := by
  obtain ⟨cd, S⟩ := T.store
  obtain ⟨t1, ho⟩ := exo_at I.hok e
  obtain ⟨hp, g, d, t, os⟩ := s
  refine PySem.W.set_plain I.kIn (ox := { cls := .ref C, dict := none, data := .fields #[.ref t1, .none, .none, .none, .bool false, .none] }) (od := none) ⟨ho, rfl, rfl, trivial⟩ T.sa (PySem.ExG.store_first I.kIn ho S no fun h' tk' dx k dn dne hx hn => ?_)
  have fresh : H dx = none := I.hok.fresh dn
  have off : ∀ {b : Addr} {o : Obj}, hp.get? b = some o → b ≠ dx := fun {b o} q => Nat.ne_of_lt (Nat.lt_of_lt_of_le (Heap.lt_size q) dn)
  have nota : ∀ {b : Addr}, H b = none → b ≠ a := fun {b} n q => by
    rw [q, e] at n
    cases n
  have two : ∀ {b : Addr} {o : HO}, H b = some o → exo a C none ≠ o → upd (upd H dx (exd dx [(f, y)])) a (exo a C (some dx)) b = some o := fun {b o} q n => by
    rw [upd_ne (at_ne e q n), upd_ne (ne_of_none q fresh)]
    exact q
  have U : Un X.fs [] H (upd (upd H dx (exd dx [(f, y)])) a (exo a C (some dx))) hp h' := {
    keep := fun b o q n _ _ => k b o (nota n) q
    slot := fun b o q n _ _ => ⟨o.slots, k b o (nota n) q⟩
    free := fun b o q n _ => by rw [upd_ne (nota n), upd_ne (off q)]; exact n
    there := fun b o q _ => by
      by_cases q2 : b = a
      · exact ⟨_, by rw [q2]; exact hx⟩
      · exact ⟨o, k b o q2 q⟩
    tups := fun b xs q => two q exo_tup
    frzs := fun b o v q => two q exo_frz
    tbls := fun b ps q => ⟨#[], by rw [two q exo_tbl]; simp⟩ }
  refine z dx _ fresh dne (I.un (t' := tk') U fun b o q => ?_)
  rcases Classical.em (b = a) with rfl | ba
  · rw [upd_same] at q
    cases q
    exact exo_ok hx
  · rw [upd_ne ba] at q
    rcases Classical.em (b = dx) with rfl | bd
    · rw [upd_same] at q
      cases q
      exact exd_ok hn (relO_put (fs := []) ry fun _ => True.intro)
    · rw [upd_ne bd] at q
      exact (I.hok b o q).stay (fun c v hc q2 => k c v (hc.elim (fun q3 => by rw [q3]; exact ba) fun q3 => at_ne e q3 exo_own) q2) (fun c hc => two hc exo_own) fun c xs hc => two hc exo_tup
theorem st_more (T : OexG X.K C iI) (I : Inv X pins σ H s) (e : H a = some (exo a C (some dx))) (ed : H dx = some (exd dx fs)) (hl : fs.length ≤ 900) (no : PySem.W.findIn X.K (.ref C) f = some none) (ry : RelV y u)
    (z : ∀ s', Inv X pins σ (upd H dx (exd dx ((f, y) :: fs))) s' → Q () s') : wpAny (model X.prog X.w) A (setAttr (.ref a) f u) Q E s := by
  obtain ⟨cd, S⟩ := T.store
  obtain ⟨t1, ho⟩ := exo_at I.hok e
  obtain ⟨mA, hns, rel⟩ := exd_at I.hok ed
  have wi := within_of rel
  obtain ⟨hp, g, d, t, os⟩ := s
  obtain ⟨oD, _, _, hoD, _, _⟩ := hns.count wi
  refine PySem.W.set_plain I.kIn (ox := { cls := .ref C, dict := some dx, data := .fields #[.ref t1, .none, .none, .none, .bool false, .none] }) (od := some oD) ⟨ho, rfl, rfl, hoD⟩ T.sa (PySem.ExG.store_more I.kIn ho hns wi (by rw [List.length_map]; omega) S no fun h' tk' k hn => ?_)
  obtain ⟨oN, _, _, eN, _⟩ := id hn
  exact z _ (I.write (t' := tk') (x := dx) (e := dx) (o := exd dx ((f, y) :: fs)) (by rw [ed]; exact True.intro) (.inl rfl) k ⟨oN, eN⟩ (exd_ok hn (relO_put ry rel)))
end
/-- self.f = e -/
def tStG (K : PySem.W.Frag) (f : Str) (to te : TE) : TS := fun D σ H => te σ H fun y H1 => to σ H1 fun x H2 => ∃ (a C : Addr) (iI : String), x = .ref a ∧ OexG K C iI ∧ PySem.W.findIn K (.ref C) f = some none ∧
  ((H2 a = some (exo a C none) ∧ ∀ dx, H2 dx = none → dx ≠ a → D.nx σ (upd (upd H2 dx (exd dx [(f, y)])) a (exo a C (some dx)))) ∨
   ∃ (dx : Addr) (fs : List (Str × V)), H2 a = some (exo a C (some dx)) ∧ H2 dx = some (exd dx fs) ∧ fs.length ≤ 900 ∧ D.nx σ (upd H2 dx (exd dx ((f, y) :: fs))))
/-- C(e, ..), C(k = v, ..): an exception as a value -/
def tMkG (C : Addr) (sp : Sp) (t : TA) : TE := fun σ H Q => t σ H fun vs H1 => vs.length ≤ 1000 ∧ ∀ a, H1 a = none → sp (.ref a :: vs) (upd H1 a (exo a C none)) (fun v H2 => v = .non ∧ Q (.ref a) H2) (fun _ _ _ => False)
def tMkK (C : Addr) (m : Nat) (sp : Sp) (gV : List V → List V → List V) (tk : TA) : TE := fun σ H Q => tk σ H fun zs H1 => zs.length = m ∧ ∀ a, H1 a = none → sp (gV [.ref a] zs) (upd H1 a (exo a C none)) (fun v H2 => v = .non ∧ Q (.ref a) H2) (fun _ _ _ => False)
def tMk0 (C : Addr) : TE := fun _ H Q => ∀ a, H a = none → Q (.ref a) (upd H a (exo a C none))
section
variable {X : Cx} {o e : Expr} {es : List Expr} {to te : TE} {t tk : TA} {f x : Str} {p p' pos : Pos} {C fI : Addr} {k : Nat} {fd : FuncData} {ps ks : List Str} {sp : Sp} {CX : CXT} {iI : String} {kws : List Keyword} {g : List Value → List Value → List Value} {gV : List V → List V → List V}
theorem ps_stG (ho : PE X o to) (he : PE X e te) (hs : swapsWith e (some (.Attribute o f p')) pos.line X.env = pure false := by rfl) : PS X (.Assign [.Attribute o f p'] e pos) (tStG X.K f to te) := by
  refine ⟨fun pins s σ H D I h => plainObj_wpAny_Assign_Attribute (thn (he.run pins s σ H _ I h) fun v s1 ⟨y, H1, I1, r1, q1⟩ => thn (ho.run pins s1 σ H1 _ I1 q1) fun u s2 ⟨x, H2, I2, r2, a, C, iI, ex, T, no, q⟩ => ?_) hs⟩
  cases ex
  cases (show u = Value.ref a from r2)
  rcases q with ⟨ea, q⟩ | ⟨dx, fs, ea, ed, hl, q⟩
  · exact st_first T I2 ea no r1 fun dx s' n ne J => ⟨σ, _, J, q dx n ne⟩
  · exact st_more T I2 ea ed hl no r1 fun s' J => ⟨σ, _, J, q⟩
theorem run_mk {pins : List (Addr × Obj)} {σ : L2.St} {H : Hp} {s : Shared} {Q : VK} {us : List Value} {kw : List (Str × Value)} (T : OexG X.K C iI) (iC : PySem.W.findIn X.K (.ref C) "__init__" = some (some (.ref fI))) (tI : PySem.W.typeIn X.K (.ref fI) = some (.type "function"))
    (F1 : FnOk X.prog X.w X.K X.mg X.base CX k fI fd ps sp) (hr : Room (k + 1) X.A) (hx : Passes CX X (fun _ _ _ => False)) (I : Inv X pins σ H s) (hu : us.length ≤ sizeLine)
    (bt : ∀ a, H a = none → ∃ (vz : List V) (wz : List Value), (∀ s' : Shared, X.K.In s'.heap → BindsTo s' fd ⟨.ref a :: us, kw⟩ (ps.zip wz)) ∧ Vals vz wz ∧ sp vz (upd H a (exo a C none)) (fun v H2 => v = .non ∧ Q (.ref a) H2) (fun _ _ _ => False)) :
    wpAny (model X.prog X.w) X.A (call (.ref C) us kw) (EP X pins σ Q) X.xe s := by
  obtain ⟨nm, q, N, bs, bm, sn, sub, ab, col, dd, k0, k1, k2, k3, k5, ni, hC, up⟩ := T.cls
  obtain ⟨B, bmB, F, same⟩ := up.ex
  obtain ⟨hp, gn, dr, tkn, os⟩ := s
  have sz : hp.objs.size ≤ hp.objs.size + 1 := Nat.le_succ _
  have hn : H (hp.objs.size + 1) = none := I.hok.fresh sz
  obtain ⟨vz, wz, b, r2, q2⟩ := bt _ hn
  have kp : ∀ b o, hp.get? b = some o → (PySem.ExG.laid hp C us).get? b = some o := fun b o e => Heap.get?_push_of_some _ (Heap.get?_push_of_some _ e)
  have at_ : (PySem.ExG.laid hp C us).get? (hp.objs.size + 1) = some (PySem.HandSPX.excO C hp.objs.size) := by heap_get
  have I2 : Inv X pins σ (upd H (hp.objs.size + 1) (exo (hp.objs.size + 1) C none)) ⟨PySem.ExG.laid hp C us, gn, dr, tkn, os⟩ :=
    I.laid (t' := tkn) (a := hp.objs.size + 1) (o := exo (hp.objs.size + 1) C none) (h' := PySem.ExG.laid hp C us) kp sz (exo_ok at_)
  refine wpAny_call (PySem.ExG.callK F same (I.kIn _ _ hC) (PySem.W.looks_findIn I.kIn iC) (fun self => PySem.W.bind_fn I.kIn self tI) hu
    (codeAny_mono (F1.run _ X.stack _ _ ⟨Value.ref (hp.objs.size + 1) :: us, kw⟩ wz _ _ (fun _ _ _ => False) (hr.make C us kw) (I2.env0.make C us kw) (b _ I2.kIn) r2 q2) fun r s' hq => ?_))
  match r, hq with
  | .error er, hq => exact hx pins σ _ _ er s' I2 hq
  | .ok .next, hq => exact hq.elim
  | .ok .brk, hq => exact hq.elim
  | .ok .cont, hq => exact hq.elim
  | .ok (.ret u), hq =>
    obtain ⟨v, H', I3, rv, ev, q3⟩ := I2.after hq
    subst ev
    exact ⟨rv, ⟨V.ref (hp.objs.size + 1), H', I3, rfl, q3⟩⟩
theorem pe_mkG (T : OexG X.K C iI) (iC : PySem.W.findIn X.K (.ref C) "__init__" = some (some (.ref fI))) (tI : PySem.W.typeIn X.K (.ref fI) = some (.type "function")) (F1 : FnOk X.prog X.w X.K X.mg X.base CX k fI fd ps sp) (hr : Room (k + 1) X.A) (hb : Binds X.K fd ps [])
    (hx : Passes CX X (fun _ _ _ => False)) (hg : Gl X x) (hm : X.mg x = some (.ref C)) (ha : PA X (e :: es) t) (g1 : (x == ("__debug__" : Str)) = false := by decide)
    (g2 : starEach (e :: es) X.env = (false, eval e X.env) :: starEach es X.env := by rfl) (g3 : (backTo pos (starEach es X.env)).any (·.1) = false := by rfl) : PE X (.Call (.Name x p) (e :: es) [] pos) (tMkG C sp t) := by
  refine ⟨fun pins s σ H Q I h => wpAny_Call_Name_kw (ld_glob I hg hm ?_ g1)⟩
  refine PySem.W.callWith_K (h₀ := X.base) I.ok.mod.kin T.kC (thn (ha.run pos pins s σ H _ I h) fun us s1 ⟨vs, H1, I1, r1, hz, q1⟩ => ⟨I1.kIn, ?_⟩) g2 g3
  refine run_mk (kw := []) T iC tI F1 hr hx I1 ?_ fun a na => ⟨.ref a :: vs, .ref a :: us, fun s' X' => ?_, .cons rfl r1, q1 a na⟩
  · show us.length ≤ sizeLine
    rw [← r1.length, sizeLine_eq]
    omega
  · have hq := q1 a na
    have hl : (Value.ref a :: us).length = ps.length := by
      have := (show Vals (V.ref a :: vs) (Value.ref a :: us) from .cons rfl r1).length
      rw [F1.len _ _ _ _ hq] at this
      exact this.symm
    have b := hb s' (.ref a :: us) X' (by rw [List.append_nil]; exact hl)
    rw [List.append_nil] at b
    exact b
theorem pe_mkK (T : OexG X.K C iI) (iC : PySem.W.findIn X.K (.ref C) "__init__" = some (some (.ref fI))) (tI : PySem.W.typeIn X.K (.ref fI) = some (.type "function")) (F1 : FnOk X.prog X.w X.K X.mg X.base CX k fI fd ps sp) (hr : Room (k + 1) X.A) (hb : KBn X.K fd ps 1 ks g gV)
    (hx : Passes CX X (fun _ _ _ => False)) (hg : Gl X x) (hm : X.mg x = some (.ref C)) (hkw : PK X kws tk) (g1 : (x == ("__debug__" : Str)) = false := by decide)
    (g2 : (backToKw pos (keywordEach kws X.env)).all (·.1.isSome) = true := by rfl) (g3 : (backToKw pos (keywordEach kws X.env)).filterMap (·.1) = ks := by rfl)
    (g4 : ((backTo pos (starEach [] X.env)).any (·.1) || (backToKw pos (keywordEach kws X.env)).any (·.1.isNone)) = false := by rfl) : PE X (.Call (.Name x p) [] kws pos) (tMkK C ks.length sp gV tk) := by
  refine ⟨fun pins s σ H Q I h => wpAny_Call_Name_kw (ld_glob I hg hm ?_ g1)⟩
  refine PySem.W.callWith_KW0 (h₀ := X.base) I.ok.mod.kin T.kC g2 (thn (hkw.run pos pins s σ H _ I h) fun ws s1 ⟨zs, H1, I1, rz, l, q1⟩ => ⟨I1.kIn, ?_⟩) g4
  rw [g3]
  refine run_mk (us := []) (kw := ks.zip ws) T iC tI F1 hr hx I1 (Nat.zero_le _) fun a na => ⟨_, _, fun s' X' => hb.to s' [.ref a] ws X' rfl (rz.length.symm.trans l), hb.rel (vs := [.ref a]) (us := [.ref a]) (.cons rfl .nil) rz, q1 a na⟩
/-- C() where the class has no __init__ of its own -/
theorem pe_mk0 (T : OexG X.K C iI) (iC : PySem.W.findIn X.K (.ref C) "__init__" = some (some (.builtin iI))) (hg : Gl X x) (hm : X.mg x = some (.ref C)) (g1 : (x == ("__debug__" : Str)) = false := by decide) : PE X (.Call (.Name x p) [] [] pos) (tMk0 C) := by
  refine ⟨fun pins s σ H Q I h => wpAny_Call_Name_kw (ld_glob I hg hm ?_ g1)⟩
  refine PySem.W.callWith_K0 I.kIn T.kC ?_
  obtain ⟨nm, q, N, bs, bm, sn, sub, ab, col, dd, k0, k1, k2, k3, k5, ni, hC, up⟩ := T.cls
  obtain ⟨B, bmB, F, same⟩ := up.ex
  have li := PySem.W.looks_findIn (M := model X.prog X.w) I.kIn iC
  obtain ⟨hp, gn, dr, tkn, os⟩ := s
  refine PySem.W.call_B F same (I.kIn _ _ hC) li (Nat.zero_le _) fun h' kp he _ => ?_
  have sz : hp.objs.size ≤ hp.objs.size + 1 := Nat.le_succ _
  exact ⟨.ref (hp.objs.size + 1), _, I.laid (t' := tkn) (a := hp.objs.size + 1) (o := exo (hp.objs.size + 1) C none) (h' := h') kp sz (exo_ok he), rfl, h _ (I.hok.fresh sz)⟩
end
section
variable {X : Cx} {pins : List (Addr × Obj)} {σ : L2.St} {H : Hp} {s : Shared}
theorem err_inst {a C : Addr} {fs : List (Str × V)} (I : Inv X pins σ H s) (e : Err H a C fs) : ∃ (oe : Obj) (od : Option Obj), PySem.W.InstAt s.heap a oe C od := by
  rcases e with ⟨_, e⟩ | ⟨dx, e, ed⟩
  · obtain ⟨t1, ho⟩ := exo_at I.hok e
    exact ⟨_, none, ho, rfl, rfl, trivial⟩
  · obtain ⟨t1, ho⟩ := exo_at I.hok e
    obtain ⟨mA, hns, rel⟩ := exd_at I.hok ed
    obtain ⟨oD, _, _, hoD, _, _⟩ := hns.count (within_of rel)
    exact ⟨_, some oD, ho, rfl, rfl, hoD⟩
/-- isinstance(e, C) -/
def rIsG (K : PySem.W.Frag) : List V → Hp → VK → Prop := fun xs H Q => ∃ (a D : Addr) (fs : List (Str × V)) (c : V) (u : Value) (b : Bool), xs = [.ref a, c] ∧ Err H a D fs ∧ Exd.ClsD K D ∧ ClsV c u ∧ PySem.W.kitOne K (.ref D) u = some b ∧ Q (.bl b) H
theorem call_isG : CallR X (.builtin "isinstance") (rIsG X.K) := by
  intro pins s σ H xs us Q I r ⟨a, D, fs, c, u, b, ex, k, T, cu, e, q⟩
  subst ex
  obtain ⟨u1, u2, rfl, r1, r2⟩ := vals2 r
  obtain rfl := cu.eq r2
  cases (show u1 = Value.ref a from r1)
  obtain ⟨oe, od, J⟩ := err_inst I k
  exact PySem.W.kia_one (Exd.kitx T) I.kIn J e (fun z => nomatch z) fun tk => ⟨.bl b, H, I.tok tk, rfl, q⟩
end
/-- e.f -/
def tFdG (K : PySem.W.Frag) (f : Str) (te : TE) : TE := fun σ H Q => te σ H fun x H1 => ∃ (a C : Addr) (fs : List (Str × V)) (v : V), x = .ref a ∧ Err H1 a C fs ∧ XfC K C ∧ PySem.W.findIn K (.ref C) f = some none ∧ fs.lookup f = some v ∧ Q v H1
theorem pe_fdG {X : Cx} {e : Expr} {te : TE} {pos : Pos} {n : Str} (he : PE X e te) (hb : attributeBase e n X.env (eval e X.env) = eval e X.env := by rfl) : PE X (.Attribute e n pos) (tFdG X.K n te) := by
  refine ⟨fun pins s σ H Q I h => attr_of hb (thn (he.run pins s σ H _ I h) fun u s1 ⟨x, H1, I1, rx, a, C, fs, v, ex, ea, T, no, l, q⟩ => ?_)⟩
  subst ex
  cases (show u = Value.ref a from rx)
  rcases ea with ⟨e0, _⟩ | ⟨dx, ea, ed⟩
  · subst e0
    cases l
  · obtain ⟨t1, ho⟩ := exo_at I1.hok ea
    obtain ⟨mA, hns, rel⟩ := exd_at I1.hok ed
    obtain ⟨od, hod, hl⟩ := lookIn_ns hns
    obtain ⟨u, hu, ru⟩ := RelO.some_of (v := v) (o := mA n) (by rw [← l]; exact rel n)
    have J : PySem.W.InstAt s1.heap a { cls := .ref C, dict := some dx, data := .fields #[.ref t1, .none, .none, .none, .bool false, .none] } C (some od) := ⟨ho, rfl, rfl, hod⟩
    exact HandSPX.exc_get I1.kIn J T.ga T.gg T.exC (PySem.W.findObj_own T.hdC no rfl (by rw [hl, hu])) (handed_of ru) ⟨v, H1, I1.tok _, ru, q⟩
/-! ### keywords; a table of isinstance -/
theorem kbm2s {K : PySem.W.Frag} {x qual : Str} {st : Stmt} {f : Addr} {fd : FuncData} {ps : List Str} {k1 k2 : Str} (F : L2.Fun K x qual st f fd)
    (h : ∀ (kV doc pm : Value) (an : Option Addr) (cdv ct a b c : Value), bindArgs (PySem.W.fnOf x qual (defArgs st) (defBody st) (defScope st) .none kV doc pm an cdv ct) ⟨[a], [k1, k2].zip [b, c]⟩ = pure (ps.zip [a, c, b])) :
    KBn K fd ps 1 [k1, k2] (fun us ws => us ++ Kw0.two true ws) (fun vs zs => vs ++ Kw0.two true zs) := by
  refine Kw0.kbn F (fun r1 r2 => r1.append (Kw0.two_rel true r2)) fun kV doc pm an cdv ct us ws l1 l2 => ?_
  match us, ws, l1, l2 with
  | [a], [b, c], _, _ => exact h kV doc pm an cdv ct a b c
def kitTab (K : PySem.W.Frag) (l : List Addr) (m : List Value) (f : Nat → Nat → Bool) : Bool := (List.range l.length).all fun i => (List.range m.length).all fun j => PySem.W.kitOne K (.ref (l.getD i 0)) (m.getD j .none) == some (f i j)
theorem kit_of {K : PySem.W.Frag} {l : List Addr} {m : List Value} {f : Nat → Nat → Bool} (h : kitTab K l m f = true) {i j : Nat} (hi : i < l.length) (hj : j < m.length) : PySem.W.kitOne K (.ref (l.getD i 0)) (m.getD j .none) = some (f i j) := by
  have h1 := List.all_eq_true.mp h i (List.mem_range.mpr hi)
  exact eq_of_beq (List.all_eq_true.mp h1 j (List.mem_range.mpr hj))
/-- the three families -/
def grp (i : Nat) : Nat := if i < 26 then 0 else if i < 41 then 1 else 2
end ExG

/-! Functions that are called where no repr is under way: repr of lists in them. -/
namespace Grd
open PySem PySem.Spec PyProof.Rows L2
/-- what a def keeps where no repr is under way -/
structure FnG (P : Program) (w : World) (K : PySem.W.Frag) (mg : Str → Option Value) (base : Heap) (CX : CXT) (k : Nat) (f : Addr) (fd : FuncData) (ps : List Str) (sp : Sp) : Prop where
  len : ∀ vs H Q E, sp vs H Q E → vs.length = ps.length
  run : ∀ (A : Around) (outer : List Env) (s : Shared) (H : Hp) (args : Args) (us : List Value) (vs : List V) (Q : VK) (E : XK), A.guards = some [] → Room k A → Env0 P w K mg base A outer s H → BindsTo s fd args (ps.zip us) → Vals vs us → sp vs H Q E →
    codeAny (model P w) A (.call (.ref f) args) (CR CX outer P w H s Q E) s
section
variable {P : Program} {w : World} {K : PySem.W.Frag} {mg : Str → Option Value} {base : Heap} {CX : CXT} {k : Nat} {f : Addr} {fd : FuncData} {ps : List Str} {sp : Sp}
theorem FnG.of (F : FnOk P w K mg base CX k f fd ps sp) : FnG P w K mg base CX k f fd ps sp := ⟨F.len, fun A outer s H args us vs Q E _ => F.run A outer s H args us vs Q E⟩
/-- from the body -/
theorem fn_g {name qual : Str} {params : Arguments} {body : List Stmt} {scope : Scope} {dV kV doc pm cdv ct oc : Value} {an od : Option Addr} {osl : Array (Option Value)} {N : List Str}
    (lk : K.lookup f = some ⟨oc, od, .func (PySem.W.fnOf name qual params body scope dV kV doc pm an cdv ct), osl⟩) (hcd : PySem.W.codeIn K cdv qual = true) (S : FnScope N ps scope) (len : ∀ vs H Q E, sp vs H Q E → vs.length = ps.length)
    (hbody : ∀ (A : Around) (outer : List Env) (s : Shared) (H : Hp) (vs : List V) (Q : VK) (E : XK), A.guards = some [] → Room k (A.deeper (envOfC qual scope s.heap.objs.size f cdv)) → sp vs H Q E →
      ∃ t, PSs (cxOf CX P w K mg base N qual scope f cdv A outer s H E) body t ∧ t { nx := fun _ H' => Q .non H', rt := Q } (start N vs) H) :
    FnG P w K mg base CX (k + 1) f (PySem.W.fnOf name qual params body scope dV kV doc pm an cdv ct) ps sp := by
  constructor
  · exact len
  intro A outer s H args us vs Q E hg hr e0 hb r hsp
  have keep0 : ∀ b o, base.get? b = some o → s.heap.get? b = some o := fun b o e => (e0.bs b o e).1
  have ne : ∀ y ∈ ps.zip us, scope.names.lookup y.1 = some .local ∨ (scope.names.lookup y.1 = some .cell ∧ ((cellsFrom (s.heap.objs.size + 1) scope.names []).lookup y.1).isSome = true) := fun y hy =>
    (S.par y.1 (List.of_mem_zip (show (y.1, y.2) ∈ ps.zip us from hy)).1).imp id fun q => ⟨q, PySem.W.cellsFrom_some _ _ _ (.inl q)⟩
  obtain ⟨t, ht, hq⟩ := hbody A outer s H vs Q E hg (hr.deeper _) hsp
  refine codeAny_call_function hr.depth ((e0.mod.kin.keeps keep0) _ _ lk) rfl S.co S.gen rfl (PySem.W.codeRec_of (e0.mod.kin.keeps keep0) hcd) (hb _ _ _ _ (wpAny_newFunctionEnv_cells S.kind ne fun env he s1 x => ?_))
  subst he
  refine ⟨(e0.mod.nolimit.keeps keep0).keeps x.toInCall.keep, codeAny_func ?_⟩
  refine wpAny_mono (ht.run [] s1 (start N vs) H _ (inv_start S hr.hd e0 (len _ _ _ _ hsp) r x) hq) (fun fl s' hs => ?_) fun e s' hs => hs
  cases fl with
  | ret u =>
    obtain ⟨v, σ', H', J, rv, q⟩ := hs
    exact ⟨v, H', J.os, J.bare, J.base, J.hok, rv, q⟩
  | next =>
    obtain ⟨σ', H', J, q⟩ := hs
    exact ⟨.non, H', J.os, J.bare, J.base, J.hok, rfl, q⟩
  | brk =>
    obtain ⟨_, _, _, q⟩ := hs
    exact q.elim
  | cont =>
    obtain ⟨_, _, _, q⟩ := hs
    exact q.elim
end
section
variable {X : Cx} {CX : CXT} {k : Nat} {f : Addr} {fd : FuncData} {ps : List Str} {sp : Sp} {E : XK} {x : Str} {p pos : Pos} {e : Expr} {es : List Expr} {t : TA} {dvs : List V} {ds : List Value}
/-- f(e, ..) -/
theorem pe_callG (hG : X.A.guards = some []) (F : FnG X.prog X.w X.K X.mg X.base CX k f fd ps sp) (hr : Room k X.A) (hg : Gl X x) (hm : X.mg x = some (.ref f)) (hk : PySem.W.keepIn X.K (.ref f) = true) (hb : Binds X.K fd ps ds) (hd : Vals dvs ds) (hx : Passes CX X E)
    (ha : PA X (e :: es) t) (hdb : (x == ("__debug__" : Str)) = false := by decide) (he : starEach (e :: es) X.env = (false, eval e X.env) :: starEach es X.env := by rfl) (hpl : (backTo pos (starEach es X.env)).any (·.1) = false := by rfl) :
    PE X (.Call (.Name x p) (e :: es) [] pos) (tCall sp dvs E t) := by
  constructor
  intro pins s σ H Q I h
  refine wpAny_Call_Name_kw (ld_glob I hg hm ?_ hdb)
  refine PySem.W.callWith_K (h₀ := X.base) I.ok.mod.kin hk (thn (ha.run pos pins s σ H _ I h) fun us s1 ⟨vs, H1, I1, r, q⟩ => ⟨I1.kIn, ?_⟩) he hpl
  have r2 := r.append hd
  have hl : (us ++ ds).length = ps.length := r2.length.symm.trans (F.len _ _ _ _ q)
  refine wpAny_call (codeAny_mono (F.run X.A X.stack s1 H1 ⟨us, []⟩ (us ++ ds) (vs ++ dvs) Q E hG hr I1.env0 (hb s1 us I1.kIn hl) r2 q) fun r s' hq => ?_)
  cases r with
  | error e => exact hx pins σ H1 s1 e s' I1 hq
  | ok fl =>
    cases fl with
    | ret u => exact I1.after hq
    | next => exact hq.elim
    | brk => exact hq.elim
    | cont => exact hq.elim
/-- repr(x), x a list (or a tuple) of data -/
theorem call_repr (hG : X.A.guards = some []) (hu : X.A.units + 64 < cLine) : CallR X (.builtin "repr") (fun xs H Q => ∃ (a : Addr) (d : PyData), xs = [.ref a] ∧ Dp X.K H (.ref a) d ∧ d.showable = true ∧ d.hasDict = false ∧ d.depth + 1 ≤ 64 ∧ d.shown.length ≤ sizeLine ∧ Q (.str d.shown) H) := by
  intro pins s σ H xs us Q I r h
  obtain ⟨a, d, rfl, hd, sh, nd, dp, sz, q⟩ := h
  obtain ⟨u, rfl, ru⟩ := vals1 r
  obtain rfl : u = Value.ref a := ru
  obtain ⟨as, r1⟩ := Dp.reads I d _ _ hd rfl
  exact repr_of_reads' r1 sh (PyData.noDict_hsm nd) hG (by omega) (fun _ _ e => e) (fun h' u tk hk => ⟨.str d.shown, H, I.kept hk, ⟨_, rfl⟩, q⟩) sz
end
section
variable {P : Program} {w : World} {K : PySem.W.Frag} {mg mb : Str → Option Value} {CX : CXT} {k : Nat} {fa a : Addr} {fd : FuncData} {x : Str} {sp : Sp} {s₁ : Shared} {vs : List Value} {ns : List Int}
/-- the law's call, from an abstract heap that tracks at most the script -/
theorem call_from {H : Hp} (KX : K.In s₁.heap) (hns : s₁.heap.Ns mainGlobals mg) (hb : s₁.heap.Ns builtinsNs mb) (hbb : ∀ x : Str, x ≠ "__name__" → mb x = bootBuiltins x) (hlim : s₁.heap.NoLimit) (hg : s₁.gens = #[])
    (ha : s₁.heap.get? a = some { cls := .type "list", data := .seq vs.toArray }) (hr : Room k callerA)
    (F : ∀ base : Heap, K.In base → base.Ns mainGlobals mg → FnG P w K mg base CX k fa fd [x] sp) (hbind : ∀ (s : Shared) (u : Value), BindsTo s fd ⟨[u], []⟩ [(x, u)])
    (hCX : ∀ H e s', CX [] H s₁ (fun _ _ _ => False) e s' → False)
    (hO : Only H) (hok : HOk P w H s₁.heap) (hA : ∀ b, H b ≠ none → b = a) (hK : H a ≠ none → K.lookup a = none) (hsp : sp [.ref a] H (fun v _ => v = .bl true) fun _ _ _ => False) :
    codeAny (model P w) callerA (.call (.ref fa) ⟨[.ref a], []⟩) (fun r s' => r = .ok (.ret (.bool true)) ∧ OldK s₁.heap s'.heap ∧ s'.os = s₁.os ∧ AllBare s'.gens) s₁ := by
  have un0 : ∀ {b : Addr} {o : Obj}, s₁.heap.get? b = some o → (b = a → H a = none) → (hidT s₁.heap H).get? b = some o := fun {b o} e n => hidT_get e (by
    cases q : H b with
    | none => rfl
    | some u =>
      have e' := hA b (by rw [q]; simp)
      rw [e', n e'] at q
      cases q)
  have nsK : ∀ {b : Addr} {m : Str → Option Value}, s₁.heap.Ns b m → (hidT s₁.heap H).Ns b m := fun {b m} ⟨o, es, ep, e, d, r⟩ => by
    refine ⟨o, es, ep, un0 e fun z => ?_, d, r⟩
    subst z
    rw [ha] at e
    cases e
    cases d
  have hKb : K.In (hidT s₁.heap H) := fun b o e => un0 (KX b o e) fun z => by
    cases q : H a with
    | none => rfl
    | some u =>
      have := hK (by rw [q]; simp)
      rw [z, this] at e
      cases e
  have hM : Mod K mg (hidT s₁.heap H) := ⟨hKb, nsK hns, ⟨mb, nsK hb, hbb⟩, let ⟨mc, h1, h2⟩ := hlim; ⟨mc, nsK h1, h2⟩⟩
  refine codeAny_mono ((F _ hKb (nsK hns)).run callerA [] s₁ H ⟨[.ref a], []⟩ [.ref a] [.ref a] _ _ rfl hr ⟨rfl, hM, fun b o e => of_hidT e, Nat.le_of_eq (hidT_size _ _), trivial, (fun b hb => nomatch (show b ∈ ([] : List Addr) from hb)), hok, .of_eq hg⟩ (hbind s₁ (.ref a)) (.cons rfl .nil) hsp) fun r s' h => ?_
  cases r with
  | error e => exact (hCX H e s' h).elim
  | ok fl =>
    cases fl with
    | next => exact h.elim
    | brk => exact h.elim
    | cont => exact h.elim
    | ret u =>
      obtain ⟨v, H', os, bare, un, hok', r', q⟩ := h
      have q' : v = .bl true := q
      subst q'
      obtain rfl : u = Value.bool true := r'
      refine ⟨rfl, OldK.of_keep fun b o e => ?_, os, bare⟩
      rcases hO b with z | ⟨ob, xs, z⟩
      · exact un.keep b o e z (fun y => nomatch (show b ∈ ([] : List Addr) from y)) (by simp)
      · obtain ⟨e1, _⟩ := hok b _ z
        obtain ⟨e2, _⟩ := hok' b _ (un.frzs b ob _ z)
        rw [e] at e1
        cases e1
        exact e2
theorem law_callG (KX : K.In s₁.heap) (hns : s₁.heap.Ns mainGlobals mg) (hb : s₁.heap.Ns builtinsNs mb) (hbb : ∀ x : Str, x ≠ "__name__" → mb x = bootBuiltins x) (hlim : s₁.heap.NoLimit) (hg : s₁.gens = #[])
    (ha : s₁.heap.get? a = some { cls := .type "list", data := .seq vs.toArray }) (hi : IntsAre vs ns) (hl : ns.length ≤ sizeLine) (hr : Room k callerA)
    (F : ∀ base : Heap, K.In base → base.Ns mainGlobals mg → FnG P w K mg base CX k fa fd [x] sp) (hbind : ∀ (s : Shared) (u : Value), BindsTo s fd ⟨[u], []⟩ [(x, u)])
    (hsp : ∀ H : Hp, Only H → SqL K H a (ns.map V.int) → sp [.ref a] H (fun v _ => v = .bl true) fun _ _ _ => False)
    (hCX : ∀ H e s', CX [] H s₁ (fun _ _ _ => False) e s' → False) :
    codeAny (model P w) callerA (.call (.ref fa) ⟨[.ref a], []⟩) (fun r s' => r = .ok (.ret (.bool true)) ∧ OldK s₁.heap s'.heap ∧ s'.os = s₁.os ∧ AllBare s'.gens) s₁ := by
  have rv := vals_ints hi
  cases hk : K.lookup a with
  | some o =>
    have e := KX a o hk
    rw [ha] at e
    cases e
    have hO : Only (fun _ => none) := fun _ => .inl rfl
    exact call_from KX hns hb hbb hlim hg ha hr F hbind hCX hO (fun b u z => nomatch (show (none : Option HO) = some u from z)) (fun b z => absurd rfl z) (fun z => absurd rfl z)
      (hsp _ hO (.inr ⟨_, vs.toArray, _, hk, rfl, rfl, rfl, by rw [List.size_toArray, hi.length]; exact hl, by simpa using rv⟩))
  | none =>
    obtain ⟨H, hH⟩ : ∃ H : Hp, ∀ b, H b = if b = a then some (.frz { cls := .type "list", data := .seq vs.toArray } (.lst (ns.map V.int))) else none := ⟨_, fun _ => rfl⟩
    have at_a : H a = some (.frz { cls := .type "list", data := .seq vs.toArray } (.lst (ns.map V.int))) := by rw [hH, if_pos rfl]
    have off : ∀ b, b ≠ a → H b = none := fun b n => by rw [hH, if_neg n]
    have hO : Only H := fun b => by
      by_cases n : b = a
      · exact .inr ⟨_, _, by rw [n]; exact at_a⟩
      · exact .inl (off b n)
    refine call_from KX hns hb hbb hlim hg ha hr F hbind hCX hO (fun b u z => ?_) (fun b z => ?_) (fun _ => hk) (hsp _ hO (.inl (.inr ⟨_, at_a⟩)))
    · by_cases n : b = a
      · rw [n, at_a] at z
        cases z
        rw [n]
        exact ⟨ha, by rw [List.length_map]; exact hl, vs, _, rv, ha⟩
      · rw [off b n] at z
        cases z
    · by_cases n : b = a
      · exact n
      · exact absurd (off b n) z
end
/-- a value of a built-in type is no instance of an own class -/
theorem kit_false {K : PySem.W.Frag} {ty : String} {C : Addr} (h1 : PySem.W.isClsIn K C = true) (h2 : PySem.W.typeIn K (.ref C) = some (.type "type")) (h3 : PySem.W.subIn K (.type ty) (.ref C) = some false) : PySem.W.kitOne K (.type ty) (.ref C) = some false := by
  unfold PySem.W.kitOne PySem.W.kitCls
  rw [if_neg (by intro z; exact Value.noConfusion (eq_of_beq z))]
  simp only []
  rw [if_pos ?_, h3]
  rw [h2]
  unfold PySem.W.isClsIn at h1
  simp [h1]
/-- a def by its body, where no repr is under way -/
theorem Fun.okG {P : Program} {w : World} {K : PySem.W.Frag} {mg : Str → Option Value} {base : Heap} {x qual : Str} {st : Stmt} {f : Addr} {fd : FuncData} {N ps : List Str} {k : Nat} {sp : Sp} (F : L2.Fun K x qual st f fd) (S : FnScope N ps (defScope st)) (len : ∀ vs H Q E, sp vs H Q E → vs.length = ps.length)
    (hbody : ∀ (cdv : Value) (A : Around) (outer : List Env) (s : Shared) (H : Hp) (vs : List V) (Q : VK) (E : XK), (A.deeper (envOfC qual (defScope st) s.heap.objs.size f cdv)).guards = some [] → Room k (A.deeper (envOfC qual (defScope st) s.heap.objs.size f cdv)) → sp vs H Q E →
      ∃ t, PSs (cxOf CX0 P w K mg base N qual (defScope st) f cdv A outer s H E).nox (defBody st) t ∧ t { nx := fun _ H' => Q .non H', rt := Q } (start N vs) H) : FnG P w K mg base CX0 (k + 1) f fd ps sp := by
  obtain ⟨oc, od, kV, doc, pm, an, cdv, ct, osl, rfl, lk, hcd⟩ := F.ex
  refine fn_g lk hcd S len fun A outer s H vs Q E hg hr hsp => ?_
  obtain ⟨t, h, q⟩ := hbody cdv A outer s H vs Q E hg hr hsp
  exact ⟨t, h.nox, q⟩
theorem walk_g {l : PySem.W.OpenLaw} {n k : Nat} {q : Program} {loose : List Str} {XP : (Str → Option Value) → Heap → Prop} {YP : World → Heap → Prop} {d : DefRec} {K : Params → PySem.W.Frag} {CX : World → CXT} {sp : World → Sp} {x : Str}
    (hn : l.most = some n) (hn2 : n ≤ sizeLine) (hdf : d.params.defaults = []) (hr : Room k callerA)
    (hY : ∀ (w : World) (h : Heap), YP w h → (K w.params).In h)
    (F : ∀ (w : World) (mg : Str → Option Value) (fa : Addr) (h : Heap), (K w.params).In h → h.Ns mainGlobals mg → mg d.name = some (.ref fa) →
      ∃ fd : FuncData, (∀ (s : Shared) (u : Value), BindsTo s fd ⟨[u], []⟩ [(x, u)]) ∧
        ∀ base : Heap, (K w.params).In base → base.Ns mainGlobals mg → FnG l.prog w (K w.params) mg base (CX w) k fa fd [x] (sp w))
    (hsp : ∀ (w : World) (H : Hp) (a : Addr) (ns : List Int), ns.length ≤ n → Only H → SqL (K w.params) H a (ns.map V.int) → sp w [.ref a] H (fun v _ => v = .bl true) fun _ _ _ => False)
    (hCX : ∀ (w : World) (H : Hp) (s : Shared) (e : Value) (s' : Shared), CX w [] H s (fun _ _ _ => False) e s' → False) :
    PySem.W.WalkO q loose XP YP l.row.toRowW d [] (fun f vs => PySem.call f vs) := by
  refine Att.attach_call hn hdf fun w s₀ s₁ mg mb fa o pm cd doc a vs ns G Y ho hd hcd hmg hobj hints hlen hg => ?_
  obtain ⟨fd, hb, hF⟩ := F w mg fa _ (hY w _ Y) G.T.g hmg
  exact law_callG (hY w _ Y) G.T.g G.T.b G.T.builtins G.T.nolimit hg hobj hints (Nat.le_trans hlen hn2) hr hF hb (fun H hO hS => hsp w H a ns hlen hO hS) fun H e s' => hCX w H s₁ e s'
end Grd

/-! The end of a law that makes lambdas and prints lists: tables of code objects are tracked, no repr is under way. -/
namespace LamG
open PySem PySem.Spec PyProof.Rows L2 Grd LamX
section
variable {P : Program} {w : World} {K : PySem.W.Frag} {mg mb : Str → Option Value} {CX : CXT} {k : Nat} {fa a : Addr} {fd : FuncData} {x : Str} {sp : Sp} {s₁ : Shared} {vs : List Value} {ns : List Int} {cs : List (Addr × Addr)}
/-- what is tracked at the start: perhaps the script, and the tables -/
def Starts (a : Addr) (cs : List (Addr × Addr)) (H : Hp) : Prop := ∀ b u, H b = some u → (b = a ∧ ∃ o xs, u = .frz o (.lst xs)) ∨ (u = .tbl #[] ∧ ∃ p ∈ cs, p.2 = b)
theorem call_fromT {H : Hp} (KX : K.In s₁.heap) (hns : s₁.heap.Ns mainGlobals mg) (hb : s₁.heap.Ns builtinsNs mb) (hbb : ∀ x : Str, x ≠ "__name__" → mb x = bootBuiltins x) (hlim : s₁.heap.NoLimit) (hg : s₁.gens = #[])
    (ha : s₁.heap.get? a = some { cls := .type "list", data := .seq vs.toArray }) (hr : Room k callerA)
    (hT : ∀ p ∈ cs, s₁.heap.get? p.2 = some { cls := .none, data := .fields #[] }) (hC : ∀ p ∈ cs, PySem.W.CodeHd s₁.heap p.1 p.2)
    (hbm : ∃ (bm : Addr) (ob : Obj), mg "__builtins__" = some (.ref bm) ∧ bm ≠ builtinsNs ∧ s₁.heap.get? bm = some ob ∧ ob.cls = .type "module" ∧ ob.dict = some builtinsNs ∧ ob.data = .plain)
    (F : ∀ base : Heap, K.In base → base.Ns mainGlobals mg → (∀ p ∈ cs, TabB base mg p.1 p.2) → FnG P w K mg base CX k fa fd [x] sp) (hbind : ∀ (s : Shared) (u : Value), BindsTo s fd ⟨[u], []⟩ [(x, u)])
    (hCX : ∀ H e s', CX [] H s₁ (fun _ _ _ => False) e s' → False)
    (hH : Starts a cs H) (hHT : ∀ p ∈ cs, H p.2 = some (.tbl #[])) (hok : HOk P w H s₁.heap) (hK : ∀ b, H b ≠ none → K.lookup b = none) (hsp : sp [.ref a] H (fun v _ => v = .bl true) fun _ _ _ => False) :
    codeAny (model P w) callerA (.call (.ref fa) ⟨[.ref a], []⟩) (fun r s' => r = .ok (.ret (.bool true)) ∧ OldK s₁.heap s'.heap ∧ s'.os = s₁.os ∧ AllBare s'.gens) s₁ := by
  have un : ∀ {b : Addr} {o : Obj}, s₁.heap.get? b = some o → (∀ ws m, o.data ≠ .seq ws m) → o.data ≠ .fields #[] → (hidT s₁.heap H).get? b = some o := fun {b o} e n1 n2 => hidT_get e (by
    cases q : H b with
    | none => rfl
    | some u =>
      rcases hH b u q with ⟨rfl, _⟩ | ⟨_, p, hp, rfl⟩
      · rw [ha] at e
        cases e
        exact (n1 _ _ rfl).elim
      · rw [hT p hp] at e
        cases e
        exact (n2 rfl).elim)
  have nsK : ∀ {b : Addr} {m : Str → Option Value}, s₁.heap.Ns b m → (hidT s₁.heap H).Ns b m := fun {b m} ⟨o, es, ep, e, d, r⟩ =>
    ⟨o, es, ep, un e (by rw [d]; intro _ _ z; cases z) (by rw [d]; intro z; cases z), d, r⟩
  have hKb : K.In (hidT s₁.heap H) := fun b o e => hidT_get (KX b o e) (by
    cases q : H b with
    | none => rfl
    | some u =>
      rw [hK b (by rw [q]; simp)] at e
      cases e)
  have hM : Mod K mg (hidT s₁.heap H) := ⟨hKb, nsK hns, ⟨mb, nsK hb, hbb⟩, let ⟨mc, h1, h2⟩ := hlim; ⟨mc, nsK h1, h2⟩⟩
  have noG : ∀ {b : Addr}, (∃ o, s₁.heap.get? b = some o ∧ ∀ es ep, o.data ≠ .dict es ep) → mainGlobals ≠ b := fun {b} ⟨o, e, n⟩ z => by
    obtain ⟨o', es, ep, e', d, _⟩ := hns
    rw [z, e] at e'
    cases e'
    exact n _ _ d
  have TB : ∀ p ∈ cs, TabB (hidT s₁.heap H) mg p.1 p.2 := fun p hp => by
    obtain ⟨bm, ob, b1, b2, b3, b4, b5, b6⟩ := hbm
    have hp0 := hT p hp
    refine ⟨?_, ⟨bm, ob, b1, b2, ?_, ?_, un b3 (by rw [b6]; intro _ _ z; cases z) (by rw [b6]; intro z; cases z), b4, b5, b6⟩, noG ⟨_, hp0, fun _ _ z => by cases z⟩⟩
    · obtain ⟨o, us, file, tf, flags, tg, inF, text, tt, e1, e2, e3, e4, rest⟩ := hC p hp
      refine ⟨o, us, file, tf, flags, tg, inF, text, tt, un e1 (by rw [e3]; intro _ _ z; cases z) (fun z => ?_), e2, e3, e4, rest⟩
      rw [e3] at z
      cases z
      simp at e4
    · exact fun z => noG ⟨_, b3, fun _ _ y => by rw [b6] at y; cases y⟩ z.symm
    · intro z
      rw [z, hp0] at b3
      cases b3
      cases b6
  refine codeAny_mono ((F _ hKb (nsK hns) TB).run callerA [] s₁ H ⟨[.ref a], []⟩ [.ref a] [.ref a] _ _ rfl hr ⟨rfl, hM, fun b o e => of_hidT e, Nat.le_of_eq (hidT_size _ _), trivial, (fun b hb => nomatch (show b ∈ ([] : List Addr) from hb)), hok, .of_eq hg⟩ (hbind s₁ (.ref a)) (.cons rfl .nil) hsp) fun r s' h => ?_
  match r, h with
  | .error e, h => exact (hCX H e s' h).elim
  | .ok .next, h => exact False.elim h
  | .ok .brk, h => exact False.elim h
  | .ok .cont, h => exact False.elim h
  | .ok (.ret u), h =>
    obtain ⟨v, H', os, bare, uu, hok', r', q⟩ := h
    have q' : v = .bl true := q
    subst q'
    obtain rfl : u = Value.bool true := r'
    have tab : ∀ p ∈ cs, ∃ more : Array Value, s'.heap.get? p.2 = some { cls := .none, data := .fields more } := fun p hp => by
      obtain ⟨more, z⟩ := uu.tbls p.2 #[] (hHT p hp)
      exact ⟨_, hok' p.2 _ z⟩
    have old : ∀ b o, s₁.heap.get? b = some o → (∃ p ∈ cs, p.2 = b) ∨ s'.heap.get? b = some o := fun b o e => by
      cases z : H b with
      | none => exact .inr (uu.keep b o e z (fun y => nomatch (show b ∈ ([] : List Addr) from y)) (by simp))
      | some u =>
        rcases hH b u z with ⟨rfl, ob, xs, rfl⟩ | ⟨_, p, hp, rfl⟩
        · have e1 := (hok _ _ z).1
          have e2 := (hok' _ _ (uu.frzs _ ob _ z)).1
          rw [e] at e1
          cases e1
          exact .inr e2
        · exact .inl ⟨p, hp, rfl⟩
    refine ⟨rfl, ⟨fun b o e => ?_, fun b o e => ?_⟩, os, bare⟩
    · rcases old b o e with ⟨p, hp, rfl⟩ | h
      · obtain ⟨more, hm⟩ := tab p hp
        have e0 := hT p hp
        rw [e0] at e
        cases e
        refine .inr (.inl ⟨((hC p hp).tab e0).isCodeTable, rfl, #[], more, rfl, ?_⟩)
        rw [Array.empty_append]
        exact hm
      · exact .inl h
    · rcases old b o e with ⟨p, hp, rfl⟩ | h
      · obtain ⟨more, hm⟩ := tab p hp
        exact ⟨_, hm⟩
      · exact ⟨o, h⟩
theorem law_callGT (KX : K.In s₁.heap) (hns : s₁.heap.Ns mainGlobals mg) (hb : s₁.heap.Ns builtinsNs mb) (hbb : ∀ x : Str, x ≠ "__name__" → mb x = bootBuiltins x) (hlim : s₁.heap.NoLimit) (hg : s₁.gens = #[])
    (hT : ∀ p ∈ cs, s₁.heap.get? p.2 = some { cls := .none, data := .fields #[] }) (nT : ∀ p ∈ cs, K.lookup p.2 = none) (hC : ∀ p ∈ cs, PySem.W.CodeHd s₁.heap p.1 p.2)
    (hbm : ∃ (bm : Addr) (ob : Obj), mg "__builtins__" = some (.ref bm) ∧ bm ≠ builtinsNs ∧ s₁.heap.get? bm = some ob ∧ ob.cls = .type "module" ∧ ob.dict = some builtinsNs ∧ ob.data = .plain)
    (ha : s₁.heap.get? a = some { cls := .type "list", data := .seq vs.toArray }) (hi : IntsAre vs ns) (hl : ns.length ≤ sizeLine) (hr : Room k callerA)
    (F : ∀ base : Heap, K.In base → base.Ns mainGlobals mg → (∀ p ∈ cs, TabB base mg p.1 p.2) → FnG P w K mg base CX k fa fd [x] sp) (hbind : ∀ (s : Shared) (u : Value), BindsTo s fd ⟨[u], []⟩ [(x, u)])
    (hsp : ∀ H : Hp, (∀ p ∈ cs, H p.2 = some (.tbl #[])) → SqL K H a (ns.map V.int) → sp [.ref a] H (fun v _ => v = .bl true) fun _ _ _ => False)
    (hCX : ∀ H e s', CX [] H s₁ (fun _ _ _ => False) e s' → False) :
    codeAny (model P w) callerA (.call (.ref fa) ⟨[.ref a], []⟩) (fun r s' => r = .ok (.ret (.bool true)) ∧ OldK s₁.heap s'.heap ∧ s'.os = s₁.os ∧ AllBare s'.gens) s₁ := by
  have rv := vals_ints hi
  have aT : ¬ ∃ p ∈ cs, p.2 = a := fun ⟨p, hp, e⟩ => by
    have z := hT p hp
    rw [e, ha] at z
    cases z
  obtain ⟨tH, on, off⟩ : ∃ tH : Hp, (∀ p ∈ cs, tH p.2 = some (.tbl #[])) ∧ ∀ b, (¬ ∃ p ∈ cs, p.2 = b) → tH b = none := by
    classical
    exact ⟨fun b => if ∃ p ∈ cs, p.2 = b then some (.tbl #[]) else none, fun p hp => if_pos ⟨p, hp, rfl⟩, fun b n => if_neg n⟩
  have only : ∀ b u, tH b = some u → u = .tbl #[] ∧ ∃ p ∈ cs, p.2 = b := fun b u e => by
    by_cases z : ∃ p ∈ cs, p.2 = b
    · obtain ⟨p, hp, rfl⟩ := z
      rw [on p hp] at e
      exact ⟨(Option.some.inj e).symm, p, hp, rfl⟩
    · rw [off b z] at e
      cases e
  cases hk : K.lookup a with
  | some o =>
    have e := KX a o hk
    rw [ha] at e
    cases e
    refine call_fromT KX hns hb hbb hlim hg ha hr hT hC hbm F hbind hCX (H := tH) (fun b u z => .inr (only b u z)) on (fun b u z => ?_) (fun b n => ?_)
      (hsp tH on (.inr ⟨_, vs.toArray, _, hk, rfl, rfl, rfl, by rw [List.size_toArray, hi.length]; exact hl, by simpa using rv⟩))
    · obtain ⟨rfl, p, hp, rfl⟩ := only b u z
      exact hT p hp
    · cases z : tH b with
      | none => exact absurd z n
      | some u =>
        obtain ⟨_, p, hp, rfl⟩ := only b u z
        exact nT p hp
  | none =>
    obtain ⟨H, hH⟩ : ∃ H : Hp, ∀ b, H b = if b = a then some (.frz { cls := .type "list", data := .seq vs.toArray } (.lst (ns.map V.int))) else tH b := ⟨_, fun _ => rfl⟩
    have at_a : H a = some (.frz { cls := .type "list", data := .seq vs.toArray } (.lst (ns.map V.int))) := by rw [hH, if_pos rfl]
    have el : ∀ {b}, b ≠ a → H b = tH b := fun {b} n => by rw [hH, if_neg n]
    have onH : ∀ p ∈ cs, H p.2 = some (.tbl #[]) := fun p hp => by rw [el fun z => aT ⟨p, hp, z⟩, on p hp]
    refine call_fromT KX hns hb hbb hlim hg ha hr hT hC hbm F hbind hCX (H := H) (fun b u z => ?_) onH (fun b u z => ?_) (fun b n => ?_) (hsp H onH (.inl (.inr ⟨_, at_a⟩)))
    · by_cases y : b = a
      · rw [y, at_a] at z
        exact .inl ⟨y, _, _, (Option.some.inj z).symm⟩
      · rw [el y] at z
        exact .inr (only b u z)
    · by_cases y : b = a
      · rw [y, at_a] at z
        cases z
        rw [y]
        exact ⟨ha, by rw [List.length_map]; exact hl, vs, _, rv, ha⟩
      · rw [el y] at z
        obtain ⟨rfl, p, hp, rfl⟩ := only b u z
        exact hT p hp
    · by_cases y : b = a
      · rw [y]
        exact hk
      · rw [el y] at n
        cases z : tH b with
        | none => exact absurd z n
        | some u =>
          obtain ⟨_, p, hp, rfl⟩ := only b u z
          exact nT p hp
end
/-- what is known of the law's def at the head's heap -/
def LawG (l : PySem.W.OpenLaw) (w : World) (K : PySem.W.Frag) (CX : CXT) (k n : Nat) (x : Str) (mg : Str → Option Value) (fa : Addr) (h : Heap) : Prop :=
  ∃ (fd : FuncData) (cs : List (Addr × Addr)) (sp : Sp), (∀ p ∈ cs, h.get? p.2 = some { cls := .none, data := .fields #[] } ∧ K.lookup p.2 = none ∧ PySem.W.CodeHd h p.1 p.2) ∧ (∀ (s : Shared) (u : Value), BindsTo s fd ⟨[u], []⟩ [(x, u)]) ∧
    (∀ (H : Hp) (a : Addr) (ns : List Int), ns.length ≤ n → (∀ p ∈ cs, H p.2 = some (.tbl #[])) → SqL K H a (ns.map V.int) → sp [.ref a] H (fun v _ => v = .bl true) fun _ _ _ => False) ∧
    ∀ base : Heap, K.In base → base.Ns mainGlobals mg → (∀ p ∈ cs, TabB base mg p.1 p.2) → FnG l.prog w K mg base CX k fa fd [x] sp
theorem walk_gT {l : PySem.W.OpenLaw} {n k : Nat} {q : Program} {loose : List Str} {XP : (Str → Option Value) → Heap → Prop} {YP : World → Heap → Prop} {d : DefRec} {K : Params → PySem.W.Frag} {CX : World → CXT} {x : Str}
    (hn : l.most = some n) (hn2 : n ≤ sizeLine) (hdf : d.params.defaults = []) (hr : Room k callerA) (hY : ∀ (w : World) (h : Heap), YP w h → (K w.params).In h)
    (F : ∀ (w : World) (mg : Str → Option Value) (fa : Addr) (h : Heap), YP w h → (K w.params).In h → h.Ns mainGlobals mg → mg d.name = some (.ref fa) → LawG l w (K w.params) (CX w) k n x mg fa h)
    (hCX : ∀ (w : World) (H : Hp) (s : Shared) (e : Value) (s' : Shared), CX w [] H s (fun _ _ _ => False) e s' → False) :
    PySem.W.WalkO q loose XP YP l.row.toRowW d [] (fun f vs => PySem.call f vs) := by
  refine Att.attach_call hn hdf fun w s₀ s₁ mg mb fa o pm cd doc a vs ns G Y ho hd hcd hmg hobj hints hlen hg => ?_
  obtain ⟨fd, cs, sp, hc, hb, hsp, hF⟩ := F w mg fa _ Y (hY w _ Y) G.T.g hmg
  exact law_callGT (hY w _ Y) G.T.g G.T.b G.T.builtins G.T.nolimit hg (fun p hp => (hc p hp).1) (fun p hp => (hc p hp).2.1) (fun p hp => (hc p hp).2.2) G.T.bmain hobj hints (Nat.le_trans hlen hn2) hr hF hb (fun H hH hS => hsp H a ns hlen hH hS) fun H e s' => hCX w H s₁ e s'
/-- a def whose code object stands at c -/
structure FunC (K : PySem.W.Frag) (x qual : Str) (st : Stmt) (f : Addr) (fd : FuncData) (c : Addr) : Prop where
  ex : ∃ (oc : Value) (od : Option Addr) (kV doc pm : Value) (an : Option Addr) (ct : Value) (osl : Array (Option Value)),
    fd = PySem.W.fnOf x qual (defArgs st) (defBody st) (defScope st) .none kV doc pm an (.ref c) ct ∧ K.lookup f = some ⟨oc, od, .func fd, osl⟩ ∧ PySem.W.codeIn K (.ref c) qual = true
  kp : PySem.W.keepIn K (.ref f) = true
section
variable {P : Program} {w : World} {K : PySem.W.Frag} {mg : Str → Option Value} {base : Heap} {x qual : Str} {st : Stmt} {f c : Addr} {fd : FuncData} {N ps : List Str} {k : Nat} {sp : Sp}
theorem FunC.okG (F : FunC K x qual st f fd c) (S : FnScope N ps (defScope st)) (len : ∀ vs H Q E, sp vs H Q E → vs.length = ps.length)
    (hbody : ∀ (A : Around) (outer : List Env) (s : Shared) (H : Hp) (vs : List V) (Q : VK) (E : XK), (A.deeper (envOfC qual (defScope st) s.heap.objs.size f (.ref c))).guards = some [] → Room k (A.deeper (envOfC qual (defScope st) s.heap.objs.size f (.ref c))) → sp vs H Q E →
      ∃ t, PSs (cxOf CX0 P w K mg base N qual (defScope st) f (.ref c) A outer s H E).nox (defBody st) t ∧ t { nx := fun _ H' => Q .non H', rt := Q } (start N vs) H) : FnG P w K mg base CX0 (k + 1) f fd ps sp := by
  obtain ⟨oc, od, kV, doc, pm, an, ct, osl, rfl, lk, hcd⟩ := F.ex
  refine fn_g lk hcd S len fun A outer s H vs Q E hg hr h => ?_
  obtain ⟨t, ht, q⟩ := hbody A outer s H vs Q E hg hr h
  exact ⟨t, ht.nox, q⟩
end
/-- x(lambda: body), x the def at g, in a def whose code object stands at c and whose table stands at P -/
theorem pe_lamC {X : Cx} {TT : (XK → Hp → VK → Prop) → Hp → VK → Prop} {x a : Str} {g c P : Addr} {k : Nat} {stg : Stmt} {fdg : FuncData} {Ng : List Str} {params : Arguments} {body : Expr} {scope : Scope} {t : XK → TE} {p lpos pos : Pos} (q0 : Str) (hq : X.env.qual = q0)
    (hG : ∀ cdg : Value, GivesTo X Ng x (defScope stg) g cdg (defBody stg) a (X.env.qual ++ "<lambda>") TT) (Fg : L2.Fun X.K x x stg g fdg) (hg : Gl X x) (hm : X.mg x = some (.ref g)) (hb : L2.Binds X.K fdg [a] []) (Sg : FnScope Ng [a] (defScope stg)) (hNg : Ng[0]? = some a) (hva : Vis (defScope stg) a)
    (TB : TabB X.base X.mg c P) (hcode : X.env.code = .ref c) (hr : Room (k + 2) X.A) (L : LamS X.env.scope scope) (hdef : defaultsOf params X.env = ([], []))
    (hbind : ∀ (q : Str) (cl : List (Str × Addr)) (pm cv ctv : Value), bindArgs (PySem.W.kla_fn "<lambda>" q params body scope cl pm cv ctv) ⟨[], []⟩ = pure [])
    (hbody : ∀ (A : Around) (outer : List Env) (s : Shared) (H : Hp) (E : XK) (f c' : Addr), Room k (A.deeper (lamEnv X scope s.heap.objs.size f c')) → PE (lamCx X A outer s H E scope f c') body (t E))
    (hdb : (x == ("__debug__" : Str)) = false := by decide) (hd : (a == ("__debug__" : Str)) = false := by decide) (hcd : (a == ("__classdict__" : Str)) = false := by decide) :
    PE X (.Call (.Name x p) [.Lambda params body scope lpos] [] pos) (tLam [(P, q0 ++ "<lambda>")] TT t) := by
  subst hq
  obtain ⟨oc, od, kV, doc, pm, an, cdg, ct, osl, rfl, lk, hcg⟩ := Fg.ex
  exact pe_lamcall (T := [(P, X.env.qual ++ "<lambda>")]) hg hm Fg.kp lk hcg hb Sg hNg hva (hG cdg) TB hcode List.mem_cons_self (fun q hq _ => by rw [List.mem_singleton.mp hq]) hr L hdef hbind hbody hdb hd hcd
end LamG

/-! A classmethod that raises, called where what it raises is wished for; repr of a list with an empty dict; != of tuples of own objects. -/
namespace K6x
open PySem PySem.Spec PyProof.Rows L2
section
variable {X : Cx} {pins : List (Addr × Obj)} {σ : L2.St} {H : Hp} {s : Shared} {CX : CXT} {k : Nat} {sp : Sp} {us : List Value} {vs : List V} {Q : VK}
theorem run_starS {f : Addr} {E : XK} (F : FnR X.prog X.w X.K X.mg X.base CX k f sp) (hr : Room k X.A) (hx : PassesAt CX X σ E) (I : Inv X pins σ H s) (r : Vals vs us) (h : sp vs H Q E) :
    codeAny (model X.prog X.w) X.A (.call (.ref f) ⟨us, []⟩) (fun r s' => match r with | .ok (.ret v) => EP X pins σ Q v s' | .ok _ => False | .error e => X.xe e s') s :=
  codeAny_mono (F X.A X.stack s H us vs Q E hr I.env0 r h) fun z s' hq => match z, hq with
    | .error e, hq => hx pins H s e s' I hq
    | .ok (.ret u), hq => I.after hq
    | .ok .next, hq => hq.elim
    | .ok .brk, hq => hq.elim
    | .ok .cont, hq => hq.elim
theorem run_clsS {q g C : Addr} {E : XK} (F : FnR X.prog X.w X.K X.mg X.base CX k g sp) (hr : Room k X.A) (hx : PassesAt CX X σ E) (I : Inv X ((q, PySem.W.methodObj (.ref g) (.ref C)) :: pins) σ H s)
    (r : Vals vs us) (h : sp (.ref C :: vs) H Q E) : wpAny (model X.prog X.w) X.A (call (.ref q) us) (EP X pins σ Q) X.xe s :=
  thn (wpAny_call (PySem.W.method_call (ClX.pin_at I) (run_starS (us := .ref C :: us) (vs := .ref C :: vs) F hr hx I (.cons rfl r) h))) fun _ _ y => ClX.unpinE y
end
/-- C.m(..), m a classmethod that may raise -/
def tClsS (C : Addr) (sp : Sp) (E : L2.St → XK) (ta : TE) (t : TA) : TE := fun σ H Q => ta σ H fun x H1 => x = .ref C ∧ t σ H1 fun vs H2 => sp (.ref C :: vs) H2 Q (E σ)
section
variable {X : Cx} {CX : CXT} {k : Nat} {C p g : Addr} {mc : Value} {sp : Sp} {E : L2.St → XK} {o e : Expr} {es : List Expr} {m : Str} {pos apos : Pos} {ta : TE} {t : TA} {pl : Sem Bool}
theorem pe_clsS (he : PE X o ta) (r : ClX.CRead X.K C mc) (c : ClX.CMet X.K C mc m p g) (F : FnR X.prog X.w X.K X.mg X.base CX k g sp) (hr : Room k X.A) (hx : ∀ σ, PassesAt CX X σ (E σ)) (ha : PA X (e :: es) t)
    (h1 : starEach (e :: es) X.env = (false, eval e X.env) :: starEach es X.env := by rfl) (h2 : (backTo pos (starEach es X.env)).any (·.1) = false := by rfl)
    (h3 : eval (.Call (.Attribute o m apos) (e :: es) [] pos) X.env = (eval o X.env >>= fun ov => standAt apos.atName >>= fun _ => holding [ov] (getMethod ov m pl) >>= fun z => callWith pos z.1 z.2 (backTo pos (starEach (e :: es) X.env)) (backToKw pos (keywordEach [] X.env))) := by rfl) :
    PE X (.Call (.Attribute o m apos) (e :: es) [] pos) (tClsS C sp E ta t) := by
  refine ⟨fun pins s σ H Q I h => PySem.W.methodCall_KW (pl := pl) (thn (he.run pins s σ H _ I h) fun u s1 ⟨x, H1, I1, rx, ex, q⟩ => ?_) h3⟩
  cases ex
  cases (show u = Value.ref C from rx)
  exact ClX.getmethcm_ok I1 r c fun s2 I2 => ClX.callwith_cm I2 (ClX.base_none I1 (Nat.le_refl _)) c.fi (thn (ha.run pos _ s2 σ H1 _ I2 q) fun us s3 ⟨vs, H2, I3, rv, q2⟩ => ⟨⟨ClX.pin_at I3, I3.kIn⟩, run_clsS F hr (hx σ) I3 rv q2⟩) h1 h2
theorem pe_clsS0 (he : PE X o ta) (r : ClX.CRead X.K C mc) (c : ClX.CMet X.K C mc m p g) (F : FnR X.prog X.w X.K X.mg X.base CX k g sp) (hr : Room k X.A) (hx : ∀ σ, PassesAt CX X σ (E σ))
    (h3 : eval (.Call (.Attribute o m apos) [] [] pos) X.env = (eval o X.env >>= fun ov => standAt apos.atName >>= fun _ => holding [ov] (getMethod ov m pl) >>= fun z => callWith pos z.1 z.2 (backTo pos (starEach [] X.env)) (backToKw pos (keywordEach [] X.env))) := by rfl) :
    PE X (.Call (.Attribute o m apos) [] [] pos) (tClsS C sp E ta tNil) := by
  refine ⟨fun pins s σ H Q I h => PySem.W.methodCall_KW (pl := pl) (thn (he.run pins s σ H _ I h) fun u s1 ⟨x, H1, I1, rx, ex, q⟩ => ?_) h3⟩
  cases ex
  cases (show u = Value.ref C from rx)
  exact ClX.getmethcm_ok I1 r c fun s2 I2 => PySem.W.callWith_M0 ⟨ClX.pin_at I2, I2.kIn⟩ c.fi (run_clsS (us := []) F hr (hx σ) I2 .nil q)
end
section
variable {P : Program} {w : World} {K : PySem.W.Frag} {mg : Str → Option Value} {base : Heap}
/-- a star def that may raise -/
theorem star_ok {x qual : Str} {st : Stmt} {f : Addr} {fd : FuncData} {N ps : List Str} {pv : Str} {k : Nat} {sp : Sp} (F : Fun K x qual st f fd) (hb : Clx.StarB fd ps pv) (S : FnScope N (ps ++ [pv]) (defScope st))
    (hbody : ∀ (cdv : Value) (A : Around) (outer : List Env) (s : Shared) (H : Hp) (vs : List V) (Q : VK) (E : XK), Room k (A.deeper (envOfC qual (defScope st) s.heap.objs.size f cdv)) → sp vs H Q E →
      ∃ t, PSs (cxOf (L2.CX P w) P w K mg base N qual (defScope st) f cdv A outer s H E) (defBody st) t ∧ t { nx := fun _ H' => Q .non H', rt := Q } (start N vs) H) : FnR P w K mg base (L2.CX P w) (k + 1) f (Clx.spStar ps sp) := by
  obtain ⟨oc, od, kV, doc, pm, an, cdv, ct, osl, rfl, lk, hcd⟩ := F.ex
  exact StX.fn_star (sp := sp) lk hcd S StX.cxUp hb fun A outer s H vs Q E hr hsp => hbody cdv A outer s H vs Q E hr hsp
/-- one of two promises -/
theorem fnG_or {k : Nat} {f : Addr} {fd : FuncData} {ps : List Str} {CX : CXT} {s1 s2 : Sp} (F : Grd.FnG P w K mg base CX k f fd ps s1) (G : Grd.FnG P w K mg base CX k f fd ps s2) : Grd.FnG P w K mg base CX k f fd ps (fun vs H Q E => s1 vs H Q E ∨ s2 vs H Q E) where
  len := fun vs H Q E h => h.elim (F.len vs H Q E) (G.len vs H Q E)
  run := fun A outer s H args us vs Q E hg hr e0 hb r h => h.elim (F.run A outer s H args us vs Q E hg hr e0 hb r) (G.run A outer s H args us vs Q E hg hr e0 hb r)
end
/-- what repr writes of the list at a -/
def rRep (K : PySem.W.Frag) : List V → Hp → VK → Prop := fun xs H Q => ∃ a, xs = [.ref a] ∧
  ((∃ d : PyData, Dp K H (.ref a) d ∧ d.showable = true ∧ d.hasDict = false ∧ d.depth + 1 ≤ 64 ∧ d.shown.length ≤ sizeLine ∧ Q (.str d.shown) H) ∨ ∃ b, H a = some (.lst [.ref b]) ∧ H b = some (.dK []) ∧ Q (.str "[{}]") H)
section
variable {X : Cx}
theorem call_rep (hG : X.A.guards = some []) (hu : X.A.units + 64 < cLine) : CallR X (.builtin "repr") (rRep X.K) := by
  intro pins s σ H xs us Q I r h
  obtain ⟨a, rfl, ⟨d, hd, sh, nd, dp, sz, q⟩ | ⟨b, ha, hb, q⟩⟩ := h
  · exact Grd.call_repr hG hu pins s σ H [.ref a] us Q I r ⟨a, d, rfl, hd, sh, nd, dp, sz, q⟩
  · obtain ⟨u, rfl, ru⟩ := vals1 r
    obtain rfl : u = Value.ref a := ru
    obtain ⟨_, its, n, rv, e⟩ := I.hok a _ ha
    obtain ⟨v, rfl, rb⟩ := vals1 rv
    obtain rfl : v = Value.ref b := rb
    obtain ⟨_, hm, ws, kw, ob, es, ep, hob, cb, hd, hk, hp, _⟩ := dk_of I.hok hb
    cases kw
    have e0 : es.toList = [] := by
      have z := hp.length
      rw [List.length_nil] at z
      exact List.length_eq_zero_iff.mp z
    have rd : Reads s.heap (.ref b) (.dict []) (b :: [] ++ []) := .dict hob cb.1 hd (by rw [e0]; exact .nil) (by rw [e0]; exact .nil)
    have ra : ReadsAll s.heap [.ref b] [.dict []] ((b :: [] ++ []) ++ []) := .cons rd .nil
    have nb : sysModules ∉ (b :: [] ++ []) ++ [] := by
      have : sysModules ≠ b := fun z => by rw [← z] at hm; exact absurd hm (by decide)
      simpa using this
    obtain ⟨bs, hbs, hks⟩ := ReprAllK.of_readsAll (prog := X.prog) (w := X.w) ra rfl (fun _ => nb) (fun t ht => by
      have : t = PyData.shown (.dict []) := by simpa [PyData.shownAll] using ht
      rw [this]
      decide +kernel)
    have rl : Reads s.heap (.ref a) (.list [.dict []]) (a :: ((b :: [] ++ []) ++ [])) := .list e rfl rfl ra
    have na : a ∉ bs := not_mem_of_deeper rl (by decide) hbs
    have hu1 : X.A.in1.units + (PyData.depthAll [PyData.dict []] + 1) < cLine := by
      show X.A.units + 1 + (PyData.depthAll [PyData.dict []] + 1) < cLine
      have : PyData.depthAll [PyData.dict []] ≤ 2 := by decide
      omega
    have hg1 : X.A.in1.guards = some [] := hG
    refine call_repr_slot (by omega) ⟨_, e, rfl⟩ F.slot_list_repr.toG ?_
    refine call_list_reprK (A := X.A.in1) (as := bs) (s := s) e rfl rfl na (by simpa using hks.length_eq) (fun i y z => hks.item i y (by simpa using z)) hg1 (fun c _ => Clear.nil c) hu1 (fun _ _ z => z) (fun h' u tk hk => ⟨_, _, rfl, ?_⟩) (by decide +kernel)
    have et : listText (PyData.shownAll [PyData.dict []]) = ("[{}]" : Str) := by decide +kernel
    exact ⟨.str "[{}]", H, I.kept hk, ⟨u, by rw [et]⟩, q⟩
end
/-! ### != of a tuple of own objects that are equal; lists of the same values -/
section
open PySem.SeqAt
open AutoSeq1 (wpAny_loadPart')
open MeetsSeq MeetsSeq2 MeetsSeq3 SeqRoads2
variable {prog : Program} {w : World} {A : Around} {E : Value → Shared → Prop} {s : Shared}
theorem ne_body {R : Result → Shared → Prop} (p q : Addr) (xs ys : Array Value) (n m : Nat) (dp dq : Option Addr) (sp sq : Array (Option Value)) (hz : xs.size = ys.size) (J : Nat → Shared → Prop)
    (one : ∀ i (g1 : i < xs.size) (g2 : i < ys.size) s, J i s → wpAny (model prog w) A.in1 (eqBool xs[i] ys[i]) (fun r s' => r = true ∧ J (i + 1) s') (fun e s' => R (.error e) s') s)
    (last : ∀ s, J xs.size s → R (.ok (.ret (.bool false))) s) (hp : s.heap.get? p = some { cls := .type "tuple", dict := dp, data := .seq xs n, slots := sp }) (hq : s.heap.get? q = some { cls := .type "tuple", dict := dq, data := .seq ys m, slots := sq }) (h0 : J 0 s) :
    wpAny (model prog w) A.in1 (Builtin.«tuple.__ne__» ⟨[.ref p, .ref q], []⟩) (GQ.FinOf prog w A R) (fun e s' => R (.error e) s') s := by
  have isT := AutoSeq1.sub_tuple_tuple
  obtain ⟨zs, ez⟩ : ∃ zs, zs = xs.toList.zip ys.toList := ⟨_, rfl⟩
  have lz : zs.length = xs.size := by rw [ez]; simp [hz]
  have at_ : ∀ i (g : i < zs.length), zs[i] = (xs[i]'(lz ▸ g), ys[i]'(hz ▸ lz ▸ g)) := fun i g => by subst ez; simp
  have h0' := h0
  obtain ⟨hh, gg, dd, tt, oo⟩ := s
  wp_walk using wpAny_loadPart' hp, wpAny_loadPart' hq, wpAny_forIn_list _ (fun rest b s' => b.1 = none ∧ ∃ i, rest = zs.drop i ∧ i ≤ xs.size ∧ J i s') _
  case turn =>
    rintro ⟨u, v⟩ rest b s1 ⟨b0, i, hr, hi, hJ⟩
    have g : i < zs.length := by
      by_cases g : i < zs.length
      · exact g
      · rw [List.drop_of_length_le (Nat.le_of_not_lt g)] at hr
        cases hr
    rw [List.drop_eq_getElem_cons g, at_ i g] at hr
    obtain ⟨e1, e2⟩ := List.cons.inj hr
    obtain ⟨rfl, rfl⟩ := Prod.mk.inj e1
    refine wpAny_bind (wpAny_mono (one i (lz ▸ g) (hz ▸ lz ▸ g) s1 hJ) (fun r s2 z => ?_) fun _ _ z => z)
    obtain ⟨rfl, hJ2⟩ := z
    wp_walk
    exact ⟨rfl, i + 1, e2, lz ▸ g, hJ2⟩
  case fin =>
    rintro ⟨b1, b2⟩ s1 ⟨b0, i, hr, hi, hJ⟩
    simp only at b0
    subst b0
    have g : zs.length ≤ i := by
      by_cases g : i < zs.length
      · rw [List.drop_eq_getElem_cons g] at hr
        cases hr
      · exact Nat.le_of_not_lt g
    have ei : i = xs.size := Nat.le_antisymm hi (lz ▸ g)
    have z := last s1 (ei ▸ hJ)
    wp_walk
    simpa [Builtin.Tuple.tupleCompareSizes, hz] using z
  case h =>
    exact ⟨rfl, 0, by rw [ez]; rfl, Nat.zero_le _, h0'⟩
theorem rc_ne {p q : Addr} {xs ys : Array Value} {Q : Value → Shared → Prop} (hz : xs.size = ys.size) (hu : A.units < cLine) (J : Nat → Shared → Prop) (hp : s.heap.IsTuple p xs) (hq : s.heap.IsTuple q ys)
    (one : ∀ i (g1 : i < xs.size) (g2 : i < ys.size) s, J i s → wpAny (model prog w) A.in1 (eqBool xs[i] ys[i]) (fun r s' => r = true ∧ J (i + 1) s') E s)
    (last : ∀ s, J xs.size s → Q (.bool false) s) (h0 : J 0 s) : wpAny (model prog w) A (richCompare .NotEq (.ref p) (.ref q)) Q E s := by
  obtain ⟨⟨c1, d1, a1, s1⟩, o1, k1, n1, e1⟩ := id hp
  obtain ⟨⟨c2, d2, a2, s2⟩, o2, k2, n2, e2⟩ := id hq
  cases k1
  cases k2
  cases e1
  cases e2
  exact wpAny_richCompare_same_room (op := .NotEq) ⟨_, o1, rfl⟩ ⟨_, o2, rfl⟩ F.slot_tuple_ne (GQ.call_here F.slot_tuple_ne ⟨_, o1, rfl⟩ F.entry_tuple_ne (F.args_tuple_ne_2 _ _)
    (ne_body (R := wants (fun v s' => v ≠ .notImplemented ∧ Q v s') E) p q xs ys n1 n2 d1 d2 s1 s2 hz J one (fun z hJ => ⟨(fun y => nomatch y), last z hJ⟩) o1 o2 h0)) hu
end
section
variable {X : Cx} {n : Nat} {D : Eqv}
/-- x != y, two tuples whose items are equal by D -/
def rNeT (K : PySem.W.Frag) (D : Eqv) : R2 := fun x y H Q => DTup K D x y H ∧ ∀ H', Ext H H' → Q (.bl false) H'
theorem op_neT (hD : Mon D) (h : EqG X n D) (hr : Room (n + 1) X.A) : OpR X (compareOp .NotEq) (rNeT X.K D) := by
  intro pins s σ H x y v u Q I rx ry ⟨d, q⟩
  obtain ⟨a, b, xs, ys, rfl, rfl, ha, hb, pr⟩ := d
  cases (show v = Value.ref a from rx)
  cases (show u = Value.ref b from ry)
  obtain ⟨i1, r1, t1, _⟩ := I.tuple ha
  obtain ⟨i2, r2, t2, _⟩ := I.tuple hb
  have hz : i1.toArray.size = i2.toArray.size := by rw [List.size_toArray, List.size_toArray, ← r1.length, ← r2.length]; exact pr.1
  show wpAny (model X.prog X.w) X.A (richCompare .NotEq (.ref a) (.ref b)) _ _ s
  exact rc_ne hz hr.units0 (fun _ s' => LoopI X pins σ H s') t1 t2 (fun i g1 g2 s' l => turnG hD h ⟨hr, rfl⟩ pr r1 r2 i g1 g2 s' l) (fun s' l => by
    obtain ⟨H', I', e⟩ := l
    exact ⟨.bl false, H', I', rfl, q H' e⟩) ⟨H, I, Ext.rfl'⟩
/-- the same value: a flat one, or the same object -/
def DSame : Eqv := fun x y _ => x = y ∧ (flatV x = true ∨ ∃ a, x = .ref a)
theorem mon_same : Mon DSame := fun _ _ _ _ _ d => d
theorem eqV_self : ∀ {x : V}, flatV x = true → eqV x x = true
  | .non, _ => rfl
  | .bl b, _ => by simp [eqV]
  | .int i, _ => by simp [eqV]
  | .str s, _ => by simp [eqV]
theorem eqG_same : EqG X 0 DSame := by
  intro A pins s σ H x y u v sb I rx ry d
  obtain ⟨rfl, f | ⟨a, rfl⟩⟩ := d
  · exact eqG_flat A pins s σ H x x u v sb I rx ry ⟨f, f, eqV_self f⟩
  · cases (show u = Value.ref a from rx)
    cases (show v = Value.ref a from ry)
    exact SeqAt.EqAt.same (A := A) (s := s) (.ref a) X.prog X.w X.xe _ ⟨rfl, H, I, Ext.rfl'⟩
theorem op_eqS (hr : Room 1 X.A) : OpR X (compareOp .Eq) (rEqG (DList DSame)) := op_eqG (rcG_list mon_same eqG_same) hr
/-- x != y, two lists of the same flat values -/
def rNeS : R2 := fun x y H Q => ∃ a b xs, x = .ref a ∧ y = .ref b ∧ H a = some (.lst xs) ∧ H b = some (.lst xs) ∧ (∀ v ∈ xs, flatV v = true) ∧ Q (.bl false) H
theorem op_neS (hr : Room 1 X.A) : OpR X (compareOp .NotEq) rNeS := by
  intro pins s σ H x y v u Q I rx ry ⟨a, b, xs, ex, ey, ha, hb, hf, q⟩
  subst ex ey
  cases (show v = Value.ref a from rx)
  cases (show u = Value.ref b from ry)
  obtain ⟨_, i1, n1, r1, e1⟩ := I.hok a _ ha
  obtain ⟨_, i2, n2, r2, e2⟩ := I.hok b _ hb
  have l1 := r1.length
  have l2 := r2.length
  have hz : i1.toArray.size = i2.toArray.size := by rw [List.size_toArray, List.size_toArray, ← l1, ← l2]
  have all_ : (List.range i1.toArray.size).all (fun _ => true) = true := by simp
  have z := SeqAt.RcNeAt.lists (A := X.A) (s := s) (l := a) (b := b) (items := i1.toArray) (items2 := i2.toArray) (e := fun _ => true) ⟨_, e1, rfl, _, rfl⟩ ⟨_, e2, rfl, _, rfl⟩ hz hr.units0 (fun j g1 g2 => by
    have h1 : j < i1.length := by simpa using g1
    have h2 : j < i2.length := by simpa using g2
    have hx : j < xs.length := by omega
    obtain ⟨c1, k1, y1⟩ := r1.get (List.getElem?_eq_getElem hx)
    obtain ⟨c2, k2, y2⟩ := r2.get (List.getElem?_eq_getElem hx)
    rw [List.getElem?_eq_getElem h1] at k1
    rw [List.getElem?_eq_getElem h2] at k2
    have w1 : i1.toArray[j] = c1 := by simpa using Option.some.inj k1
    have w2 : i2.toArray[j] = c2 := by simpa using Option.some.inj k2
    rw [w1, w2]
    have f := hf _ (List.getElem_mem hx)
    have y := eqAt_V (A := X.A.in1) (s := s) y1 y2 f f
    rw [eqV_self f] at y
    exact y)
  rw [all_] at z
  exact z X.prog X.w X.xe _ ⟨.bl false, H, I, rfl, q⟩
end
/-- x(..), x a local name that holds the class at C, whose __init__ may raise -/
def tMakeLS (i : Nat) (C : Addr) (sp : Sp) (E : L2.St → XK) (t : TA) : TE := fun σ H Q => σ[i]? = some (some (.ref C)) ∧ Exk.tMakeS C sp E t σ H Q
section
variable {X : Cx} {CX : CXT} {k i : Nat} {f C : Addr} {fd : FuncData} {ps : List Str} {sp : Sp} {E : L2.St → XK} {x : Str} {p pos : Pos} {e : Expr} {es : List Expr} {t : TA}
theorem pe_makeLS (M : Mk X.K C f) (F : FnOk X.prog X.w X.K X.mg X.base CX k f fd ps sp) (hr : Room (k + 1) X.A) (hN : X.N[i]? = some x) (hv : Vis X.env.scope x) (hb : Binds X.K fd ps []) (hx : ∀ σ, PassesAt CX X σ (E σ)) (ha : PA X (e :: es) t)
    (g1 : (x == ("__debug__" : Str)) = false := by decide) (g2 : (x == ("__classdict__" : Str)) = false := by decide)
    (g3 : starEach (e :: es) X.env = (false, eval e X.env) :: starEach es X.env := by rfl) (g4 : (backTo pos (starEach es X.env)).any (·.1) = false := by rfl) : PE X (.Call (.Name x p) (e :: es) [] pos) (tMakeLS i C sp E t) := by
  refine ⟨fun pins s σ H Q I ⟨hs, ht⟩ => wpAny_Call_Name_kw (thn ((pe_var (pos := p) hN hv g1 g2).run pins s σ H (fun v H1 => v = .ref C ∧ H1 = H) I ⟨.ref C, hs, rfl, rfl⟩) fun u s1 ⟨v, H1, I1, r1, q1⟩ => ?_)⟩
  obtain ⟨rfl, rfl⟩ := q1
  cases r1
  exact PySem.W.callWith_K (h₀ := X.base) I.ok.mod.kin M.kp (thn (ha.run pos pins s1 σ _ _ I1 ht) fun us s2 ⟨vs, H2, I2, r, q⟩ => ⟨I2.kIn, Exk.run_makeS M F hr hb (hx σ) I2 r q⟩) g3 g4
end
section
open LamX
/-- x(lambda: body) in a def with a table of its own among the tables TS -/
theorem pe_lamCT {X : Cx} {TT : (XK → Hp → VK → Prop) → Hp → VK → Prop} {x a : Str} {g c P : Addr} {k : Nat} {stg : Stmt} {fdg : FuncData} {Ng : List Str} {params : Arguments} {body : Expr} {scope : Scope} {t : XK → TE} {p lpos pos : Pos} (q0 : Str) (hq : X.env.qual = q0)
    (TS : List (Addr × Str)) (mT : (P, q0 ++ "<lambda>") ∈ TS) (uT : ∀ z ∈ TS, z.1 = P → z.2 = q0 ++ "<lambda>") (hG : ∀ cdg : Value, GivesTo X Ng x (defScope stg) g cdg (defBody stg) a (X.env.qual ++ "<lambda>") TT) (Fg : L2.Fun X.K x x stg g fdg) (hg : Gl X x) (hm : X.mg x = some (.ref g)) (hb : L2.Binds X.K fdg [a] [])
    (Sg : FnScope Ng [a] (defScope stg)) (hNg : Ng[0]? = some a) (hva : Vis (defScope stg) a) (TB : TabB X.base X.mg c P) (hcode : X.env.code = .ref c) (hr : Room (k + 2) X.A) (L : LamS X.env.scope scope) (hdef : defaultsOf params X.env = ([], []))
    (hbind : ∀ (q : Str) (cl : List (Str × Addr)) (pm cv ctv : Value), bindArgs (PySem.W.kla_fn "<lambda>" q params body scope cl pm cv ctv) ⟨[], []⟩ = pure [])
    (hbody : ∀ (A : Around) (outer : List Env) (s : Shared) (H : Hp) (E : XK) (f c' : Addr), Room k (A.deeper (lamEnv X scope s.heap.objs.size f c')) → PE (lamCx X A outer s H E scope f c') body (t E))
    (g1 : (x == ("__debug__" : Str)) = false := by decide) (g2 : (a == ("__debug__" : Str)) = false := by decide) (g3 : (a == ("__classdict__" : Str)) = false := by decide) : PE X (.Call (.Name x p) [.Lambda params body scope lpos] [] pos) (tLam TS TT t) := by
  subst hq
  obtain ⟨oc, od, kV, doc, pm, an, cdg, ct, osl, rfl, lk, hcg⟩ := Fg.ex
  exact pe_lamcall (T := TS) hg hm Fg.kp lk hcg hb Sg hNg hva (hG cdg) TB hcode mT uT hr L hdef hbind hbody g1 g2 g3
end
end K6x

/-! repr of a list of data, empty dicts among its items. -/
namespace RepD
open PySem PySem.Spec PyProof.Rows L2
/-- data without dicts, or an empty dict -/
inductive DE (K : PySem.W.Frag) (H : Hp) : V → PyData → Prop
  | d {v : V} {d : PyData} : Dp K H v d → d.hasDict = false → DE K H v d
  | dk {a : Addr} : H a = some (.dK []) → DE K H (.ref a) (.dict [])
inductive DEs (K : PySem.W.Frag) (H : Hp) : List V → List PyData → Prop
  | nil : DEs K H [] []
  | cons {v : V} {d : PyData} {vs : List V} {ds : List PyData} : DE K H v d → DEs K H vs ds → DEs K H (v :: vs) (d :: ds)
section
variable {X : Cx} {pins : List (Addr × Obj)} {σ : L2.St} {H : Hp} {s : Shared}
theorem one {v : V} {u : Value} {d : PyData} (I : Inv X pins σ H s) (h : DE X.K H v d) (r : RelV v u) : ∃ as, Reads s.heap u d as ∧ (d.hasDict = true → sysModules ∉ as) := by
  cases h with
  | d h n =>
    obtain ⟨as, q⟩ := Dp.reads I d v u h r
    exact ⟨as, q, fun z => by rw [n] at z; cases z⟩
  | @dk a h =>
    cases (show u = Value.ref a from r)
    obtain ⟨_, hm, ws, kw, ob, es, ep, hob, cb, hd, hk, hp, _⟩ := dk_of I.hok h
    cases kw
    have e0 : es.toList = [] := List.length_eq_zero_iff.mp (by have z := hp.length; rwa [List.length_nil] at z)
    refine ⟨_, .dict hob cb.1 hd (by rw [e0]; exact .nil) (by rw [e0]; exact .nil), fun _ m => ?_⟩
    have : sysModules = a := by simpa using m
    rw [← this] at hm
    exact absurd hm (by decide)
theorem all {vs : List V} {ds : List PyData} (I : Inv X pins σ H s) (h : DEs X.K H vs ds) : ∀ {us : List Value}, Vals vs us → PyData.showableAll ds = true → (∀ t ∈ PyData.shownAll ds, t.length ≤ sizeLine) →
    ∃ as, ReadsAll s.heap us ds as ∧ ∃ bs, ReadAtMost s.heap (PyData.depthAll ds) bs ∧ ReprAllK X.prog X.w bs s.heap (PyData.depthAll ds) us (PyData.shownAll ds) := by
  induction h with
  | nil =>
    intro us r _ _
    cases r
    exact ⟨_, .nil, [], (fun _ m => nomatch m), by simp only [PyData.shownAll]; exact .nil⟩
  | @cons v d vs ds h1 h2 ih =>
    intro us r sh lt
    cases r with
    | cons r1 r2 =>
      obtain ⟨a1, q1, n1⟩ := one I h1 r1
      simp only [PyData.showableAll, Bool.and_eq_true] at sh
      simp only [PyData.shownAll, List.mem_cons, forall_eq_or_imp] at lt
      obtain ⟨a2, q2, b2, m2, k2⟩ := ih r2 sh.2 lt.2
      obtain ⟨b1, m1, k1⟩ := ReprK.of_reads (prog := X.prog) (w := X.w) q1 sh.1 n1 lt.1
      refine ⟨_, .cons q1 q2, b1 ++ b2, fun b hb => ?_, ?_⟩
      · simp only [PyData.depthAll]
        rcases List.mem_append.mp hb with hb | hb
        · obtain ⟨d', as', r', l⟩ := m1 b hb
          exact ⟨d', as', r', Nat.le_trans l (Nat.le_max_left _ _)⟩
        · obtain ⟨d', as', r', l⟩ := m2 b hb
          exact ⟨d', as', r', Nat.le_trans l (Nat.le_max_right _ _)⟩
      · simp only [PyData.depthAll, PyData.shownAll]
        exact .cons ((k1.more fun b hb => List.mem_append_left _ hb).level_le (Nat.le_max_left _ _)) (k2.more_le (fun b hb => List.mem_append_right _ hb) (Nat.le_max_right _ _))
end
/-- repr(x), x a list of such items -/
def rRepD (K : PySem.W.Frag) : List V → Hp → VK → Prop := fun xs H Q => ∃ (a : Addr) (vs : List V) (ds : List PyData), xs = [.ref a] ∧ H a = some (.lst vs) ∧ DEs K H vs ds ∧ PyData.showableAll ds = true ∧ PyData.depthAll ds + 2 ≤ 64 ∧ (PyData.list ds).shown.length ≤ sizeLine ∧ Q (.str (PyData.list ds).shown) H
theorem call_repD {X : Cx} (hG : X.A.guards = some []) (hu : X.A.units + 64 < cLine) : CallR X (.builtin "repr") (rRepD X.K) := by
  intro pins s σ H xs us Q I r ⟨a, vs, ds, ex, ha, hd, sh, dp, sz, q⟩
  subst ex
  cases hd with
  | nil => exact Grd.call_repr hG hu pins s σ H [.ref a] us Q I r ⟨a, .list [], rfl, .lst (SqL.of ha) .nil, rfl, rfl, by decide, sz, q⟩
  | @cons v d vs ds h1 h2 =>
    obtain ⟨u, rfl, ru⟩ := vals1 r
    obtain rfl : u = Value.ref a := ru
    obtain ⟨_, its, n, rv, e⟩ := I.hok a _ ha
    have lt : ∀ t ∈ PyData.shownAll (d :: ds), t.length ≤ sizeLine := fun t ht => Nat.le_trans (listText_mem_le ht) (by simpa only [PyData.shown] using sz)
    obtain ⟨as, ra, bs, mb, kb⟩ := all I (.cons h1 h2) rv sh lt
    have rl : Reads s.heap (.ref a) (.list (d :: ds)) (a :: as) := .list e rfl rfl ra
    have na : a ∉ bs := not_mem_of_deeper rl (by simp only [PyData.depth]; omega) mb
    have hu1 : X.A.in1.units + (PyData.depthAll (d :: ds) + 1) < cLine := by
      show X.A.units + 1 + (PyData.depthAll (d :: ds) + 1) < cLine
      omega
    have hg1 : X.A.in1.guards = some [] := hG
    cases rv with
    | @cons _ w0 _ ws q1 q2 =>
      refine call_repr_slot (by omega) ⟨_, e, rfl⟩ F.slot_list_repr.toG (call_list_reprK (A := X.A.in1) (as := bs) (s := s) e rfl rfl na (by simpa using kb.length_eq) (fun i y z => kb.item i y (by simpa using z)) hg1 (fun c _ => Clear.nil c) hu1 (fun _ _ z => z) (fun h' u tk hk => ⟨_, _, rfl, ?_⟩) (by simpa only [PyData.shown] using sz))
      exact ⟨.str (PyData.list (d :: ds)).shown, H, I.kept hk, ⟨u, by simp only [PyData.shown]⟩, q⟩
end RepD

/-! A table of isinstance in parts. -/
namespace HkX
open PySem PySem.Spec PyProof.Rows L2
def row (K : PySem.W.Frag) (l : List Addr) (m : List Value) (f : Nat → Nat → Bool) (i : Nat) : Bool := (List.range m.length).all fun j => PySem.W.kitOne K (.ref (l.getD i 0)) (m.getD j .none) == some (f i j)
/-- the rows from a on, n of them -/
def part (K : PySem.W.Frag) (l : List Addr) (m : List Value) (f : Nat → Nat → Bool) (a n : Nat) : Bool := (List.range n).all fun i => row K l m f (a + i)
def Up (K : PySem.W.Frag) (l : List Addr) (m : List Value) (f : Nat → Nat → Bool) (a : Nat) : Prop := ∀ i, i < a → row K l m f i = true
section
variable {K : PySem.W.Frag} {l : List Addr} {m : List Value} {f : Nat → Nat → Bool} {a n : Nat}
theorem Up.zero : Up K l m f 0 := fun i h => absurd h (Nat.not_lt_zero i)
theorem Up.step (u : Up K l m f a) (h : part K l m f a n = true) : Up K l m f (a + n) := fun i hi => by
  rcases Nat.lt_or_ge i a with q | q
  · exact u i q
  · have := List.all_eq_true.mp h (i - a) (List.mem_range.mpr (by omega))
    rwa [Nat.add_sub_cancel' q] at this
theorem Up.tab (u : Up K l m f a) (e : l.length = a) : ExG.kitTab K l m f = true := List.all_eq_true.mpr fun i hi => u i (by rw [← e]; exact List.mem_range.mp hi)
end
end HkX

/-! A head of one kernel run: own facts as Bools, defs at any address, tables of code objects. -/
namespace Hk
open PySem PySem.Spec PyProof.Rows L2
abbrev Fr : Type := PySem.W.Frag
/-! ### addresses -/
/-- the def in a record at p -/
def rc (K : Fr) (p : Addr) (T : String) : Addr := match PySem.W.recIn K p T with
  | some (.ref f :: _) => f
  | _ => 0
def rcB (K : Fr) (p : Addr) (T : String) : Bool := match PySem.W.recIn K p T with
  | some (.ref _ :: _) => true
  | _ => false
theorem rc_ok {K : Fr} {p : Addr} {T : String} (h : rcB K p T = true) : ∃ rest, PySem.W.recIn K p T = some (.ref (rc K p T) :: rest) := by
  unfold rcB at h
  split at h
  · rename_i f r e
    refine ⟨r, ?_⟩
    unfold rc
    rw [e]
  · cases h
/-- the value of the keyword-only parameter x of the def at f, an object -/
def kwAt (K : Fr) (f : Addr) (x : Str) : Addr := match K.lookup f with
  | some ⟨_, _, .func fd, _⟩ => (match fd.kwdefaults with
    | .ref D => (match PySem.W.nsIn K D x with
      | some (some (.ref a)) => a
      | _ => 0)
    | _ => 0)
  | _ => 0
/-- the code object of the def at f -/
def cdAt (K : Fr) (f : Addr) : Addr := match K.lookup f with
  | some ⟨_, _, .func fd, _⟩ => (match fd.code with
    | .ref c => c
    | _ => 0)
  | _ => 0
theorem cdAt_eq {K : Fr} {f c : Addr} {oc : Value} {od : Option Addr} {sl : Array (Option Value)} {fd : FuncData} (l : K.lookup f = some ⟨oc, od, .func fd, sl⟩) (e : fd.code = .ref c) : cdAt K f = c := by
  unfold cdAt
  simp only [l, e]
/-! ### a tuple -/
def tpB (K : Fr) (a : Addr) (vs : List V) : Bool := match K.lookup a with
  | none => false
  | some o => decide (o.cls = .type "tuple") && (match o.data with
    | .seq its _ => Nat.ble its.size sizeLine && He.relAll vs its.toList
    | _ => false)
theorem tpB_ok {K : Fr} {a : Addr} {vs : List V} (h : tpB K a vs = true) (H : Hp) : SqT K H a vs := by
  unfold tpB at h
  cases l : K.lookup a with
  | none => simp [l] at h
  | some o =>
    rw [l] at h
    obtain ⟨hc, hd⟩ := He.ba h
    cases hk : o.data with
    | seq its n =>
      rw [hk] at hd
      obtain ⟨hs, hv⟩ := He.ba hd
      exact .inr ⟨o, its, n, l, of_decide_eq_true hc, hk, Nat.le_of_ble_eq_true hs, He.relAll_ok hv⟩
    | _ =>
      rw [hk] at hd
      cases hd
/-! ### an own exception class -/
def xcB (K : Fr) (C : Addr) (newId : String) (ok : List Value → Bool) : Bool := match K.lookup C with
  | none => false
  | some o => (match o with
    | ⟨oc, _, .cls cd, sl⟩ => decide (oc = .type "type") && (!cd.hasDel && (cd.hasDict && (match cd.mro with
      | [] => false
      | c0 :: bm => decide (c0 = .ref C) && (ok bm && (match sl.toList with
        | [_, _, _, _, s4, _] => decide (s4 = some (.builtin newId))
        | _ => false)))))
    | _ => false)
theorem xcB_ok {K : Fr} {C : Addr} {newId : String} {ok : List Value → Bool} (h : xcB K C newId ok = true) :
    ∃ nm q N bs bm sn sub ab col dd k0 k1 k2 k3 k5, K.lookup C = some (excClassObj nm q C N bs bm true sn sub ab col dd k0 k1 k2 k3 k5 newId) ∧ ok bm = true := by
  unfold xcB at h
  cases l : K.lookup C with
  | none => simp [l] at h
  | some o =>
    rw [l] at h
    obtain ⟨oc, od, dt, sl⟩ := o
    cases dt with
    | cls cd =>
      obtain ⟨h1, h⟩ := He.ba h
      obtain ⟨h2, h⟩ := He.ba h
      obtain ⟨h3, h⟩ := He.ba h
      obtain ⟨nm, bs, mr, ns, qn, hd, sn, sub, ab, col, dl⟩ := cd
      cases mr with
      | nil => cases h
      | cons c0 bm =>
        obtain ⟨h4, h⟩ := He.ba h
        obtain ⟨h5, h6⟩ := He.ba h
        obtain ⟨sls⟩ := sl
        have e1 : oc = .type "type" := of_decide_eq_true h1
        have e4 : c0 = .ref C := of_decide_eq_true h4
        have e3 : hd = true := h3
        have e2 : dl = false := by
          cases dl with
          | false => rfl
          | true => cases h2
        subst e1 e4 e3 e2
        match sls, h6 with
        | [k0, k1, k2, k3, s4, k5], h6 =>
          have e5 : s4 = some (.builtin newId) := of_decide_eq_true h6
          subst e5
          exact ⟨nm, qn, ns, bs, bm, sn, sub, ab, col, od, k0, k1, k2, k3, k5, rfl, h5⟩
    | _ => cases h
/-! ### the part of the heap, the tables -/
def part (g : Addr → Option Obj) (as : List Addr) : Fr := He.frT g as
def cT (K : Fr) (f : Fr → Addr) : Addr × Addr := (cdAt K (f K), He.tabOf K (cdAt K (f K)))
def tabsB (g : Addr → Option Obj) (K : Fr) (tf : List (Fr → Addr)) : Bool := tf.all fun f => PySem.W.codeHdIn K (cT K f).1 (cT K f).2 && (match g (cT K f).2 with
  | none => false
  | some o => He.emptyTab o)
/-- what is told of the part K of the heap h -/
structure Says (fa : List (Fr → Bool)) (fn : List He5.DefA) (tf : List (Fr → Addr)) (h : Heap) (K : Fr) : Prop where
  fs : ∀ f ∈ fa, f K = true
  df : He5.SaysA [] fn K
  tb : ∀ f ∈ tf, PySem.W.codeHdIn K (cT K f).1 (cT K f).2 = true ∧ K.lookup (cT K f).2 = none ∧ h.get? (cT K f).2 = some { cls := .none, data := .fields #[] }
def look (fa : List (Fr → Bool)) (fn : List He5.DefA) (tf : List (Fr → Addr)) (g : Addr → Option Obj) (K : Fr) : He.AlD :=
  (fa.all (fun f => f K) && (fn.all (fun d => d.ok K) && tabsB g K tf), fn.map fun d => He5.fnA K (d.at_ K))
theorem says_of {n : List Addr} {fa : List (Fr → Bool)} {fn : List He5.DefA} {tf : List (Fr → Addr)} {h : Heap} (e : look fa fn tf h.get? (part h.get? n) = (true, fn.map He5.DefA.val)) : Says fa fn tf h (part h.get? n) := by
  have e1 : (fa.all (fun f => f (part h.get? n)) && (fn.all (fun d => d.ok (part h.get? n)) && tabsB h.get? (part h.get? n) tf)) = true := congrArg (fun z : He.AlD => z.1) e
  have e2 : (fn.map fun d => He5.fnA (part h.get? n) (d.at_ (part h.get? n))) = fn.map He5.DefA.val := congrArg (fun z : He.AlD => z.2) e
  obtain ⟨p1, p2⟩ := He.ba e1
  obtain ⟨p3, p4⟩ := He.ba p2
  refine ⟨fun f hf => List.all_eq_true.mp p1 f hf, ?_, fun f hf => ?_⟩
  · show (([] : List He.Fa).all (fun f => f.ok (part h.get? n)) && fn.all (fun d => d.ok (part h.get? n)), _) = _
    rw [p3, e2] <;> rfl
  · obtain ⟨t1, t2⟩ := He.ba (List.all_eq_true.mp p4 f hf)
    cases q : h.get? (cT (part h.get? n) f).2 with
    | none =>
      rw [q] at t2
      cases t2
    | some o =>
      rw [q] at t2
      exact ⟨t1, He.frT_none q t2, by rw [He.emptyTab_eq t2]⟩
/-- the Hook -/
def hk (n : List Addr) (fa : List (Fr → Bool)) (fn : List He5.DefA) (tf : List (Fr → Addr)) : PySem.W.Hook where
  α := He.AlD
  obs := fun s => look fa fn tf s.heap.get? (part s.heap.get? n)
  val := fun _ => (true, fn.map He5.DefA.val)
  says := fun _ h => ∃ K : Fr, K.In h ∧ Says fa fn tf h K
  of := fun _ _ e => ⟨_, He.frT_in, says_of e⟩
  keeps := fun _ _ _ ⟨K, hK, c⟩ k => ⟨K, PySem.W.Frag.In.keeps hK k, ⟨c.fs, c.df, fun f hf => ⟨(c.tb f hf).1, (c.tb f hf).2.1, k _ _ (c.tb f hf).2.2⟩⟩⟩
/-- the same off the tree -/
def ob (n : List Addr) (fa : List (Fr → Bool)) (fn : List He5.DefA) (tf : List (Fr → Addr)) (s : PySem.W.SharedT) : He.AlD := look fa fn tf (HandSHeadRun.getT s) (part (HandSHeadRun.getT s) n)
theorem ob_eq (n : List Addr) (fa : List (Fr → Bool)) (fn : List He5.DefA) (tf : List (Fr → Addr)) (s : PySem.W.SharedT) : ob n fa fn tf s = (hk n fa fn tf).obs s.abs := by
  have e : HandSHeadRun.getT s = s.abs.heap.get? := funext (HandSHeadRun.getT_eq s)
  unfold ob
  rw [e] <;> rfl
/-! ### the run in parts: the facts in blocks, each with a run of its own -/
abbrev Blk : Type := List (Fr → Bool) × List He5.DefA
theorem look_join {g : Addr → Option Obj} {K : Fr} {tf : List (Fr → Addr)} (ht : tabsB g K tf = true) : ∀ bs : List Blk, (∀ b ∈ bs, look b.1 b.2 [] g K = (true, b.2.map He5.DefA.val)) →
    look (bs.flatMap (·.1)) (bs.flatMap (·.2)) tf g K = (true, (bs.flatMap (·.2)).map He5.DefA.val)
  | [], _ => by
    show (([] : List (Fr → Bool)).all (fun f => f K) && (([] : List He5.DefA).all (fun d => d.ok K) && tabsB g K tf), _) = _
    rw [ht] <;> rfl
  | b :: bs, h => by
    have h1 := h b (List.mem_cons_self ..)
    have h2 := look_join ht bs fun c hc => h c (List.mem_cons_of_mem _ hc)
    have a1 : (b.1.all (fun f => f K) && (b.2.all (fun d => d.ok K) && tabsB g K [])) = true := congrArg (fun z : He.AlD => z.1) h1
    have a2 : ((bs.flatMap (·.1)).all (fun f => f K) && ((bs.flatMap (·.2)).all (fun d => d.ok K) && tabsB g K tf)) = true := congrArg (fun z : He.AlD => z.1) h2
    have c1 : (b.2.map fun d => He5.fnA K (d.at_ K)) = b.2.map He5.DefA.val := congrArg (fun z : He.AlD => z.2) h1
    have c2 : ((bs.flatMap (·.2)).map fun d => He5.fnA K (d.at_ K)) = (bs.flatMap (·.2)).map He5.DefA.val := congrArg (fun z : He.AlD => z.2) h2
    obtain ⟨p1, p2⟩ := He.ba a1
    obtain ⟨p3, _⟩ := He.ba p2
    obtain ⟨q1, q2⟩ := He.ba a2
    obtain ⟨q3, _⟩ := He.ba q2
    unfold look
    rw [List.flatMap_cons, List.flatMap_cons, List.all_append, List.all_append, List.map_append, List.map_append, p1, p3, q1, q3, ht, c1, c2] <;> rfl
/-- the looks and the tables, by a run of their own -/
def Run0 (r : PySem.W.OpenRow) (q : Program) (M : Nat) (loose : List Str) (as : List Addr) (tf : List (Fr → Addr)) (w : World) : Prop :=
  ∀ os : OsState, (HandSHeadRun.endF (HandSHeadRun.stepQ (HandSHeadRun.denQ HandSHeadRun.tabQ) r.prog w) M r.prog w os).map (fun s => (HandSHeadRun.looksF r.prog (PySem.W.boot_heap w.params) s.abs,
    HandSHeadRun.seenQ q loose (importedModules r.prog.main.body) (fun s => PySem.W.xlAt q [] s && PySem.W.recOk r.toRowW.records s) s.abs, tabsB (HandSHeadRun.getT s) (part (HandSHeadRun.getT s) as) tf)) = some (true, PySem.W.openGood q loose, true)
/-- one block -/
def RunB (r : PySem.W.OpenRow) (M : Nat) (as : List Addr) (b : Blk) (w : World) : Prop :=
  ∀ os : OsState, (HandSHeadRun.endF (HandSHeadRun.stepQ (HandSHeadRun.denQ HandSHeadRun.tabQ) r.prog w) M r.prog w os).map (fun s => look b.1 b.2 [] (HandSHeadRun.getT s) (part (HandSHeadRun.getT s) as)) = some (true, b.2.map He5.DefA.val)
theorem run_join {r : PySem.W.OpenRow} {q : Program} {M : Nat} {loose : List Str} {as : List Addr} {tf : List (Fr → Addr)} {w : World} {bs : List Blk} (e0 : Run0 r q M loose as tf w) (eb : ∀ b ∈ bs, RunB r M as b w) :
    HandSHeadRun.RunEq r q (hk as (bs.flatMap (·.1)) (bs.flatMap (·.2)) tf) (ob as (bs.flatMap (·.1)) (bs.flatMap (·.2)) tf) M loose w := fun os => by
  obtain ⟨s, hs, hv⟩ := Option.map_eq_some_iff.mp (e0 os)
  obtain ⟨v1, v2⟩ := Prod.mk.inj hv
  obtain ⟨v2, v3⟩ := Prod.mk.inj v2
  have z : look (bs.flatMap (·.1)) (bs.flatMap (·.2)) tf (HandSHeadRun.getT s) (part (HandSHeadRun.getT s) as) = (true, (bs.flatMap (·.2)).map He5.DefA.val) := look_join v3 bs fun b hb => by
    obtain ⟨s2, hs2, hv2⟩ := Option.map_eq_some_iff.mp (eb b hb os)
    rw [hs] at hs2
    cases hs2
    exact hv2
  rw [hs]
  exact congrArg some (Prod.ext v1 (Prod.ext v2 z))
section
variable {fa : List (Fr → Bool)} {fn : List He5.DefA} {tf : List (Fr → Addr)} {h : Heap} {K : Fr}
theorem Says.f (c : Says fa fn tf h K) (i : Nat) {f : Fr → Bool} (e : fa[i]? = some f := by rfl) : f K = true := c.fs f (List.mem_of_getElem? e)
theorem Says.d (c : Says fa fn tf h K) (i : Nat) {d : He5.DefA} (e : fn[i]? = some d := by rfl) : ∃ fd, L2.FunD K d.name d.qual d.params d.body d.scope (d.dvs K) (d.kws K) (d.at_ K) fd := c.df.def_ i e
theorem Says.t (c : Says fa fn tf h K) (i : Nat) {f : Fr → Addr} (e : tf[i]? = some f := by rfl) : PySem.W.codeHdIn K (cT K f).1 (cT K f).2 = true ∧ K.lookup (cT K f).2 = none ∧ h.get? (cT K f).2 = some { cls := .none, data := .fields #[] } := c.tb f (List.mem_of_getElem? e)
end
/-- a def whose code object is followed -/
theorem funC_of {K : Fr} {x qual : Str} {st : Stmt} {f : Addr} {fd : FuncData} (F : L2.FunD K x qual (L2.defArgs st) (L2.defBody st) (L2.defScope st) [] [] f fd) : LamG.FunC K x qual st f fd (cdAt K f) := by
  obtain ⟨oc, od, dV, kV, doc, pm, an, cdv, ct, osl, e, l, c, hd, _⟩ := F.ex
  rcases hd with ⟨_, e2⟩ | ⟨e2, _⟩
  · subst e2
    obtain ⟨c0, rfl⟩ := He.codeIn_ref c
    have ec : cdAt K f = c0 := cdAt_eq l (by rw [e] <;> rfl)
    rw [ec]
    exact ⟨⟨oc, od, kV, doc, pm, an, ct, osl, e, l, c⟩, F.kp⟩
  · exact absurd rfl e2
/-! ### the end -/
/-- a law without lambdas -/
theorem walk_g {l : PySem.W.OpenLaw} {n k : Nat} {q : Program} {loose : List Str} {XP : (Str → Option Value) → Heap → Prop} {YP : World → Heap → Prop} {d : DefRec} {CX : CXT} {x : Str}
    (hn : l.most = some n) (hn2 : n ≤ sizeLine) (hdf : d.params.defaults = []) (hr : Room k callerA)
    (F : ∀ (w : World) (mg : Str → Option Value) (fa : Addr) (h : Heap), YP w h → h.Ns mainGlobals mg → mg d.name = some (.ref fa) →
      ∃ (K : Fr) (fd : FuncData) (sp : Sp), K.In h ∧ (∀ (s : Shared) (u : Value), BindsTo s fd ⟨[u], []⟩ [(x, u)]) ∧
        (∀ (H : Hp) (a : Addr) (ns : List Int), ns.length ≤ n → Only H → SqL K H a (ns.map V.int) → sp [.ref a] H (fun v _ => v = .bl true) fun _ _ _ => False) ∧
        ∀ base : Heap, K.In base → base.Ns mainGlobals mg → Grd.FnG l.prog w K mg base CX k fa fd [x] sp)
    (hCX : ∀ (H : Hp) (s : Shared) (e : Value) (s' : Shared), CX [] H s (fun _ _ _ => False) e s' → False) :
    PySem.W.WalkO q loose XP YP l.row.toRowW d [] (fun f vs => PySem.call f vs) := by
  refine Att.attach_call hn hdf fun w s0 s1 mg mb fa o pm cd doc a vs ns G Y ho hd hcd hmg hobj hints hlen hg => ?_
  obtain ⟨K, fd, sp, KX, hb, hsp, hF⟩ := F w mg fa _ Y G.T.g hmg
  exact Grd.law_callG KX G.T.g G.T.b G.T.builtins G.T.nolimit hg hobj hints (Nat.le_trans hlen hn2) hr hF hb (fun H hO hS => hsp H a ns hlen hO hS) fun H e s' => hCX H s1 e s'
/-- a law with lambdas -/
theorem walk_t {l : PySem.W.OpenLaw} {n k : Nat} {q : Program} {loose : List Str} {XP : (Str → Option Value) → Heap → Prop} {YP : World → Heap → Prop} {d : DefRec} {CX : World → CXT} {x : Str}
    (hn : l.most = some n) (hn2 : n ≤ sizeLine) (hdf : d.params.defaults = []) (hr : Room k callerA)
    (F : ∀ (w : World) (mg : Str → Option Value) (fa : Addr) (h : Heap), YP w h → h.Ns mainGlobals mg → mg d.name = some (.ref fa) → ∃ K : Fr, K.In h ∧ LamG.LawG l w K (CX w) k n x mg fa h)
    (hCX : ∀ (w : World) (H : Hp) (s : Shared) (e : Value) (s' : Shared), CX w [] H s (fun _ _ _ => False) e s' → False) :
    PySem.W.WalkO q loose XP YP l.row.toRowW d [] (fun f vs => PySem.call f vs) := by
  refine Att.attach_call hn hdf fun w s0 s1 mg mb fa o pm cd doc a vs ns G Y ho hd hcd hmg hobj hints hlen hg => ?_
  obtain ⟨K, KX, fd, cs, sp, hc, hb, hsp, hF⟩ := F w mg fa _ Y G.T.g hmg
  exact LamG.law_callGT KX G.T.g G.T.b G.T.builtins G.T.nolimit hg (fun p hp => (hc p hp).1) (fun p hp => (hc p hp).2.1) (fun p hp => (hc p hp).2.2) G.T.bmain hobj hints (Nat.le_trans hlen hn2) hr hF hb (fun H hH hS => hsp H a ns hlen hH hS) fun H e s' => hCX w H s1 e s'
end Hk

namespace K1
open PySem PySem.Spec PyProof.Rows L2
def topS (i : Nat) : Stmt := PySem.Challenge.pw_dirservice_k01_errors.main.body.getD i (.Pass ⟨0, 0, 0, 0⟩)
abbrev s_BadName_init : Stmt := inClass (topS 4) 0
theorem sc_BadName_init : FnScope ["self", "given"] ["self", "given"] (defScope s_BadName_init) := ⟨rfl, rfl, rfl, by decide +kernel, rfl, by decide +kernel, by decide +kernel⟩
abbrev s_BadFilter_init : Stmt := inClass (topS 5) 0
theorem sc_BadFilter_init : FnScope ["self", "place"] ["self", "place"] (defScope s_BadFilter_init) := ⟨rfl, rfl, rfl, by decide +kernel, rfl, by decide +kernel, by decide +kernel⟩
abbrev s_BadScope_init : Stmt := inClass (topS 6) 0
theorem sc_BadScope_init : FnScope ["self", "given"] ["self", "given"] (defScope s_BadScope_init) := ⟨rfl, rfl, rfl, by decide +kernel, rfl, by decide +kernel, by decide +kernel⟩
abbrev s_BadNumber_init : Stmt := inClass (topS 7) 0
theorem sc_BadNumber_init : FnScope ["self", "given"] ["self", "given"] (defScope s_BadNumber_init) := ⟨rfl, rfl, rfl, by decide +kernel, rfl, by decide +kernel, by decide +kernel⟩
abbrev s_BadSchema_init : Stmt := inClass (topS 8) 0
theorem sc_BadSchema_init : FnScope ["self", "part", "place"] ["self", "part", "place"] (defScope s_BadSchema_init) := ⟨rfl, rfl, rfl, by decide +kernel, rfl, by decide +kernel, by decide +kernel⟩
abbrev s_BadEntry_init : Stmt := inClass (topS 9) 0
theorem sc_BadEntry_init : FnScope ["self", "given"] ["self", "given"] (defScope s_BadEntry_init) := ⟨rfl, rfl, rfl, by decide +kernel, rfl, by decide +kernel, by decide +kernel⟩
abbrev s_BadDeed_init : Stmt := inClass (topS 10) 0
theorem sc_BadDeed_init : FnScope ["self", "place"] ["self", "place"] (defScope s_BadDeed_init) := ⟨rfl, rfl, rfl, by decide +kernel, rfl, by decide +kernel, by decide +kernel⟩
abbrev s_BadChange_init : Stmt := inClass (topS 11) 0
theorem sc_BadChange_init : FnScope ["self", "place"] ["self", "place"] (defScope s_BadChange_init) := ⟨rfl, rfl, rfl, by decide +kernel, rfl, by decide +kernel, by decide +kernel⟩
abbrev s_BadVector_init : Stmt := inClass (topS 12) 0
theorem sc_BadVector_init : FnScope ["self", "given"] ["self", "given"] (defScope s_BadVector_init) := ⟨rfl, rfl, rfl, by decide +kernel, rfl, by decide +kernel, by decide +kernel⟩
abbrev s_BadIndex_init : Stmt := inClass (topS 13) 0
theorem sc_BadIndex_init : FnScope ["self", "given"] ["self", "given"] (defScope s_BadIndex_init) := ⟨rfl, rfl, rfl, by decide +kernel, rfl, by decide +kernel, by decide +kernel⟩
abbrev s_BadText_init : Stmt := inClass (topS 14) 0
theorem sc_BadText_init : FnScope ["self", "line"] ["self", "line"] (defScope s_BadText_init) := ⟨rfl, rfl, rfl, by decide +kernel, rfl, by decide +kernel, by decide +kernel⟩
abbrev s_BadHost_init : Stmt := inClass (topS 15) 0
theorem sc_BadHost_init : FnScope ["self", "given"] ["self", "given"] (defScope s_BadHost_init) := ⟨rfl, rfl, rfl, by decide +kernel, rfl, by decide +kernel, by decide +kernel⟩
abbrev s_BadValue_init : Stmt := inClass (topS 16) 0
theorem sc_BadValue_init : FnScope ["self", "attribute", "item"] ["self", "attribute", "item"] (defScope s_BadValue_init) := ⟨rfl, rfl, rfl, by decide +kernel, rfl, by decide +kernel, by decide +kernel⟩
abbrev s_UnknownAttribute_init : Stmt := inClass (topS 17) 0
theorem sc_UnknownAttribute_init : FnScope ["self", "attribute"] ["self", "attribute"] (defScope s_UnknownAttribute_init) := ⟨rfl, rfl, rfl, by decide +kernel, rfl, by decide +kernel, by decide +kernel⟩
abbrev s_MirrorGiven_init : Stmt := inClass (topS 18) 0
theorem sc_MirrorGiven_init : FnScope ["self", "attribute"] ["self", "attribute"] (defScope s_MirrorGiven_init) := ⟨rfl, rfl, rfl, by decide +kernel, rfl, by decide +kernel, by decide +kernel⟩
abbrev s_UnknownClass_init : Stmt := inClass (topS 19) 0
theorem sc_UnknownClass_init : FnScope ["self", "given"] ["self", "given"] (defScope s_UnknownClass_init) := ⟨rfl, rfl, rfl, by decide +kernel, rfl, by decide +kernel, by decide +kernel⟩
abbrev s_NotAllowed_init : Stmt := inClass (topS 21) 0
theorem sc_NotAllowed_init : FnScope ["self", "attribute"] ["self", "attribute"] (defScope s_NotAllowed_init) := ⟨rfl, rfl, rfl, by decide +kernel, rfl, by decide +kernel, by decide +kernel⟩
abbrev s_Missing_init : Stmt := inClass (topS 22) 0
theorem sc_Missing_init : FnScope ["self", "attribute"] ["self", "attribute"] (defScope s_Missing_init) := ⟨rfl, rfl, rfl, by decide +kernel, rfl, by decide +kernel, by decide +kernel⟩
abbrev s_TooManyValues_init : Stmt := inClass (topS 23) 0
theorem sc_TooManyValues_init : FnScope ["self", "attribute"] ["self", "attribute"] (defScope s_TooManyValues_init) := ⟨rfl, rfl, rfl, by decide +kernel, rfl, by decide +kernel, by decide +kernel⟩
abbrev s_ValueTaken_init : Stmt := inClass (topS 24) 0
theorem sc_ValueTaken_init : FnScope ["self", "attribute", "item"] ["self", "attribute", "item"] (defScope s_ValueTaken_init) := ⟨rfl, rfl, rfl, by decide +kernel, rfl, by decide +kernel, by decide +kernel⟩
abbrev s_NotNamed_init : Stmt := inClass (topS 25) 0
theorem sc_NotNamed_init : FnScope ["self", "attribute"] ["self", "attribute"] (defScope s_NotNamed_init) := ⟨rfl, rfl, rfl, by decide +kernel, rfl, by decide +kernel, by decide +kernel⟩
abbrev s_BadPlace_init : Stmt := inClass (topS 26) 0
theorem sc_BadPlace_init : FnScope ["self", "given"] ["self", "given"] (defScope s_BadPlace_init) := ⟨rfl, rfl, rfl, by decide +kernel, rfl, by decide +kernel, by decide +kernel⟩
abbrev s_NoTarget_init : Stmt := inClass (topS 27) 0
theorem sc_NoTarget_init : FnScope ["self", "attribute", "item"] ["self", "attribute", "item"] (defScope s_NoTarget_init) := ⟨rfl, rfl, rfl, by decide +kernel, rfl, by decide +kernel, by decide +kernel⟩
abbrev s_NotInteger_init : Stmt := inClass (topS 28) 0
theorem sc_NotInteger_init : FnScope ["self", "attribute"] ["self", "attribute"] (defScope s_NotInteger_init) := ⟨rfl, rfl, rfl, by decide +kernel, rfl, by decide +kernel, by decide +kernel⟩
abbrev s_NoOrder_init : Stmt := inClass (topS 29) 0
theorem sc_NoOrder_init : FnScope ["self", "attribute"] ["self", "attribute"] (defScope s_NoOrder_init) := ⟨rfl, rfl, rfl, by decide +kernel, rfl, by decide +kernel, by decide +kernel⟩
abbrev s_NoEntry_init : Stmt := inClass (topS 30) 0
theorem sc_NoEntry_init : FnScope ["self", "missing", "matched"] ["self", "missing", "matched"] (defScope s_NoEntry_init) := ⟨rfl, rfl, rfl, by decide +kernel, rfl, by decide +kernel, by decide +kernel⟩
abbrev s_NameTaken_init : Stmt := inClass (topS 31) 0
theorem sc_NameTaken_init : FnScope ["self", "given"] ["self", "given"] (defScope s_NameTaken_init) := ⟨rfl, rfl, rfl, by decide +kernel, rfl, by decide +kernel, by decide +kernel⟩
abbrev s_HasChildren_init : Stmt := inClass (topS 32) 0
theorem sc_HasChildren_init : FnScope ["self", "given"] ["self", "given"] (defScope s_HasChildren_init) := ⟨rfl, rfl, rfl, by decide +kernel, rfl, by decide +kernel, by decide +kernel⟩
abbrev s_InUse_init : Stmt := inClass (topS 33) 0
theorem sc_InUse_init : FnScope ["self", "holder"] ["self", "holder"] (defScope s_InUse_init) := ⟨rfl, rfl, rfl, by decide +kernel, rfl, by decide +kernel, by decide +kernel⟩
abbrev s_Inside_init : Stmt := inClass (topS 34) 0
theorem sc_Inside_init : FnScope ["self", "given"] ["self", "given"] (defScope s_Inside_init) := ⟨rfl, rfl, rfl, by decide +kernel, rfl, by decide +kernel, by decide +kernel⟩
abbrev s_NoValue_init : Stmt := inClass (topS 35) 0
theorem sc_NoValue_init : FnScope ["self", "attribute", "item"] ["self", "attribute", "item"] (defScope s_NoValue_init) := ⟨rfl, rfl, rfl, by decide +kernel, rfl, by decide +kernel, by decide +kernel⟩
abbrev s_Referral_init : Stmt := inClass (topS 36) 0
theorem sc_Referral_init : FnScope ["self", "targets"] ["self", "targets"] (defScope s_Referral_init) := ⟨rfl, rfl, rfl, by decide +kernel, rfl, by decide +kernel, by decide +kernel⟩
abbrev s_IndexTaken_init : Stmt := inClass (topS 37) 0
theorem sc_IndexTaken_init : FnScope ["self", "given"] ["self", "given"] (defScope s_IndexTaken_init) := ⟨rfl, rfl, rfl, by decide +kernel, rfl, by decide +kernel, by decide +kernel⟩
abbrev s_NoIndex_init : Stmt := inClass (topS 38) 0
theorem sc_NoIndex_init : FnScope ["self", "given"] ["self", "given"] (defScope s_NoIndex_init) := ⟨rfl, rfl, rfl, by decide +kernel, rfl, by decide +kernel, by decide +kernel⟩
abbrev s_NoHost_init : Stmt := inClass (topS 40) 0
theorem sc_NoHost_init : FnScope ["self", "host"] ["self", "host"] (defScope s_NoHost_init) := ⟨rfl, rfl, rfl, by decide +kernel, rfl, by decide +kernel, by decide +kernel⟩
abbrev s_Gap_init : Stmt := inClass (topS 41) 0
theorem sc_Gap_init : FnScope ["self", "host"] ["self", "host"] (defScope s_Gap_init) := ⟨rfl, rfl, rfl, by decide +kernel, rfl, by decide +kernel, by decide +kernel⟩
abbrev s_Behind_init : Stmt := inClass (topS 42) 0
theorem sc_Behind_init : FnScope ["self", "host"] ["self", "host"] (defScope s_Behind_init) := ⟨rfl, rfl, rfl, by decide +kernel, rfl, by decide +kernel, by decide +kernel⟩
abbrev s_Forgotten_init : Stmt := inClass (topS 43) 0
theorem sc_Forgotten_init : FnScope ["self", "host"] ["self", "host"] (defScope s_Forgotten_init) := ⟨rfl, rfl, rfl, by decide +kernel, rfl, by decide +kernel, by decide +kernel⟩
abbrev s_Full_init : Stmt := inClass (topS 45) 0
theorem sc_Full_init : FnScope ["self", "limit"] ["self", "limit"] (defScope s_Full_init) := ⟨rfl, rfl, rfl, by decide +kernel, rfl, by decide +kernel, by decide +kernel⟩
abbrev s_TooDeep_init : Stmt := inClass (topS 46) 0
theorem sc_TooDeep_init : FnScope ["self", "limit"] ["self", "limit"] (defScope s_TooDeep_init) := ⟨rfl, rfl, rfl, by decide +kernel, rfl, by decide +kernel, by decide +kernel⟩
abbrev s_SizeLimit_init : Stmt := inClass (topS 47) 0
theorem sc_SizeLimit_init : FnScope ["self", "limit"] ["self", "limit"] (defScope s_SizeLimit_init) := ⟨rfl, rfl, rfl, by decide +kernel, rfl, by decide +kernel, by decide +kernel⟩
abbrev s_q_source : Stmt := topS 59
theorem sc_q_source : FnScope ["_law_script", "_law_k", "_law_cell"] ["_law_script", "_law_k"] (defScope s_q_source) := ⟨rfl, rfl, rfl, by decide +kernel, rfl, by decide +kernel, by decide +kernel⟩
abbrev s_q_next : Stmt := topS 60
theorem sc_q_next : FnScope ["_law_source_here", "_law_many", "_law_found", "_law_primes", "_law_prime", "_law_mixed"] ["_law_source_here", "_law_many"] (defScope s_q_next) := ⟨rfl, rfl, rfl, by decide +kernel, rfl, by decide +kernel, by decide +kernel⟩
abbrev s_q_pick : Stmt := topS 61
theorem sc_q_pick : FnScope ["_law_source_here", "_law_items"] ["_law_source_here", "_law_items"] (defScope s_q_pick) := ⟨rfl, rfl, rfl, by decide +kernel, rfl, by decide +kernel, by decide +kernel⟩
abbrev s_q_rounds : Stmt := topS 62
theorem sc_q_rounds : FnScope ["_law_script", "_law_most", "_law_blend", "_law_cells", "_law_k"] ["_law_script", "_law_most"] (defScope s_q_rounds) := ⟨rfl, rfl, rfl, by decide +kernel, rfl, by decide +kernel, by decide +kernel⟩
abbrev s_q_made : Stmt := topS 63
theorem sc_q_made : FnScope ["_law_one", "_law_two", "_law_found"] ["_law_one", "_law_two"] (defScope s_q_made) := ⟨rfl, rfl, rfl, by decide +kernel, rfl, by decide +kernel, by decide +kernel⟩
abbrev s_q_named : Stmt := topS 64
theorem sc_q_named : FnScope ["_law_one", "_law_two", "_law_found"] ["_law_one", "_law_two"] (defScope s_q_named) := ⟨rfl, rfl, rfl, by decide +kernel, rfl, by decide +kernel, by decide +kernel⟩
abbrev s_q_held : Stmt := topS 65
theorem sc_q_held : FnScope ["_law_error", "_law_spot"] ["_law_error", "_law_spot"] (defScope s_q_held) := ⟨rfl, rfl, rfl, by decide +kernel, rfl, by decide +kernel, by decide +kernel⟩
abbrev s_q_marks : Stmt := topS 66
theorem sc_q_marks : FnScope ["_law_error", "_law_found"] ["_law_error"] (defScope s_q_marks) := ⟨rfl, rfl, rfl, by decide +kernel, rfl, by decide +kernel, by decide +kernel⟩
abbrev s_q_families : Stmt := topS 67
theorem sc_q_families : FnScope ["_law_error", "_law_found"] ["_law_error"] (defScope s_q_families) := ⟨rfl, rfl, rfl, by decide +kernel, rfl, by decide +kernel, by decide +kernel⟩
abbrev s_q_strange : Stmt := topS 68
theorem sc_q_strange : FnScope ["_law_error", "_law_found"] ["_law_error"] (defScope s_q_strange) := ⟨rfl, rfl, rfl, by decide +kernel, rfl, by decide +kernel, by decide +kernel⟩
abbrev s_q_due : Stmt := topS 69
theorem sc_q_due : FnScope ["_law_spot", "_law_one", "_law_two"] ["_law_spot", "_law_one", "_law_two"] (defScope s_q_due) := ⟨rfl, rfl, rfl, by decide +kernel, rfl, by decide +kernel, by decide +kernel⟩
abbrev s_q_error_right : Stmt := topS 70
theorem sc_q_error_right : FnScope ["_law_error", "_law_spot", "_law_one", "_law_two", "_law_group", "_law_n"] ["_law_error", "_law_spot", "_law_one", "_law_two"] (defScope s_q_error_right) := ⟨rfl, rfl, rfl, by decide +kernel, rfl, by decide +kernel, by decide +kernel⟩
abbrev s_q_limits_right : Stmt := topS 71
theorem sc_q_limits_right : FnScope [] [] (defScope s_q_limits_right) := ⟨rfl, rfl, rfl, by decide +kernel, rfl, by decide +kernel, by decide +kernel⟩
abbrev s_law : Stmt := topS 72
theorem sc_law : FnScope ["_law_script", "_law_source_here", "_law_some", "_law_one", "_law_two", "_law_row", "_law_spot", "_law_error"] ["_law_script"] (defScope s_law) := ⟨rfl, rfl, rfl, by decide +kernel, rfl, by decide +kernel, by decide +kernel⟩
/-- what the top has written -/
structure Txt (K : PySem.W.Frag) (mg : Str → Option Value) where
  X_BadName : Addr
  X_BadFilter : Addr
  X_BadScope : Addr
  X_BadNumber : Addr
  X_BadSchema : Addr
  X_BadEntry : Addr
  X_BadDeed : Addr
  X_BadChange : Addr
  X_BadVector : Addr
  X_BadIndex : Addr
  X_BadText : Addr
  X_BadHost : Addr
  X_BadValue : Addr
  X_UnknownAttribute : Addr
  X_MirrorGiven : Addr
  X_UnknownClass : Addr
  X_BadClasses : Addr
  X_NotAllowed : Addr
  X_Missing : Addr
  X_TooManyValues : Addr
  X_ValueTaken : Addr
  X_NotNamed : Addr
  X_BadPlace : Addr
  X_NoTarget : Addr
  X_NotInteger : Addr
  X_NoOrder : Addr
  X_NoEntry : Addr
  X_NameTaken : Addr
  X_HasChildren : Addr
  X_InUse : Addr
  X_Inside : Addr
  X_NoValue : Addr
  X_Referral : Addr
  X_IndexTaken : Addr
  X_NoIndex : Addr
  X_NothingToUndo : Addr
  X_NoHost : Addr
  X_Gap : Addr
  X_Behind : Addr
  X_Forgotten : Addr
  X_PagingOver : Addr
  X_Full : Addr
  X_TooDeep : Addr
  X_SizeLimit : Addr
  X_Invalid : Addr
  X_Conflict : Addr
  X_Excess : Addr
  f_BadName_init : Addr
  d_BadName_init : FuncData
  F_BadName_init : Fun K "__init__" "BadName.__init__" s_BadName_init f_BadName_init d_BadName_init
  b_BadName_init : Binds K d_BadName_init ["self", "given"] []
  iX_BadName : PySem.W.findIn K (.ref X_BadName) "__init__" = some (some (.ref f_BadName_init))
  tX_BadName : PySem.W.typeIn K (.ref f_BadName_init) = some (.type "function")
  f_BadFilter_init : Addr
  d_BadFilter_init : FuncData
  F_BadFilter_init : Fun K "__init__" "BadFilter.__init__" s_BadFilter_init f_BadFilter_init d_BadFilter_init
  b_BadFilter_init : Binds K d_BadFilter_init ["self", "place"] []
  iX_BadFilter : PySem.W.findIn K (.ref X_BadFilter) "__init__" = some (some (.ref f_BadFilter_init))
  tX_BadFilter : PySem.W.typeIn K (.ref f_BadFilter_init) = some (.type "function")
  f_BadScope_init : Addr
  d_BadScope_init : FuncData
  F_BadScope_init : Fun K "__init__" "BadScope.__init__" s_BadScope_init f_BadScope_init d_BadScope_init
  b_BadScope_init : Binds K d_BadScope_init ["self", "given"] []
  iX_BadScope : PySem.W.findIn K (.ref X_BadScope) "__init__" = some (some (.ref f_BadScope_init))
  tX_BadScope : PySem.W.typeIn K (.ref f_BadScope_init) = some (.type "function")
  f_BadNumber_init : Addr
  d_BadNumber_init : FuncData
  F_BadNumber_init : Fun K "__init__" "BadNumber.__init__" s_BadNumber_init f_BadNumber_init d_BadNumber_init
  b_BadNumber_init : Binds K d_BadNumber_init ["self", "given"] []
  iX_BadNumber : PySem.W.findIn K (.ref X_BadNumber) "__init__" = some (some (.ref f_BadNumber_init))
  tX_BadNumber : PySem.W.typeIn K (.ref f_BadNumber_init) = some (.type "function")
  f_BadSchema_init : Addr
  d_BadSchema_init : FuncData
  F_BadSchema_init : Fun K "__init__" "BadSchema.__init__" s_BadSchema_init f_BadSchema_init d_BadSchema_init
  b_BadSchema_init : Binds K d_BadSchema_init ["self", "part", "place"] []
  iX_BadSchema : PySem.W.findIn K (.ref X_BadSchema) "__init__" = some (some (.ref f_BadSchema_init))
  tX_BadSchema : PySem.W.typeIn K (.ref f_BadSchema_init) = some (.type "function")
  f_BadEntry_init : Addr
  d_BadEntry_init : FuncData
  F_BadEntry_init : Fun K "__init__" "BadEntry.__init__" s_BadEntry_init f_BadEntry_init d_BadEntry_init
  b_BadEntry_init : Binds K d_BadEntry_init ["self", "given"] []
  iX_BadEntry : PySem.W.findIn K (.ref X_BadEntry) "__init__" = some (some (.ref f_BadEntry_init))
  tX_BadEntry : PySem.W.typeIn K (.ref f_BadEntry_init) = some (.type "function")
  f_BadDeed_init : Addr
  d_BadDeed_init : FuncData
  F_BadDeed_init : Fun K "__init__" "BadDeed.__init__" s_BadDeed_init f_BadDeed_init d_BadDeed_init
  b_BadDeed_init : Binds K d_BadDeed_init ["self", "place"] []
  iX_BadDeed : PySem.W.findIn K (.ref X_BadDeed) "__init__" = some (some (.ref f_BadDeed_init))
  tX_BadDeed : PySem.W.typeIn K (.ref f_BadDeed_init) = some (.type "function")
  f_BadChange_init : Addr
  d_BadChange_init : FuncData
  F_BadChange_init : Fun K "__init__" "BadChange.__init__" s_BadChange_init f_BadChange_init d_BadChange_init
  b_BadChange_init : Binds K d_BadChange_init ["self", "place"] []
  iX_BadChange : PySem.W.findIn K (.ref X_BadChange) "__init__" = some (some (.ref f_BadChange_init))
  tX_BadChange : PySem.W.typeIn K (.ref f_BadChange_init) = some (.type "function")
  f_BadVector_init : Addr
  d_BadVector_init : FuncData
  F_BadVector_init : Fun K "__init__" "BadVector.__init__" s_BadVector_init f_BadVector_init d_BadVector_init
  b_BadVector_init : Binds K d_BadVector_init ["self", "given"] []
  iX_BadVector : PySem.W.findIn K (.ref X_BadVector) "__init__" = some (some (.ref f_BadVector_init))
  tX_BadVector : PySem.W.typeIn K (.ref f_BadVector_init) = some (.type "function")
  f_BadIndex_init : Addr
  d_BadIndex_init : FuncData
  F_BadIndex_init : Fun K "__init__" "BadIndex.__init__" s_BadIndex_init f_BadIndex_init d_BadIndex_init
  b_BadIndex_init : Binds K d_BadIndex_init ["self", "given"] []
  iX_BadIndex : PySem.W.findIn K (.ref X_BadIndex) "__init__" = some (some (.ref f_BadIndex_init))
  tX_BadIndex : PySem.W.typeIn K (.ref f_BadIndex_init) = some (.type "function")
  f_BadText_init : Addr
  d_BadText_init : FuncData
  F_BadText_init : Fun K "__init__" "BadText.__init__" s_BadText_init f_BadText_init d_BadText_init
  b_BadText_init : Binds K d_BadText_init ["self", "line"] []
  iX_BadText : PySem.W.findIn K (.ref X_BadText) "__init__" = some (some (.ref f_BadText_init))
  tX_BadText : PySem.W.typeIn K (.ref f_BadText_init) = some (.type "function")
  f_BadHost_init : Addr
  d_BadHost_init : FuncData
  F_BadHost_init : Fun K "__init__" "BadHost.__init__" s_BadHost_init f_BadHost_init d_BadHost_init
  b_BadHost_init : Binds K d_BadHost_init ["self", "given"] []
  iX_BadHost : PySem.W.findIn K (.ref X_BadHost) "__init__" = some (some (.ref f_BadHost_init))
  tX_BadHost : PySem.W.typeIn K (.ref f_BadHost_init) = some (.type "function")
  f_BadValue_init : Addr
  d_BadValue_init : FuncData
  F_BadValue_init : Fun K "__init__" "BadValue.__init__" s_BadValue_init f_BadValue_init d_BadValue_init
  b_BadValue_init : Binds K d_BadValue_init ["self", "attribute", "item"] []
  iX_BadValue : PySem.W.findIn K (.ref X_BadValue) "__init__" = some (some (.ref f_BadValue_init))
  tX_BadValue : PySem.W.typeIn K (.ref f_BadValue_init) = some (.type "function")
  f_UnknownAttribute_init : Addr
  d_UnknownAttribute_init : FuncData
  F_UnknownAttribute_init : Fun K "__init__" "UnknownAttribute.__init__" s_UnknownAttribute_init f_UnknownAttribute_init d_UnknownAttribute_init
  b_UnknownAttribute_init : Binds K d_UnknownAttribute_init ["self", "attribute"] []
  iX_UnknownAttribute : PySem.W.findIn K (.ref X_UnknownAttribute) "__init__" = some (some (.ref f_UnknownAttribute_init))
  tX_UnknownAttribute : PySem.W.typeIn K (.ref f_UnknownAttribute_init) = some (.type "function")
  f_MirrorGiven_init : Addr
  d_MirrorGiven_init : FuncData
  F_MirrorGiven_init : Fun K "__init__" "MirrorGiven.__init__" s_MirrorGiven_init f_MirrorGiven_init d_MirrorGiven_init
  b_MirrorGiven_init : Binds K d_MirrorGiven_init ["self", "attribute"] []
  iX_MirrorGiven : PySem.W.findIn K (.ref X_MirrorGiven) "__init__" = some (some (.ref f_MirrorGiven_init))
  tX_MirrorGiven : PySem.W.typeIn K (.ref f_MirrorGiven_init) = some (.type "function")
  f_UnknownClass_init : Addr
  d_UnknownClass_init : FuncData
  F_UnknownClass_init : Fun K "__init__" "UnknownClass.__init__" s_UnknownClass_init f_UnknownClass_init d_UnknownClass_init
  b_UnknownClass_init : Binds K d_UnknownClass_init ["self", "given"] []
  iX_UnknownClass : PySem.W.findIn K (.ref X_UnknownClass) "__init__" = some (some (.ref f_UnknownClass_init))
  tX_UnknownClass : PySem.W.typeIn K (.ref f_UnknownClass_init) = some (.type "function")
  f_NotAllowed_init : Addr
  d_NotAllowed_init : FuncData
  F_NotAllowed_init : Fun K "__init__" "NotAllowed.__init__" s_NotAllowed_init f_NotAllowed_init d_NotAllowed_init
  b_NotAllowed_init : Binds K d_NotAllowed_init ["self", "attribute"] []
  iX_NotAllowed : PySem.W.findIn K (.ref X_NotAllowed) "__init__" = some (some (.ref f_NotAllowed_init))
  tX_NotAllowed : PySem.W.typeIn K (.ref f_NotAllowed_init) = some (.type "function")
  f_Missing_init : Addr
  d_Missing_init : FuncData
  F_Missing_init : Fun K "__init__" "Missing.__init__" s_Missing_init f_Missing_init d_Missing_init
  b_Missing_init : Binds K d_Missing_init ["self", "attribute"] []
  iX_Missing : PySem.W.findIn K (.ref X_Missing) "__init__" = some (some (.ref f_Missing_init))
  tX_Missing : PySem.W.typeIn K (.ref f_Missing_init) = some (.type "function")
  f_TooManyValues_init : Addr
  d_TooManyValues_init : FuncData
  F_TooManyValues_init : Fun K "__init__" "TooManyValues.__init__" s_TooManyValues_init f_TooManyValues_init d_TooManyValues_init
  b_TooManyValues_init : Binds K d_TooManyValues_init ["self", "attribute"] []
  iX_TooManyValues : PySem.W.findIn K (.ref X_TooManyValues) "__init__" = some (some (.ref f_TooManyValues_init))
  tX_TooManyValues : PySem.W.typeIn K (.ref f_TooManyValues_init) = some (.type "function")
  f_ValueTaken_init : Addr
  d_ValueTaken_init : FuncData
  F_ValueTaken_init : Fun K "__init__" "ValueTaken.__init__" s_ValueTaken_init f_ValueTaken_init d_ValueTaken_init
  b_ValueTaken_init : Binds K d_ValueTaken_init ["self", "attribute", "item"] []
  iX_ValueTaken : PySem.W.findIn K (.ref X_ValueTaken) "__init__" = some (some (.ref f_ValueTaken_init))
  tX_ValueTaken : PySem.W.typeIn K (.ref f_ValueTaken_init) = some (.type "function")
  f_NotNamed_init : Addr
  d_NotNamed_init : FuncData
  F_NotNamed_init : Fun K "__init__" "NotNamed.__init__" s_NotNamed_init f_NotNamed_init d_NotNamed_init
  b_NotNamed_init : Binds K d_NotNamed_init ["self", "attribute"] []
  iX_NotNamed : PySem.W.findIn K (.ref X_NotNamed) "__init__" = some (some (.ref f_NotNamed_init))
  tX_NotNamed : PySem.W.typeIn K (.ref f_NotNamed_init) = some (.type "function")
  f_BadPlace_init : Addr
  d_BadPlace_init : FuncData
  F_BadPlace_init : Fun K "__init__" "BadPlace.__init__" s_BadPlace_init f_BadPlace_init d_BadPlace_init
  b_BadPlace_init : Binds K d_BadPlace_init ["self", "given"] []
  iX_BadPlace : PySem.W.findIn K (.ref X_BadPlace) "__init__" = some (some (.ref f_BadPlace_init))
  tX_BadPlace : PySem.W.typeIn K (.ref f_BadPlace_init) = some (.type "function")
  f_NoTarget_init : Addr
  d_NoTarget_init : FuncData
  F_NoTarget_init : Fun K "__init__" "NoTarget.__init__" s_NoTarget_init f_NoTarget_init d_NoTarget_init
  b_NoTarget_init : Binds K d_NoTarget_init ["self", "attribute", "item"] []
  iX_NoTarget : PySem.W.findIn K (.ref X_NoTarget) "__init__" = some (some (.ref f_NoTarget_init))
  tX_NoTarget : PySem.W.typeIn K (.ref f_NoTarget_init) = some (.type "function")
  f_NotInteger_init : Addr
  d_NotInteger_init : FuncData
  F_NotInteger_init : Fun K "__init__" "NotInteger.__init__" s_NotInteger_init f_NotInteger_init d_NotInteger_init
  b_NotInteger_init : Binds K d_NotInteger_init ["self", "attribute"] []
  iX_NotInteger : PySem.W.findIn K (.ref X_NotInteger) "__init__" = some (some (.ref f_NotInteger_init))
  tX_NotInteger : PySem.W.typeIn K (.ref f_NotInteger_init) = some (.type "function")
  f_NoOrder_init : Addr
  d_NoOrder_init : FuncData
  F_NoOrder_init : Fun K "__init__" "NoOrder.__init__" s_NoOrder_init f_NoOrder_init d_NoOrder_init
  b_NoOrder_init : Binds K d_NoOrder_init ["self", "attribute"] []
  iX_NoOrder : PySem.W.findIn K (.ref X_NoOrder) "__init__" = some (some (.ref f_NoOrder_init))
  tX_NoOrder : PySem.W.typeIn K (.ref f_NoOrder_init) = some (.type "function")
  f_NoEntry_init : Addr
  d_NoEntry_init : FuncData
  F_NoEntry_init : Fun K "__init__" "NoEntry.__init__" s_NoEntry_init f_NoEntry_init d_NoEntry_init
  b_NoEntry_init : Binds K d_NoEntry_init ["self", "missing", "matched"] []
  iX_NoEntry : PySem.W.findIn K (.ref X_NoEntry) "__init__" = some (some (.ref f_NoEntry_init))
  tX_NoEntry : PySem.W.typeIn K (.ref f_NoEntry_init) = some (.type "function")
  f_NameTaken_init : Addr
  d_NameTaken_init : FuncData
  F_NameTaken_init : Fun K "__init__" "NameTaken.__init__" s_NameTaken_init f_NameTaken_init d_NameTaken_init
  b_NameTaken_init : Binds K d_NameTaken_init ["self", "given"] []
  iX_NameTaken : PySem.W.findIn K (.ref X_NameTaken) "__init__" = some (some (.ref f_NameTaken_init))
  tX_NameTaken : PySem.W.typeIn K (.ref f_NameTaken_init) = some (.type "function")
  f_HasChildren_init : Addr
  d_HasChildren_init : FuncData
  F_HasChildren_init : Fun K "__init__" "HasChildren.__init__" s_HasChildren_init f_HasChildren_init d_HasChildren_init
  b_HasChildren_init : Binds K d_HasChildren_init ["self", "given"] []
  iX_HasChildren : PySem.W.findIn K (.ref X_HasChildren) "__init__" = some (some (.ref f_HasChildren_init))
  tX_HasChildren : PySem.W.typeIn K (.ref f_HasChildren_init) = some (.type "function")
  f_InUse_init : Addr
  d_InUse_init : FuncData
  F_InUse_init : Fun K "__init__" "InUse.__init__" s_InUse_init f_InUse_init d_InUse_init
  b_InUse_init : Binds K d_InUse_init ["self", "holder"] []
  iX_InUse : PySem.W.findIn K (.ref X_InUse) "__init__" = some (some (.ref f_InUse_init))
  tX_InUse : PySem.W.typeIn K (.ref f_InUse_init) = some (.type "function")
  f_Inside_init : Addr
  d_Inside_init : FuncData
  F_Inside_init : Fun K "__init__" "Inside.__init__" s_Inside_init f_Inside_init d_Inside_init
  b_Inside_init : Binds K d_Inside_init ["self", "given"] []
  iX_Inside : PySem.W.findIn K (.ref X_Inside) "__init__" = some (some (.ref f_Inside_init))
  tX_Inside : PySem.W.typeIn K (.ref f_Inside_init) = some (.type "function")
  f_NoValue_init : Addr
  d_NoValue_init : FuncData
  F_NoValue_init : Fun K "__init__" "NoValue.__init__" s_NoValue_init f_NoValue_init d_NoValue_init
  b_NoValue_init : Binds K d_NoValue_init ["self", "attribute", "item"] []
  iX_NoValue : PySem.W.findIn K (.ref X_NoValue) "__init__" = some (some (.ref f_NoValue_init))
  tX_NoValue : PySem.W.typeIn K (.ref f_NoValue_init) = some (.type "function")
  f_Referral_init : Addr
  d_Referral_init : FuncData
  F_Referral_init : Fun K "__init__" "Referral.__init__" s_Referral_init f_Referral_init d_Referral_init
  b_Referral_init : Binds K d_Referral_init ["self", "targets"] []
  iX_Referral : PySem.W.findIn K (.ref X_Referral) "__init__" = some (some (.ref f_Referral_init))
  tX_Referral : PySem.W.typeIn K (.ref f_Referral_init) = some (.type "function")
  f_IndexTaken_init : Addr
  d_IndexTaken_init : FuncData
  F_IndexTaken_init : Fun K "__init__" "IndexTaken.__init__" s_IndexTaken_init f_IndexTaken_init d_IndexTaken_init
  b_IndexTaken_init : Binds K d_IndexTaken_init ["self", "given"] []
  iX_IndexTaken : PySem.W.findIn K (.ref X_IndexTaken) "__init__" = some (some (.ref f_IndexTaken_init))
  tX_IndexTaken : PySem.W.typeIn K (.ref f_IndexTaken_init) = some (.type "function")
  f_NoIndex_init : Addr
  d_NoIndex_init : FuncData
  F_NoIndex_init : Fun K "__init__" "NoIndex.__init__" s_NoIndex_init f_NoIndex_init d_NoIndex_init
  b_NoIndex_init : Binds K d_NoIndex_init ["self", "given"] []
  iX_NoIndex : PySem.W.findIn K (.ref X_NoIndex) "__init__" = some (some (.ref f_NoIndex_init))
  tX_NoIndex : PySem.W.typeIn K (.ref f_NoIndex_init) = some (.type "function")
  f_NoHost_init : Addr
  d_NoHost_init : FuncData
  F_NoHost_init : Fun K "__init__" "NoHost.__init__" s_NoHost_init f_NoHost_init d_NoHost_init
  b_NoHost_init : Binds K d_NoHost_init ["self", "host"] []
  iX_NoHost : PySem.W.findIn K (.ref X_NoHost) "__init__" = some (some (.ref f_NoHost_init))
  tX_NoHost : PySem.W.typeIn K (.ref f_NoHost_init) = some (.type "function")
  f_Gap_init : Addr
  d_Gap_init : FuncData
  F_Gap_init : Fun K "__init__" "Gap.__init__" s_Gap_init f_Gap_init d_Gap_init
  b_Gap_init : Binds K d_Gap_init ["self", "host"] []
  iX_Gap : PySem.W.findIn K (.ref X_Gap) "__init__" = some (some (.ref f_Gap_init))
  tX_Gap : PySem.W.typeIn K (.ref f_Gap_init) = some (.type "function")
  f_Behind_init : Addr
  d_Behind_init : FuncData
  F_Behind_init : Fun K "__init__" "Behind.__init__" s_Behind_init f_Behind_init d_Behind_init
  b_Behind_init : Binds K d_Behind_init ["self", "host"] []
  iX_Behind : PySem.W.findIn K (.ref X_Behind) "__init__" = some (some (.ref f_Behind_init))
  tX_Behind : PySem.W.typeIn K (.ref f_Behind_init) = some (.type "function")
  f_Forgotten_init : Addr
  d_Forgotten_init : FuncData
  F_Forgotten_init : Fun K "__init__" "Forgotten.__init__" s_Forgotten_init f_Forgotten_init d_Forgotten_init
  b_Forgotten_init : Binds K d_Forgotten_init ["self", "host"] []
  iX_Forgotten : PySem.W.findIn K (.ref X_Forgotten) "__init__" = some (some (.ref f_Forgotten_init))
  tX_Forgotten : PySem.W.typeIn K (.ref f_Forgotten_init) = some (.type "function")
  f_Full_init : Addr
  d_Full_init : FuncData
  F_Full_init : Fun K "__init__" "Full.__init__" s_Full_init f_Full_init d_Full_init
  b_Full_init : Binds K d_Full_init ["self", "limit"] []
  iX_Full : PySem.W.findIn K (.ref X_Full) "__init__" = some (some (.ref f_Full_init))
  tX_Full : PySem.W.typeIn K (.ref f_Full_init) = some (.type "function")
  f_TooDeep_init : Addr
  d_TooDeep_init : FuncData
  F_TooDeep_init : Fun K "__init__" "TooDeep.__init__" s_TooDeep_init f_TooDeep_init d_TooDeep_init
  b_TooDeep_init : Binds K d_TooDeep_init ["self", "limit"] []
  iX_TooDeep : PySem.W.findIn K (.ref X_TooDeep) "__init__" = some (some (.ref f_TooDeep_init))
  tX_TooDeep : PySem.W.typeIn K (.ref f_TooDeep_init) = some (.type "function")
  f_SizeLimit_init : Addr
  d_SizeLimit_init : FuncData
  F_SizeLimit_init : Fun K "__init__" "SizeLimit.__init__" s_SizeLimit_init f_SizeLimit_init d_SizeLimit_init
  b_SizeLimit_init : Binds K d_SizeLimit_init ["self", "limit"] []
  iX_SizeLimit : PySem.W.findIn K (.ref X_SizeLimit) "__init__" = some (some (.ref f_SizeLimit_init))
  tX_SizeLimit : PySem.W.typeIn K (.ref f_SizeLimit_init) = some (.type "function")
  f_q_source : Addr
  d_q_source : FuncData
  F_q_source : Fun K "_law_source" "_law_source" s_q_source f_q_source d_q_source
  g_q_source : mg "_law_source" = some (.ref f_q_source)
  b_q_source : Binds K d_q_source ["_law_script", "_law_k"] []
  f_q_next : Addr
  d_q_next : FuncData
  F_q_next : Fun K "_law_next" "_law_next" s_q_next f_q_next d_q_next
  g_q_next : mg "_law_next" = some (.ref f_q_next)
  b_q_next : Binds K d_q_next ["_law_source_here", "_law_many"] []
  f_q_pick : Addr
  d_q_pick : FuncData
  F_q_pick : Fun K "_law_pick" "_law_pick" s_q_pick f_q_pick d_q_pick
  g_q_pick : mg "_law_pick" = some (.ref f_q_pick)
  b_q_pick : Binds K d_q_pick ["_law_source_here", "_law_items"] []
  f_q_rounds : Addr
  d_q_rounds : FuncData
  F_q_rounds : Fun K "_law_rounds" "_law_rounds" s_q_rounds f_q_rounds d_q_rounds
  g_q_rounds : mg "_law_rounds" = some (.ref f_q_rounds)
  b_q_rounds : Binds K d_q_rounds ["_law_script", "_law_most"] []
  f_q_made : Addr
  d_q_made : FuncData
  F_q_made : Fun K "_law_made" "_law_made" s_q_made f_q_made d_q_made
  g_q_made : mg "_law_made" = some (.ref f_q_made)
  b_q_made : Binds K d_q_made ["_law_one", "_law_two"] []
  f_q_named : Addr
  d_q_named : FuncData
  F_q_named : Fun K "_law_named" "_law_named" s_q_named f_q_named d_q_named
  g_q_named : mg "_law_named" = some (.ref f_q_named)
  b_q_named : Binds K d_q_named ["_law_one", "_law_two"] []
  f_q_held : Addr
  d_q_held : FuncData
  F_q_held : Fun K "_law_held" "_law_held" s_q_held f_q_held d_q_held
  g_q_held : mg "_law_held" = some (.ref f_q_held)
  b_q_held : Binds K d_q_held ["_law_error", "_law_spot"] []
  f_q_marks : Addr
  d_q_marks : FuncData
  F_q_marks : Fun K "_law_marks" "_law_marks" s_q_marks f_q_marks d_q_marks
  g_q_marks : mg "_law_marks" = some (.ref f_q_marks)
  b_q_marks : Binds K d_q_marks ["_law_error"] []
  f_q_families : Addr
  d_q_families : FuncData
  F_q_families : Fun K "_law_families" "_law_families" s_q_families f_q_families d_q_families
  g_q_families : mg "_law_families" = some (.ref f_q_families)
  b_q_families : Binds K d_q_families ["_law_error"] []
  f_q_strange : Addr
  d_q_strange : FuncData
  F_q_strange : Fun K "_law_strange" "_law_strange" s_q_strange f_q_strange d_q_strange
  g_q_strange : mg "_law_strange" = some (.ref f_q_strange)
  b_q_strange : Binds K d_q_strange ["_law_error"] []
  f_q_due : Addr
  d_q_due : FuncData
  F_q_due : Fun K "_law_due" "_law_due" s_q_due f_q_due d_q_due
  g_q_due : mg "_law_due" = some (.ref f_q_due)
  b_q_due : Binds K d_q_due ["_law_spot", "_law_one", "_law_two"] []
  f_q_error_right : Addr
  d_q_error_right : FuncData
  F_q_error_right : Fun K "_law_error_right" "_law_error_right" s_q_error_right f_q_error_right d_q_error_right
  g_q_error_right : mg "_law_error_right" = some (.ref f_q_error_right)
  b_q_error_right : Binds K d_q_error_right ["_law_error", "_law_spot", "_law_one", "_law_two"] []
  f_q_limits_right : Addr
  d_q_limits_right : FuncData
  F_q_limits_right : Fun K "_law_limits_right" "_law_limits_right" s_q_limits_right f_q_limits_right d_q_limits_right
  g_q_limits_right : mg "_law_limits_right" = some (.ref f_q_limits_right)
  b_q_limits_right : Binds K d_q_limits_right [] []
  f_law : Addr
  d_law : FuncData
  F_law : Fun K "law" "law" s_law f_law d_law
  g_law : mg "law" = some (.ref f_law)
  b_law : Binds K d_law ["_law_script"] []
  gX_Invalid : mg "Invalid" = some (.ref X_Invalid)
  rX_Invalid : RelV (.ref X_Invalid) (.ref X_Invalid) := rfl
  gX_Conflict : mg "Conflict" = some (.ref X_Conflict)
  rX_Conflict : RelV (.ref X_Conflict) (.ref X_Conflict) := rfl
  gX_Excess : mg "Excess" = some (.ref X_Excess)
  rX_Excess : RelV (.ref X_Excess) (.ref X_Excess) := rfl
  og_BadName : ExG.OexG K X_BadName "ValueError.__init__"
  xf_BadName : XfC K X_BadName
  cD_BadName : Exd.ClsD K X_BadName
  gX_BadName : mg "BadName" = some (.ref X_BadName)
  rX_BadName : RelV (.ref X_BadName) (.ref X_BadName) := rfl
  nxBadNamegiven : PySem.W.findIn K (.ref X_BadName) "given" = some none
  og_BadFilter : ExG.OexG K X_BadFilter "ValueError.__init__"
  xf_BadFilter : XfC K X_BadFilter
  cD_BadFilter : Exd.ClsD K X_BadFilter
  gX_BadFilter : mg "BadFilter" = some (.ref X_BadFilter)
  rX_BadFilter : RelV (.ref X_BadFilter) (.ref X_BadFilter) := rfl
  nxBadFilterplace : PySem.W.findIn K (.ref X_BadFilter) "place" = some none
  og_BadScope : ExG.OexG K X_BadScope "ValueError.__init__"
  xf_BadScope : XfC K X_BadScope
  cD_BadScope : Exd.ClsD K X_BadScope
  gX_BadScope : mg "BadScope" = some (.ref X_BadScope)
  rX_BadScope : RelV (.ref X_BadScope) (.ref X_BadScope) := rfl
  nxBadScopegiven : PySem.W.findIn K (.ref X_BadScope) "given" = some none
  og_BadNumber : ExG.OexG K X_BadNumber "ValueError.__init__"
  xf_BadNumber : XfC K X_BadNumber
  cD_BadNumber : Exd.ClsD K X_BadNumber
  gX_BadNumber : mg "BadNumber" = some (.ref X_BadNumber)
  rX_BadNumber : RelV (.ref X_BadNumber) (.ref X_BadNumber) := rfl
  nxBadNumbergiven : PySem.W.findIn K (.ref X_BadNumber) "given" = some none
  og_BadSchema : ExG.OexG K X_BadSchema "ValueError.__init__"
  xf_BadSchema : XfC K X_BadSchema
  cD_BadSchema : Exd.ClsD K X_BadSchema
  gX_BadSchema : mg "BadSchema" = some (.ref X_BadSchema)
  rX_BadSchema : RelV (.ref X_BadSchema) (.ref X_BadSchema) := rfl
  nxBadSchemapart : PySem.W.findIn K (.ref X_BadSchema) "part" = some none
  nxBadSchemaplace : PySem.W.findIn K (.ref X_BadSchema) "place" = some none
  og_BadEntry : ExG.OexG K X_BadEntry "ValueError.__init__"
  xf_BadEntry : XfC K X_BadEntry
  cD_BadEntry : Exd.ClsD K X_BadEntry
  gX_BadEntry : mg "BadEntry" = some (.ref X_BadEntry)
  rX_BadEntry : RelV (.ref X_BadEntry) (.ref X_BadEntry) := rfl
  nxBadEntrygiven : PySem.W.findIn K (.ref X_BadEntry) "given" = some none
  og_BadDeed : ExG.OexG K X_BadDeed "ValueError.__init__"
  xf_BadDeed : XfC K X_BadDeed
  cD_BadDeed : Exd.ClsD K X_BadDeed
  gX_BadDeed : mg "BadDeed" = some (.ref X_BadDeed)
  rX_BadDeed : RelV (.ref X_BadDeed) (.ref X_BadDeed) := rfl
  nxBadDeedplace : PySem.W.findIn K (.ref X_BadDeed) "place" = some none
  og_BadChange : ExG.OexG K X_BadChange "ValueError.__init__"
  xf_BadChange : XfC K X_BadChange
  cD_BadChange : Exd.ClsD K X_BadChange
  gX_BadChange : mg "BadChange" = some (.ref X_BadChange)
  rX_BadChange : RelV (.ref X_BadChange) (.ref X_BadChange) := rfl
  nxBadChangeplace : PySem.W.findIn K (.ref X_BadChange) "place" = some none
  og_BadVector : ExG.OexG K X_BadVector "ValueError.__init__"
  xf_BadVector : XfC K X_BadVector
  cD_BadVector : Exd.ClsD K X_BadVector
  gX_BadVector : mg "BadVector" = some (.ref X_BadVector)
  rX_BadVector : RelV (.ref X_BadVector) (.ref X_BadVector) := rfl
  nxBadVectorgiven : PySem.W.findIn K (.ref X_BadVector) "given" = some none
  og_BadIndex : ExG.OexG K X_BadIndex "ValueError.__init__"
  xf_BadIndex : XfC K X_BadIndex
  cD_BadIndex : Exd.ClsD K X_BadIndex
  gX_BadIndex : mg "BadIndex" = some (.ref X_BadIndex)
  rX_BadIndex : RelV (.ref X_BadIndex) (.ref X_BadIndex) := rfl
  nxBadIndexgiven : PySem.W.findIn K (.ref X_BadIndex) "given" = some none
  og_BadText : ExG.OexG K X_BadText "ValueError.__init__"
  xf_BadText : XfC K X_BadText
  cD_BadText : Exd.ClsD K X_BadText
  gX_BadText : mg "BadText" = some (.ref X_BadText)
  rX_BadText : RelV (.ref X_BadText) (.ref X_BadText) := rfl
  nxBadTextline : PySem.W.findIn K (.ref X_BadText) "line" = some none
  og_BadHost : ExG.OexG K X_BadHost "ValueError.__init__"
  xf_BadHost : XfC K X_BadHost
  cD_BadHost : Exd.ClsD K X_BadHost
  gX_BadHost : mg "BadHost" = some (.ref X_BadHost)
  rX_BadHost : RelV (.ref X_BadHost) (.ref X_BadHost) := rfl
  nxBadHostgiven : PySem.W.findIn K (.ref X_BadHost) "given" = some none
  og_BadValue : ExG.OexG K X_BadValue "ValueError.__init__"
  xf_BadValue : XfC K X_BadValue
  cD_BadValue : Exd.ClsD K X_BadValue
  gX_BadValue : mg "BadValue" = some (.ref X_BadValue)
  rX_BadValue : RelV (.ref X_BadValue) (.ref X_BadValue) := rfl
  nxBadValueattribute : PySem.W.findIn K (.ref X_BadValue) "attribute" = some none
  nxBadValueitem : PySem.W.findIn K (.ref X_BadValue) "item" = some none
  og_UnknownAttribute : ExG.OexG K X_UnknownAttribute "ValueError.__init__"
  xf_UnknownAttribute : XfC K X_UnknownAttribute
  cD_UnknownAttribute : Exd.ClsD K X_UnknownAttribute
  gX_UnknownAttribute : mg "UnknownAttribute" = some (.ref X_UnknownAttribute)
  rX_UnknownAttribute : RelV (.ref X_UnknownAttribute) (.ref X_UnknownAttribute) := rfl
  nxUnknownAttributeattribute : PySem.W.findIn K (.ref X_UnknownAttribute) "attribute" = some none
  og_MirrorGiven : ExG.OexG K X_MirrorGiven "ValueError.__init__"
  xf_MirrorGiven : XfC K X_MirrorGiven
  cD_MirrorGiven : Exd.ClsD K X_MirrorGiven
  gX_MirrorGiven : mg "MirrorGiven" = some (.ref X_MirrorGiven)
  rX_MirrorGiven : RelV (.ref X_MirrorGiven) (.ref X_MirrorGiven) := rfl
  nxMirrorGivenattribute : PySem.W.findIn K (.ref X_MirrorGiven) "attribute" = some none
  og_UnknownClass : ExG.OexG K X_UnknownClass "ValueError.__init__"
  xf_UnknownClass : XfC K X_UnknownClass
  cD_UnknownClass : Exd.ClsD K X_UnknownClass
  gX_UnknownClass : mg "UnknownClass" = some (.ref X_UnknownClass)
  rX_UnknownClass : RelV (.ref X_UnknownClass) (.ref X_UnknownClass) := rfl
  nxUnknownClassgiven : PySem.W.findIn K (.ref X_UnknownClass) "given" = some none
  og_BadClasses : ExG.OexG K X_BadClasses "ValueError.__init__"
  xf_BadClasses : XfC K X_BadClasses
  cD_BadClasses : Exd.ClsD K X_BadClasses
  gX_BadClasses : mg "BadClasses" = some (.ref X_BadClasses)
  rX_BadClasses : RelV (.ref X_BadClasses) (.ref X_BadClasses) := rfl
  i0_BadClasses : PySem.W.findIn K (.ref X_BadClasses) "__init__" = some (some (.builtin "ValueError.__init__"))
  og_NotAllowed : ExG.OexG K X_NotAllowed "ValueError.__init__"
  xf_NotAllowed : XfC K X_NotAllowed
  cD_NotAllowed : Exd.ClsD K X_NotAllowed
  gX_NotAllowed : mg "NotAllowed" = some (.ref X_NotAllowed)
  rX_NotAllowed : RelV (.ref X_NotAllowed) (.ref X_NotAllowed) := rfl
  nxNotAllowedattribute : PySem.W.findIn K (.ref X_NotAllowed) "attribute" = some none
  og_Missing : ExG.OexG K X_Missing "ValueError.__init__"
  xf_Missing : XfC K X_Missing
  cD_Missing : Exd.ClsD K X_Missing
  gX_Missing : mg "Missing" = some (.ref X_Missing)
  rX_Missing : RelV (.ref X_Missing) (.ref X_Missing) := rfl
  nxMissingattribute : PySem.W.findIn K (.ref X_Missing) "attribute" = some none
  og_TooManyValues : ExG.OexG K X_TooManyValues "ValueError.__init__"
  xf_TooManyValues : XfC K X_TooManyValues
  cD_TooManyValues : Exd.ClsD K X_TooManyValues
  gX_TooManyValues : mg "TooManyValues" = some (.ref X_TooManyValues)
  rX_TooManyValues : RelV (.ref X_TooManyValues) (.ref X_TooManyValues) := rfl
  nxTooManyValuesattribute : PySem.W.findIn K (.ref X_TooManyValues) "attribute" = some none
  og_ValueTaken : ExG.OexG K X_ValueTaken "ValueError.__init__"
  xf_ValueTaken : XfC K X_ValueTaken
  cD_ValueTaken : Exd.ClsD K X_ValueTaken
  gX_ValueTaken : mg "ValueTaken" = some (.ref X_ValueTaken)
  rX_ValueTaken : RelV (.ref X_ValueTaken) (.ref X_ValueTaken) := rfl
  nxValueTakenattribute : PySem.W.findIn K (.ref X_ValueTaken) "attribute" = some none
  nxValueTakenitem : PySem.W.findIn K (.ref X_ValueTaken) "item" = some none
  og_NotNamed : ExG.OexG K X_NotNamed "ValueError.__init__"
  xf_NotNamed : XfC K X_NotNamed
  cD_NotNamed : Exd.ClsD K X_NotNamed
  gX_NotNamed : mg "NotNamed" = some (.ref X_NotNamed)
  rX_NotNamed : RelV (.ref X_NotNamed) (.ref X_NotNamed) := rfl
  nxNotNamedattribute : PySem.W.findIn K (.ref X_NotNamed) "attribute" = some none
  og_BadPlace : ExG.OexG K X_BadPlace "ValueError.__init__"
  xf_BadPlace : XfC K X_BadPlace
  cD_BadPlace : Exd.ClsD K X_BadPlace
  gX_BadPlace : mg "BadPlace" = some (.ref X_BadPlace)
  rX_BadPlace : RelV (.ref X_BadPlace) (.ref X_BadPlace) := rfl
  nxBadPlacegiven : PySem.W.findIn K (.ref X_BadPlace) "given" = some none
  og_NoTarget : ExG.OexG K X_NoTarget "ValueError.__init__"
  xf_NoTarget : XfC K X_NoTarget
  cD_NoTarget : Exd.ClsD K X_NoTarget
  gX_NoTarget : mg "NoTarget" = some (.ref X_NoTarget)
  rX_NoTarget : RelV (.ref X_NoTarget) (.ref X_NoTarget) := rfl
  nxNoTargetattribute : PySem.W.findIn K (.ref X_NoTarget) "attribute" = some none
  nxNoTargetitem : PySem.W.findIn K (.ref X_NoTarget) "item" = some none
  og_NotInteger : ExG.OexG K X_NotInteger "ValueError.__init__"
  xf_NotInteger : XfC K X_NotInteger
  cD_NotInteger : Exd.ClsD K X_NotInteger
  gX_NotInteger : mg "NotInteger" = some (.ref X_NotInteger)
  rX_NotInteger : RelV (.ref X_NotInteger) (.ref X_NotInteger) := rfl
  nxNotIntegerattribute : PySem.W.findIn K (.ref X_NotInteger) "attribute" = some none
  og_NoOrder : ExG.OexG K X_NoOrder "ValueError.__init__"
  xf_NoOrder : XfC K X_NoOrder
  cD_NoOrder : Exd.ClsD K X_NoOrder
  gX_NoOrder : mg "NoOrder" = some (.ref X_NoOrder)
  rX_NoOrder : RelV (.ref X_NoOrder) (.ref X_NoOrder) := rfl
  nxNoOrderattribute : PySem.W.findIn K (.ref X_NoOrder) "attribute" = some none
  og_NoEntry : ExG.OexG K X_NoEntry "LookupError.__init__"
  xf_NoEntry : XfC K X_NoEntry
  cD_NoEntry : Exd.ClsD K X_NoEntry
  gX_NoEntry : mg "NoEntry" = some (.ref X_NoEntry)
  rX_NoEntry : RelV (.ref X_NoEntry) (.ref X_NoEntry) := rfl
  nxNoEntrymissing : PySem.W.findIn K (.ref X_NoEntry) "missing" = some none
  nxNoEntrymatched : PySem.W.findIn K (.ref X_NoEntry) "matched" = some none
  og_NameTaken : ExG.OexG K X_NameTaken "LookupError.__init__"
  xf_NameTaken : XfC K X_NameTaken
  cD_NameTaken : Exd.ClsD K X_NameTaken
  gX_NameTaken : mg "NameTaken" = some (.ref X_NameTaken)
  rX_NameTaken : RelV (.ref X_NameTaken) (.ref X_NameTaken) := rfl
  nxNameTakengiven : PySem.W.findIn K (.ref X_NameTaken) "given" = some none
  og_HasChildren : ExG.OexG K X_HasChildren "LookupError.__init__"
  xf_HasChildren : XfC K X_HasChildren
  cD_HasChildren : Exd.ClsD K X_HasChildren
  gX_HasChildren : mg "HasChildren" = some (.ref X_HasChildren)
  rX_HasChildren : RelV (.ref X_HasChildren) (.ref X_HasChildren) := rfl
  nxHasChildrengiven : PySem.W.findIn K (.ref X_HasChildren) "given" = some none
  og_InUse : ExG.OexG K X_InUse "LookupError.__init__"
  xf_InUse : XfC K X_InUse
  cD_InUse : Exd.ClsD K X_InUse
  gX_InUse : mg "InUse" = some (.ref X_InUse)
  rX_InUse : RelV (.ref X_InUse) (.ref X_InUse) := rfl
  nxInUseholder : PySem.W.findIn K (.ref X_InUse) "holder" = some none
  og_Inside : ExG.OexG K X_Inside "LookupError.__init__"
  xf_Inside : XfC K X_Inside
  cD_Inside : Exd.ClsD K X_Inside
  gX_Inside : mg "Inside" = some (.ref X_Inside)
  rX_Inside : RelV (.ref X_Inside) (.ref X_Inside) := rfl
  nxInsidegiven : PySem.W.findIn K (.ref X_Inside) "given" = some none
  og_NoValue : ExG.OexG K X_NoValue "LookupError.__init__"
  xf_NoValue : XfC K X_NoValue
  cD_NoValue : Exd.ClsD K X_NoValue
  gX_NoValue : mg "NoValue" = some (.ref X_NoValue)
  rX_NoValue : RelV (.ref X_NoValue) (.ref X_NoValue) := rfl
  nxNoValueattribute : PySem.W.findIn K (.ref X_NoValue) "attribute" = some none
  nxNoValueitem : PySem.W.findIn K (.ref X_NoValue) "item" = some none
  og_Referral : ExG.OexG K X_Referral "LookupError.__init__"
  xf_Referral : XfC K X_Referral
  cD_Referral : Exd.ClsD K X_Referral
  gX_Referral : mg "Referral" = some (.ref X_Referral)
  rX_Referral : RelV (.ref X_Referral) (.ref X_Referral) := rfl
  nxReferraltargets : PySem.W.findIn K (.ref X_Referral) "targets" = some none
  og_IndexTaken : ExG.OexG K X_IndexTaken "LookupError.__init__"
  xf_IndexTaken : XfC K X_IndexTaken
  cD_IndexTaken : Exd.ClsD K X_IndexTaken
  gX_IndexTaken : mg "IndexTaken" = some (.ref X_IndexTaken)
  rX_IndexTaken : RelV (.ref X_IndexTaken) (.ref X_IndexTaken) := rfl
  nxIndexTakengiven : PySem.W.findIn K (.ref X_IndexTaken) "given" = some none
  og_NoIndex : ExG.OexG K X_NoIndex "LookupError.__init__"
  xf_NoIndex : XfC K X_NoIndex
  cD_NoIndex : Exd.ClsD K X_NoIndex
  gX_NoIndex : mg "NoIndex" = some (.ref X_NoIndex)
  rX_NoIndex : RelV (.ref X_NoIndex) (.ref X_NoIndex) := rfl
  nxNoIndexgiven : PySem.W.findIn K (.ref X_NoIndex) "given" = some none
  og_NothingToUndo : ExG.OexG K X_NothingToUndo "LookupError.__init__"
  xf_NothingToUndo : XfC K X_NothingToUndo
  cD_NothingToUndo : Exd.ClsD K X_NothingToUndo
  gX_NothingToUndo : mg "NothingToUndo" = some (.ref X_NothingToUndo)
  rX_NothingToUndo : RelV (.ref X_NothingToUndo) (.ref X_NothingToUndo) := rfl
  i0_NothingToUndo : PySem.W.findIn K (.ref X_NothingToUndo) "__init__" = some (some (.builtin "LookupError.__init__"))
  og_NoHost : ExG.OexG K X_NoHost "LookupError.__init__"
  xf_NoHost : XfC K X_NoHost
  cD_NoHost : Exd.ClsD K X_NoHost
  gX_NoHost : mg "NoHost" = some (.ref X_NoHost)
  rX_NoHost : RelV (.ref X_NoHost) (.ref X_NoHost) := rfl
  nxNoHosthost : PySem.W.findIn K (.ref X_NoHost) "host" = some none
  og_Gap : ExG.OexG K X_Gap "LookupError.__init__"
  xf_Gap : XfC K X_Gap
  cD_Gap : Exd.ClsD K X_Gap
  gX_Gap : mg "Gap" = some (.ref X_Gap)
  rX_Gap : RelV (.ref X_Gap) (.ref X_Gap) := rfl
  nxGaphost : PySem.W.findIn K (.ref X_Gap) "host" = some none
  og_Behind : ExG.OexG K X_Behind "LookupError.__init__"
  xf_Behind : XfC K X_Behind
  cD_Behind : Exd.ClsD K X_Behind
  gX_Behind : mg "Behind" = some (.ref X_Behind)
  rX_Behind : RelV (.ref X_Behind) (.ref X_Behind) := rfl
  nxBehindhost : PySem.W.findIn K (.ref X_Behind) "host" = some none
  og_Forgotten : ExG.OexG K X_Forgotten "LookupError.__init__"
  xf_Forgotten : XfC K X_Forgotten
  cD_Forgotten : Exd.ClsD K X_Forgotten
  gX_Forgotten : mg "Forgotten" = some (.ref X_Forgotten)
  rX_Forgotten : RelV (.ref X_Forgotten) (.ref X_Forgotten) := rfl
  nxForgottenhost : PySem.W.findIn K (.ref X_Forgotten) "host" = some none
  og_PagingOver : ExG.OexG K X_PagingOver "LookupError.__init__"
  xf_PagingOver : XfC K X_PagingOver
  cD_PagingOver : Exd.ClsD K X_PagingOver
  gX_PagingOver : mg "PagingOver" = some (.ref X_PagingOver)
  rX_PagingOver : RelV (.ref X_PagingOver) (.ref X_PagingOver) := rfl
  i0_PagingOver : PySem.W.findIn K (.ref X_PagingOver) "__init__" = some (some (.builtin "LookupError.__init__"))
  og_Full : ExG.OexG K X_Full "ArithmeticError.__init__"
  xf_Full : XfC K X_Full
  cD_Full : Exd.ClsD K X_Full
  gX_Full : mg "Full" = some (.ref X_Full)
  rX_Full : RelV (.ref X_Full) (.ref X_Full) := rfl
  nxFulllimit : PySem.W.findIn K (.ref X_Full) "limit" = some none
  og_TooDeep : ExG.OexG K X_TooDeep "ArithmeticError.__init__"
  xf_TooDeep : XfC K X_TooDeep
  cD_TooDeep : Exd.ClsD K X_TooDeep
  gX_TooDeep : mg "TooDeep" = some (.ref X_TooDeep)
  rX_TooDeep : RelV (.ref X_TooDeep) (.ref X_TooDeep) := rfl
  nxTooDeeplimit : PySem.W.findIn K (.ref X_TooDeep) "limit" = some none
  og_SizeLimit : ExG.OexG K X_SizeLimit "ArithmeticError.__init__"
  xf_SizeLimit : XfC K X_SizeLimit
  cD_SizeLimit : Exd.ClsD K X_SizeLimit
  gX_SizeLimit : mg "SizeLimit" = some (.ref X_SizeLimit)
  rX_SizeLimit : RelV (.ref X_SizeLimit) (.ref X_SizeLimit) := rfl
  nxSizeLimitlimit : PySem.W.findIn K (.ref X_SizeLimit) "limit" = some none
  kt0 : ExG.kitTab K [X_BadName, X_BadFilter, X_BadScope, X_BadNumber, X_BadSchema, X_BadEntry, X_BadDeed, X_BadChange, X_BadVector, X_BadIndex, X_BadText, X_BadHost, X_BadValue, X_UnknownAttribute, X_MirrorGiven, X_UnknownClass, X_BadClasses, X_NotAllowed, X_Missing, X_TooManyValues, X_ValueTaken, X_NotNamed, X_BadPlace, X_NoTarget, X_NotInteger, X_NoOrder, X_NoEntry, X_NameTaken, X_HasChildren, X_InUse, X_Inside, X_NoValue, X_Referral, X_IndexTaken, X_NoIndex, X_NothingToUndo, X_NoHost, X_Gap, X_Behind, X_Forgotten, X_PagingOver, X_Full, X_TooDeep, X_SizeLimit] ([.ref X_BadName, .ref X_BadFilter, .ref X_BadScope, .ref X_BadNumber, .ref X_BadSchema, .ref X_BadEntry, .ref X_BadDeed, .ref X_BadChange, .ref X_BadVector, .ref X_BadIndex, .ref X_BadText, .ref X_BadHost, .ref X_BadValue, .ref X_UnknownAttribute, .ref X_MirrorGiven, .ref X_UnknownClass, .ref X_BadClasses, .ref X_NotAllowed, .ref X_Missing, .ref X_TooManyValues, .ref X_ValueTaken, .ref X_NotNamed, .ref X_BadPlace, .ref X_NoTarget, .ref X_NotInteger, .ref X_NoOrder, .ref X_NoEntry, .ref X_NameTaken, .ref X_HasChildren, .ref X_InUse, .ref X_Inside, .ref X_NoValue, .ref X_Referral, .ref X_IndexTaken, .ref X_NoIndex, .ref X_NothingToUndo, .ref X_NoHost, .ref X_Gap, .ref X_Behind, .ref X_Forgotten, .ref X_PagingOver, .ref X_Full, .ref X_TooDeep, .ref X_SizeLimit] : List Value) (fun i j => decide (i = j)) = true
  kt1 : ExG.kitTab K [X_BadName, X_BadFilter, X_BadScope, X_BadNumber, X_BadSchema, X_BadEntry, X_BadDeed, X_BadChange, X_BadVector, X_BadIndex, X_BadText, X_BadHost, X_BadValue, X_UnknownAttribute, X_MirrorGiven, X_UnknownClass, X_BadClasses, X_NotAllowed, X_Missing, X_TooManyValues, X_ValueTaken, X_NotNamed, X_BadPlace, X_NoTarget, X_NotInteger, X_NoOrder, X_NoEntry, X_NameTaken, X_HasChildren, X_InUse, X_Inside, X_NoValue, X_Referral, X_IndexTaken, X_NoIndex, X_NothingToUndo, X_NoHost, X_Gap, X_Behind, X_Forgotten, X_PagingOver, X_Full, X_TooDeep, X_SizeLimit] ([.ref X_Invalid, .ref X_Conflict, .ref X_Excess, .type "ValueError", .type "LookupError", .type "ArithmeticError"] : List Value) (fun i j => decide (ExG.grp i = j % 3)) = true
  kt2 : ExG.kitTab K [X_BadName, X_BadFilter, X_BadScope, X_BadNumber, X_BadSchema, X_BadEntry, X_BadDeed, X_BadChange, X_BadVector, X_BadIndex, X_BadText, X_BadHost, X_BadValue, X_UnknownAttribute, X_MirrorGiven, X_UnknownClass, X_BadClasses, X_NotAllowed, X_Missing, X_TooManyValues, X_ValueTaken, X_NotNamed, X_BadPlace, X_NoTarget, X_NotInteger, X_NoOrder, X_NoEntry, X_NameTaken, X_HasChildren, X_InUse, X_Inside, X_NoValue, X_Referral, X_IndexTaken, X_NoIndex, X_NothingToUndo, X_NoHost, X_Gap, X_Behind, X_Forgotten, X_PagingOver, X_Full, X_TooDeep, X_SizeLimit] ([.type "KeyError", .type "IndexError", .type "TypeError", .type "ZeroDivisionError", .type "OverflowError", .type "RuntimeError"] : List Value) (fun _ _ => false) = true
  z_ArithmeticError : mg "ArithmeticError" = none
  z_IndexError : mg "IndexError" = none
  z_KeyError : mg "KeyError" = none
  z_LookupError : mg "LookupError" = none
  z_OverflowError : mg "OverflowError" = none
  z_RuntimeError : mg "RuntimeError" = none
  z_TypeError : mg "TypeError" = none
  z_ValueError : mg "ValueError" = none
  z_ZeroDivisionError : mg "ZeroDivisionError" = none
  z_enumerate : mg "enumerate" = none
  z_int : mg "int" = none
  z_isinstance : mg "isinstance" = none
  z_len : mg "len" = none
  z_list : mg "list" = none
  z_range : mg "range" = none
  z_repr : mg "repr" = none
  z_sum : mg "sum" = none
  a_INDEXES : Addr
  c_INDEXES : mg "INDEXES" = some (.ref a_INDEXES)
  r_INDEXES : RelV (.ref a_INDEXES) (.ref a_INDEXES) := rfl
  w_INDEXES : ∀ H : Hp, SqT K H a_INDEXES [.str "present", .str "equal", .str "order", .str "pieces"]
  u_MAX_DEPTH : Tok
  c_MAX_DEPTH : mg "MAX_DEPTH" = some (.int 12 u_MAX_DEPTH)
  r_MAX_DEPTH : RelV (.int 12) (.int 12 u_MAX_DEPTH) := ⟨_, rfl⟩
  u_MAX_DIGITS : Tok
  c_MAX_DIGITS : mg "MAX_DIGITS" = some (.int 30 u_MAX_DIGITS)
  r_MAX_DIGITS : RelV (.int 30) (.int 30 u_MAX_DIGITS) := ⟨_, rfl⟩
  u_MAX_ENTRIES : Tok
  c_MAX_ENTRIES : mg "MAX_ENTRIES" = some (.int 300 u_MAX_ENTRIES)
  r_MAX_ENTRIES : RelV (.int 300) (.int 300 u_MAX_ENTRIES) := ⟨_, rfl⟩
  u_MAX_LEVELS : Tok
  c_MAX_LEVELS : mg "MAX_LEVELS" = some (.int 12 u_MAX_LEVELS)
  r_MAX_LEVELS : RelV (.int 12) (.int 12 u_MAX_LEVELS) := ⟨_, rfl⟩
  u_MAX_PARTS : Tok
  c_MAX_PARTS : mg "MAX_PARTS" = some (.int 60 u_MAX_PARTS)
  r_MAX_PARTS : RelV (.int 60) (.int 60 u_MAX_PARTS) := ⟨_, rfl⟩
  u_MAX_UNDO : Tok
  c_MAX_UNDO : mg "MAX_UNDO" = some (.int 20 u_MAX_UNDO)
  r_MAX_UNDO : RelV (.int 20) (.int 20 u_MAX_UNDO) := ⟨_, rfl⟩
  u_MAX_VALUE : Tok
  c_MAX_VALUE : mg "MAX_VALUE" = some (.int 60 u_MAX_VALUE)
  r_MAX_VALUE : RelV (.int 60) (.int 60 u_MAX_VALUE) := ⟨_, rfl⟩
  a_SCOPES : Addr
  c_SCOPES : mg "SCOPES" = some (.ref a_SCOPES)
  r_SCOPES : RelV (.ref a_SCOPES) (.ref a_SCOPES) := rfl
  w_SCOPES : ∀ H : Hp, SqT K H a_SCOPES [.str "base", .str "one", .str "below", .str "subtree"]
  a_SYNTAXES : Addr
  c_SYNTAXES : mg "SYNTAXES" = some (.ref a_SYNTAXES)
  r_SYNTAXES : RelV (.ref a_SYNTAXES) (.ref a_SYNTAXES) := rfl
  w_SYNTAXES : ∀ H : Hp, SqT K H a_SYNTAXES [.str "text", .str "exact", .str "integer", .str "truth", .str "name"]
end K1

namespace K1
open PySem PySem.Spec PyProof.Rows L2 TL G
section
variable {P : Program} {w : World} {K : PySem.W.Frag} {mg : Str → Option Value} {base : Heap}
/-! ### the next number -/
def spNext : Sp := fun vs H Q _ => ∃ (a : Addr) (c m : Int), vs = [.ref a, .int m] ∧ Src H a c ∧ c ≤ 1000000000 ∧ 1 ≤ m ∧ m < 1000000000 ∧
  ∀ H' k, 0 ≤ k → k < m → ExA a H H' → Src H' a (c + 1) → Q (.int k) H'
def primes : List Int := [2147483647, 2147483629, 2147483587, 2147483579, 2147483563, 2147483549, 2147483543, 2147483497, 2147483489, 2147483477, 2147483423]
theorem primes_ok : ∀ p ∈ primes, 2147483000 < p ∧ p < 2147483648 := by decide
theorem ok_q_next (T : Txt K mg) : FnOk P w K mg base CX0 1 T.f_q_next T.d_q_next ["_law_source_here", "_law_many"] spNext := by
  refine T.F_q_next.ok sc_q_next (fun vs H Q E h => ?_) (fun cdv A outer s H vs Q E hr h => ?_)
  · obtain ⟨a, c, m, rfl, _⟩ := h
    rfl
  · obtain ⟨a, c, m, rfl, ⟨x, y, z, ha, y0, yc⟩, hc, m1, m2, k⟩ := h
    refine ⟨_, (pss_cons (ps_if (pt_cmpR op_gt (pe_ix ix_list (pv 0) pe_int (fun _ _ => rfl)) pe_int (nomark _))
    (pss_cons (ps_set (i := 2) sc_q_next.nd rfl (.inl rfl) (pe_op op_modN (pe_callTy call_int1 (by rfl) T.z_int (by decide +kernel) (pa_cons (pe_ix ix_list (pv 0) pe_int (fun _ _ => rfl)) pa_nil)) (pv 1)))
    (pss_cons (ps_asg (pe_op op_fdivN (pe_callTy call_int1 (by rfl) T.z_int (by decide +kernel) (pa_cons (pe_ix ix_list (pv 0) pe_int (fun _ _ => rfl)) pa_nil)) (pv 1)) (pg_sub (pv 0) pe_int set_list))
    (pss_one (ps_ret (pv 2)))))
    pss_nil)
    (pss_cons (ps_asg (pe_op op_add (pe_ix ix_list (pv 0) pe_int (fun _ _ => rfl)) pe_int) (pg_sub (pv 0) pe_int set_list))
    (pss_cons (ps_set (i := 3) sc_q_next.nd rfl (.inl rfl) (pe_lst (pa_cons pe_int (pa_cons pe_int (pa_cons pe_int (pa_cons pe_int (pa_cons pe_int (pa_cons pe_int (pa_cons pe_int (pa_cons pe_int pa_nil))))))))))
    (pss_cons (ps_set (i := 4) sc_q_next.nd rfl (.inl rfl) (pe_ix ix_list (pe_op op_cat (pv 3) (pe_lst (pa_cons pe_int (pa_cons pe_int (pa_cons pe_int pa_nil))))) (pe_op op_modN (pe_callTy call_int1 (by rfl) T.z_int (by decide +kernel) (pa_cons (pe_ix ix_list (pv 0) pe_int (fun _ _ => rfl)) pa_nil)) pe_int) (fun _ _ => rfl)))
    (pss_cons (ps_set (i := 5) sc_q_next.nd rfl (.inl rfl) (pe_op op_add (pe_op op_add (pe_op op_modN (pe_callTy call_int1 (by rfl) T.z_int (by decide +kernel) (pa_cons (pe_ix ix_list (pv 0) pe_int (fun _ _ => rfl)) pa_nil)) (pv 4)) (pe_op op_mul pe_int (pe_ix ix_list (pv 0) pe_int (fun _ _ => rfl)))) pe_int))
    (pss_one (ps_ret (pe_op op_modN (pe_callTy call_int1 (by rfl) T.z_int (by decide +kernel) (pa_cons (pe_op op_fdivN (pe_op op_modN (pe_callTy call_int1 (by rfl) T.z_int (by decide +kernel) (pa_cons (pe_op op_pow (pv 5) pe_int) pa_nil)) (pv 4)) pe_int) pa_nil)) (pv 1))))))))), ?_⟩
    refine ⟨.ref a, rfl, a, _, 2, .int z, rfl, rfl, SqL.of ha, atI_nat (j := 2) rfl, z, 0, rfl, rfl, _, rfl, ite2 (fun hz => ?_) (fun hz => ?_)⟩
    · have hz : (0 : Int) < z := of_decide_eq_true hz
      refine ⟨.ref a, rfl, a, _, 2, .int z, rfl, rfl, SqL.of ha, atI_nat (j := 2) rfl, .inl ⟨z, rfl, .int m, rfl, z, m, rfl, rfl, by omega, ?_⟩⟩
      refine ⟨.ref a, rfl, a, _, 2, .int z, rfl, rfl, SqL.of ha, atI_nat (j := 2) rfl, .inl ⟨z, rfl, .int m, rfl, z, m, rfl, rfl, ⟨by omega, by omega⟩, ?_⟩⟩
      refine ⟨.ref a, rfl, a, _, 2, 2, rfl, rfl, ha, rfl, ?_⟩
      exact ⟨_, rfl, k _ _ (Int.fmod_nonneg_of_pos _ (by omega)) (Int.fmod_lt_of_pos _ (by omega)) ExA.put ⟨x, y, _, upd_same, y0, by omega⟩⟩
    · -- source[1] = source[1] + 1
      refine ⟨.ref a, rfl, a, _, 1, .int y, rfl, rfl, SqL.of ha, atI_nat (j := 1) rfl, y, 1, rfl, rfl, ?_⟩
      refine ⟨.ref a, rfl, a, _, 1, 1, rfl, rfl, ha, rfl, ?_⟩
      have h1 : (upd H a (.lst [V.int x, V.int (y + 1), V.int z])) a = some (.lst [V.int x, V.int (y + 1), V.int z]) := upd_same
      show tSeq _ _ _ _ (upd H a (.lst [V.int x, V.int (y + 1), V.int z]))
      -- the primes
      refine ⟨by show 8 ≤ sizeLine; decide, fun p1 n1 => ?_⟩
      have a1 : p1 ≠ a := new_ne h1 n1
      refine ⟨.ref p1, rfl, by show 3 ≤ sizeLine; decide, fun p2 n2 => ?_⟩
      have h2 := (same_upd (o := .lst [V.int 2147483647, V.int 2147483629, V.int 2147483587, V.int 2147483579, V.int 2147483563, V.int 2147483549, V.int 2147483543, V.int 2147483497]) n1) _ _ h1
      have a2 : p2 ≠ a := new_ne h2 n2
      have a3 : p2 ≠ p1 := new_ne upd_same n2
      refine ⟨p1, p2, _, _, rfl, rfl, (by rw [upd_ne a3.symm]; exact upd_same), upd_same, (by show 8 + 3 ≤ sizeLine; decide), fun p3 n3 => ?_⟩
      have h3 := (same_upd (o := .lst [V.int 2147483489, V.int 2147483477, V.int 2147483423]) n2) _ _ h2
      have a4 : p3 ≠ a := new_ne h3 n3
      have h4 := (same_upd (o := .lst (primes.map V.int)) n3) _ _ h3
      have e4 : ExA a H (upd (upd (upd (upd H a (.lst [V.int x, V.int (y + 1), V.int z])) p1 (.lst [V.int 2147483647, V.int 2147483629, V.int 2147483587, V.int 2147483579, V.int 2147483563, V.int 2147483549, V.int 2147483543, V.int 2147483497])) p2 (.lst [V.int 2147483489, V.int 2147483477, V.int 2147483423])) p3 (.lst (primes.map V.int))) :=
        ((ExA.put.trans (ExA.new n1)).trans (ExA.new n2)).trans (ExA.new n3)
      have l4 : (upd (upd (upd (upd H a (.lst [V.int x, V.int (y + 1), V.int z])) p1 (.lst [V.int 2147483647, V.int 2147483629, V.int 2147483587, V.int 2147483579, V.int 2147483563, V.int 2147483549, V.int 2147483543, V.int 2147483497])) p2 (.lst [V.int 2147483489, V.int 2147483477, V.int 2147483423])) p3 (.lst (primes.map V.int))) p3 = some (.lst (primes.map V.int)) := upd_same
      obtain ⟨v, hv, hm⟩ := atI_lt (xs := primes.map V.int) (i := (y + 1).fmod 11) (Int.fmod_nonneg_of_pos _ (by decide)) (Int.fmod_lt_of_pos _ (by decide))
      obtain ⟨pr, hpr, rfl⟩ := ints_mem hm
      have hp := primes_ok pr hpr
      -- prime
      refine ⟨.ref a, rfl, a, _, 1, .int (y + 1), rfl, rfl, SqL.of h4, atI_nat (j := 1) rfl, .inl ⟨y + 1, rfl, y + 1, 11, rfl, rfl, (by show (11 : Int) ≠ 0; decide), ?_⟩⟩
      refine ⟨p3, primes.map V.int, _, _, rfl, rfl, SqL.of l4, hv, ?_⟩
      -- mixed
      refine ⟨.ref a, rfl, a, _, 0, .int x, rfl, rfl, SqL.of h4, atI_nat (j := 0) rfl, .inl ⟨x, rfl, .int pr, rfl, x, pr, rfl, rfl, by omega, ?_⟩⟩
      refine ⟨.ref a, rfl, a, _, 1, .int (y + 1), rfl, rfl, SqL.of h4, atI_nat (j := 1) rfl, 7919, y + 1, rfl, rfl, .inl ⟨by decide, by decide⟩, ?_⟩
      have b1 := Int.fmod_nonneg_of_pos x (show 0 < pr by omega)
      have b2 := Int.fmod_lt_of_pos x (show 0 < pr by omega)
      refine ⟨_, _, rfl, rfl, _, _, rfl, rfl, ?_⟩
      -- the return
      refine ⟨_, rfl, _, _, rfl, rfl, ⟨by decide, by decide, ?_⟩, .inl ⟨_, rfl, .int pr, rfl, _, pr, rfl, rfl, by omega, _, 13, rfl, rfl, ⟨by decide, by decide⟩, .inl ⟨_, rfl, .int m, rfl, _, m, rfl, rfl, by omega, ?_⟩⟩⟩
      · show (x.fmod pr + 7919 * (y + 1) + 1).natAbs < 2 ^ 64
        have : (x.fmod pr + 7919 * (y + 1) + 1) < 18446744073709551616 := by omega
        omega
      · exact k _ _ (Int.fmod_nonneg_of_pos _ (by omega)) (Int.fmod_lt_of_pos _ (by omega)) e4 ⟨x, y + 1, z, h4, by omega, by omega⟩
/-! ### one of some items -/
def spPick (K : PySem.W.Frag) : Sp := fun vs H Q _ => ∃ (a : Addr) (c : Int) (it : V), vs = [.ref a, it] ∧ Src H a c ∧ c ≤ 1000000000 ∧
  ((∃ s : Str, it = .str s ∧ 1 ≤ s.length ∧ s.length ≤ 1000 ∧ ∀ H' ch, ch ∈ tl s → ExA a H H' → Src H' a (c + 1) → Q (.str ⟨#[ch]⟩) H') ∨
   (∃ (p : Addr) (xs : List V), it = .ref p ∧ p ≠ a ∧ SqL K H p xs ∧ 1 ≤ xs.length ∧ xs.length ≤ 1000 ∧ ∀ H' v, v ∈ xs → ExA a H H' → Src H' a (c + 1) → Q v H'))
theorem ok_q_pick (T : Txt K mg) : FnOk P w K mg base CX0 2 T.f_q_pick T.d_q_pick ["_law_source_here", "_law_items"] (spPick K) := by
  refine T.F_q_pick.ok sc_q_pick (fun vs H Q E h => ?_) (fun cdv A outer s H vs Q E hr h => ?_)
  · obtain ⟨a, c, it, rfl, _⟩ := h
    rfl
  · obtain ⟨a, c, it, rfl, hs, hc, h⟩ := h
    refine ⟨_, (pss_one (ps_ret (pe_ix ix_seq (pv 1) (pe_call (ok_q_next T) (hr.mono (by decide)) (by rfl) T.g_q_next T.F_q_next.kp T.b_q_next .nil pass0 (pa_cons (pv 0) (pa_cons (pe_callB call_len (by rfl) T.z_len (by decide +kernel) (pa_cons (pv 1) pa_nil)) pa_nil))) (fun _ _ => rfl)))), ?_⟩
    rcases h with ⟨z, rfl, l1, l2, k⟩ | ⟨p, xs, rfl, np, hx, l1, l2, k⟩
    · refine ⟨_, rfl, .ref a, rfl, .str z, rfl, _, z.length, rfl, ⟨Nat.le_of_lt (small1000 l2), rfl⟩, a, c, _, rfl, hs, hc, by omega, by omega, fun H' i i0 i1 e q => ?_⟩
      obtain ⟨n, rfl⟩ := Int.eq_ofNat_of_zero_le i0
      have hn : n < (tl z).length := by rw [← len_tl]; omega
      exact .inr (.inr ⟨z, _, _, rfl, rfl, Nat.le_of_lt (small1000 l2), atI_nat (List.getElem?_eq_getElem hn), k H' _ (List.getElem_mem hn) e q⟩)
    · refine ⟨_, rfl, .ref a, rfl, .ref p, rfl, _, xs.length, rfl, .inl ⟨xs, hx, rfl⟩, a, c, _, rfl, hs, hc, by omega, by omega, fun H' i i0 i1 e q => ?_⟩
      obtain ⟨v, hv, hm⟩ := atI_lt (xs := xs) i0 i1
      exact .inl ⟨p, xs, _, v, rfl, rfl, e.seq np hx, hv, k H' v hm e q⟩
theorem pickS {K : PySem.W.Frag} {a : Addr} {c : Int} {t : Str} {H : Hp} {Q : VK} {E : XK} (hs : Src H a c) (hc : c ≤ 1000000000) (l : 1 ≤ t.length ∧ t.length ≤ 1000)
    (k : ∀ H' ch, ch ∈ tl t → ExA a H H' → Src H' a (c + 1) → Q (.str ⟨#[ch]⟩) H') : spPick K [.ref a, .str t] H Q E := ⟨a, c, .str t, rfl, hs, hc, .inl ⟨t, rfl, l.1, l.2, k⟩⟩
theorem pickL {K : PySem.W.Frag} {a p : Addr} {c : Int} {xs : List V} {H : Hp} {Q : VK} {E : XK} (hs : Src H a c) (hc : c ≤ 1000000000) (np : p ≠ a) (hx : H p = some (.lst xs)) (l : 1 ≤ xs.length ∧ xs.length ≤ 1000)
    (k : ∀ H' v, v ∈ xs → ExA a H H' → Src H' a (c + 1) → Q v H') : spPick K [.ref a, .ref p] H Q E := ⟨a, c, .ref p, rfl, hs, hc, .inr ⟨p, xs, rfl, np, SqL.of hx, l.1, l.2, k⟩⟩
/-! ### a source of a cell; the sources of a script -/
def spSource (K : PySem.W.Frag) : Sp := fun vs H Q _ => ∃ (p : Addr) (ns : List Int) (k : Int), vs = [.ref p, .int k] ∧ SqL K H p (ns.map V.int) ∧ 1 ≤ ns.length ∧ ns.length ≤ 1000 ∧ 0 ≤ k ∧ k ≤ 1000 ∧
  ∀ H' a, H a = none → Same H H' → Src H' a 3000 → Q (.ref a) H'
theorem dp_ints {K : PySem.W.Frag} {H : Hp} : ∀ ns : List Int, DpAll K H (ns.map V.int) (ns.map PyData.int)
  | [] => .nil
  | n :: r => .cons (.int n) (dp_ints r)
theorem eqv_nil : ∀ ns : List Int, PyData.eqv (.list (ns.map PyData.int)) (.list []) = ns.isEmpty
  | [] => rfl
  | n :: r => rfl
theorem ok_q_source (T : Txt K mg) : FnOk P w K mg base CX0 1 T.f_q_source T.d_q_source ["_law_script", "_law_k"] (spSource K) := by
  refine T.F_q_source.ok sc_q_source (fun vs H Q E h => ?_) (fun cdv A outer s H vs Q E hr h => ?_)
  · obtain ⟨p, ns, k, rfl, _⟩ := h
    rfl
  · obtain ⟨p, ns, k, rfl, hx, h1, hl, k0, k1, q⟩ := h
    refine ⟨_, (pss_cons (ps_set (i := 2) sc_q_source.nd rfl (.inl rfl) (pe_ifExp (pt_cmpR (op_neD hr.units) (pv 0) (pe_lst pa_nil) (nomark _)) (pe_ix ix_list (pv 0) (pe_op op_modN (pe_callTy call_int1 (by rfl) T.z_int (by decide +kernel) (pa_cons (pv 1) pa_nil)) (pe_callB call_len (by rfl) T.z_len (by decide +kernel) (pa_cons (pv 0) pa_nil))) (fun _ _ => rfl)) pe_int))
    (pss_one (ps_ret (pe_lst (pa_cons (pe_callTy call_int1 (by rfl) T.z_int (by decide +kernel) (pa_cons (pv 2) pa_nil)) (pa_cons (pe_op op_mul pe_int (pv 1)) (pa_cons (pe_ifExp (pt_cmpR op_ge (pv 2) (pe_op op_pow pe_int pe_int) (nomark _)) (pe_op op_fdivW (pe_callTy call_int1 (by rfl) T.z_int (by decide +kernel) (pa_cons (pv 2) pa_nil)) (pe_op op_pow pe_int pe_int)) pe_int) pa_nil))))))), ?_⟩
    refine ⟨.ref p, rfl, Nat.zero_le _, fun e0 ne0 => ?_⟩
    have s0 : Same H (upd H e0 (.lst [])) := same_upd ne0
    refine ⟨.list (ns.map PyData.int), .list [], .lst (s0.seq hx) (dp_ints ns), .lst (SqL.of upd_same) .nil, PySem.W.ke_shaped_ints ns, PySem.W.ke_shaped_ints [], _, rfl, ?_⟩
    rw [eqv_nil, show ns.isEmpty = false by cases ns with | nil => cases h1 | cons _ _ => rfl]
    refine iteT ?_
    have hm : (0 : Int) < ((ns.map V.int).length : Int) := by rw [List.length_map]; omega
    refine ⟨.ref p, rfl, .int k, rfl, .inl ⟨k, rfl, .ref p, rfl, _, _, rfl, .inl ⟨_, s0.seq hx, rfl⟩, k, _, rfl, rfl, by omega, ?_⟩⟩
    obtain ⟨v, hv, hm⟩ := atI_lt (xs := ns.map V.int) (i := k.fmod (((ns.map V.int).length : Nat) : Int)) (Int.fmod_nonneg_of_pos _ hm) (Int.fmod_lt_of_pos _ hm)
    obtain ⟨x, _, rfl⟩ := ints_mem hm
    refine ⟨p, _, _, _, rfl, rfl, s0.seq hx, hv, ?_⟩
    have fin : ∀ z : Int, ∀ a, (upd H e0 (.lst [])) a = none → Q (.ref a) (upd (upd H e0 (.lst [])) a (.lst [.int x, .int (3 * k), .int z])) := fun z a na =>
      q _ a (s0.free na) (s0.trans (same_upd na)) ⟨x, 3 * k, z, upd_same, by omega, by omega⟩
    refine ⟨.int x, rfl, .inl ⟨x, rfl, .int k, rfl, 3, k, rfl, rfl, .inl ⟨by decide, by decide⟩, .int x, rfl, 10, 18, rfl, rfl, ⟨by decide, by decide, by decide⟩, x, _, rfl, rfl, _, rfl, ?_⟩⟩
    refine ite2 (fun _ => ?_) (fun _ => ?_)
    · refine ⟨.int x, rfl, .inl ⟨x, rfl, 10, 18, rfl, rfl, ⟨by decide, by decide, by decide⟩, x, _, rfl, rfl, ⟨by decide, by decide⟩, ?_⟩⟩
      exact ⟨by show 3 ≤ sizeLine; decide, fin _⟩
    · exact ⟨by show 3 ≤ sizeLine; decide, fin _⟩
theorem cut_to (xs : List V) (m : Nat) : cutV xs none (some (m : Int)) = xs.take m := by
  unfold cutV
  rw [HT.sIx_none, show HT.sIx xs.length xs.length (some (m : Int)) = min m xs.length from HT.sIx_nat xs.length xs.length m, Nat.sub_zero, List.drop_zero]
  exact (List.take_eq_take_min).symm
def spRounds (K : PySem.W.Frag) : Sp := fun vs H Q _ => ∃ (p : Addr) (ns : List Int) (m : Nat), vs = [.ref p, .int (m : Int)] ∧ SqL K H p (ns.map V.int) ∧ m ≤ 60 ∧
  ∀ H' r (srcs : List Addr), H r = none → Same H H' → H' r = some (.lst (srcs.map V.ref)) → srcs.length ≤ 61 → srcs.Nodup → (∀ a ∈ srcs, Src H' a 3000 ∧ H a = none ∧ a ≠ r) → Q (.ref r) H'
theorem ok_q_rounds (T : Txt K mg) : FnOk P w K mg base CX0 2 T.f_q_rounds T.d_q_rounds ["_law_script", "_law_most"] (spRounds K) := by
  refine T.F_q_rounds.ok sc_q_rounds (fun vs H Q E h => ?_) (fun cdv A outer s H vs Q E hr h => ?_)
  · obtain ⟨p, ns, m, rfl, _⟩ := h
    rfl
  · obtain ⟨p, ns, m, rfl, hx, hm, q⟩ := h
    refine ⟨_, (pss_cons (ps_set (i := 2) sc_q_rounds.nd rfl (.inl rfl) (pe_op op_modN (pe_callTy call_int1 (by rfl) T.z_int (by decide +kernel) (pa_cons (pe_op op_add (pe_op op_add (pe_op op_mul (pe_callB (cr_sum rfl) (by rfl) T.z_sum (by decide +kernel) (pa_cons (pv 0) pa_nil)) pe_int) (pe_op op_mul pe_int (pe_callB call_len (by rfl) T.z_len (by decide +kernel) (pa_cons (pv 0) pa_nil)))) pe_int) pa_nil)) (pe_op op_pow pe_int pe_int)))
    (pss_cons (ps_set (i := 3) sc_q_rounds.nd rfl (.inr rfl) (pe_op op_cat (pe_callTy call_list_of (by rfl) T.z_list (by decide +kernel) (pa_cons (pe_slice sl_list (pv 0) po_none (po_some (pv 1))) pa_nil)) (pe_lst (pa_cons (pv 2) pa_nil))))
    (pss_one (ps_ret (pe_lc (own := [("_law_k", 4)]) (g := gName 4) (tt := tYes) rfl sc_q_rounds.nd (pi_range1 (by rfl) T.z_range (pa_cons (pe_callB call_len (by rfl) T.z_len (by decide +kernel) (pa_cons (pv 3) pa_nil)) pa_nil)) (blkOk_by (N := ["_law_script", "_law_most", "_law_blend", "_law_cells", "_law_k"]) (sc := defScope s_q_rounds) (by decide +kernel)) (fun _ _ _ _ _ => (pg_name (i := 4) sc_q_rounds.nd rfl (Or.inl rfl))) (fun _ _ _ _ _ => pts_nil) (fun _ _ _ _ _ => (pe_call (ok_q_source T) (hr.mono (by decide)) (by rfl) T.g_q_source T.F_q_source.kp T.b_q_source .nil pass0 (pa_cons (pv 3) (pa_cons (pv 4) pa_nil))))))))), ?_⟩
    refine ⟨.ref p, rfl, p, ns, rfl, hx, _, _, rfl, rfl, .inr ⟨by decide, by decide⟩, .ref p, rfl, _, _, rfl, .inl ⟨_, hx, rfl⟩, _, _, rfl, rfl, .inl ⟨by decide, by decide⟩, _, _, rfl, rfl, _, _, rfl, rfl,
      .inl ⟨_, rfl, 10, 17, rfl, rfl, ⟨by decide, by decide, by decide⟩, _, _, rfl, rfl, (by show ((10 : Int) ^ 17) ≠ 0; decide), ?_⟩⟩
    obtain ⟨b, hb⟩ : ∃ b, b = (ns.sum * 48271 + 104729 * (((ns.map V.int).length : Nat) : Int) + 17).fmod (10 ^ Int.toNat 17) := ⟨_, rfl⟩
    refine ⟨.ref p, rfl, .int m, rfl, m, rfl, p, _, rfl, hx, fun c nc => ?_⟩
    rw [cut_to]
    refine ⟨c, _, rfl, .inl (SqL.of upd_same), fun l nl => ?_⟩
    have lc : l ≠ c := new_ne upd_same nl
    refine ⟨.int b, (by rw [hb]; rfl), by show 1 ≤ sizeLine; decide, fun d nd => ?_⟩
    have dl : d ≠ l := new_ne upd_same nd
    refine ⟨l, d, _, _, rfl, rfl, (by rw [upd_ne dl.symm]; exact upd_same), upd_same, ?_, fun e ne => ?_⟩
    · rw [List.length_take]
      show min m _ + 1 ≤ sizeLine
      exact Nat.le_of_lt (small1000 (by omega))
    have sm : Same H (upd (upd (upd (upd H c (.lst ((ns.map V.int).take m))) l (.lst ((ns.map V.int).take m))) d (.lst [.int b])) e (.lst ((ns.map V.int).take m ++ [.int b]))) :=
      (((same_upd nc).trans (same_upd nl)).trans (same_upd nd)).trans (same_upd ne)
    have he : (upd (upd (upd (upd H c (.lst ((ns.map V.int).take m))) l (.lst ((ns.map V.int).take m))) d (.lst [.int b])) e (.lst ((ns.map V.int).take m ++ [.int b]))) e = some (.lst ((ns.take m ++ [b]).map V.int)) := by
      rw [upd_same, List.map_append, List.map_take]
      rfl
    have hle : (ns.take m ++ [b]).length ≤ 61 := by
      rw [List.length_append, List.length_take]
      show min m _ + 1 ≤ 61
      omega
    have hl1 : 1 ≤ (ns.take m ++ [b]).length := by
      rw [List.length_append]
      exact Nat.le_add_left _ _
    generalize ns.take m ++ [b] = cs at he hle hl1
    refine ⟨.ref e, rfl, _, cs.length, rfl, .inl ⟨_, SqL.of he, (List.length_map _).symm⟩, cs.length, rfl, by omega, by omega, fun D nD => ?_⟩
    have De : e ≠ D := ne_of_none he nD
    refine lc_range (lo := 0) (n := cs.length) (fun i H' => ∃ srcs : List Addr, srcs.length = i ∧ Same H H' ∧ H' e = some (.lst (cs.map V.int)) ∧ H' D = some (.lst (srcs.map V.ref)) ∧ srcs.Nodup ∧ ∀ a ∈ srcs, Src H' a 3000 ∧ H a = none ∧ a ≠ D)
      ⟨[], rfl, sm.trans (same_upd nD), (same_upd nD) _ _ he, upd_same, .nil, fun a h => nomatch h⟩ ?_ ?_
    · rintro i H' hi ⟨srcs, rfl, s1, h1, h2, h3, h4⟩
      refine ⟨rfl, .ref e, rfl, .int _, rfl, e, cs, _, rfl, SqL.of h1, hl1, by omega, by omega, by omega, fun H2 a na s2 sa => ?_⟩
      have aD : a ≠ D := new_ne h2 na
      have fD : H D = none := sm.free nD
      refine ⟨_, s2 _ _ h2, ?_, srcs ++ [a], by rw [List.length_append]; rfl, ?_, ?_, ?_, ?_, ?_⟩
      · rw [List.length_map]
        exact small1000 (by omega)
      · intro x o hxo
        rw [upd_ne (ne_of_none hxo fD)]
        exact s2 _ _ (s1 _ _ hxo)
      · rw [upd_ne De]
        exact s2 _ _ h1
      · rw [upd_same, List.map_append]
        rfl
      · rw [List.nodup_append]
        refine ⟨h3, by simp, fun x hx y hy => ?_⟩
        rw [List.mem_singleton] at hy
        subst hy
        obtain ⟨o, ho⟩ := (h4 x hx).1.some
        exact ne_of_none ho na
      · intro x hx
        rcases List.mem_append.mp hx with hx | hx
        · obtain ⟨g1, g2, g3⟩ := h4 x hx
          refine ⟨?_, g2, g3⟩
          obtain ⟨u, v, z, g, g0, g5⟩ := g1.same s2
          exact ⟨u, v, z, by rw [upd_ne g3]; exact g, g0, g5⟩
        · rw [List.mem_singleton] at hx
          subst hx
          refine ⟨?_, s1.free na, aD⟩
          obtain ⟨u, v, z, g, g0, g5⟩ := sa
          exact ⟨u, v, z, by rw [upd_ne aD]; exact g, g0, g5⟩
    · rintro H' ⟨srcs, hl, s1, h1, h2, h3, h4⟩
      exact q H' D srcs (sm.free nD) s1 h2 (by omega) h3 h4
end
end K1

namespace K1
open PySem PySem.Spec PyProof.Rows L2 TL G ExG
section
variable {P : Program} {w : World} {K : PySem.W.Frag} {mg : Str → Option Value} {base : Heap}
/-! ### the promise of an error's __init__ -/
def Keeps (a : Addr) (H H' : Hp) : Prop := ∀ b o, b ≠ a → H b = some o → H' b = some o
def spE1 (C : Addr) (f : Str) : Sp := fun vs H Q _ => ∃ (a : Addr) (v : V), vs = [.ref a, v] ∧ H a = some (exo a C none) ∧ ∀ H', Keeps a H H' → Err H' a C [(f, v)] → Q .non H'
def spE2 (C : Addr) (f g : Str) : Sp := fun vs H Q _ => ∃ (a : Addr) (v w : V), vs = [.ref a, v, w] ∧ H a = some (exo a C none) ∧ ∀ H', Keeps a H H' → Err H' a C [(g, w), (f, v)] → Q .non H'
theorem e1_end {H : Hp} {a C dx : Addr} {f : Str} {v : V} {Q : VK} (n : H dx = none) (q : ∀ H', Keeps a H H' → Err H' a C [(f, v)] → Q .non H') (ne : dx ≠ a) : Q .non (upd (upd H dx (exd dx [(f, v)])) a (exo a C (some dx))) := by
  refine q _ (fun b o nb h => ?_) (.inr ⟨dx, upd_same, by rw [upd_ne ne]; exact upd_same⟩)
  rw [upd_ne nb, upd_ne (ne_of_none h n)]
  exact h
theorem e2_end {H : Hp} {a C dx : Addr} {f g : Str} {v w : V} {Q : VK} (n : H dx = none) (q : ∀ H', Keeps a H H' → Err H' a C [(g, w), (f, v)] → Q .non H') (ne : dx ≠ a) : Q .non (upd (upd (upd H dx (exd dx [(f, v)])) a (exo a C (some dx))) dx (exd dx [(g, w), (f, v)])) := by
  refine q _ (fun b o nb h => ?_) (.inr ⟨dx, by rw [upd_ne ne.symm]; exact upd_same, upd_same⟩)
  rw [upd_ne (ne_of_none h n), upd_ne nb, upd_ne (ne_of_none h n)]
  exact h
/-- behind the making of one -/
theorem mkS {H H1 : Hp} {a C : Addr} (na : H a = none) (k : Keeps a (upd H a (exo a C none)) H1) : Same H H1 := fun b o e => k b o (ne_of_none e na) (by rw [upd_ne (ne_of_none e na)]; exact e)
theorem Err.same {H H' : Hp} {a C : Addr} {fs : List (Str × V)} (s : Same H H') (h : Err H a C fs) : Err H' a C fs := h.ext s
/-- a row of errors -/
inductive Errs (H : Hp) : List Addr → List (Addr × List (Str × V)) → Prop
  | nil : Errs H [] []
  | cons {a C : Addr} {fs : List (Str × V)} {as : List Addr} {ps : List (Addr × List (Str × V))} : Err H a C fs → Errs H as ps → Errs H (a :: as) ((C, fs) :: ps)
theorem Errs.same {H H' : Hp} (s : Same H H') {as : List Addr} {ps : List (Addr × List (Str × V))} (h : Errs H as ps) : Errs H' as ps := by
  induction h with
  | nil => exact .nil
  | cons e _ ih => exact .cons (e.ext s) ih
theorem Errs.app {H : Hp} {as bs : List Addr} {ps qs : List (Addr × List (Str × V))} (h : Errs H as ps) (k : Errs H bs qs) : Errs H (as ++ bs) (ps ++ qs) := by
  induction h with
  | nil => exact k
  | cons e _ ih => exact .cons e ih
theorem Errs.get {H : Hp} {as : List Addr} {ps : List (Addr × List (Str × V))} (h : Errs H as ps) : as.length = ps.length ∧ ∀ (i : Nat) (a : Addr) (p : Addr × List (Str × V)), as[i]? = some a → ps[i]? = some p → Err H a p.1 p.2 := by
  induction h with
  | nil => exact ⟨rfl, fun i a p h => by simp at h⟩
  | cons e _ ih =>
    refine ⟨by rw [List.length_cons, List.length_cons, ih.1], fun i b p h1 h2 => ?_⟩
    cases i with
    | zero =>
      simp at h1 h2
      subst h1
      subst h2
      exact e
    | succ i =>
      simp at h1 h2
      exact ih.2 i b p h1 h2
end
end K1

namespace K1
open PySem PySem.Spec PyProof.Rows L2 TL G ExG
section
variable {P : Program} {w : World} {K : PySem.W.Frag} {mg : Str → Option Value} {base : Heap}
theorem ok_BadName_init (T : Txt K mg) : FnOk P w K mg base CX0 1 T.f_BadName_init T.d_BadName_init ["self", "given"] (spE1 T.X_BadName "given") := by
  refine T.F_BadName_init.ok sc_BadName_init (fun vs H Q E h => by obtain ⟨a, v, rfl, _⟩ := h; rfl) (fun cdv A outer s H vs Q E hr h => ?_)
  obtain ⟨a, v, rfl, ha, q⟩ := h
  refine ⟨_, (pss_one (ExG.ps_stG (pv 0) (pv 1))), ?_⟩
  exact ⟨v, rfl, .ref a, rfl, a, T.X_BadName, _, rfl, T.og_BadName, T.nxBadNamegiven, .inl ⟨ha, fun dx n ne => e1_end n q ne⟩⟩
theorem ok_BadFilter_init (T : Txt K mg) : FnOk P w K mg base CX0 1 T.f_BadFilter_init T.d_BadFilter_init ["self", "place"] (spE1 T.X_BadFilter "place") := by
  refine T.F_BadFilter_init.ok sc_BadFilter_init (fun vs H Q E h => by obtain ⟨a, v, rfl, _⟩ := h; rfl) (fun cdv A outer s H vs Q E hr h => ?_)
  obtain ⟨a, v, rfl, ha, q⟩ := h
  refine ⟨_, (pss_one (ExG.ps_stG (pv 0) (pv 1))), ?_⟩
  exact ⟨v, rfl, .ref a, rfl, a, T.X_BadFilter, _, rfl, T.og_BadFilter, T.nxBadFilterplace, .inl ⟨ha, fun dx n ne => e1_end n q ne⟩⟩
theorem ok_BadScope_init (T : Txt K mg) : FnOk P w K mg base CX0 1 T.f_BadScope_init T.d_BadScope_init ["self", "given"] (spE1 T.X_BadScope "given") := by
  refine T.F_BadScope_init.ok sc_BadScope_init (fun vs H Q E h => by obtain ⟨a, v, rfl, _⟩ := h; rfl) (fun cdv A outer s H vs Q E hr h => ?_)
  obtain ⟨a, v, rfl, ha, q⟩ := h
  refine ⟨_, (pss_one (ExG.ps_stG (pv 0) (pv 1))), ?_⟩
  exact ⟨v, rfl, .ref a, rfl, a, T.X_BadScope, _, rfl, T.og_BadScope, T.nxBadScopegiven, .inl ⟨ha, fun dx n ne => e1_end n q ne⟩⟩
theorem ok_BadNumber_init (T : Txt K mg) : FnOk P w K mg base CX0 1 T.f_BadNumber_init T.d_BadNumber_init ["self", "given"] (spE1 T.X_BadNumber "given") := by
  refine T.F_BadNumber_init.ok sc_BadNumber_init (fun vs H Q E h => by obtain ⟨a, v, rfl, _⟩ := h; rfl) (fun cdv A outer s H vs Q E hr h => ?_)
  obtain ⟨a, v, rfl, ha, q⟩ := h
  refine ⟨_, (pss_one (ExG.ps_stG (pv 0) (pv 1))), ?_⟩
  exact ⟨v, rfl, .ref a, rfl, a, T.X_BadNumber, _, rfl, T.og_BadNumber, T.nxBadNumbergiven, .inl ⟨ha, fun dx n ne => e1_end n q ne⟩⟩
theorem ok_BadSchema_init (T : Txt K mg) : FnOk P w K mg base CX0 1 T.f_BadSchema_init T.d_BadSchema_init ["self", "part", "place"] (spE2 T.X_BadSchema "part" "place") := by
  refine T.F_BadSchema_init.ok sc_BadSchema_init (fun vs H Q E h => by obtain ⟨a, v, w, rfl, _⟩ := h; rfl) (fun cdv A outer s H vs Q E hr h => ?_)
  obtain ⟨a, v, w, rfl, ha, q⟩ := h
  refine ⟨_, (pss_cons (ExG.ps_stG (pv 0) (pv 1))
    (pss_one (ExG.ps_stG (pv 0) (pv 2)))), ?_⟩
  exact ⟨v, rfl, .ref a, rfl, a, T.X_BadSchema, _, rfl, T.og_BadSchema, T.nxBadSchemapart, .inl ⟨ha, fun dx n ne => ⟨w, rfl, .ref a, rfl, a, T.X_BadSchema, _, rfl, T.og_BadSchema, T.nxBadSchemaplace, .inr ⟨dx, [("part", v)], upd_same, by rw [upd_ne ne]; exact upd_same, by show 1 ≤ 900; decide, e2_end n q ne⟩⟩⟩⟩
theorem ok_BadEntry_init (T : Txt K mg) : FnOk P w K mg base CX0 1 T.f_BadEntry_init T.d_BadEntry_init ["self", "given"] (spE1 T.X_BadEntry "given") := by
  refine T.F_BadEntry_init.ok sc_BadEntry_init (fun vs H Q E h => by obtain ⟨a, v, rfl, _⟩ := h; rfl) (fun cdv A outer s H vs Q E hr h => ?_)
  obtain ⟨a, v, rfl, ha, q⟩ := h
  refine ⟨_, (pss_one (ExG.ps_stG (pv 0) (pv 1))), ?_⟩
  exact ⟨v, rfl, .ref a, rfl, a, T.X_BadEntry, _, rfl, T.og_BadEntry, T.nxBadEntrygiven, .inl ⟨ha, fun dx n ne => e1_end n q ne⟩⟩
theorem ok_BadDeed_init (T : Txt K mg) : FnOk P w K mg base CX0 1 T.f_BadDeed_init T.d_BadDeed_init ["self", "place"] (spE1 T.X_BadDeed "place") := by
  refine T.F_BadDeed_init.ok sc_BadDeed_init (fun vs H Q E h => by obtain ⟨a, v, rfl, _⟩ := h; rfl) (fun cdv A outer s H vs Q E hr h => ?_)
  obtain ⟨a, v, rfl, ha, q⟩ := h
  refine ⟨_, (pss_one (ExG.ps_stG (pv 0) (pv 1))), ?_⟩
  exact ⟨v, rfl, .ref a, rfl, a, T.X_BadDeed, _, rfl, T.og_BadDeed, T.nxBadDeedplace, .inl ⟨ha, fun dx n ne => e1_end n q ne⟩⟩
theorem ok_BadChange_init (T : Txt K mg) : FnOk P w K mg base CX0 1 T.f_BadChange_init T.d_BadChange_init ["self", "place"] (spE1 T.X_BadChange "place") := by
  refine T.F_BadChange_init.ok sc_BadChange_init (fun vs H Q E h => by obtain ⟨a, v, rfl, _⟩ := h; rfl) (fun cdv A outer s H vs Q E hr h => ?_)
  obtain ⟨a, v, rfl, ha, q⟩ := h
  refine ⟨_, (pss_one (ExG.ps_stG (pv 0) (pv 1))), ?_⟩
  exact ⟨v, rfl, .ref a, rfl, a, T.X_BadChange, _, rfl, T.og_BadChange, T.nxBadChangeplace, .inl ⟨ha, fun dx n ne => e1_end n q ne⟩⟩
theorem ok_BadVector_init (T : Txt K mg) : FnOk P w K mg base CX0 1 T.f_BadVector_init T.d_BadVector_init ["self", "given"] (spE1 T.X_BadVector "given") := by
  refine T.F_BadVector_init.ok sc_BadVector_init (fun vs H Q E h => by obtain ⟨a, v, rfl, _⟩ := h; rfl) (fun cdv A outer s H vs Q E hr h => ?_)
  obtain ⟨a, v, rfl, ha, q⟩ := h
  refine ⟨_, (pss_one (ExG.ps_stG (pv 0) (pv 1))), ?_⟩
  exact ⟨v, rfl, .ref a, rfl, a, T.X_BadVector, _, rfl, T.og_BadVector, T.nxBadVectorgiven, .inl ⟨ha, fun dx n ne => e1_end n q ne⟩⟩
theorem ok_BadIndex_init (T : Txt K mg) : FnOk P w K mg base CX0 1 T.f_BadIndex_init T.d_BadIndex_init ["self", "given"] (spE1 T.X_BadIndex "given") := by
  refine T.F_BadIndex_init.ok sc_BadIndex_init (fun vs H Q E h => by obtain ⟨a, v, rfl, _⟩ := h; rfl) (fun cdv A outer s H vs Q E hr h => ?_)
  obtain ⟨a, v, rfl, ha, q⟩ := h
  refine ⟨_, (pss_one (ExG.ps_stG (pv 0) (pv 1))), ?_⟩
  exact ⟨v, rfl, .ref a, rfl, a, T.X_BadIndex, _, rfl, T.og_BadIndex, T.nxBadIndexgiven, .inl ⟨ha, fun dx n ne => e1_end n q ne⟩⟩
theorem ok_BadText_init (T : Txt K mg) : FnOk P w K mg base CX0 1 T.f_BadText_init T.d_BadText_init ["self", "line"] (spE1 T.X_BadText "line") := by
  refine T.F_BadText_init.ok sc_BadText_init (fun vs H Q E h => by obtain ⟨a, v, rfl, _⟩ := h; rfl) (fun cdv A outer s H vs Q E hr h => ?_)
  obtain ⟨a, v, rfl, ha, q⟩ := h
  refine ⟨_, (pss_one (ExG.ps_stG (pv 0) (pv 1))), ?_⟩
  exact ⟨v, rfl, .ref a, rfl, a, T.X_BadText, _, rfl, T.og_BadText, T.nxBadTextline, .inl ⟨ha, fun dx n ne => e1_end n q ne⟩⟩
theorem ok_BadHost_init (T : Txt K mg) : FnOk P w K mg base CX0 1 T.f_BadHost_init T.d_BadHost_init ["self", "given"] (spE1 T.X_BadHost "given") := by
  refine T.F_BadHost_init.ok sc_BadHost_init (fun vs H Q E h => by obtain ⟨a, v, rfl, _⟩ := h; rfl) (fun cdv A outer s H vs Q E hr h => ?_)
  obtain ⟨a, v, rfl, ha, q⟩ := h
  refine ⟨_, (pss_one (ExG.ps_stG (pv 0) (pv 1))), ?_⟩
  exact ⟨v, rfl, .ref a, rfl, a, T.X_BadHost, _, rfl, T.og_BadHost, T.nxBadHostgiven, .inl ⟨ha, fun dx n ne => e1_end n q ne⟩⟩
theorem ok_BadValue_init (T : Txt K mg) : FnOk P w K mg base CX0 1 T.f_BadValue_init T.d_BadValue_init ["self", "attribute", "item"] (spE2 T.X_BadValue "attribute" "item") := by
  refine T.F_BadValue_init.ok sc_BadValue_init (fun vs H Q E h => by obtain ⟨a, v, w, rfl, _⟩ := h; rfl) (fun cdv A outer s H vs Q E hr h => ?_)
  obtain ⟨a, v, w, rfl, ha, q⟩ := h
  refine ⟨_, (pss_cons (ExG.ps_stG (pv 0) (pv 1))
    (pss_one (ExG.ps_stG (pv 0) (pv 2)))), ?_⟩
  exact ⟨v, rfl, .ref a, rfl, a, T.X_BadValue, _, rfl, T.og_BadValue, T.nxBadValueattribute, .inl ⟨ha, fun dx n ne => ⟨w, rfl, .ref a, rfl, a, T.X_BadValue, _, rfl, T.og_BadValue, T.nxBadValueitem, .inr ⟨dx, [("attribute", v)], upd_same, by rw [upd_ne ne]; exact upd_same, by show 1 ≤ 900; decide, e2_end n q ne⟩⟩⟩⟩
theorem ok_UnknownAttribute_init (T : Txt K mg) : FnOk P w K mg base CX0 1 T.f_UnknownAttribute_init T.d_UnknownAttribute_init ["self", "attribute"] (spE1 T.X_UnknownAttribute "attribute") := by
  refine T.F_UnknownAttribute_init.ok sc_UnknownAttribute_init (fun vs H Q E h => by obtain ⟨a, v, rfl, _⟩ := h; rfl) (fun cdv A outer s H vs Q E hr h => ?_)
  obtain ⟨a, v, rfl, ha, q⟩ := h
  refine ⟨_, (pss_one (ExG.ps_stG (pv 0) (pv 1))), ?_⟩
  exact ⟨v, rfl, .ref a, rfl, a, T.X_UnknownAttribute, _, rfl, T.og_UnknownAttribute, T.nxUnknownAttributeattribute, .inl ⟨ha, fun dx n ne => e1_end n q ne⟩⟩
theorem ok_MirrorGiven_init (T : Txt K mg) : FnOk P w K mg base CX0 1 T.f_MirrorGiven_init T.d_MirrorGiven_init ["self", "attribute"] (spE1 T.X_MirrorGiven "attribute") := by
  refine T.F_MirrorGiven_init.ok sc_MirrorGiven_init (fun vs H Q E h => by obtain ⟨a, v, rfl, _⟩ := h; rfl) (fun cdv A outer s H vs Q E hr h => ?_)
  obtain ⟨a, v, rfl, ha, q⟩ := h
  refine ⟨_, (pss_one (ExG.ps_stG (pv 0) (pv 1))), ?_⟩
  exact ⟨v, rfl, .ref a, rfl, a, T.X_MirrorGiven, _, rfl, T.og_MirrorGiven, T.nxMirrorGivenattribute, .inl ⟨ha, fun dx n ne => e1_end n q ne⟩⟩
theorem ok_UnknownClass_init (T : Txt K mg) : FnOk P w K mg base CX0 1 T.f_UnknownClass_init T.d_UnknownClass_init ["self", "given"] (spE1 T.X_UnknownClass "given") := by
  refine T.F_UnknownClass_init.ok sc_UnknownClass_init (fun vs H Q E h => by obtain ⟨a, v, rfl, _⟩ := h; rfl) (fun cdv A outer s H vs Q E hr h => ?_)
  obtain ⟨a, v, rfl, ha, q⟩ := h
  refine ⟨_, (pss_one (ExG.ps_stG (pv 0) (pv 1))), ?_⟩
  exact ⟨v, rfl, .ref a, rfl, a, T.X_UnknownClass, _, rfl, T.og_UnknownClass, T.nxUnknownClassgiven, .inl ⟨ha, fun dx n ne => e1_end n q ne⟩⟩
theorem ok_NotAllowed_init (T : Txt K mg) : FnOk P w K mg base CX0 1 T.f_NotAllowed_init T.d_NotAllowed_init ["self", "attribute"] (spE1 T.X_NotAllowed "attribute") := by
  refine T.F_NotAllowed_init.ok sc_NotAllowed_init (fun vs H Q E h => by obtain ⟨a, v, rfl, _⟩ := h; rfl) (fun cdv A outer s H vs Q E hr h => ?_)
  obtain ⟨a, v, rfl, ha, q⟩ := h
  refine ⟨_, (pss_one (ExG.ps_stG (pv 0) (pv 1))), ?_⟩
  exact ⟨v, rfl, .ref a, rfl, a, T.X_NotAllowed, _, rfl, T.og_NotAllowed, T.nxNotAllowedattribute, .inl ⟨ha, fun dx n ne => e1_end n q ne⟩⟩
theorem ok_Missing_init (T : Txt K mg) : FnOk P w K mg base CX0 1 T.f_Missing_init T.d_Missing_init ["self", "attribute"] (spE1 T.X_Missing "attribute") := by
  refine T.F_Missing_init.ok sc_Missing_init (fun vs H Q E h => by obtain ⟨a, v, rfl, _⟩ := h; rfl) (fun cdv A outer s H vs Q E hr h => ?_)
  obtain ⟨a, v, rfl, ha, q⟩ := h
  refine ⟨_, (pss_one (ExG.ps_stG (pv 0) (pv 1))), ?_⟩
  exact ⟨v, rfl, .ref a, rfl, a, T.X_Missing, _, rfl, T.og_Missing, T.nxMissingattribute, .inl ⟨ha, fun dx n ne => e1_end n q ne⟩⟩
theorem ok_TooManyValues_init (T : Txt K mg) : FnOk P w K mg base CX0 1 T.f_TooManyValues_init T.d_TooManyValues_init ["self", "attribute"] (spE1 T.X_TooManyValues "attribute") := by
  refine T.F_TooManyValues_init.ok sc_TooManyValues_init (fun vs H Q E h => by obtain ⟨a, v, rfl, _⟩ := h; rfl) (fun cdv A outer s H vs Q E hr h => ?_)
  obtain ⟨a, v, rfl, ha, q⟩ := h
  refine ⟨_, (pss_one (ExG.ps_stG (pv 0) (pv 1))), ?_⟩
  exact ⟨v, rfl, .ref a, rfl, a, T.X_TooManyValues, _, rfl, T.og_TooManyValues, T.nxTooManyValuesattribute, .inl ⟨ha, fun dx n ne => e1_end n q ne⟩⟩
theorem ok_ValueTaken_init (T : Txt K mg) : FnOk P w K mg base CX0 1 T.f_ValueTaken_init T.d_ValueTaken_init ["self", "attribute", "item"] (spE2 T.X_ValueTaken "attribute" "item") := by
  refine T.F_ValueTaken_init.ok sc_ValueTaken_init (fun vs H Q E h => by obtain ⟨a, v, w, rfl, _⟩ := h; rfl) (fun cdv A outer s H vs Q E hr h => ?_)
  obtain ⟨a, v, w, rfl, ha, q⟩ := h
  refine ⟨_, (pss_cons (ExG.ps_stG (pv 0) (pv 1))
    (pss_one (ExG.ps_stG (pv 0) (pv 2)))), ?_⟩
  exact ⟨v, rfl, .ref a, rfl, a, T.X_ValueTaken, _, rfl, T.og_ValueTaken, T.nxValueTakenattribute, .inl ⟨ha, fun dx n ne => ⟨w, rfl, .ref a, rfl, a, T.X_ValueTaken, _, rfl, T.og_ValueTaken, T.nxValueTakenitem, .inr ⟨dx, [("attribute", v)], upd_same, by rw [upd_ne ne]; exact upd_same, by show 1 ≤ 900; decide, e2_end n q ne⟩⟩⟩⟩
theorem ok_NotNamed_init (T : Txt K mg) : FnOk P w K mg base CX0 1 T.f_NotNamed_init T.d_NotNamed_init ["self", "attribute"] (spE1 T.X_NotNamed "attribute") := by
  refine T.F_NotNamed_init.ok sc_NotNamed_init (fun vs H Q E h => by obtain ⟨a, v, rfl, _⟩ := h; rfl) (fun cdv A outer s H vs Q E hr h => ?_)
  obtain ⟨a, v, rfl, ha, q⟩ := h
  refine ⟨_, (pss_one (ExG.ps_stG (pv 0) (pv 1))), ?_⟩
  exact ⟨v, rfl, .ref a, rfl, a, T.X_NotNamed, _, rfl, T.og_NotNamed, T.nxNotNamedattribute, .inl ⟨ha, fun dx n ne => e1_end n q ne⟩⟩
theorem ok_BadPlace_init (T : Txt K mg) : FnOk P w K mg base CX0 1 T.f_BadPlace_init T.d_BadPlace_init ["self", "given"] (spE1 T.X_BadPlace "given") := by
  refine T.F_BadPlace_init.ok sc_BadPlace_init (fun vs H Q E h => by obtain ⟨a, v, rfl, _⟩ := h; rfl) (fun cdv A outer s H vs Q E hr h => ?_)
  obtain ⟨a, v, rfl, ha, q⟩ := h
  refine ⟨_, (pss_one (ExG.ps_stG (pv 0) (pv 1))), ?_⟩
  exact ⟨v, rfl, .ref a, rfl, a, T.X_BadPlace, _, rfl, T.og_BadPlace, T.nxBadPlacegiven, .inl ⟨ha, fun dx n ne => e1_end n q ne⟩⟩
theorem ok_NoTarget_init (T : Txt K mg) : FnOk P w K mg base CX0 1 T.f_NoTarget_init T.d_NoTarget_init ["self", "attribute", "item"] (spE2 T.X_NoTarget "attribute" "item") := by
  refine T.F_NoTarget_init.ok sc_NoTarget_init (fun vs H Q E h => by obtain ⟨a, v, w, rfl, _⟩ := h; rfl) (fun cdv A outer s H vs Q E hr h => ?_)
  obtain ⟨a, v, w, rfl, ha, q⟩ := h
  refine ⟨_, (pss_cons (ExG.ps_stG (pv 0) (pv 1))
    (pss_one (ExG.ps_stG (pv 0) (pv 2)))), ?_⟩
  exact ⟨v, rfl, .ref a, rfl, a, T.X_NoTarget, _, rfl, T.og_NoTarget, T.nxNoTargetattribute, .inl ⟨ha, fun dx n ne => ⟨w, rfl, .ref a, rfl, a, T.X_NoTarget, _, rfl, T.og_NoTarget, T.nxNoTargetitem, .inr ⟨dx, [("attribute", v)], upd_same, by rw [upd_ne ne]; exact upd_same, by show 1 ≤ 900; decide, e2_end n q ne⟩⟩⟩⟩
theorem ok_NotInteger_init (T : Txt K mg) : FnOk P w K mg base CX0 1 T.f_NotInteger_init T.d_NotInteger_init ["self", "attribute"] (spE1 T.X_NotInteger "attribute") := by
  refine T.F_NotInteger_init.ok sc_NotInteger_init (fun vs H Q E h => by obtain ⟨a, v, rfl, _⟩ := h; rfl) (fun cdv A outer s H vs Q E hr h => ?_)
  obtain ⟨a, v, rfl, ha, q⟩ := h
  refine ⟨_, (pss_one (ExG.ps_stG (pv 0) (pv 1))), ?_⟩
  exact ⟨v, rfl, .ref a, rfl, a, T.X_NotInteger, _, rfl, T.og_NotInteger, T.nxNotIntegerattribute, .inl ⟨ha, fun dx n ne => e1_end n q ne⟩⟩
theorem ok_NoOrder_init (T : Txt K mg) : FnOk P w K mg base CX0 1 T.f_NoOrder_init T.d_NoOrder_init ["self", "attribute"] (spE1 T.X_NoOrder "attribute") := by
  refine T.F_NoOrder_init.ok sc_NoOrder_init (fun vs H Q E h => by obtain ⟨a, v, rfl, _⟩ := h; rfl) (fun cdv A outer s H vs Q E hr h => ?_)
  obtain ⟨a, v, rfl, ha, q⟩ := h
  refine ⟨_, (pss_one (ExG.ps_stG (pv 0) (pv 1))), ?_⟩
  exact ⟨v, rfl, .ref a, rfl, a, T.X_NoOrder, _, rfl, T.og_NoOrder, T.nxNoOrderattribute, .inl ⟨ha, fun dx n ne => e1_end n q ne⟩⟩
theorem ok_NoEntry_init (T : Txt K mg) : FnOk P w K mg base CX0 1 T.f_NoEntry_init T.d_NoEntry_init ["self", "missing", "matched"] (spE2 T.X_NoEntry "missing" "matched") := by
  refine T.F_NoEntry_init.ok sc_NoEntry_init (fun vs H Q E h => by obtain ⟨a, v, w, rfl, _⟩ := h; rfl) (fun cdv A outer s H vs Q E hr h => ?_)
  obtain ⟨a, v, w, rfl, ha, q⟩ := h
  refine ⟨_, (pss_cons (ExG.ps_stG (pv 0) (pv 1))
    (pss_one (ExG.ps_stG (pv 0) (pv 2)))), ?_⟩
  exact ⟨v, rfl, .ref a, rfl, a, T.X_NoEntry, _, rfl, T.og_NoEntry, T.nxNoEntrymissing, .inl ⟨ha, fun dx n ne => ⟨w, rfl, .ref a, rfl, a, T.X_NoEntry, _, rfl, T.og_NoEntry, T.nxNoEntrymatched, .inr ⟨dx, [("missing", v)], upd_same, by rw [upd_ne ne]; exact upd_same, by show 1 ≤ 900; decide, e2_end n q ne⟩⟩⟩⟩
theorem ok_NameTaken_init (T : Txt K mg) : FnOk P w K mg base CX0 1 T.f_NameTaken_init T.d_NameTaken_init ["self", "given"] (spE1 T.X_NameTaken "given") := by
  refine T.F_NameTaken_init.ok sc_NameTaken_init (fun vs H Q E h => by obtain ⟨a, v, rfl, _⟩ := h; rfl) (fun cdv A outer s H vs Q E hr h => ?_)
  obtain ⟨a, v, rfl, ha, q⟩ := h
  refine ⟨_, (pss_one (ExG.ps_stG (pv 0) (pv 1))), ?_⟩
  exact ⟨v, rfl, .ref a, rfl, a, T.X_NameTaken, _, rfl, T.og_NameTaken, T.nxNameTakengiven, .inl ⟨ha, fun dx n ne => e1_end n q ne⟩⟩
theorem ok_HasChildren_init (T : Txt K mg) : FnOk P w K mg base CX0 1 T.f_HasChildren_init T.d_HasChildren_init ["self", "given"] (spE1 T.X_HasChildren "given") := by
  refine T.F_HasChildren_init.ok sc_HasChildren_init (fun vs H Q E h => by obtain ⟨a, v, rfl, _⟩ := h; rfl) (fun cdv A outer s H vs Q E hr h => ?_)
  obtain ⟨a, v, rfl, ha, q⟩ := h
  refine ⟨_, (pss_one (ExG.ps_stG (pv 0) (pv 1))), ?_⟩
  exact ⟨v, rfl, .ref a, rfl, a, T.X_HasChildren, _, rfl, T.og_HasChildren, T.nxHasChildrengiven, .inl ⟨ha, fun dx n ne => e1_end n q ne⟩⟩
theorem ok_InUse_init (T : Txt K mg) : FnOk P w K mg base CX0 1 T.f_InUse_init T.d_InUse_init ["self", "holder"] (spE1 T.X_InUse "holder") := by
  refine T.F_InUse_init.ok sc_InUse_init (fun vs H Q E h => by obtain ⟨a, v, rfl, _⟩ := h; rfl) (fun cdv A outer s H vs Q E hr h => ?_)
  obtain ⟨a, v, rfl, ha, q⟩ := h
  refine ⟨_, (pss_one (ExG.ps_stG (pv 0) (pv 1))), ?_⟩
  exact ⟨v, rfl, .ref a, rfl, a, T.X_InUse, _, rfl, T.og_InUse, T.nxInUseholder, .inl ⟨ha, fun dx n ne => e1_end n q ne⟩⟩
theorem ok_Inside_init (T : Txt K mg) : FnOk P w K mg base CX0 1 T.f_Inside_init T.d_Inside_init ["self", "given"] (spE1 T.X_Inside "given") := by
  refine T.F_Inside_init.ok sc_Inside_init (fun vs H Q E h => by obtain ⟨a, v, rfl, _⟩ := h; rfl) (fun cdv A outer s H vs Q E hr h => ?_)
  obtain ⟨a, v, rfl, ha, q⟩ := h
  refine ⟨_, (pss_one (ExG.ps_stG (pv 0) (pv 1))), ?_⟩
  exact ⟨v, rfl, .ref a, rfl, a, T.X_Inside, _, rfl, T.og_Inside, T.nxInsidegiven, .inl ⟨ha, fun dx n ne => e1_end n q ne⟩⟩
theorem ok_NoValue_init (T : Txt K mg) : FnOk P w K mg base CX0 1 T.f_NoValue_init T.d_NoValue_init ["self", "attribute", "item"] (spE2 T.X_NoValue "attribute" "item") := by
  refine T.F_NoValue_init.ok sc_NoValue_init (fun vs H Q E h => by obtain ⟨a, v, w, rfl, _⟩ := h; rfl) (fun cdv A outer s H vs Q E hr h => ?_)
  obtain ⟨a, v, w, rfl, ha, q⟩ := h
  refine ⟨_, (pss_cons (ExG.ps_stG (pv 0) (pv 1))
    (pss_one (ExG.ps_stG (pv 0) (pv 2)))), ?_⟩
  exact ⟨v, rfl, .ref a, rfl, a, T.X_NoValue, _, rfl, T.og_NoValue, T.nxNoValueattribute, .inl ⟨ha, fun dx n ne => ⟨w, rfl, .ref a, rfl, a, T.X_NoValue, _, rfl, T.og_NoValue, T.nxNoValueitem, .inr ⟨dx, [("attribute", v)], upd_same, by rw [upd_ne ne]; exact upd_same, by show 1 ≤ 900; decide, e2_end n q ne⟩⟩⟩⟩
theorem ok_Referral_init (T : Txt K mg) : FnOk P w K mg base CX0 1 T.f_Referral_init T.d_Referral_init ["self", "targets"] (spE1 T.X_Referral "targets") := by
  refine T.F_Referral_init.ok sc_Referral_init (fun vs H Q E h => by obtain ⟨a, v, rfl, _⟩ := h; rfl) (fun cdv A outer s H vs Q E hr h => ?_)
  obtain ⟨a, v, rfl, ha, q⟩ := h
  refine ⟨_, (pss_one (ExG.ps_stG (pv 0) (pv 1))), ?_⟩
  exact ⟨v, rfl, .ref a, rfl, a, T.X_Referral, _, rfl, T.og_Referral, T.nxReferraltargets, .inl ⟨ha, fun dx n ne => e1_end n q ne⟩⟩
theorem ok_IndexTaken_init (T : Txt K mg) : FnOk P w K mg base CX0 1 T.f_IndexTaken_init T.d_IndexTaken_init ["self", "given"] (spE1 T.X_IndexTaken "given") := by
  refine T.F_IndexTaken_init.ok sc_IndexTaken_init (fun vs H Q E h => by obtain ⟨a, v, rfl, _⟩ := h; rfl) (fun cdv A outer s H vs Q E hr h => ?_)
  obtain ⟨a, v, rfl, ha, q⟩ := h
  refine ⟨_, (pss_one (ExG.ps_stG (pv 0) (pv 1))), ?_⟩
  exact ⟨v, rfl, .ref a, rfl, a, T.X_IndexTaken, _, rfl, T.og_IndexTaken, T.nxIndexTakengiven, .inl ⟨ha, fun dx n ne => e1_end n q ne⟩⟩
theorem ok_NoIndex_init (T : Txt K mg) : FnOk P w K mg base CX0 1 T.f_NoIndex_init T.d_NoIndex_init ["self", "given"] (spE1 T.X_NoIndex "given") := by
  refine T.F_NoIndex_init.ok sc_NoIndex_init (fun vs H Q E h => by obtain ⟨a, v, rfl, _⟩ := h; rfl) (fun cdv A outer s H vs Q E hr h => ?_)
  obtain ⟨a, v, rfl, ha, q⟩ := h
  refine ⟨_, (pss_one (ExG.ps_stG (pv 0) (pv 1))), ?_⟩
  exact ⟨v, rfl, .ref a, rfl, a, T.X_NoIndex, _, rfl, T.og_NoIndex, T.nxNoIndexgiven, .inl ⟨ha, fun dx n ne => e1_end n q ne⟩⟩
theorem ok_NoHost_init (T : Txt K mg) : FnOk P w K mg base CX0 1 T.f_NoHost_init T.d_NoHost_init ["self", "host"] (spE1 T.X_NoHost "host") := by
  refine T.F_NoHost_init.ok sc_NoHost_init (fun vs H Q E h => by obtain ⟨a, v, rfl, _⟩ := h; rfl) (fun cdv A outer s H vs Q E hr h => ?_)
  obtain ⟨a, v, rfl, ha, q⟩ := h
  refine ⟨_, (pss_one (ExG.ps_stG (pv 0) (pv 1))), ?_⟩
  exact ⟨v, rfl, .ref a, rfl, a, T.X_NoHost, _, rfl, T.og_NoHost, T.nxNoHosthost, .inl ⟨ha, fun dx n ne => e1_end n q ne⟩⟩
theorem ok_Gap_init (T : Txt K mg) : FnOk P w K mg base CX0 1 T.f_Gap_init T.d_Gap_init ["self", "host"] (spE1 T.X_Gap "host") := by
  refine T.F_Gap_init.ok sc_Gap_init (fun vs H Q E h => by obtain ⟨a, v, rfl, _⟩ := h; rfl) (fun cdv A outer s H vs Q E hr h => ?_)
  obtain ⟨a, v, rfl, ha, q⟩ := h
  refine ⟨_, (pss_one (ExG.ps_stG (pv 0) (pv 1))), ?_⟩
  exact ⟨v, rfl, .ref a, rfl, a, T.X_Gap, _, rfl, T.og_Gap, T.nxGaphost, .inl ⟨ha, fun dx n ne => e1_end n q ne⟩⟩
theorem ok_Behind_init (T : Txt K mg) : FnOk P w K mg base CX0 1 T.f_Behind_init T.d_Behind_init ["self", "host"] (spE1 T.X_Behind "host") := by
  refine T.F_Behind_init.ok sc_Behind_init (fun vs H Q E h => by obtain ⟨a, v, rfl, _⟩ := h; rfl) (fun cdv A outer s H vs Q E hr h => ?_)
  obtain ⟨a, v, rfl, ha, q⟩ := h
  refine ⟨_, (pss_one (ExG.ps_stG (pv 0) (pv 1))), ?_⟩
  exact ⟨v, rfl, .ref a, rfl, a, T.X_Behind, _, rfl, T.og_Behind, T.nxBehindhost, .inl ⟨ha, fun dx n ne => e1_end n q ne⟩⟩
theorem ok_Forgotten_init (T : Txt K mg) : FnOk P w K mg base CX0 1 T.f_Forgotten_init T.d_Forgotten_init ["self", "host"] (spE1 T.X_Forgotten "host") := by
  refine T.F_Forgotten_init.ok sc_Forgotten_init (fun vs H Q E h => by obtain ⟨a, v, rfl, _⟩ := h; rfl) (fun cdv A outer s H vs Q E hr h => ?_)
  obtain ⟨a, v, rfl, ha, q⟩ := h
  refine ⟨_, (pss_one (ExG.ps_stG (pv 0) (pv 1))), ?_⟩
  exact ⟨v, rfl, .ref a, rfl, a, T.X_Forgotten, _, rfl, T.og_Forgotten, T.nxForgottenhost, .inl ⟨ha, fun dx n ne => e1_end n q ne⟩⟩
theorem ok_Full_init (T : Txt K mg) : FnOk P w K mg base CX0 1 T.f_Full_init T.d_Full_init ["self", "limit"] (spE1 T.X_Full "limit") := by
  refine T.F_Full_init.ok sc_Full_init (fun vs H Q E h => by obtain ⟨a, v, rfl, _⟩ := h; rfl) (fun cdv A outer s H vs Q E hr h => ?_)
  obtain ⟨a, v, rfl, ha, q⟩ := h
  refine ⟨_, (pss_one (ExG.ps_stG (pv 0) (pv 1))), ?_⟩
  exact ⟨v, rfl, .ref a, rfl, a, T.X_Full, _, rfl, T.og_Full, T.nxFulllimit, .inl ⟨ha, fun dx n ne => e1_end n q ne⟩⟩
theorem ok_TooDeep_init (T : Txt K mg) : FnOk P w K mg base CX0 1 T.f_TooDeep_init T.d_TooDeep_init ["self", "limit"] (spE1 T.X_TooDeep "limit") := by
  refine T.F_TooDeep_init.ok sc_TooDeep_init (fun vs H Q E h => by obtain ⟨a, v, rfl, _⟩ := h; rfl) (fun cdv A outer s H vs Q E hr h => ?_)
  obtain ⟨a, v, rfl, ha, q⟩ := h
  refine ⟨_, (pss_one (ExG.ps_stG (pv 0) (pv 1))), ?_⟩
  exact ⟨v, rfl, .ref a, rfl, a, T.X_TooDeep, _, rfl, T.og_TooDeep, T.nxTooDeeplimit, .inl ⟨ha, fun dx n ne => e1_end n q ne⟩⟩
theorem ok_SizeLimit_init (T : Txt K mg) : FnOk P w K mg base CX0 1 T.f_SizeLimit_init T.d_SizeLimit_init ["self", "limit"] (spE1 T.X_SizeLimit "limit") := by
  refine T.F_SizeLimit_init.ok sc_SizeLimit_init (fun vs H Q E h => by obtain ⟨a, v, rfl, _⟩ := h; rfl) (fun cdv A outer s H vs Q E hr h => ?_)
  obtain ⟨a, v, rfl, ha, q⟩ := h
  refine ⟨_, (pss_one (ExG.ps_stG (pv 0) (pv 1))), ?_⟩
  exact ⟨v, rfl, .ref a, rfl, a, T.X_SizeLimit, _, rfl, T.og_SizeLimit, T.nxSizeLimitlimit, .inl ⟨ha, fun dx n ne => e1_end n q ne⟩⟩
end
end K1

namespace K1
open PySem PySem.Spec PyProof.Rows L2 TL G ExG
section
variable {P : Program} {w : World} {K : PySem.W.Frag} {mg : Str → Option Value} {base : Heap}
/-- the errors in their order, their fields -/
def errs (T : Txt K mg) (v w : V) : List (Addr × List (Str × V)) := [(T.X_BadName, [(("given" : Str), v)]), (T.X_BadFilter, [(("place" : Str), v)]), (T.X_BadScope, [(("given" : Str), v)]), (T.X_BadNumber, [(("given" : Str), v)]), (T.X_BadSchema, [(("place" : Str), w), (("part" : Str), v)]), (T.X_BadEntry, [(("given" : Str), v)]), (T.X_BadDeed, [(("place" : Str), v)]), (T.X_BadChange, [(("place" : Str), v)]), (T.X_BadVector, [(("given" : Str), v)]), (T.X_BadIndex, [(("given" : Str), v)]), (T.X_BadText, [(("line" : Str), v)]), (T.X_BadHost, [(("given" : Str), v)]), (T.X_BadValue, [(("item" : Str), w), (("attribute" : Str), v)]), (T.X_UnknownAttribute, [(("attribute" : Str), v)]), (T.X_MirrorGiven, [(("attribute" : Str), v)]), (T.X_UnknownClass, [(("given" : Str), v)]), (T.X_BadClasses, []), (T.X_NotAllowed, [(("attribute" : Str), v)]), (T.X_Missing, [(("attribute" : Str), v)]), (T.X_TooManyValues, [(("attribute" : Str), v)]), (T.X_ValueTaken, [(("item" : Str), w), (("attribute" : Str), v)]), (T.X_NotNamed, [(("attribute" : Str), v)]), (T.X_BadPlace, [(("given" : Str), v)]), (T.X_NoTarget, [(("item" : Str), w), (("attribute" : Str), v)]), (T.X_NotInteger, [(("attribute" : Str), v)]), (T.X_NoOrder, [(("attribute" : Str), v)]), (T.X_NoEntry, [(("matched" : Str), w), (("missing" : Str), v)]), (T.X_NameTaken, [(("given" : Str), v)]), (T.X_HasChildren, [(("given" : Str), v)]), (T.X_InUse, [(("holder" : Str), v)]), (T.X_Inside, [(("given" : Str), v)]), (T.X_NoValue, [(("item" : Str), w), (("attribute" : Str), v)]), (T.X_Referral, [(("targets" : Str), v)]), (T.X_IndexTaken, [(("given" : Str), v)]), (T.X_NoIndex, [(("given" : Str), v)]), (T.X_NothingToUndo, []), (T.X_NoHost, [(("host" : Str), v)]), (T.X_Gap, [(("host" : Str), v)]), (T.X_Behind, [(("host" : Str), v)]), (T.X_Forgotten, [(("host" : Str), v)]), (T.X_PagingOver, []), (T.X_Full, [(("limit" : Str), v)]), (T.X_TooDeep, [(("limit" : Str), v)]), (T.X_SizeLimit, [(("limit" : Str), v)])]
def spMade (es : V → V → List (Addr × List (Str × V))) : Sp := fun vs H Q _ => ∃ v w : V, vs = [v, w] ∧ ∀ H' R as, Same H H' → H' R = some (.lst (as.map V.ref)) → Errs H' as (es v w) → Q (.ref R) H'
theorem ok_q_made (T : Txt K mg) : FnOk P w K mg base CX0 3 T.f_q_made T.d_q_made ["_law_one", "_law_two"] (spMade (errs T)) := by
  refine T.F_q_made.ok sc_q_made (fun vs H Q E h => by obtain ⟨v, w, rfl, _⟩ := h; rfl) (fun cdv A outer s H vs Q E hr h => ?_)
  obtain ⟨v, w, rfl, q⟩ := h
  refine ⟨_, (Evl.pss_cut (ps_set (i := 2) sc_q_made.nd rfl (.inl rfl) (pe_lst (pa_cons (ExG.pe_mkG T.og_BadName T.iX_BadName T.tX_BadName (ok_BadName_init T) (hr.mono (by decide)) T.b_BadName_init pass0 (by rfl) T.gX_BadName (pa_cons (pv 0) pa_nil)) (pa_cons (ExG.pe_mkG T.og_BadFilter T.iX_BadFilter T.tX_BadFilter (ok_BadFilter_init T) (hr.mono (by decide)) T.b_BadFilter_init pass0 (by rfl) T.gX_BadFilter (pa_cons (pv 0) pa_nil)) (pa_cons (ExG.pe_mkG T.og_BadScope T.iX_BadScope T.tX_BadScope (ok_BadScope_init T) (hr.mono (by decide)) T.b_BadScope_init pass0 (by rfl) T.gX_BadScope (pa_cons (pv 0) pa_nil)) (pa_cons (ExG.pe_mkG T.og_BadNumber T.iX_BadNumber T.tX_BadNumber (ok_BadNumber_init T) (hr.mono (by decide)) T.b_BadNumber_init pass0 (by rfl) T.gX_BadNumber (pa_cons (pv 0) pa_nil)) (pa_cons (ExG.pe_mkG T.og_BadSchema T.iX_BadSchema T.tX_BadSchema (ok_BadSchema_init T) (hr.mono (by decide)) T.b_BadSchema_init pass0 (by rfl) T.gX_BadSchema (pa_cons (pv 0) (pa_cons (pv 1) pa_nil))) (pa_cons (ExG.pe_mkG T.og_BadEntry T.iX_BadEntry T.tX_BadEntry (ok_BadEntry_init T) (hr.mono (by decide)) T.b_BadEntry_init pass0 (by rfl) T.gX_BadEntry (pa_cons (pv 0) pa_nil)) pa_nil))))))))
    (Evl.pss_cut (ps_set (i := 2) sc_q_made.nd rfl (.inl rfl) (pe_op op_cat (pv 2) (pe_lst (pa_cons (ExG.pe_mkG T.og_BadDeed T.iX_BadDeed T.tX_BadDeed (ok_BadDeed_init T) (hr.mono (by decide)) T.b_BadDeed_init pass0 (by rfl) T.gX_BadDeed (pa_cons (pv 0) pa_nil)) (pa_cons (ExG.pe_mkG T.og_BadChange T.iX_BadChange T.tX_BadChange (ok_BadChange_init T) (hr.mono (by decide)) T.b_BadChange_init pass0 (by rfl) T.gX_BadChange (pa_cons (pv 0) pa_nil)) (pa_cons (ExG.pe_mkG T.og_BadVector T.iX_BadVector T.tX_BadVector (ok_BadVector_init T) (hr.mono (by decide)) T.b_BadVector_init pass0 (by rfl) T.gX_BadVector (pa_cons (pv 0) pa_nil)) (pa_cons (ExG.pe_mkG T.og_BadIndex T.iX_BadIndex T.tX_BadIndex (ok_BadIndex_init T) (hr.mono (by decide)) T.b_BadIndex_init pass0 (by rfl) T.gX_BadIndex (pa_cons (pv 0) pa_nil)) (pa_cons (ExG.pe_mkG T.og_BadText T.iX_BadText T.tX_BadText (ok_BadText_init T) (hr.mono (by decide)) T.b_BadText_init pass0 (by rfl) T.gX_BadText (pa_cons (pv 0) pa_nil)) (pa_cons (ExG.pe_mkG T.og_BadHost T.iX_BadHost T.tX_BadHost (ok_BadHost_init T) (hr.mono (by decide)) T.b_BadHost_init pass0 (by rfl) T.gX_BadHost (pa_cons (pv 0) pa_nil)) pa_nil)))))))))
    (Evl.pss_cut (ps_set (i := 2) sc_q_made.nd rfl (.inl rfl) (pe_op op_cat (pv 2) (pe_lst (pa_cons (ExG.pe_mkG T.og_BadValue T.iX_BadValue T.tX_BadValue (ok_BadValue_init T) (hr.mono (by decide)) T.b_BadValue_init pass0 (by rfl) T.gX_BadValue (pa_cons (pv 0) (pa_cons (pv 1) pa_nil))) (pa_cons (ExG.pe_mkG T.og_UnknownAttribute T.iX_UnknownAttribute T.tX_UnknownAttribute (ok_UnknownAttribute_init T) (hr.mono (by decide)) T.b_UnknownAttribute_init pass0 (by rfl) T.gX_UnknownAttribute (pa_cons (pv 0) pa_nil)) (pa_cons (ExG.pe_mkG T.og_MirrorGiven T.iX_MirrorGiven T.tX_MirrorGiven (ok_MirrorGiven_init T) (hr.mono (by decide)) T.b_MirrorGiven_init pass0 (by rfl) T.gX_MirrorGiven (pa_cons (pv 0) pa_nil)) (pa_cons (ExG.pe_mkG T.og_UnknownClass T.iX_UnknownClass T.tX_UnknownClass (ok_UnknownClass_init T) (hr.mono (by decide)) T.b_UnknownClass_init pass0 (by rfl) T.gX_UnknownClass (pa_cons (pv 0) pa_nil)) (pa_cons (ExG.pe_mk0 T.og_BadClasses T.i0_BadClasses (by rfl) T.gX_BadClasses) pa_nil))))))))
    (Evl.pss_cut (ps_set (i := 2) sc_q_made.nd rfl (.inl rfl) (pe_op op_cat (pv 2) (pe_lst (pa_cons (ExG.pe_mkG T.og_NotAllowed T.iX_NotAllowed T.tX_NotAllowed (ok_NotAllowed_init T) (hr.mono (by decide)) T.b_NotAllowed_init pass0 (by rfl) T.gX_NotAllowed (pa_cons (pv 0) pa_nil)) (pa_cons (ExG.pe_mkG T.og_Missing T.iX_Missing T.tX_Missing (ok_Missing_init T) (hr.mono (by decide)) T.b_Missing_init pass0 (by rfl) T.gX_Missing (pa_cons (pv 0) pa_nil)) (pa_cons (ExG.pe_mkG T.og_TooManyValues T.iX_TooManyValues T.tX_TooManyValues (ok_TooManyValues_init T) (hr.mono (by decide)) T.b_TooManyValues_init pass0 (by rfl) T.gX_TooManyValues (pa_cons (pv 0) pa_nil)) (pa_cons (ExG.pe_mkG T.og_ValueTaken T.iX_ValueTaken T.tX_ValueTaken (ok_ValueTaken_init T) (hr.mono (by decide)) T.b_ValueTaken_init pass0 (by rfl) T.gX_ValueTaken (pa_cons (pv 0) (pa_cons (pv 1) pa_nil))) (pa_cons (ExG.pe_mkG T.og_NotNamed T.iX_NotNamed T.tX_NotNamed (ok_NotNamed_init T) (hr.mono (by decide)) T.b_NotNamed_init pass0 (by rfl) T.gX_NotNamed (pa_cons (pv 0) pa_nil)) pa_nil))))))))
    (Evl.pss_cut (ps_set (i := 2) sc_q_made.nd rfl (.inl rfl) (pe_op op_cat (pv 2) (pe_lst (pa_cons (ExG.pe_mkG T.og_BadPlace T.iX_BadPlace T.tX_BadPlace (ok_BadPlace_init T) (hr.mono (by decide)) T.b_BadPlace_init pass0 (by rfl) T.gX_BadPlace (pa_cons (pv 0) pa_nil)) (pa_cons (ExG.pe_mkG T.og_NoTarget T.iX_NoTarget T.tX_NoTarget (ok_NoTarget_init T) (hr.mono (by decide)) T.b_NoTarget_init pass0 (by rfl) T.gX_NoTarget (pa_cons (pv 0) (pa_cons (pv 1) pa_nil))) (pa_cons (ExG.pe_mkG T.og_NotInteger T.iX_NotInteger T.tX_NotInteger (ok_NotInteger_init T) (hr.mono (by decide)) T.b_NotInteger_init pass0 (by rfl) T.gX_NotInteger (pa_cons (pv 0) pa_nil)) (pa_cons (ExG.pe_mkG T.og_NoOrder T.iX_NoOrder T.tX_NoOrder (ok_NoOrder_init T) (hr.mono (by decide)) T.b_NoOrder_init pass0 (by rfl) T.gX_NoOrder (pa_cons (pv 0) pa_nil)) (pa_cons (ExG.pe_mkG T.og_NoEntry T.iX_NoEntry T.tX_NoEntry (ok_NoEntry_init T) (hr.mono (by decide)) T.b_NoEntry_init pass0 (by rfl) T.gX_NoEntry (pa_cons (pv 0) (pa_cons (pv 1) pa_nil))) pa_nil))))))))
    (Evl.pss_cut (ps_set (i := 2) sc_q_made.nd rfl (.inl rfl) (pe_op op_cat (pv 2) (pe_lst (pa_cons (ExG.pe_mkG T.og_NameTaken T.iX_NameTaken T.tX_NameTaken (ok_NameTaken_init T) (hr.mono (by decide)) T.b_NameTaken_init pass0 (by rfl) T.gX_NameTaken (pa_cons (pv 0) pa_nil)) (pa_cons (ExG.pe_mkG T.og_HasChildren T.iX_HasChildren T.tX_HasChildren (ok_HasChildren_init T) (hr.mono (by decide)) T.b_HasChildren_init pass0 (by rfl) T.gX_HasChildren (pa_cons (pv 0) pa_nil)) (pa_cons (ExG.pe_mkG T.og_InUse T.iX_InUse T.tX_InUse (ok_InUse_init T) (hr.mono (by decide)) T.b_InUse_init pass0 (by rfl) T.gX_InUse (pa_cons (pv 0) pa_nil)) (pa_cons (ExG.pe_mkG T.og_Inside T.iX_Inside T.tX_Inside (ok_Inside_init T) (hr.mono (by decide)) T.b_Inside_init pass0 (by rfl) T.gX_Inside (pa_cons (pv 0) pa_nil)) (pa_cons (ExG.pe_mkG T.og_NoValue T.iX_NoValue T.tX_NoValue (ok_NoValue_init T) (hr.mono (by decide)) T.b_NoValue_init pass0 (by rfl) T.gX_NoValue (pa_cons (pv 0) (pa_cons (pv 1) pa_nil))) (pa_cons (ExG.pe_mkG T.og_Referral T.iX_Referral T.tX_Referral (ok_Referral_init T) (hr.mono (by decide)) T.b_Referral_init pass0 (by rfl) T.gX_Referral (pa_cons (pv 0) pa_nil)) pa_nil)))))))))
    (Evl.pss_cut (ps_set (i := 2) sc_q_made.nd rfl (.inl rfl) (pe_op op_cat (pv 2) (pe_lst (pa_cons (ExG.pe_mkG T.og_IndexTaken T.iX_IndexTaken T.tX_IndexTaken (ok_IndexTaken_init T) (hr.mono (by decide)) T.b_IndexTaken_init pass0 (by rfl) T.gX_IndexTaken (pa_cons (pv 0) pa_nil)) (pa_cons (ExG.pe_mkG T.og_NoIndex T.iX_NoIndex T.tX_NoIndex (ok_NoIndex_init T) (hr.mono (by decide)) T.b_NoIndex_init pass0 (by rfl) T.gX_NoIndex (pa_cons (pv 0) pa_nil)) (pa_cons (ExG.pe_mk0 T.og_NothingToUndo T.i0_NothingToUndo (by rfl) T.gX_NothingToUndo) (pa_cons (ExG.pe_mkG T.og_NoHost T.iX_NoHost T.tX_NoHost (ok_NoHost_init T) (hr.mono (by decide)) T.b_NoHost_init pass0 (by rfl) T.gX_NoHost (pa_cons (pv 0) pa_nil)) (pa_cons (ExG.pe_mkG T.og_Gap T.iX_Gap T.tX_Gap (ok_Gap_init T) (hr.mono (by decide)) T.b_Gap_init pass0 (by rfl) T.gX_Gap (pa_cons (pv 0) pa_nil)) (pa_cons (ExG.pe_mkG T.og_Behind T.iX_Behind T.tX_Behind (ok_Behind_init T) (hr.mono (by decide)) T.b_Behind_init pass0 (by rfl) T.gX_Behind (pa_cons (pv 0) pa_nil)) pa_nil)))))))))
    (pss_one (ps_ret (pe_op op_cat (pv 2) (pe_lst (pa_cons (ExG.pe_mkG T.og_Forgotten T.iX_Forgotten T.tX_Forgotten (ok_Forgotten_init T) (hr.mono (by decide)) T.b_Forgotten_init pass0 (by rfl) T.gX_Forgotten (pa_cons (pv 0) pa_nil)) (pa_cons (ExG.pe_mk0 T.og_PagingOver T.i0_PagingOver (by rfl) T.gX_PagingOver) (pa_cons (ExG.pe_mkG T.og_Full T.iX_Full T.tX_Full (ok_Full_init T) (hr.mono (by decide)) T.b_Full_init pass0 (by rfl) T.gX_Full (pa_cons (pv 0) pa_nil)) (pa_cons (ExG.pe_mkG T.og_TooDeep T.iX_TooDeep T.tX_TooDeep (ok_TooDeep_init T) (hr.mono (by decide)) T.b_TooDeep_init pass0 (by rfl) T.gX_TooDeep (pa_cons (pv 0) pa_nil)) (pa_cons (ExG.pe_mkG T.og_SizeLimit T.iX_SizeLimit T.tX_SizeLimit (ok_SizeLimit_init T) (hr.mono (by decide)) T.b_SizeLimit_init pass0 (by rfl) T.gX_SizeLimit (pa_cons (pv 0) pa_nil)) pa_nil)))))))))))))))), ?_⟩
  refine ⟨fun σ' H' => ∃ (L : Addr) (as : List Addr), σ' = [some v, some w, some (.ref L)] ∧ Same H H' ∧ H' L = some (.lst (as.map V.ref)) ∧ as.length = 6 ∧ Errs H' as ((errs T v w).take 6), ?_, ?_⟩
  · have ss : Same H H := Same.refl H
    have es : Errs H [] [] := .nil
    refine ⟨v, rfl, by show 1 ≤ 1000; decide, fun a0 na0 => ⟨a0, v, rfl, upd_same, fun G0_0 k0 e0 => ⟨rfl, ?_⟩⟩⟩
    have s0 := mkS na0 k0
    have es := (es.same s0).app (.cons e0 .nil)
    have ss := ss.trans s0
    refine ⟨v, rfl, by show 1 ≤ 1000; decide, fun a1 na1 => ⟨a1, v, rfl, upd_same, fun G0_1 k1 e1 => ⟨rfl, ?_⟩⟩⟩
    have s1 := mkS na1 k1
    have es := (es.same s1).app (.cons e1 .nil)
    have ss := ss.trans s1
    refine ⟨v, rfl, by show 1 ≤ 1000; decide, fun a2 na2 => ⟨a2, v, rfl, upd_same, fun G0_2 k2 e2 => ⟨rfl, ?_⟩⟩⟩
    have s2 := mkS na2 k2
    have es := (es.same s2).app (.cons e2 .nil)
    have ss := ss.trans s2
    refine ⟨v, rfl, by show 1 ≤ 1000; decide, fun a3 na3 => ⟨a3, v, rfl, upd_same, fun G0_3 k3 e3 => ⟨rfl, ?_⟩⟩⟩
    have s3 := mkS na3 k3
    have es := (es.same s3).app (.cons e3 .nil)
    have ss := ss.trans s3
    refine ⟨v, rfl, w, rfl, by show 2 ≤ 1000; decide, fun a4 na4 => ⟨a4, v, w, rfl, upd_same, fun G0_4 k4 e4 => ⟨rfl, ?_⟩⟩⟩
    have s4 := mkS na4 k4
    have es := (es.same s4).app (.cons e4 .nil)
    have ss := ss.trans s4
    refine ⟨v, rfl, by show 1 ≤ 1000; decide, fun a5 na5 => ⟨a5, v, rfl, upd_same, fun G0_5 k5 e5 => ⟨rfl, ?_⟩⟩⟩
    have s5 := mkS na5 k5
    have es := (es.same s5).app (.cons e5 .nil)
    have ss := ss.trans s5
    refine ⟨by show 6 ≤ sizeLine; decide, fun L nL => ?_⟩
    exact ⟨L, _, rfl, ss.trans (same_upd nL), upd_same, rfl, es.same (same_upd nL)⟩
  rintro σ0 H0 ⟨L0, as0, rfl, sH, h0, l0, er0⟩
  refine ⟨fun σ' H' => ∃ (L : Addr) (as : List Addr), σ' = [some v, some w, some (.ref L)] ∧ Same H H' ∧ H' L = some (.lst (as.map V.ref)) ∧ as.length = 12 ∧ Errs H' as ((errs T v w).take 12), ?_, ?_⟩
  · refine ⟨.ref L0, rfl, ?_⟩
    have ss : Same H0 H0 := Same.refl H0
    have es : Errs H0 [] [] := .nil
    refine ⟨v, rfl, by show 1 ≤ 1000; decide, fun a0 na0 => ⟨a0, v, rfl, upd_same, fun G1_0 k0 e0 => ⟨rfl, ?_⟩⟩⟩
    have s0 := mkS na0 k0
    have es := (es.same s0).app (.cons e0 .nil)
    have ss := ss.trans s0
    refine ⟨v, rfl, by show 1 ≤ 1000; decide, fun a1 na1 => ⟨a1, v, rfl, upd_same, fun G1_1 k1 e1 => ⟨rfl, ?_⟩⟩⟩
    have s1 := mkS na1 k1
    have es := (es.same s1).app (.cons e1 .nil)
    have ss := ss.trans s1
    refine ⟨v, rfl, by show 1 ≤ 1000; decide, fun a2 na2 => ⟨a2, v, rfl, upd_same, fun G1_2 k2 e2 => ⟨rfl, ?_⟩⟩⟩
    have s2 := mkS na2 k2
    have es := (es.same s2).app (.cons e2 .nil)
    have ss := ss.trans s2
    refine ⟨v, rfl, by show 1 ≤ 1000; decide, fun a3 na3 => ⟨a3, v, rfl, upd_same, fun G1_3 k3 e3 => ⟨rfl, ?_⟩⟩⟩
    have s3 := mkS na3 k3
    have es := (es.same s3).app (.cons e3 .nil)
    have ss := ss.trans s3
    refine ⟨v, rfl, by show 1 ≤ 1000; decide, fun a4 na4 => ⟨a4, v, rfl, upd_same, fun G1_4 k4 e4 => ⟨rfl, ?_⟩⟩⟩
    have s4 := mkS na4 k4
    have es := (es.same s4).app (.cons e4 .nil)
    have ss := ss.trans s4
    refine ⟨v, rfl, by show 1 ≤ 1000; decide, fun a5 na5 => ⟨a5, v, rfl, upd_same, fun G1_5 k5 e5 => ⟨rfl, ?_⟩⟩⟩
    have s5 := mkS na5 k5
    have es := (es.same s5).app (.cons e5 .nil)
    have ss := ss.trans s5
    refine ⟨by show 6 ≤ sizeLine; decide, fun L nL => ⟨L0, L, _, _, rfl, rfl, same_upd nL _ _ (ss _ _ h0), upd_same, ?_, fun R nR => ?_⟩⟩
    · rw [List.length_map, l0]
      show 6 + 6 ≤ sizeLine
      decide
    have sE := ss.trans ((same_upd nL).trans (same_upd (o := HO.lst (List.map V.ref as0 ++ [V.ref a0, V.ref a1, V.ref a2, V.ref a3, V.ref a4, V.ref a5])) nR))
    have eE := (er0.same sE).app (es.same ((same_upd nL).trans (same_upd (o := HO.lst (List.map V.ref as0 ++ [V.ref a0, V.ref a1, V.ref a2, V.ref a3, V.ref a4, V.ref a5])) nR)))
    exact ⟨R, _, rfl, sH.trans sE, by rw [upd_same, List.map_append] <;> rfl, by rw [List.length_append, l0]; rfl, eE⟩
  rintro σ1 H1 ⟨L0, as0, rfl, sH, h0, l0, er0⟩
  refine ⟨fun σ' H' => ∃ (L : Addr) (as : List Addr), σ' = [some v, some w, some (.ref L)] ∧ Same H H' ∧ H' L = some (.lst (as.map V.ref)) ∧ as.length = 17 ∧ Errs H' as ((errs T v w).take 17), ?_, ?_⟩
  · refine ⟨.ref L0, rfl, ?_⟩
    have ss : Same H1 H1 := Same.refl H1
    have es : Errs H1 [] [] := .nil
    refine ⟨v, rfl, w, rfl, by show 2 ≤ 1000; decide, fun a0 na0 => ⟨a0, v, w, rfl, upd_same, fun G2_0 k0 e0 => ⟨rfl, ?_⟩⟩⟩
    have s0 := mkS na0 k0
    have es := (es.same s0).app (.cons e0 .nil)
    have ss := ss.trans s0
    refine ⟨v, rfl, by show 1 ≤ 1000; decide, fun a1 na1 => ⟨a1, v, rfl, upd_same, fun G2_1 k1 e1 => ⟨rfl, ?_⟩⟩⟩
    have s1 := mkS na1 k1
    have es := (es.same s1).app (.cons e1 .nil)
    have ss := ss.trans s1
    refine ⟨v, rfl, by show 1 ≤ 1000; decide, fun a2 na2 => ⟨a2, v, rfl, upd_same, fun G2_2 k2 e2 => ⟨rfl, ?_⟩⟩⟩
    have s2 := mkS na2 k2
    have es := (es.same s2).app (.cons e2 .nil)
    have ss := ss.trans s2
    refine ⟨v, rfl, by show 1 ≤ 1000; decide, fun a3 na3 => ⟨a3, v, rfl, upd_same, fun G2_3 k3 e3 => ⟨rfl, ?_⟩⟩⟩
    have s3 := mkS na3 k3
    have es := (es.same s3).app (.cons e3 .nil)
    have ss := ss.trans s3
    refine fun a4 na4 => ?_
    have s4 := same_upd (o := exo a4 T.X_BadClasses none) na4
    have e4 : Err (upd G2_3 a4 (exo a4 T.X_BadClasses none)) a4 T.X_BadClasses [] := .inl ⟨rfl, upd_same⟩
    obtain ⟨G2_4, eH4⟩ : ∃ z, z = upd G2_3 a4 (exo a4 T.X_BadClasses none) := ⟨_, rfl⟩
    rw [← eH4] at s4 e4 ⊢
    clear eH4
    have es := (es.same s4).app (.cons e4 .nil)
    have ss := ss.trans s4
    refine ⟨by show 5 ≤ sizeLine; decide, fun L nL => ⟨L0, L, _, _, rfl, rfl, same_upd nL _ _ (ss _ _ h0), upd_same, ?_, fun R nR => ?_⟩⟩
    · rw [List.length_map, l0]
      show 12 + 5 ≤ sizeLine
      decide
    have sE := ss.trans ((same_upd nL).trans (same_upd (o := HO.lst (List.map V.ref as0 ++ [V.ref a0, V.ref a1, V.ref a2, V.ref a3, V.ref a4])) nR))
    have eE := (er0.same sE).app (es.same ((same_upd nL).trans (same_upd (o := HO.lst (List.map V.ref as0 ++ [V.ref a0, V.ref a1, V.ref a2, V.ref a3, V.ref a4])) nR)))
    exact ⟨R, _, rfl, sH.trans sE, by rw [upd_same, List.map_append] <;> rfl, by rw [List.length_append, l0]; rfl, eE⟩
  rintro σ2 H2 ⟨L0, as0, rfl, sH, h0, l0, er0⟩
  refine ⟨fun σ' H' => ∃ (L : Addr) (as : List Addr), σ' = [some v, some w, some (.ref L)] ∧ Same H H' ∧ H' L = some (.lst (as.map V.ref)) ∧ as.length = 22 ∧ Errs H' as ((errs T v w).take 22), ?_, ?_⟩
  · refine ⟨.ref L0, rfl, ?_⟩
    have ss : Same H2 H2 := Same.refl H2
    have es : Errs H2 [] [] := .nil
    refine ⟨v, rfl, by show 1 ≤ 1000; decide, fun a0 na0 => ⟨a0, v, rfl, upd_same, fun G3_0 k0 e0 => ⟨rfl, ?_⟩⟩⟩
    have s0 := mkS na0 k0
    have es := (es.same s0).app (.cons e0 .nil)
    have ss := ss.trans s0
    refine ⟨v, rfl, by show 1 ≤ 1000; decide, fun a1 na1 => ⟨a1, v, rfl, upd_same, fun G3_1 k1 e1 => ⟨rfl, ?_⟩⟩⟩
    have s1 := mkS na1 k1
    have es := (es.same s1).app (.cons e1 .nil)
    have ss := ss.trans s1
    refine ⟨v, rfl, by show 1 ≤ 1000; decide, fun a2 na2 => ⟨a2, v, rfl, upd_same, fun G3_2 k2 e2 => ⟨rfl, ?_⟩⟩⟩
    have s2 := mkS na2 k2
    have es := (es.same s2).app (.cons e2 .nil)
    have ss := ss.trans s2
    refine ⟨v, rfl, w, rfl, by show 2 ≤ 1000; decide, fun a3 na3 => ⟨a3, v, w, rfl, upd_same, fun G3_3 k3 e3 => ⟨rfl, ?_⟩⟩⟩
    have s3 := mkS na3 k3
    have es := (es.same s3).app (.cons e3 .nil)
    have ss := ss.trans s3
    refine ⟨v, rfl, by show 1 ≤ 1000; decide, fun a4 na4 => ⟨a4, v, rfl, upd_same, fun G3_4 k4 e4 => ⟨rfl, ?_⟩⟩⟩
    have s4 := mkS na4 k4
    have es := (es.same s4).app (.cons e4 .nil)
    have ss := ss.trans s4
    refine ⟨by show 5 ≤ sizeLine; decide, fun L nL => ⟨L0, L, _, _, rfl, rfl, same_upd nL _ _ (ss _ _ h0), upd_same, ?_, fun R nR => ?_⟩⟩
    · rw [List.length_map, l0]
      show 17 + 5 ≤ sizeLine
      decide
    have sE := ss.trans ((same_upd nL).trans (same_upd (o := HO.lst (List.map V.ref as0 ++ [V.ref a0, V.ref a1, V.ref a2, V.ref a3, V.ref a4])) nR))
    have eE := (er0.same sE).app (es.same ((same_upd nL).trans (same_upd (o := HO.lst (List.map V.ref as0 ++ [V.ref a0, V.ref a1, V.ref a2, V.ref a3, V.ref a4])) nR)))
    exact ⟨R, _, rfl, sH.trans sE, by rw [upd_same, List.map_append] <;> rfl, by rw [List.length_append, l0]; rfl, eE⟩
  rintro σ3 H3 ⟨L0, as0, rfl, sH, h0, l0, er0⟩
  refine ⟨fun σ' H' => ∃ (L : Addr) (as : List Addr), σ' = [some v, some w, some (.ref L)] ∧ Same H H' ∧ H' L = some (.lst (as.map V.ref)) ∧ as.length = 27 ∧ Errs H' as ((errs T v w).take 27), ?_, ?_⟩
  · refine ⟨.ref L0, rfl, ?_⟩
    have ss : Same H3 H3 := Same.refl H3
    have es : Errs H3 [] [] := .nil
    refine ⟨v, rfl, by show 1 ≤ 1000; decide, fun a0 na0 => ⟨a0, v, rfl, upd_same, fun G4_0 k0 e0 => ⟨rfl, ?_⟩⟩⟩
    have s0 := mkS na0 k0
    have es := (es.same s0).app (.cons e0 .nil)
    have ss := ss.trans s0
    refine ⟨v, rfl, w, rfl, by show 2 ≤ 1000; decide, fun a1 na1 => ⟨a1, v, w, rfl, upd_same, fun G4_1 k1 e1 => ⟨rfl, ?_⟩⟩⟩
    have s1 := mkS na1 k1
    have es := (es.same s1).app (.cons e1 .nil)
    have ss := ss.trans s1
    refine ⟨v, rfl, by show 1 ≤ 1000; decide, fun a2 na2 => ⟨a2, v, rfl, upd_same, fun G4_2 k2 e2 => ⟨rfl, ?_⟩⟩⟩
    have s2 := mkS na2 k2
    have es := (es.same s2).app (.cons e2 .nil)
    have ss := ss.trans s2
    refine ⟨v, rfl, by show 1 ≤ 1000; decide, fun a3 na3 => ⟨a3, v, rfl, upd_same, fun G4_3 k3 e3 => ⟨rfl, ?_⟩⟩⟩
    have s3 := mkS na3 k3
    have es := (es.same s3).app (.cons e3 .nil)
    have ss := ss.trans s3
    refine ⟨v, rfl, w, rfl, by show 2 ≤ 1000; decide, fun a4 na4 => ⟨a4, v, w, rfl, upd_same, fun G4_4 k4 e4 => ⟨rfl, ?_⟩⟩⟩
    have s4 := mkS na4 k4
    have es := (es.same s4).app (.cons e4 .nil)
    have ss := ss.trans s4
    refine ⟨by show 5 ≤ sizeLine; decide, fun L nL => ⟨L0, L, _, _, rfl, rfl, same_upd nL _ _ (ss _ _ h0), upd_same, ?_, fun R nR => ?_⟩⟩
    · rw [List.length_map, l0]
      show 22 + 5 ≤ sizeLine
      decide
    have sE := ss.trans ((same_upd nL).trans (same_upd (o := HO.lst (List.map V.ref as0 ++ [V.ref a0, V.ref a1, V.ref a2, V.ref a3, V.ref a4])) nR))
    have eE := (er0.same sE).app (es.same ((same_upd nL).trans (same_upd (o := HO.lst (List.map V.ref as0 ++ [V.ref a0, V.ref a1, V.ref a2, V.ref a3, V.ref a4])) nR)))
    exact ⟨R, _, rfl, sH.trans sE, by rw [upd_same, List.map_append] <;> rfl, by rw [List.length_append, l0]; rfl, eE⟩
  rintro σ4 H4 ⟨L0, as0, rfl, sH, h0, l0, er0⟩
  refine ⟨fun σ' H' => ∃ (L : Addr) (as : List Addr), σ' = [some v, some w, some (.ref L)] ∧ Same H H' ∧ H' L = some (.lst (as.map V.ref)) ∧ as.length = 33 ∧ Errs H' as ((errs T v w).take 33), ?_, ?_⟩
  · refine ⟨.ref L0, rfl, ?_⟩
    have ss : Same H4 H4 := Same.refl H4
    have es : Errs H4 [] [] := .nil
    refine ⟨v, rfl, by show 1 ≤ 1000; decide, fun a0 na0 => ⟨a0, v, rfl, upd_same, fun G5_0 k0 e0 => ⟨rfl, ?_⟩⟩⟩
    have s0 := mkS na0 k0
    have es := (es.same s0).app (.cons e0 .nil)
    have ss := ss.trans s0
    refine ⟨v, rfl, by show 1 ≤ 1000; decide, fun a1 na1 => ⟨a1, v, rfl, upd_same, fun G5_1 k1 e1 => ⟨rfl, ?_⟩⟩⟩
    have s1 := mkS na1 k1
    have es := (es.same s1).app (.cons e1 .nil)
    have ss := ss.trans s1
    refine ⟨v, rfl, by show 1 ≤ 1000; decide, fun a2 na2 => ⟨a2, v, rfl, upd_same, fun G5_2 k2 e2 => ⟨rfl, ?_⟩⟩⟩
    have s2 := mkS na2 k2
    have es := (es.same s2).app (.cons e2 .nil)
    have ss := ss.trans s2
    refine ⟨v, rfl, by show 1 ≤ 1000; decide, fun a3 na3 => ⟨a3, v, rfl, upd_same, fun G5_3 k3 e3 => ⟨rfl, ?_⟩⟩⟩
    have s3 := mkS na3 k3
    have es := (es.same s3).app (.cons e3 .nil)
    have ss := ss.trans s3
    refine ⟨v, rfl, w, rfl, by show 2 ≤ 1000; decide, fun a4 na4 => ⟨a4, v, w, rfl, upd_same, fun G5_4 k4 e4 => ⟨rfl, ?_⟩⟩⟩
    have s4 := mkS na4 k4
    have es := (es.same s4).app (.cons e4 .nil)
    have ss := ss.trans s4
    refine ⟨v, rfl, by show 1 ≤ 1000; decide, fun a5 na5 => ⟨a5, v, rfl, upd_same, fun G5_5 k5 e5 => ⟨rfl, ?_⟩⟩⟩
    have s5 := mkS na5 k5
    have es := (es.same s5).app (.cons e5 .nil)
    have ss := ss.trans s5
    refine ⟨by show 6 ≤ sizeLine; decide, fun L nL => ⟨L0, L, _, _, rfl, rfl, same_upd nL _ _ (ss _ _ h0), upd_same, ?_, fun R nR => ?_⟩⟩
    · rw [List.length_map, l0]
      show 27 + 6 ≤ sizeLine
      decide
    have sE := ss.trans ((same_upd nL).trans (same_upd (o := HO.lst (List.map V.ref as0 ++ [V.ref a0, V.ref a1, V.ref a2, V.ref a3, V.ref a4, V.ref a5])) nR))
    have eE := (er0.same sE).app (es.same ((same_upd nL).trans (same_upd (o := HO.lst (List.map V.ref as0 ++ [V.ref a0, V.ref a1, V.ref a2, V.ref a3, V.ref a4, V.ref a5])) nR)))
    exact ⟨R, _, rfl, sH.trans sE, by rw [upd_same, List.map_append] <;> rfl, by rw [List.length_append, l0]; rfl, eE⟩
  rintro σ5 H5 ⟨L0, as0, rfl, sH, h0, l0, er0⟩
  refine ⟨fun σ' H' => ∃ (L : Addr) (as : List Addr), σ' = [some v, some w, some (.ref L)] ∧ Same H H' ∧ H' L = some (.lst (as.map V.ref)) ∧ as.length = 39 ∧ Errs H' as ((errs T v w).take 39), ?_, ?_⟩
  · refine ⟨.ref L0, rfl, ?_⟩
    have ss : Same H5 H5 := Same.refl H5
    have es : Errs H5 [] [] := .nil
    refine ⟨v, rfl, by show 1 ≤ 1000; decide, fun a0 na0 => ⟨a0, v, rfl, upd_same, fun G6_0 k0 e0 => ⟨rfl, ?_⟩⟩⟩
    have s0 := mkS na0 k0
    have es := (es.same s0).app (.cons e0 .nil)
    have ss := ss.trans s0
    refine ⟨v, rfl, by show 1 ≤ 1000; decide, fun a1 na1 => ⟨a1, v, rfl, upd_same, fun G6_1 k1 e1 => ⟨rfl, ?_⟩⟩⟩
    have s1 := mkS na1 k1
    have es := (es.same s1).app (.cons e1 .nil)
    have ss := ss.trans s1
    refine fun a2 na2 => ?_
    have s2 := same_upd (o := exo a2 T.X_NothingToUndo none) na2
    have e2 : Err (upd G6_1 a2 (exo a2 T.X_NothingToUndo none)) a2 T.X_NothingToUndo [] := .inl ⟨rfl, upd_same⟩
    obtain ⟨G6_2, eH2⟩ : ∃ z, z = upd G6_1 a2 (exo a2 T.X_NothingToUndo none) := ⟨_, rfl⟩
    rw [← eH2] at s2 e2 ⊢
    clear eH2
    have es := (es.same s2).app (.cons e2 .nil)
    have ss := ss.trans s2
    refine ⟨v, rfl, by show 1 ≤ 1000; decide, fun a3 na3 => ⟨a3, v, rfl, upd_same, fun G6_3 k3 e3 => ⟨rfl, ?_⟩⟩⟩
    have s3 := mkS na3 k3
    have es := (es.same s3).app (.cons e3 .nil)
    have ss := ss.trans s3
    refine ⟨v, rfl, by show 1 ≤ 1000; decide, fun a4 na4 => ⟨a4, v, rfl, upd_same, fun G6_4 k4 e4 => ⟨rfl, ?_⟩⟩⟩
    have s4 := mkS na4 k4
    have es := (es.same s4).app (.cons e4 .nil)
    have ss := ss.trans s4
    refine ⟨v, rfl, by show 1 ≤ 1000; decide, fun a5 na5 => ⟨a5, v, rfl, upd_same, fun G6_5 k5 e5 => ⟨rfl, ?_⟩⟩⟩
    have s5 := mkS na5 k5
    have es := (es.same s5).app (.cons e5 .nil)
    have ss := ss.trans s5
    refine ⟨by show 6 ≤ sizeLine; decide, fun L nL => ⟨L0, L, _, _, rfl, rfl, same_upd nL _ _ (ss _ _ h0), upd_same, ?_, fun R nR => ?_⟩⟩
    · rw [List.length_map, l0]
      show 33 + 6 ≤ sizeLine
      decide
    have sE := ss.trans ((same_upd nL).trans (same_upd (o := HO.lst (List.map V.ref as0 ++ [V.ref a0, V.ref a1, V.ref a2, V.ref a3, V.ref a4, V.ref a5])) nR))
    have eE := (er0.same sE).app (es.same ((same_upd nL).trans (same_upd (o := HO.lst (List.map V.ref as0 ++ [V.ref a0, V.ref a1, V.ref a2, V.ref a3, V.ref a4, V.ref a5])) nR)))
    exact ⟨R, _, rfl, sH.trans sE, by rw [upd_same, List.map_append] <;> rfl, by rw [List.length_append, l0]; rfl, eE⟩
  rintro σ6 H6 ⟨L0, as0, rfl, sH, h0, l0, er0⟩
  refine ⟨.ref L0, rfl, ?_⟩
  have ss : Same H6 H6 := Same.refl H6
  have es : Errs H6 [] [] := .nil
  refine ⟨v, rfl, by show 1 ≤ 1000; decide, fun a0 na0 => ⟨a0, v, rfl, upd_same, fun G7_0 k0 e0 => ⟨rfl, ?_⟩⟩⟩
  have s0 := mkS na0 k0
  have es := (es.same s0).app (.cons e0 .nil)
  have ss := ss.trans s0
  refine fun a1 na1 => ?_
  have s1 := same_upd (o := exo a1 T.X_PagingOver none) na1
  have e1 : Err (upd G7_0 a1 (exo a1 T.X_PagingOver none)) a1 T.X_PagingOver [] := .inl ⟨rfl, upd_same⟩
  obtain ⟨G7_1, eH1⟩ : ∃ z, z = upd G7_0 a1 (exo a1 T.X_PagingOver none) := ⟨_, rfl⟩
  rw [← eH1] at s1 e1 ⊢
  clear eH1
  have es := (es.same s1).app (.cons e1 .nil)
  have ss := ss.trans s1
  refine ⟨v, rfl, by show 1 ≤ 1000; decide, fun a2 na2 => ⟨a2, v, rfl, upd_same, fun G7_2 k2 e2 => ⟨rfl, ?_⟩⟩⟩
  have s2 := mkS na2 k2
  have es := (es.same s2).app (.cons e2 .nil)
  have ss := ss.trans s2
  refine ⟨v, rfl, by show 1 ≤ 1000; decide, fun a3 na3 => ⟨a3, v, rfl, upd_same, fun G7_3 k3 e3 => ⟨rfl, ?_⟩⟩⟩
  have s3 := mkS na3 k3
  have es := (es.same s3).app (.cons e3 .nil)
  have ss := ss.trans s3
  refine ⟨v, rfl, by show 1 ≤ 1000; decide, fun a4 na4 => ⟨a4, v, rfl, upd_same, fun G7_4 k4 e4 => ⟨rfl, ?_⟩⟩⟩
  have s4 := mkS na4 k4
  have es := (es.same s4).app (.cons e4 .nil)
  have ss := ss.trans s4
  refine ⟨by show 5 ≤ sizeLine; decide, fun L nL => ⟨L0, L, _, _, rfl, rfl, same_upd nL _ _ (ss _ _ h0), upd_same, ?_, fun R nR => ?_⟩⟩
  · rw [List.length_map, l0]
    show 39 + 5 ≤ sizeLine
    decide
  have sE := ss.trans ((same_upd nL).trans (same_upd (o := HO.lst (List.map V.ref as0 ++ [V.ref a0, V.ref a1, V.ref a2, V.ref a3, V.ref a4])) nR))
  have eE := (er0.same sE).app (es.same ((same_upd nL).trans (same_upd (o := HO.lst (List.map V.ref as0 ++ [V.ref a0, V.ref a1, V.ref a2, V.ref a3, V.ref a4])) nR)))
  exact q _ R _ (sH.trans sE) (by rw [upd_same, List.map_append] <;> rfl) eE
theorem ok_q_named (T : Txt K mg) : FnOk P w K mg base CX0 3 T.f_q_named T.d_q_named ["_law_one", "_law_two"] (spMade (errs T)) := by
  refine T.F_q_named.ok sc_q_named (fun vs H Q E h => by obtain ⟨v, w, rfl, _⟩ := h; rfl) (fun cdv A outer s H vs Q E hr h => ?_)
  obtain ⟨v, w, rfl, q⟩ := h
  refine ⟨_, (Evl.pss_cut (ps_set (i := 2) sc_q_named.nd rfl (.inl rfl) (pe_lst (pa_cons (ExG.pe_mkK T.og_BadName T.iX_BadName T.tX_BadName (ok_BadName_init T) (hr.mono (by decide)) (Kw0.kbm1 (k1 := "given") T.F_BadName_init (fun _ _ _ _ _ _ _ _ => rfl)) pass0 (by rfl) T.gX_BadName (pk_cons (pv 0) pk_nil)) (pa_cons (ExG.pe_mkK T.og_BadFilter T.iX_BadFilter T.tX_BadFilter (ok_BadFilter_init T) (hr.mono (by decide)) (Kw0.kbm1 (k1 := "place") T.F_BadFilter_init (fun _ _ _ _ _ _ _ _ => rfl)) pass0 (by rfl) T.gX_BadFilter (pk_cons (pv 0) pk_nil)) (pa_cons (ExG.pe_mkK T.og_BadScope T.iX_BadScope T.tX_BadScope (ok_BadScope_init T) (hr.mono (by decide)) (Kw0.kbm1 (k1 := "given") T.F_BadScope_init (fun _ _ _ _ _ _ _ _ => rfl)) pass0 (by rfl) T.gX_BadScope (pk_cons (pv 0) pk_nil)) (pa_cons (ExG.pe_mkK T.og_BadNumber T.iX_BadNumber T.tX_BadNumber (ok_BadNumber_init T) (hr.mono (by decide)) (Kw0.kbm1 (k1 := "given") T.F_BadNumber_init (fun _ _ _ _ _ _ _ _ => rfl)) pass0 (by rfl) T.gX_BadNumber (pk_cons (pv 0) pk_nil)) pa_nil))))))
    (Evl.pss_cut (ps_set (i := 2) sc_q_named.nd rfl (.inl rfl) (pe_op op_cat (pv 2) (pe_lst (pa_cons (ExG.pe_mkK T.og_BadSchema T.iX_BadSchema T.tX_BadSchema (ok_BadSchema_init T) (hr.mono (by decide)) (ExG.kbm2s (k1 := "place") (k2 := "part") T.F_BadSchema_init (fun _ _ _ _ _ _ _ _ _ => rfl)) pass0 (by rfl) T.gX_BadSchema (pk_cons (pv 1) (pk_cons (pv 0) pk_nil))) (pa_cons (ExG.pe_mkK T.og_BadEntry T.iX_BadEntry T.tX_BadEntry (ok_BadEntry_init T) (hr.mono (by decide)) (Kw0.kbm1 (k1 := "given") T.F_BadEntry_init (fun _ _ _ _ _ _ _ _ => rfl)) pass0 (by rfl) T.gX_BadEntry (pk_cons (pv 0) pk_nil)) (pa_cons (ExG.pe_mkK T.og_BadDeed T.iX_BadDeed T.tX_BadDeed (ok_BadDeed_init T) (hr.mono (by decide)) (Kw0.kbm1 (k1 := "place") T.F_BadDeed_init (fun _ _ _ _ _ _ _ _ => rfl)) pass0 (by rfl) T.gX_BadDeed (pk_cons (pv 0) pk_nil)) (pa_cons (ExG.pe_mkK T.og_BadChange T.iX_BadChange T.tX_BadChange (ok_BadChange_init T) (hr.mono (by decide)) (Kw0.kbm1 (k1 := "place") T.F_BadChange_init (fun _ _ _ _ _ _ _ _ => rfl)) pass0 (by rfl) T.gX_BadChange (pk_cons (pv 0) pk_nil)) pa_nil)))))))
    (Evl.pss_cut (ps_set (i := 2) sc_q_named.nd rfl (.inl rfl) (pe_op op_cat (pv 2) (pe_lst (pa_cons (ExG.pe_mkK T.og_BadVector T.iX_BadVector T.tX_BadVector (ok_BadVector_init T) (hr.mono (by decide)) (Kw0.kbm1 (k1 := "given") T.F_BadVector_init (fun _ _ _ _ _ _ _ _ => rfl)) pass0 (by rfl) T.gX_BadVector (pk_cons (pv 0) pk_nil)) (pa_cons (ExG.pe_mkK T.og_BadIndex T.iX_BadIndex T.tX_BadIndex (ok_BadIndex_init T) (hr.mono (by decide)) (Kw0.kbm1 (k1 := "given") T.F_BadIndex_init (fun _ _ _ _ _ _ _ _ => rfl)) pass0 (by rfl) T.gX_BadIndex (pk_cons (pv 0) pk_nil)) (pa_cons (ExG.pe_mkK T.og_BadText T.iX_BadText T.tX_BadText (ok_BadText_init T) (hr.mono (by decide)) (Kw0.kbm1 (k1 := "line") T.F_BadText_init (fun _ _ _ _ _ _ _ _ => rfl)) pass0 (by rfl) T.gX_BadText (pk_cons (pv 0) pk_nil)) (pa_cons (ExG.pe_mkK T.og_BadHost T.iX_BadHost T.tX_BadHost (ok_BadHost_init T) (hr.mono (by decide)) (Kw0.kbm1 (k1 := "given") T.F_BadHost_init (fun _ _ _ _ _ _ _ _ => rfl)) pass0 (by rfl) T.gX_BadHost (pk_cons (pv 0) pk_nil)) pa_nil)))))))
    (Evl.pss_cut (ps_set (i := 2) sc_q_named.nd rfl (.inl rfl) (pe_op op_cat (pv 2) (pe_lst (pa_cons (ExG.pe_mkK T.og_BadValue T.iX_BadValue T.tX_BadValue (ok_BadValue_init T) (hr.mono (by decide)) (ExG.kbm2s (k1 := "item") (k2 := "attribute") T.F_BadValue_init (fun _ _ _ _ _ _ _ _ _ => rfl)) pass0 (by rfl) T.gX_BadValue (pk_cons (pv 1) (pk_cons (pv 0) pk_nil))) (pa_cons (ExG.pe_mkK T.og_UnknownAttribute T.iX_UnknownAttribute T.tX_UnknownAttribute (ok_UnknownAttribute_init T) (hr.mono (by decide)) (Kw0.kbm1 (k1 := "attribute") T.F_UnknownAttribute_init (fun _ _ _ _ _ _ _ _ => rfl)) pass0 (by rfl) T.gX_UnknownAttribute (pk_cons (pv 0) pk_nil)) (pa_cons (ExG.pe_mkK T.og_MirrorGiven T.iX_MirrorGiven T.tX_MirrorGiven (ok_MirrorGiven_init T) (hr.mono (by decide)) (Kw0.kbm1 (k1 := "attribute") T.F_MirrorGiven_init (fun _ _ _ _ _ _ _ _ => rfl)) pass0 (by rfl) T.gX_MirrorGiven (pk_cons (pv 0) pk_nil)) pa_nil))))))
    (Evl.pss_cut (ps_set (i := 2) sc_q_named.nd rfl (.inl rfl) (pe_op op_cat (pv 2) (pe_lst (pa_cons (ExG.pe_mkK T.og_UnknownClass T.iX_UnknownClass T.tX_UnknownClass (ok_UnknownClass_init T) (hr.mono (by decide)) (Kw0.kbm1 (k1 := "given") T.F_UnknownClass_init (fun _ _ _ _ _ _ _ _ => rfl)) pass0 (by rfl) T.gX_UnknownClass (pk_cons (pv 0) pk_nil)) (pa_cons (ExG.pe_mk0 T.og_BadClasses T.i0_BadClasses (by rfl) T.gX_BadClasses) (pa_cons (ExG.pe_mkK T.og_NotAllowed T.iX_NotAllowed T.tX_NotAllowed (ok_NotAllowed_init T) (hr.mono (by decide)) (Kw0.kbm1 (k1 := "attribute") T.F_NotAllowed_init (fun _ _ _ _ _ _ _ _ => rfl)) pass0 (by rfl) T.gX_NotAllowed (pk_cons (pv 0) pk_nil)) (pa_cons (ExG.pe_mkK T.og_Missing T.iX_Missing T.tX_Missing (ok_Missing_init T) (hr.mono (by decide)) (Kw0.kbm1 (k1 := "attribute") T.F_Missing_init (fun _ _ _ _ _ _ _ _ => rfl)) pass0 (by rfl) T.gX_Missing (pk_cons (pv 0) pk_nil)) pa_nil)))))))
    (Evl.pss_cut (ps_set (i := 2) sc_q_named.nd rfl (.inl rfl) (pe_op op_cat (pv 2) (pe_lst (pa_cons (ExG.pe_mkK T.og_TooManyValues T.iX_TooManyValues T.tX_TooManyValues (ok_TooManyValues_init T) (hr.mono (by decide)) (Kw0.kbm1 (k1 := "attribute") T.F_TooManyValues_init (fun _ _ _ _ _ _ _ _ => rfl)) pass0 (by rfl) T.gX_TooManyValues (pk_cons (pv 0) pk_nil)) (pa_cons (ExG.pe_mkK T.og_ValueTaken T.iX_ValueTaken T.tX_ValueTaken (ok_ValueTaken_init T) (hr.mono (by decide)) (ExG.kbm2s (k1 := "item") (k2 := "attribute") T.F_ValueTaken_init (fun _ _ _ _ _ _ _ _ _ => rfl)) pass0 (by rfl) T.gX_ValueTaken (pk_cons (pv 1) (pk_cons (pv 0) pk_nil))) (pa_cons (ExG.pe_mkK T.og_NotNamed T.iX_NotNamed T.tX_NotNamed (ok_NotNamed_init T) (hr.mono (by decide)) (Kw0.kbm1 (k1 := "attribute") T.F_NotNamed_init (fun _ _ _ _ _ _ _ _ => rfl)) pass0 (by rfl) T.gX_NotNamed (pk_cons (pv 0) pk_nil)) pa_nil))))))
    (Evl.pss_cut (ps_set (i := 2) sc_q_named.nd rfl (.inl rfl) (pe_op op_cat (pv 2) (pe_lst (pa_cons (ExG.pe_mkK T.og_BadPlace T.iX_BadPlace T.tX_BadPlace (ok_BadPlace_init T) (hr.mono (by decide)) (Kw0.kbm1 (k1 := "given") T.F_BadPlace_init (fun _ _ _ _ _ _ _ _ => rfl)) pass0 (by rfl) T.gX_BadPlace (pk_cons (pv 0) pk_nil)) (pa_cons (ExG.pe_mkK T.og_NoTarget T.iX_NoTarget T.tX_NoTarget (ok_NoTarget_init T) (hr.mono (by decide)) (ExG.kbm2s (k1 := "item") (k2 := "attribute") T.F_NoTarget_init (fun _ _ _ _ _ _ _ _ _ => rfl)) pass0 (by rfl) T.gX_NoTarget (pk_cons (pv 1) (pk_cons (pv 0) pk_nil))) (pa_cons (ExG.pe_mkK T.og_NotInteger T.iX_NotInteger T.tX_NotInteger (ok_NotInteger_init T) (hr.mono (by decide)) (Kw0.kbm1 (k1 := "attribute") T.F_NotInteger_init (fun _ _ _ _ _ _ _ _ => rfl)) pass0 (by rfl) T.gX_NotInteger (pk_cons (pv 0) pk_nil)) pa_nil))))))
    (Evl.pss_cut (ps_set (i := 2) sc_q_named.nd rfl (.inl rfl) (pe_op op_cat (pv 2) (pe_lst (pa_cons (ExG.pe_mkK T.og_NoOrder T.iX_NoOrder T.tX_NoOrder (ok_NoOrder_init T) (hr.mono (by decide)) (Kw0.kbm1 (k1 := "attribute") T.F_NoOrder_init (fun _ _ _ _ _ _ _ _ => rfl)) pass0 (by rfl) T.gX_NoOrder (pk_cons (pv 0) pk_nil)) (pa_cons (ExG.pe_mkK T.og_NoEntry T.iX_NoEntry T.tX_NoEntry (ok_NoEntry_init T) (hr.mono (by decide)) (ExG.kbm2s (k1 := "matched") (k2 := "missing") T.F_NoEntry_init (fun _ _ _ _ _ _ _ _ _ => rfl)) pass0 (by rfl) T.gX_NoEntry (pk_cons (pv 1) (pk_cons (pv 0) pk_nil))) (pa_cons (ExG.pe_mkK T.og_NameTaken T.iX_NameTaken T.tX_NameTaken (ok_NameTaken_init T) (hr.mono (by decide)) (Kw0.kbm1 (k1 := "given") T.F_NameTaken_init (fun _ _ _ _ _ _ _ _ => rfl)) pass0 (by rfl) T.gX_NameTaken (pk_cons (pv 0) pk_nil)) pa_nil))))))
    (Evl.pss_cut (ps_set (i := 2) sc_q_named.nd rfl (.inl rfl) (pe_op op_cat (pv 2) (pe_lst (pa_cons (ExG.pe_mkK T.og_HasChildren T.iX_HasChildren T.tX_HasChildren (ok_HasChildren_init T) (hr.mono (by decide)) (Kw0.kbm1 (k1 := "given") T.F_HasChildren_init (fun _ _ _ _ _ _ _ _ => rfl)) pass0 (by rfl) T.gX_HasChildren (pk_cons (pv 0) pk_nil)) (pa_cons (ExG.pe_mkK T.og_InUse T.iX_InUse T.tX_InUse (ok_InUse_init T) (hr.mono (by decide)) (Kw0.kbm1 (k1 := "holder") T.F_InUse_init (fun _ _ _ _ _ _ _ _ => rfl)) pass0 (by rfl) T.gX_InUse (pk_cons (pv 0) pk_nil)) (pa_cons (ExG.pe_mkK T.og_Inside T.iX_Inside T.tX_Inside (ok_Inside_init T) (hr.mono (by decide)) (Kw0.kbm1 (k1 := "given") T.F_Inside_init (fun _ _ _ _ _ _ _ _ => rfl)) pass0 (by rfl) T.gX_Inside (pk_cons (pv 0) pk_nil)) (pa_cons (ExG.pe_mkK T.og_NoValue T.iX_NoValue T.tX_NoValue (ok_NoValue_init T) (hr.mono (by decide)) (ExG.kbm2s (k1 := "item") (k2 := "attribute") T.F_NoValue_init (fun _ _ _ _ _ _ _ _ _ => rfl)) pass0 (by rfl) T.gX_NoValue (pk_cons (pv 1) (pk_cons (pv 0) pk_nil))) pa_nil)))))))
    (Evl.pss_cut (ps_set (i := 2) sc_q_named.nd rfl (.inl rfl) (pe_op op_cat (pv 2) (pe_lst (pa_cons (ExG.pe_mkK T.og_Referral T.iX_Referral T.tX_Referral (ok_Referral_init T) (hr.mono (by decide)) (Kw0.kbm1 (k1 := "targets") T.F_Referral_init (fun _ _ _ _ _ _ _ _ => rfl)) pass0 (by rfl) T.gX_Referral (pk_cons (pv 0) pk_nil)) (pa_cons (ExG.pe_mkK T.og_IndexTaken T.iX_IndexTaken T.tX_IndexTaken (ok_IndexTaken_init T) (hr.mono (by decide)) (Kw0.kbm1 (k1 := "given") T.F_IndexTaken_init (fun _ _ _ _ _ _ _ _ => rfl)) pass0 (by rfl) T.gX_IndexTaken (pk_cons (pv 0) pk_nil)) (pa_cons (ExG.pe_mkK T.og_NoIndex T.iX_NoIndex T.tX_NoIndex (ok_NoIndex_init T) (hr.mono (by decide)) (Kw0.kbm1 (k1 := "given") T.F_NoIndex_init (fun _ _ _ _ _ _ _ _ => rfl)) pass0 (by rfl) T.gX_NoIndex (pk_cons (pv 0) pk_nil)) (pa_cons (ExG.pe_mk0 T.og_NothingToUndo T.i0_NothingToUndo (by rfl) T.gX_NothingToUndo) pa_nil)))))))
    (Evl.pss_cut (ps_set (i := 2) sc_q_named.nd rfl (.inl rfl) (pe_op op_cat (pv 2) (pe_lst (pa_cons (ExG.pe_mkK T.og_NoHost T.iX_NoHost T.tX_NoHost (ok_NoHost_init T) (hr.mono (by decide)) (Kw0.kbm1 (k1 := "host") T.F_NoHost_init (fun _ _ _ _ _ _ _ _ => rfl)) pass0 (by rfl) T.gX_NoHost (pk_cons (pv 0) pk_nil)) (pa_cons (ExG.pe_mkK T.og_Gap T.iX_Gap T.tX_Gap (ok_Gap_init T) (hr.mono (by decide)) (Kw0.kbm1 (k1 := "host") T.F_Gap_init (fun _ _ _ _ _ _ _ _ => rfl)) pass0 (by rfl) T.gX_Gap (pk_cons (pv 0) pk_nil)) (pa_cons (ExG.pe_mkK T.og_Behind T.iX_Behind T.tX_Behind (ok_Behind_init T) (hr.mono (by decide)) (Kw0.kbm1 (k1 := "host") T.F_Behind_init (fun _ _ _ _ _ _ _ _ => rfl)) pass0 (by rfl) T.gX_Behind (pk_cons (pv 0) pk_nil)) (pa_cons (ExG.pe_mkK T.og_Forgotten T.iX_Forgotten T.tX_Forgotten (ok_Forgotten_init T) (hr.mono (by decide)) (Kw0.kbm1 (k1 := "host") T.F_Forgotten_init (fun _ _ _ _ _ _ _ _ => rfl)) pass0 (by rfl) T.gX_Forgotten (pk_cons (pv 0) pk_nil)) (pa_cons (ExG.pe_mk0 T.og_PagingOver T.i0_PagingOver (by rfl) T.gX_PagingOver) pa_nil))))))))
    (pss_one (ps_ret (pe_op op_cat (pv 2) (pe_lst (pa_cons (ExG.pe_mkK T.og_Full T.iX_Full T.tX_Full (ok_Full_init T) (hr.mono (by decide)) (Kw0.kbm1 (k1 := "limit") T.F_Full_init (fun _ _ _ _ _ _ _ _ => rfl)) pass0 (by rfl) T.gX_Full (pk_cons (pv 0) pk_nil)) (pa_cons (ExG.pe_mkK T.og_TooDeep T.iX_TooDeep T.tX_TooDeep (ok_TooDeep_init T) (hr.mono (by decide)) (Kw0.kbm1 (k1 := "limit") T.F_TooDeep_init (fun _ _ _ _ _ _ _ _ => rfl)) pass0 (by rfl) T.gX_TooDeep (pk_cons (pv 0) pk_nil)) (pa_cons (ExG.pe_mkK T.og_SizeLimit T.iX_SizeLimit T.tX_SizeLimit (ok_SizeLimit_init T) (hr.mono (by decide)) (Kw0.kbm1 (k1 := "limit") T.F_SizeLimit_init (fun _ _ _ _ _ _ _ _ => rfl)) pass0 (by rfl) T.gX_SizeLimit (pk_cons (pv 0) pk_nil)) pa_nil)))))))))))))))))), ?_⟩
  refine ⟨fun σ' H' => ∃ (L : Addr) (as : List Addr), σ' = [some v, some w, some (.ref L)] ∧ Same H H' ∧ H' L = some (.lst (as.map V.ref)) ∧ as.length = 4 ∧ Errs H' as ((errs T v w).take 4), ?_, ?_⟩
  · have ss : Same H H := Same.refl H
    have es : Errs H [] [] := .nil
    refine ⟨v, rfl, rfl, fun a0 na0 => ⟨a0, v, rfl, upd_same, fun G0_0 k0 e0 => ⟨rfl, ?_⟩⟩⟩
    have s0 := mkS na0 k0
    have es := (es.same s0).app (.cons e0 .nil)
    have ss := ss.trans s0
    refine ⟨v, rfl, rfl, fun a1 na1 => ⟨a1, v, rfl, upd_same, fun G0_1 k1 e1 => ⟨rfl, ?_⟩⟩⟩
    have s1 := mkS na1 k1
    have es := (es.same s1).app (.cons e1 .nil)
    have ss := ss.trans s1
    refine ⟨v, rfl, rfl, fun a2 na2 => ⟨a2, v, rfl, upd_same, fun G0_2 k2 e2 => ⟨rfl, ?_⟩⟩⟩
    have s2 := mkS na2 k2
    have es := (es.same s2).app (.cons e2 .nil)
    have ss := ss.trans s2
    refine ⟨v, rfl, rfl, fun a3 na3 => ⟨a3, v, rfl, upd_same, fun G0_3 k3 e3 => ⟨rfl, ?_⟩⟩⟩
    have s3 := mkS na3 k3
    have es := (es.same s3).app (.cons e3 .nil)
    have ss := ss.trans s3
    refine ⟨by show 4 ≤ sizeLine; decide, fun L nL => ?_⟩
    exact ⟨L, _, rfl, ss.trans (same_upd nL), upd_same, rfl, es.same (same_upd nL)⟩
  rintro σ0 H0 ⟨L0, as0, rfl, sH, h0, l0, er0⟩
  refine ⟨fun σ' H' => ∃ (L : Addr) (as : List Addr), σ' = [some v, some w, some (.ref L)] ∧ Same H H' ∧ H' L = some (.lst (as.map V.ref)) ∧ as.length = 8 ∧ Errs H' as ((errs T v w).take 8), ?_, ?_⟩
  · refine ⟨.ref L0, rfl, ?_⟩
    have ss : Same H0 H0 := Same.refl H0
    have es : Errs H0 [] [] := .nil
    refine ⟨w, rfl, v, rfl, rfl, fun a0 na0 => ⟨a0, v, w, rfl, upd_same, fun G1_0 k0 e0 => ⟨rfl, ?_⟩⟩⟩
    have s0 := mkS na0 k0
    have es := (es.same s0).app (.cons e0 .nil)
    have ss := ss.trans s0
    refine ⟨v, rfl, rfl, fun a1 na1 => ⟨a1, v, rfl, upd_same, fun G1_1 k1 e1 => ⟨rfl, ?_⟩⟩⟩
    have s1 := mkS na1 k1
    have es := (es.same s1).app (.cons e1 .nil)
    have ss := ss.trans s1
    refine ⟨v, rfl, rfl, fun a2 na2 => ⟨a2, v, rfl, upd_same, fun G1_2 k2 e2 => ⟨rfl, ?_⟩⟩⟩
    have s2 := mkS na2 k2
    have es := (es.same s2).app (.cons e2 .nil)
    have ss := ss.trans s2
    refine ⟨v, rfl, rfl, fun a3 na3 => ⟨a3, v, rfl, upd_same, fun G1_3 k3 e3 => ⟨rfl, ?_⟩⟩⟩
    have s3 := mkS na3 k3
    have es := (es.same s3).app (.cons e3 .nil)
    have ss := ss.trans s3
    refine ⟨by show 4 ≤ sizeLine; decide, fun L nL => ⟨L0, L, _, _, rfl, rfl, same_upd nL _ _ (ss _ _ h0), upd_same, ?_, fun R nR => ?_⟩⟩
    · rw [List.length_map, l0]
      show 4 + 4 ≤ sizeLine
      decide
    have sE := ss.trans ((same_upd nL).trans (same_upd (o := HO.lst (List.map V.ref as0 ++ [V.ref a0, V.ref a1, V.ref a2, V.ref a3])) nR))
    have eE := (er0.same sE).app (es.same ((same_upd nL).trans (same_upd (o := HO.lst (List.map V.ref as0 ++ [V.ref a0, V.ref a1, V.ref a2, V.ref a3])) nR)))
    exact ⟨R, _, rfl, sH.trans sE, by rw [upd_same, List.map_append] <;> rfl, by rw [List.length_append, l0]; rfl, eE⟩
  rintro σ1 H1 ⟨L0, as0, rfl, sH, h0, l0, er0⟩
  refine ⟨fun σ' H' => ∃ (L : Addr) (as : List Addr), σ' = [some v, some w, some (.ref L)] ∧ Same H H' ∧ H' L = some (.lst (as.map V.ref)) ∧ as.length = 12 ∧ Errs H' as ((errs T v w).take 12), ?_, ?_⟩
  · refine ⟨.ref L0, rfl, ?_⟩
    have ss : Same H1 H1 := Same.refl H1
    have es : Errs H1 [] [] := .nil
    refine ⟨v, rfl, rfl, fun a0 na0 => ⟨a0, v, rfl, upd_same, fun G2_0 k0 e0 => ⟨rfl, ?_⟩⟩⟩
    have s0 := mkS na0 k0
    have es := (es.same s0).app (.cons e0 .nil)
    have ss := ss.trans s0
    refine ⟨v, rfl, rfl, fun a1 na1 => ⟨a1, v, rfl, upd_same, fun G2_1 k1 e1 => ⟨rfl, ?_⟩⟩⟩
    have s1 := mkS na1 k1
    have es := (es.same s1).app (.cons e1 .nil)
    have ss := ss.trans s1
    refine ⟨v, rfl, rfl, fun a2 na2 => ⟨a2, v, rfl, upd_same, fun G2_2 k2 e2 => ⟨rfl, ?_⟩⟩⟩
    have s2 := mkS na2 k2
    have es := (es.same s2).app (.cons e2 .nil)
    have ss := ss.trans s2
    refine ⟨v, rfl, rfl, fun a3 na3 => ⟨a3, v, rfl, upd_same, fun G2_3 k3 e3 => ⟨rfl, ?_⟩⟩⟩
    have s3 := mkS na3 k3
    have es := (es.same s3).app (.cons e3 .nil)
    have ss := ss.trans s3
    refine ⟨by show 4 ≤ sizeLine; decide, fun L nL => ⟨L0, L, _, _, rfl, rfl, same_upd nL _ _ (ss _ _ h0), upd_same, ?_, fun R nR => ?_⟩⟩
    · rw [List.length_map, l0]
      show 8 + 4 ≤ sizeLine
      decide
    have sE := ss.trans ((same_upd nL).trans (same_upd (o := HO.lst (List.map V.ref as0 ++ [V.ref a0, V.ref a1, V.ref a2, V.ref a3])) nR))
    have eE := (er0.same sE).app (es.same ((same_upd nL).trans (same_upd (o := HO.lst (List.map V.ref as0 ++ [V.ref a0, V.ref a1, V.ref a2, V.ref a3])) nR)))
    exact ⟨R, _, rfl, sH.trans sE, by rw [upd_same, List.map_append] <;> rfl, by rw [List.length_append, l0]; rfl, eE⟩
  rintro σ2 H2 ⟨L0, as0, rfl, sH, h0, l0, er0⟩
  refine ⟨fun σ' H' => ∃ (L : Addr) (as : List Addr), σ' = [some v, some w, some (.ref L)] ∧ Same H H' ∧ H' L = some (.lst (as.map V.ref)) ∧ as.length = 15 ∧ Errs H' as ((errs T v w).take 15), ?_, ?_⟩
  · refine ⟨.ref L0, rfl, ?_⟩
    have ss : Same H2 H2 := Same.refl H2
    have es : Errs H2 [] [] := .nil
    refine ⟨w, rfl, v, rfl, rfl, fun a0 na0 => ⟨a0, v, w, rfl, upd_same, fun G3_0 k0 e0 => ⟨rfl, ?_⟩⟩⟩
    have s0 := mkS na0 k0
    have es := (es.same s0).app (.cons e0 .nil)
    have ss := ss.trans s0
    refine ⟨v, rfl, rfl, fun a1 na1 => ⟨a1, v, rfl, upd_same, fun G3_1 k1 e1 => ⟨rfl, ?_⟩⟩⟩
    have s1 := mkS na1 k1
    have es := (es.same s1).app (.cons e1 .nil)
    have ss := ss.trans s1
    refine ⟨v, rfl, rfl, fun a2 na2 => ⟨a2, v, rfl, upd_same, fun G3_2 k2 e2 => ⟨rfl, ?_⟩⟩⟩
    have s2 := mkS na2 k2
    have es := (es.same s2).app (.cons e2 .nil)
    have ss := ss.trans s2
    refine ⟨by show 3 ≤ sizeLine; decide, fun L nL => ⟨L0, L, _, _, rfl, rfl, same_upd nL _ _ (ss _ _ h0), upd_same, ?_, fun R nR => ?_⟩⟩
    · rw [List.length_map, l0]
      show 12 + 3 ≤ sizeLine
      decide
    have sE := ss.trans ((same_upd nL).trans (same_upd (o := HO.lst (List.map V.ref as0 ++ [V.ref a0, V.ref a1, V.ref a2])) nR))
    have eE := (er0.same sE).app (es.same ((same_upd nL).trans (same_upd (o := HO.lst (List.map V.ref as0 ++ [V.ref a0, V.ref a1, V.ref a2])) nR)))
    exact ⟨R, _, rfl, sH.trans sE, by rw [upd_same, List.map_append] <;> rfl, by rw [List.length_append, l0]; rfl, eE⟩
  rintro σ3 H3 ⟨L0, as0, rfl, sH, h0, l0, er0⟩
  refine ⟨fun σ' H' => ∃ (L : Addr) (as : List Addr), σ' = [some v, some w, some (.ref L)] ∧ Same H H' ∧ H' L = some (.lst (as.map V.ref)) ∧ as.length = 19 ∧ Errs H' as ((errs T v w).take 19), ?_, ?_⟩
  · refine ⟨.ref L0, rfl, ?_⟩
    have ss : Same H3 H3 := Same.refl H3
    have es : Errs H3 [] [] := .nil
    refine ⟨v, rfl, rfl, fun a0 na0 => ⟨a0, v, rfl, upd_same, fun G4_0 k0 e0 => ⟨rfl, ?_⟩⟩⟩
    have s0 := mkS na0 k0
    have es := (es.same s0).app (.cons e0 .nil)
    have ss := ss.trans s0
    refine fun a1 na1 => ?_
    have s1 := same_upd (o := exo a1 T.X_BadClasses none) na1
    have e1 : Err (upd G4_0 a1 (exo a1 T.X_BadClasses none)) a1 T.X_BadClasses [] := .inl ⟨rfl, upd_same⟩
    obtain ⟨G4_1, eH1⟩ : ∃ z, z = upd G4_0 a1 (exo a1 T.X_BadClasses none) := ⟨_, rfl⟩
    rw [← eH1] at s1 e1 ⊢
    clear eH1
    have es := (es.same s1).app (.cons e1 .nil)
    have ss := ss.trans s1
    refine ⟨v, rfl, rfl, fun a2 na2 => ⟨a2, v, rfl, upd_same, fun G4_2 k2 e2 => ⟨rfl, ?_⟩⟩⟩
    have s2 := mkS na2 k2
    have es := (es.same s2).app (.cons e2 .nil)
    have ss := ss.trans s2
    refine ⟨v, rfl, rfl, fun a3 na3 => ⟨a3, v, rfl, upd_same, fun G4_3 k3 e3 => ⟨rfl, ?_⟩⟩⟩
    have s3 := mkS na3 k3
    have es := (es.same s3).app (.cons e3 .nil)
    have ss := ss.trans s3
    refine ⟨by show 4 ≤ sizeLine; decide, fun L nL => ⟨L0, L, _, _, rfl, rfl, same_upd nL _ _ (ss _ _ h0), upd_same, ?_, fun R nR => ?_⟩⟩
    · rw [List.length_map, l0]
      show 15 + 4 ≤ sizeLine
      decide
    have sE := ss.trans ((same_upd nL).trans (same_upd (o := HO.lst (List.map V.ref as0 ++ [V.ref a0, V.ref a1, V.ref a2, V.ref a3])) nR))
    have eE := (er0.same sE).app (es.same ((same_upd nL).trans (same_upd (o := HO.lst (List.map V.ref as0 ++ [V.ref a0, V.ref a1, V.ref a2, V.ref a3])) nR)))
    exact ⟨R, _, rfl, sH.trans sE, by rw [upd_same, List.map_append] <;> rfl, by rw [List.length_append, l0]; rfl, eE⟩
  rintro σ4 H4 ⟨L0, as0, rfl, sH, h0, l0, er0⟩
  refine ⟨fun σ' H' => ∃ (L : Addr) (as : List Addr), σ' = [some v, some w, some (.ref L)] ∧ Same H H' ∧ H' L = some (.lst (as.map V.ref)) ∧ as.length = 22 ∧ Errs H' as ((errs T v w).take 22), ?_, ?_⟩
  · refine ⟨.ref L0, rfl, ?_⟩
    have ss : Same H4 H4 := Same.refl H4
    have es : Errs H4 [] [] := .nil
    refine ⟨v, rfl, rfl, fun a0 na0 => ⟨a0, v, rfl, upd_same, fun G5_0 k0 e0 => ⟨rfl, ?_⟩⟩⟩
    have s0 := mkS na0 k0
    have es := (es.same s0).app (.cons e0 .nil)
    have ss := ss.trans s0
    refine ⟨w, rfl, v, rfl, rfl, fun a1 na1 => ⟨a1, v, w, rfl, upd_same, fun G5_1 k1 e1 => ⟨rfl, ?_⟩⟩⟩
    have s1 := mkS na1 k1
    have es := (es.same s1).app (.cons e1 .nil)
    have ss := ss.trans s1
    refine ⟨v, rfl, rfl, fun a2 na2 => ⟨a2, v, rfl, upd_same, fun G5_2 k2 e2 => ⟨rfl, ?_⟩⟩⟩
    have s2 := mkS na2 k2
    have es := (es.same s2).app (.cons e2 .nil)
    have ss := ss.trans s2
    refine ⟨by show 3 ≤ sizeLine; decide, fun L nL => ⟨L0, L, _, _, rfl, rfl, same_upd nL _ _ (ss _ _ h0), upd_same, ?_, fun R nR => ?_⟩⟩
    · rw [List.length_map, l0]
      show 19 + 3 ≤ sizeLine
      decide
    have sE := ss.trans ((same_upd nL).trans (same_upd (o := HO.lst (List.map V.ref as0 ++ [V.ref a0, V.ref a1, V.ref a2])) nR))
    have eE := (er0.same sE).app (es.same ((same_upd nL).trans (same_upd (o := HO.lst (List.map V.ref as0 ++ [V.ref a0, V.ref a1, V.ref a2])) nR)))
    exact ⟨R, _, rfl, sH.trans sE, by rw [upd_same, List.map_append] <;> rfl, by rw [List.length_append, l0]; rfl, eE⟩
  rintro σ5 H5 ⟨L0, as0, rfl, sH, h0, l0, er0⟩
  refine ⟨fun σ' H' => ∃ (L : Addr) (as : List Addr), σ' = [some v, some w, some (.ref L)] ∧ Same H H' ∧ H' L = some (.lst (as.map V.ref)) ∧ as.length = 25 ∧ Errs H' as ((errs T v w).take 25), ?_, ?_⟩
  · refine ⟨.ref L0, rfl, ?_⟩
    have ss : Same H5 H5 := Same.refl H5
    have es : Errs H5 [] [] := .nil
    refine ⟨v, rfl, rfl, fun a0 na0 => ⟨a0, v, rfl, upd_same, fun G6_0 k0 e0 => ⟨rfl, ?_⟩⟩⟩
    have s0 := mkS na0 k0
    have es := (es.same s0).app (.cons e0 .nil)
    have ss := ss.trans s0
    refine ⟨w, rfl, v, rfl, rfl, fun a1 na1 => ⟨a1, v, w, rfl, upd_same, fun G6_1 k1 e1 => ⟨rfl, ?_⟩⟩⟩
    have s1 := mkS na1 k1
    have es := (es.same s1).app (.cons e1 .nil)
    have ss := ss.trans s1
    refine ⟨v, rfl, rfl, fun a2 na2 => ⟨a2, v, rfl, upd_same, fun G6_2 k2 e2 => ⟨rfl, ?_⟩⟩⟩
    have s2 := mkS na2 k2
    have es := (es.same s2).app (.cons e2 .nil)
    have ss := ss.trans s2
    refine ⟨by show 3 ≤ sizeLine; decide, fun L nL => ⟨L0, L, _, _, rfl, rfl, same_upd nL _ _ (ss _ _ h0), upd_same, ?_, fun R nR => ?_⟩⟩
    · rw [List.length_map, l0]
      show 22 + 3 ≤ sizeLine
      decide
    have sE := ss.trans ((same_upd nL).trans (same_upd (o := HO.lst (List.map V.ref as0 ++ [V.ref a0, V.ref a1, V.ref a2])) nR))
    have eE := (er0.same sE).app (es.same ((same_upd nL).trans (same_upd (o := HO.lst (List.map V.ref as0 ++ [V.ref a0, V.ref a1, V.ref a2])) nR)))
    exact ⟨R, _, rfl, sH.trans sE, by rw [upd_same, List.map_append] <;> rfl, by rw [List.length_append, l0]; rfl, eE⟩
  rintro σ6 H6 ⟨L0, as0, rfl, sH, h0, l0, er0⟩
  refine ⟨fun σ' H' => ∃ (L : Addr) (as : List Addr), σ' = [some v, some w, some (.ref L)] ∧ Same H H' ∧ H' L = some (.lst (as.map V.ref)) ∧ as.length = 28 ∧ Errs H' as ((errs T v w).take 28), ?_, ?_⟩
  · refine ⟨.ref L0, rfl, ?_⟩
    have ss : Same H6 H6 := Same.refl H6
    have es : Errs H6 [] [] := .nil
    refine ⟨v, rfl, rfl, fun a0 na0 => ⟨a0, v, rfl, upd_same, fun G7_0 k0 e0 => ⟨rfl, ?_⟩⟩⟩
    have s0 := mkS na0 k0
    have es := (es.same s0).app (.cons e0 .nil)
    have ss := ss.trans s0
    refine ⟨w, rfl, v, rfl, rfl, fun a1 na1 => ⟨a1, v, w, rfl, upd_same, fun G7_1 k1 e1 => ⟨rfl, ?_⟩⟩⟩
    have s1 := mkS na1 k1
    have es := (es.same s1).app (.cons e1 .nil)
    have ss := ss.trans s1
    refine ⟨v, rfl, rfl, fun a2 na2 => ⟨a2, v, rfl, upd_same, fun G7_2 k2 e2 => ⟨rfl, ?_⟩⟩⟩
    have s2 := mkS na2 k2
    have es := (es.same s2).app (.cons e2 .nil)
    have ss := ss.trans s2
    refine ⟨by show 3 ≤ sizeLine; decide, fun L nL => ⟨L0, L, _, _, rfl, rfl, same_upd nL _ _ (ss _ _ h0), upd_same, ?_, fun R nR => ?_⟩⟩
    · rw [List.length_map, l0]
      show 25 + 3 ≤ sizeLine
      decide
    have sE := ss.trans ((same_upd nL).trans (same_upd (o := HO.lst (List.map V.ref as0 ++ [V.ref a0, V.ref a1, V.ref a2])) nR))
    have eE := (er0.same sE).app (es.same ((same_upd nL).trans (same_upd (o := HO.lst (List.map V.ref as0 ++ [V.ref a0, V.ref a1, V.ref a2])) nR)))
    exact ⟨R, _, rfl, sH.trans sE, by rw [upd_same, List.map_append] <;> rfl, by rw [List.length_append, l0]; rfl, eE⟩
  rintro σ7 H7 ⟨L0, as0, rfl, sH, h0, l0, er0⟩
  refine ⟨fun σ' H' => ∃ (L : Addr) (as : List Addr), σ' = [some v, some w, some (.ref L)] ∧ Same H H' ∧ H' L = some (.lst (as.map V.ref)) ∧ as.length = 32 ∧ Errs H' as ((errs T v w).take 32), ?_, ?_⟩
  · refine ⟨.ref L0, rfl, ?_⟩
    have ss : Same H7 H7 := Same.refl H7
    have es : Errs H7 [] [] := .nil
    refine ⟨v, rfl, rfl, fun a0 na0 => ⟨a0, v, rfl, upd_same, fun G8_0 k0 e0 => ⟨rfl, ?_⟩⟩⟩
    have s0 := mkS na0 k0
    have es := (es.same s0).app (.cons e0 .nil)
    have ss := ss.trans s0
    refine ⟨v, rfl, rfl, fun a1 na1 => ⟨a1, v, rfl, upd_same, fun G8_1 k1 e1 => ⟨rfl, ?_⟩⟩⟩
    have s1 := mkS na1 k1
    have es := (es.same s1).app (.cons e1 .nil)
    have ss := ss.trans s1
    refine ⟨v, rfl, rfl, fun a2 na2 => ⟨a2, v, rfl, upd_same, fun G8_2 k2 e2 => ⟨rfl, ?_⟩⟩⟩
    have s2 := mkS na2 k2
    have es := (es.same s2).app (.cons e2 .nil)
    have ss := ss.trans s2
    refine ⟨w, rfl, v, rfl, rfl, fun a3 na3 => ⟨a3, v, w, rfl, upd_same, fun G8_3 k3 e3 => ⟨rfl, ?_⟩⟩⟩
    have s3 := mkS na3 k3
    have es := (es.same s3).app (.cons e3 .nil)
    have ss := ss.trans s3
    refine ⟨by show 4 ≤ sizeLine; decide, fun L nL => ⟨L0, L, _, _, rfl, rfl, same_upd nL _ _ (ss _ _ h0), upd_same, ?_, fun R nR => ?_⟩⟩
    · rw [List.length_map, l0]
      show 28 + 4 ≤ sizeLine
      decide
    have sE := ss.trans ((same_upd nL).trans (same_upd (o := HO.lst (List.map V.ref as0 ++ [V.ref a0, V.ref a1, V.ref a2, V.ref a3])) nR))
    have eE := (er0.same sE).app (es.same ((same_upd nL).trans (same_upd (o := HO.lst (List.map V.ref as0 ++ [V.ref a0, V.ref a1, V.ref a2, V.ref a3])) nR)))
    exact ⟨R, _, rfl, sH.trans sE, by rw [upd_same, List.map_append] <;> rfl, by rw [List.length_append, l0]; rfl, eE⟩
  rintro σ8 H8 ⟨L0, as0, rfl, sH, h0, l0, er0⟩
  refine ⟨fun σ' H' => ∃ (L : Addr) (as : List Addr), σ' = [some v, some w, some (.ref L)] ∧ Same H H' ∧ H' L = some (.lst (as.map V.ref)) ∧ as.length = 36 ∧ Errs H' as ((errs T v w).take 36), ?_, ?_⟩
  · refine ⟨.ref L0, rfl, ?_⟩
    have ss : Same H8 H8 := Same.refl H8
    have es : Errs H8 [] [] := .nil
    refine ⟨v, rfl, rfl, fun a0 na0 => ⟨a0, v, rfl, upd_same, fun G9_0 k0 e0 => ⟨rfl, ?_⟩⟩⟩
    have s0 := mkS na0 k0
    have es := (es.same s0).app (.cons e0 .nil)
    have ss := ss.trans s0
    refine ⟨v, rfl, rfl, fun a1 na1 => ⟨a1, v, rfl, upd_same, fun G9_1 k1 e1 => ⟨rfl, ?_⟩⟩⟩
    have s1 := mkS na1 k1
    have es := (es.same s1).app (.cons e1 .nil)
    have ss := ss.trans s1
    refine ⟨v, rfl, rfl, fun a2 na2 => ⟨a2, v, rfl, upd_same, fun G9_2 k2 e2 => ⟨rfl, ?_⟩⟩⟩
    have s2 := mkS na2 k2
    have es := (es.same s2).app (.cons e2 .nil)
    have ss := ss.trans s2
    refine fun a3 na3 => ?_
    have s3 := same_upd (o := exo a3 T.X_NothingToUndo none) na3
    have e3 : Err (upd G9_2 a3 (exo a3 T.X_NothingToUndo none)) a3 T.X_NothingToUndo [] := .inl ⟨rfl, upd_same⟩
    obtain ⟨G9_3, eH3⟩ : ∃ z, z = upd G9_2 a3 (exo a3 T.X_NothingToUndo none) := ⟨_, rfl⟩
    rw [← eH3] at s3 e3 ⊢
    clear eH3
    have es := (es.same s3).app (.cons e3 .nil)
    have ss := ss.trans s3
    refine ⟨by show 4 ≤ sizeLine; decide, fun L nL => ⟨L0, L, _, _, rfl, rfl, same_upd nL _ _ (ss _ _ h0), upd_same, ?_, fun R nR => ?_⟩⟩
    · rw [List.length_map, l0]
      show 32 + 4 ≤ sizeLine
      decide
    have sE := ss.trans ((same_upd nL).trans (same_upd (o := HO.lst (List.map V.ref as0 ++ [V.ref a0, V.ref a1, V.ref a2, V.ref a3])) nR))
    have eE := (er0.same sE).app (es.same ((same_upd nL).trans (same_upd (o := HO.lst (List.map V.ref as0 ++ [V.ref a0, V.ref a1, V.ref a2, V.ref a3])) nR)))
    exact ⟨R, _, rfl, sH.trans sE, by rw [upd_same, List.map_append] <;> rfl, by rw [List.length_append, l0]; rfl, eE⟩
  rintro σ9 H9 ⟨L0, as0, rfl, sH, h0, l0, er0⟩
  refine ⟨fun σ' H' => ∃ (L : Addr) (as : List Addr), σ' = [some v, some w, some (.ref L)] ∧ Same H H' ∧ H' L = some (.lst (as.map V.ref)) ∧ as.length = 41 ∧ Errs H' as ((errs T v w).take 41), ?_, ?_⟩
  · refine ⟨.ref L0, rfl, ?_⟩
    have ss : Same H9 H9 := Same.refl H9
    have es : Errs H9 [] [] := .nil
    refine ⟨v, rfl, rfl, fun a0 na0 => ⟨a0, v, rfl, upd_same, fun G10_0 k0 e0 => ⟨rfl, ?_⟩⟩⟩
    have s0 := mkS na0 k0
    have es := (es.same s0).app (.cons e0 .nil)
    have ss := ss.trans s0
    refine ⟨v, rfl, rfl, fun a1 na1 => ⟨a1, v, rfl, upd_same, fun G10_1 k1 e1 => ⟨rfl, ?_⟩⟩⟩
    have s1 := mkS na1 k1
    have es := (es.same s1).app (.cons e1 .nil)
    have ss := ss.trans s1
    refine ⟨v, rfl, rfl, fun a2 na2 => ⟨a2, v, rfl, upd_same, fun G10_2 k2 e2 => ⟨rfl, ?_⟩⟩⟩
    have s2 := mkS na2 k2
    have es := (es.same s2).app (.cons e2 .nil)
    have ss := ss.trans s2
    refine ⟨v, rfl, rfl, fun a3 na3 => ⟨a3, v, rfl, upd_same, fun G10_3 k3 e3 => ⟨rfl, ?_⟩⟩⟩
    have s3 := mkS na3 k3
    have es := (es.same s3).app (.cons e3 .nil)
    have ss := ss.trans s3
    refine fun a4 na4 => ?_
    have s4 := same_upd (o := exo a4 T.X_PagingOver none) na4
    have e4 : Err (upd G10_3 a4 (exo a4 T.X_PagingOver none)) a4 T.X_PagingOver [] := .inl ⟨rfl, upd_same⟩
    obtain ⟨G10_4, eH4⟩ : ∃ z, z = upd G10_3 a4 (exo a4 T.X_PagingOver none) := ⟨_, rfl⟩
    rw [← eH4] at s4 e4 ⊢
    clear eH4
    have es := (es.same s4).app (.cons e4 .nil)
    have ss := ss.trans s4
    refine ⟨by show 5 ≤ sizeLine; decide, fun L nL => ⟨L0, L, _, _, rfl, rfl, same_upd nL _ _ (ss _ _ h0), upd_same, ?_, fun R nR => ?_⟩⟩
    · rw [List.length_map, l0]
      show 36 + 5 ≤ sizeLine
      decide
    have sE := ss.trans ((same_upd nL).trans (same_upd (o := HO.lst (List.map V.ref as0 ++ [V.ref a0, V.ref a1, V.ref a2, V.ref a3, V.ref a4])) nR))
    have eE := (er0.same sE).app (es.same ((same_upd nL).trans (same_upd (o := HO.lst (List.map V.ref as0 ++ [V.ref a0, V.ref a1, V.ref a2, V.ref a3, V.ref a4])) nR)))
    exact ⟨R, _, rfl, sH.trans sE, by rw [upd_same, List.map_append] <;> rfl, by rw [List.length_append, l0]; rfl, eE⟩
  rintro σ10 H10 ⟨L0, as0, rfl, sH, h0, l0, er0⟩
  refine ⟨.ref L0, rfl, ?_⟩
  have ss : Same H10 H10 := Same.refl H10
  have es : Errs H10 [] [] := .nil
  refine ⟨v, rfl, rfl, fun a0 na0 => ⟨a0, v, rfl, upd_same, fun G11_0 k0 e0 => ⟨rfl, ?_⟩⟩⟩
  have s0 := mkS na0 k0
  have es := (es.same s0).app (.cons e0 .nil)
  have ss := ss.trans s0
  refine ⟨v, rfl, rfl, fun a1 na1 => ⟨a1, v, rfl, upd_same, fun G11_1 k1 e1 => ⟨rfl, ?_⟩⟩⟩
  have s1 := mkS na1 k1
  have es := (es.same s1).app (.cons e1 .nil)
  have ss := ss.trans s1
  refine ⟨v, rfl, rfl, fun a2 na2 => ⟨a2, v, rfl, upd_same, fun G11_2 k2 e2 => ⟨rfl, ?_⟩⟩⟩
  have s2 := mkS na2 k2
  have es := (es.same s2).app (.cons e2 .nil)
  have ss := ss.trans s2
  refine ⟨by show 3 ≤ sizeLine; decide, fun L nL => ⟨L0, L, _, _, rfl, rfl, same_upd nL _ _ (ss _ _ h0), upd_same, ?_, fun R nR => ?_⟩⟩
  · rw [List.length_map, l0]
    show 41 + 3 ≤ sizeLine
    decide
  have sE := ss.trans ((same_upd nL).trans (same_upd (o := HO.lst (List.map V.ref as0 ++ [V.ref a0, V.ref a1, V.ref a2])) nR))
  have eE := (er0.same sE).app (es.same ((same_upd nL).trans (same_upd (o := HO.lst (List.map V.ref as0 ++ [V.ref a0, V.ref a1, V.ref a2])) nR)))
  exact q _ R _ (sH.trans sE) (by rw [upd_same, List.map_append] <;> rfl) eE
end
end K1

namespace K1
open PySem PySem.Spec PyProof.Rows L2 TL G ExG
section
variable {P : Program} {w : World} {K : PySem.W.Frag} {mg : Str → Option Value} {base : Heap}

/-- what the error in a place holds -/
def holds (i : Nat) (v w : V) : List V := if i ∈ [16, 35, 40] then [] else if i ∈ [4, 12, 20, 23, 26, 31] then [v, w] else [v]
def spHeld (es : V → V → List (Addr × List (Str × V))) : Sp := fun vs H Q _ => ∃ (a : Addr) (i : Nat) (v w : V) (p : Addr × List (Str × V)), vs = [.ref a, .int i] ∧ (es v w)[i]? = some p ∧ Err H a p.1 p.2 ∧ i < 44 ∧ ∀ H' R, Same H H' → H' R = some (.lst (holds i v w)) → Q (.ref R) H'
def spDue : Sp := fun vs H Q _ => ∃ (i : Nat) (v w : V), vs = [.int i, v, w] ∧ i < 44 ∧ ∀ H' R, Same H H' → H' R = some (.lst (holds i v w)) → Q (.ref R) H'

theorem fld0_given (T : Txt K mg) {v w : V} : ∀ i ∈ ([0, 2, 3, 5, 8, 9, 11, 15, 22, 27, 28, 30, 33, 34] : List Nat), ∀ p, (errs T v w)[i]? = some p → XfC K p.1 ∧ PySem.W.findIn K (.ref p.1) "given" = some none ∧ p.2.lookup ("given" : Str) = some v := by
  intro i h p e
  rcases List.mem_cons.mp h with rfl | h
  · obtain rfl := Option.some.inj e
    exact ⟨T.xf_BadName, T.nxBadNamegiven, rfl⟩
  rcases List.mem_cons.mp h with rfl | h
  · obtain rfl := Option.some.inj e
    exact ⟨T.xf_BadScope, T.nxBadScopegiven, rfl⟩
  rcases List.mem_cons.mp h with rfl | h
  · obtain rfl := Option.some.inj e
    exact ⟨T.xf_BadNumber, T.nxBadNumbergiven, rfl⟩
  rcases List.mem_cons.mp h with rfl | h
  · obtain rfl := Option.some.inj e
    exact ⟨T.xf_BadEntry, T.nxBadEntrygiven, rfl⟩
  rcases List.mem_cons.mp h with rfl | h
  · obtain rfl := Option.some.inj e
    exact ⟨T.xf_BadVector, T.nxBadVectorgiven, rfl⟩
  rcases List.mem_cons.mp h with rfl | h
  · obtain rfl := Option.some.inj e
    exact ⟨T.xf_BadIndex, T.nxBadIndexgiven, rfl⟩
  rcases List.mem_cons.mp h with rfl | h
  · obtain rfl := Option.some.inj e
    exact ⟨T.xf_BadHost, T.nxBadHostgiven, rfl⟩
  rcases List.mem_cons.mp h with rfl | h
  · obtain rfl := Option.some.inj e
    exact ⟨T.xf_UnknownClass, T.nxUnknownClassgiven, rfl⟩
  rcases List.mem_cons.mp h with rfl | h
  · obtain rfl := Option.some.inj e
    exact ⟨T.xf_BadPlace, T.nxBadPlacegiven, rfl⟩
  rcases List.mem_cons.mp h with rfl | h
  · obtain rfl := Option.some.inj e
    exact ⟨T.xf_NameTaken, T.nxNameTakengiven, rfl⟩
  rcases List.mem_cons.mp h with rfl | h
  · obtain rfl := Option.some.inj e
    exact ⟨T.xf_HasChildren, T.nxHasChildrengiven, rfl⟩
  rcases List.mem_cons.mp h with rfl | h
  · obtain rfl := Option.some.inj e
    exact ⟨T.xf_Inside, T.nxInsidegiven, rfl⟩
  rcases List.mem_cons.mp h with rfl | h
  · obtain rfl := Option.some.inj e
    exact ⟨T.xf_IndexTaken, T.nxIndexTakengiven, rfl⟩
  rcases List.mem_cons.mp h with rfl | h
  · obtain rfl := Option.some.inj e
    exact ⟨T.xf_NoIndex, T.nxNoIndexgiven, rfl⟩
  · exact nomatch h
theorem fld1_place (T : Txt K mg) {v w : V} : ∀ i ∈ ([1, 6, 7] : List Nat), ∀ p, (errs T v w)[i]? = some p → XfC K p.1 ∧ PySem.W.findIn K (.ref p.1) "place" = some none ∧ p.2.lookup ("place" : Str) = some v := by
  intro i h p e
  rcases List.mem_cons.mp h with rfl | h
  · obtain rfl := Option.some.inj e
    exact ⟨T.xf_BadFilter, T.nxBadFilterplace, rfl⟩
  rcases List.mem_cons.mp h with rfl | h
  · obtain rfl := Option.some.inj e
    exact ⟨T.xf_BadDeed, T.nxBadDeedplace, rfl⟩
  rcases List.mem_cons.mp h with rfl | h
  · obtain rfl := Option.some.inj e
    exact ⟨T.xf_BadChange, T.nxBadChangeplace, rfl⟩
  · exact nomatch h
theorem fld2_attribute (T : Txt K mg) {v w : V} : ∀ i ∈ ([12, 20, 23, 31] : List Nat), ∀ p, (errs T v w)[i]? = some p → XfC K p.1 ∧ PySem.W.findIn K (.ref p.1) "attribute" = some none ∧ p.2.lookup ("attribute" : Str) = some v := by
  intro i h p e
  rcases List.mem_cons.mp h with rfl | h
  · obtain rfl := Option.some.inj e
    exact ⟨T.xf_BadValue, T.nxBadValueattribute, rfl⟩
  rcases List.mem_cons.mp h with rfl | h
  · obtain rfl := Option.some.inj e
    exact ⟨T.xf_ValueTaken, T.nxValueTakenattribute, rfl⟩
  rcases List.mem_cons.mp h with rfl | h
  · obtain rfl := Option.some.inj e
    exact ⟨T.xf_NoTarget, T.nxNoTargetattribute, rfl⟩
  rcases List.mem_cons.mp h with rfl | h
  · obtain rfl := Option.some.inj e
    exact ⟨T.xf_NoValue, T.nxNoValueattribute, rfl⟩
  · exact nomatch h
theorem fld2_item (T : Txt K mg) {v w : V} : ∀ i ∈ ([12, 20, 23, 31] : List Nat), ∀ p, (errs T v w)[i]? = some p → XfC K p.1 ∧ PySem.W.findIn K (.ref p.1) "item" = some none ∧ p.2.lookup ("item" : Str) = some w := by
  intro i h p e
  rcases List.mem_cons.mp h with rfl | h
  · obtain rfl := Option.some.inj e
    exact ⟨T.xf_BadValue, T.nxBadValueitem, rfl⟩
  rcases List.mem_cons.mp h with rfl | h
  · obtain rfl := Option.some.inj e
    exact ⟨T.xf_ValueTaken, T.nxValueTakenitem, rfl⟩
  rcases List.mem_cons.mp h with rfl | h
  · obtain rfl := Option.some.inj e
    exact ⟨T.xf_NoTarget, T.nxNoTargetitem, rfl⟩
  rcases List.mem_cons.mp h with rfl | h
  · obtain rfl := Option.some.inj e
    exact ⟨T.xf_NoValue, T.nxNoValueitem, rfl⟩
  · exact nomatch h
theorem fld3_attribute (T : Txt K mg) {v w : V} : ∀ i ∈ ([13, 14, 17, 18, 19, 21, 24, 25] : List Nat), ∀ p, (errs T v w)[i]? = some p → XfC K p.1 ∧ PySem.W.findIn K (.ref p.1) "attribute" = some none ∧ p.2.lookup ("attribute" : Str) = some v := by
  intro i h p e
  rcases List.mem_cons.mp h with rfl | h
  · obtain rfl := Option.some.inj e
    exact ⟨T.xf_UnknownAttribute, T.nxUnknownAttributeattribute, rfl⟩
  rcases List.mem_cons.mp h with rfl | h
  · obtain rfl := Option.some.inj e
    exact ⟨T.xf_MirrorGiven, T.nxMirrorGivenattribute, rfl⟩
  rcases List.mem_cons.mp h with rfl | h
  · obtain rfl := Option.some.inj e
    exact ⟨T.xf_NotAllowed, T.nxNotAllowedattribute, rfl⟩
  rcases List.mem_cons.mp h with rfl | h
  · obtain rfl := Option.some.inj e
    exact ⟨T.xf_Missing, T.nxMissingattribute, rfl⟩
  rcases List.mem_cons.mp h with rfl | h
  · obtain rfl := Option.some.inj e
    exact ⟨T.xf_TooManyValues, T.nxTooManyValuesattribute, rfl⟩
  rcases List.mem_cons.mp h with rfl | h
  · obtain rfl := Option.some.inj e
    exact ⟨T.xf_NotNamed, T.nxNotNamedattribute, rfl⟩
  rcases List.mem_cons.mp h with rfl | h
  · obtain rfl := Option.some.inj e
    exact ⟨T.xf_NotInteger, T.nxNotIntegerattribute, rfl⟩
  rcases List.mem_cons.mp h with rfl | h
  · obtain rfl := Option.some.inj e
    exact ⟨T.xf_NoOrder, T.nxNoOrderattribute, rfl⟩
  · exact nomatch h
theorem fld4_host (T : Txt K mg) {v w : V} : ∀ i ∈ ([36, 37, 38, 39] : List Nat), ∀ p, (errs T v w)[i]? = some p → XfC K p.1 ∧ PySem.W.findIn K (.ref p.1) "host" = some none ∧ p.2.lookup ("host" : Str) = some v := by
  intro i h p e
  rcases List.mem_cons.mp h with rfl | h
  · obtain rfl := Option.some.inj e
    exact ⟨T.xf_NoHost, T.nxNoHosthost, rfl⟩
  rcases List.mem_cons.mp h with rfl | h
  · obtain rfl := Option.some.inj e
    exact ⟨T.xf_Gap, T.nxGaphost, rfl⟩
  rcases List.mem_cons.mp h with rfl | h
  · obtain rfl := Option.some.inj e
    exact ⟨T.xf_Behind, T.nxBehindhost, rfl⟩
  rcases List.mem_cons.mp h with rfl | h
  · obtain rfl := Option.some.inj e
    exact ⟨T.xf_Forgotten, T.nxForgottenhost, rfl⟩
  · exact nomatch h
theorem fld5_limit (T : Txt K mg) {v w : V} : ∀ i ∈ ([41, 42, 43] : List Nat), ∀ p, (errs T v w)[i]? = some p → XfC K p.1 ∧ PySem.W.findIn K (.ref p.1) "limit" = some none ∧ p.2.lookup ("limit" : Str) = some v := by
  intro i h p e
  rcases List.mem_cons.mp h with rfl | h
  · obtain rfl := Option.some.inj e
    exact ⟨T.xf_Full, T.nxFulllimit, rfl⟩
  rcases List.mem_cons.mp h with rfl | h
  · obtain rfl := Option.some.inj e
    exact ⟨T.xf_TooDeep, T.nxTooDeeplimit, rfl⟩
  rcases List.mem_cons.mp h with rfl | h
  · obtain rfl := Option.some.inj e
    exact ⟨T.xf_SizeLimit, T.nxSizeLimitlimit, rfl⟩
  · exact nomatch h
theorem fld6_part (T : Txt K mg) {v w : V} : ∀ i ∈ ([4] : List Nat), ∀ p, (errs T v w)[i]? = some p → XfC K p.1 ∧ PySem.W.findIn K (.ref p.1) "part" = some none ∧ p.2.lookup ("part" : Str) = some v := by
  intro i h p e
  rcases List.mem_cons.mp h with rfl | h
  · obtain rfl := Option.some.inj e
    exact ⟨T.xf_BadSchema, T.nxBadSchemapart, rfl⟩
  · exact nomatch h
theorem fld6_place (T : Txt K mg) {v w : V} : ∀ i ∈ ([4] : List Nat), ∀ p, (errs T v w)[i]? = some p → XfC K p.1 ∧ PySem.W.findIn K (.ref p.1) "place" = some none ∧ p.2.lookup ("place" : Str) = some w := by
  intro i h p e
  rcases List.mem_cons.mp h with rfl | h
  · obtain rfl := Option.some.inj e
    exact ⟨T.xf_BadSchema, T.nxBadSchemaplace, rfl⟩
  · exact nomatch h
theorem fld7_line (T : Txt K mg) {v w : V} : ∀ i ∈ ([10] : List Nat), ∀ p, (errs T v w)[i]? = some p → XfC K p.1 ∧ PySem.W.findIn K (.ref p.1) "line" = some none ∧ p.2.lookup ("line" : Str) = some v := by
  intro i h p e
  rcases List.mem_cons.mp h with rfl | h
  · obtain rfl := Option.some.inj e
    exact ⟨T.xf_BadText, T.nxBadTextline, rfl⟩
  · exact nomatch h
theorem fld8_missing (T : Txt K mg) {v w : V} : ∀ i ∈ ([26] : List Nat), ∀ p, (errs T v w)[i]? = some p → XfC K p.1 ∧ PySem.W.findIn K (.ref p.1) "missing" = some none ∧ p.2.lookup ("missing" : Str) = some v := by
  intro i h p e
  rcases List.mem_cons.mp h with rfl | h
  · obtain rfl := Option.some.inj e
    exact ⟨T.xf_NoEntry, T.nxNoEntrymissing, rfl⟩
  · exact nomatch h
theorem fld8_matched (T : Txt K mg) {v w : V} : ∀ i ∈ ([26] : List Nat), ∀ p, (errs T v w)[i]? = some p → XfC K p.1 ∧ PySem.W.findIn K (.ref p.1) "matched" = some none ∧ p.2.lookup ("matched" : Str) = some w := by
  intro i h p e
  rcases List.mem_cons.mp h with rfl | h
  · obtain rfl := Option.some.inj e
    exact ⟨T.xf_NoEntry, T.nxNoEntrymatched, rfl⟩
  · exact nomatch h
theorem fld9_holder (T : Txt K mg) {v w : V} : ∀ i ∈ ([29] : List Nat), ∀ p, (errs T v w)[i]? = some p → XfC K p.1 ∧ PySem.W.findIn K (.ref p.1) "holder" = some none ∧ p.2.lookup ("holder" : Str) = some v := by
  intro i h p e
  rcases List.mem_cons.mp h with rfl | h
  · obtain rfl := Option.some.inj e
    exact ⟨T.xf_InUse, T.nxInUseholder, rfl⟩
  · exact nomatch h
theorem fld10_targets (T : Txt K mg) {v w : V} : ∀ i ∈ ([32] : List Nat), ∀ p, (errs T v w)[i]? = some p → XfC K p.1 ∧ PySem.W.findIn K (.ref p.1) "targets" = some none ∧ p.2.lookup ("targets" : Str) = some v := by
  intro i h p e
  rcases List.mem_cons.mp h with rfl | h
  · obtain rfl := Option.some.inj e
    exact ⟨T.xf_Referral, T.nxReferraltargets, rfl⟩
  · exact nomatch h
theorem ok_q_held (T : Txt K mg) : FnOk P w K mg base CX0 1 T.f_q_held T.d_q_held ["_law_error", "_law_spot"] (spHeld (errs T)) := by
  refine T.F_q_held.ok sc_q_held (fun vs H Q E h => by obtain ⟨a, i, v, w, p, rfl, _⟩ := h; rfl) (fun cdv A outer s H vs Q E hr h => ?_)
  obtain ⟨a, i, v, w, p, rfl, ep, er, hi, q⟩ := h
  refine ⟨_, (pss_cons (ps_if (pt_cmpR op_in_seq (pv 1) (pe_lst (pa_cons pe_int (pa_cons pe_int (pa_cons pe_int (pa_cons pe_int (pa_cons pe_int (pa_cons pe_int (pa_cons pe_int (pa_cons pe_int (pa_cons pe_int (pa_cons pe_int (pa_cons pe_int (pa_cons pe_int (pa_cons pe_int (pa_cons pe_int pa_nil))))))))))))))) (by rfl))
    (pss_one (ps_ret (pe_lst (pa_cons (ExG.pe_fdG (pv 0)) pa_nil))))
    pss_nil)
    (pss_cons (ps_if (pt_cmpR op_in_seq (pv 1) (pe_lst (pa_cons pe_int (pa_cons pe_int (pa_cons pe_int pa_nil)))) (by rfl))
    (pss_one (ps_ret (pe_lst (pa_cons (ExG.pe_fdG (pv 0)) pa_nil))))
    pss_nil)
    (pss_cons (ps_if (pt_cmpR op_in_seq (pv 1) (pe_lst (pa_cons pe_int (pa_cons pe_int (pa_cons pe_int (pa_cons pe_int pa_nil))))) (by rfl))
    (pss_one (ps_ret (pe_lst (pa_cons (ExG.pe_fdG (pv 0)) (pa_cons (ExG.pe_fdG (pv 0)) pa_nil)))))
    pss_nil)
    (pss_cons (ps_if (pt_cmpR op_in_seq (pv 1) (pe_lst (pa_cons pe_int (pa_cons pe_int (pa_cons pe_int (pa_cons pe_int (pa_cons pe_int (pa_cons pe_int (pa_cons pe_int (pa_cons pe_int pa_nil))))))))) (by rfl))
    (pss_one (ps_ret (pe_lst (pa_cons (ExG.pe_fdG (pv 0)) pa_nil))))
    pss_nil)
    (pss_cons (ps_if (pt_cmpR op_in_seq (pv 1) (pe_lst (pa_cons pe_int (pa_cons pe_int (pa_cons pe_int (pa_cons pe_int pa_nil))))) (by rfl))
    (pss_one (ps_ret (pe_lst (pa_cons (ExG.pe_fdG (pv 0)) pa_nil))))
    pss_nil)
    (pss_cons (ps_if (pt_cmpR op_gt (pv 1) pe_int (nomark _))
    (pss_one (ps_ret (pe_lst (pa_cons (ExG.pe_fdG (pv 0)) pa_nil))))
    pss_nil)
    (pss_cons (ps_if (pt_cmpR op_eq (pv 1) pe_int (nomark _))
    (pss_one (ps_ret (pe_lst (pa_cons (ExG.pe_fdG (pv 0)) (pa_cons (ExG.pe_fdG (pv 0)) pa_nil)))))
    pss_nil)
    (pss_cons (ps_if (pt_cmpR op_eq (pv 1) pe_int (nomark _))
    (pss_one (ps_ret (pe_lst (pa_cons (ExG.pe_fdG (pv 0)) pa_nil))))
    pss_nil)
    (pss_cons (ps_if (pt_cmpR op_eq (pv 1) pe_int (nomark _))
    (pss_one (ps_ret (pe_lst (pa_cons (ExG.pe_fdG (pv 0)) (pa_cons (ExG.pe_fdG (pv 0)) pa_nil)))))
    pss_nil)
    (pss_cons (ps_if (pt_cmpR op_eq (pv 1) pe_int (nomark _))
    (pss_one (ps_ret (pe_lst (pa_cons (ExG.pe_fdG (pv 0)) pa_nil))))
    pss_nil)
    (pss_one (ps_ret (pe_ifExp (pt_cmpR op_eq (pv 1) pe_int (nomark _)) (pe_lst (pa_cons (ExG.pe_fdG (pv 0)) pa_nil)) (pe_lst pa_nil)))))))))))))), ?_⟩
  have sH : Same H H := Same.refl H
  by_cases hg : i ∈ ([0, 2, 3, 5, 8, 9, 11, 15, 22, 27, 28, 30, 33, 34] : List Nat)
  · have hh : holds i v w = [v] := by
      unfold holds
      rw [if_neg ((by decide : ∀ i ∈ ([0, 2, 3, 5, 8, 9, 11, 15, 22, 27, 28, 30, 33, 34] : List Nat), i ∉ ([16, 35, 40] : List Nat)) i hg), if_neg ((by decide : ∀ i ∈ ([0, 2, 3, 5, 8, 9, 11, 15, 22, 27, 28, 30, 33, 34] : List Nat), ¬ i ∈ ([4, 12, 20, 23, 26, 31] : List Nat)) i hg)]
    refine ⟨.int i, rfl, by show 14 ≤ sizeLine; decide, fun p0 n0 => ⟨p0, _, rfl, .inl (SqL.of upd_same), rfl, rfl, _, rfl, if_true_of ((by decide : ∀ i ∈ ([0, 2, 3, 5, 8, 9, 11, 15, 22, 27, 28, 30, 33, 34] : List Nat), inV (.int (i : Int)) [.int 0, .int 2, .int 3, .int 5, .int 8, .int 9, .int 11, .int 15, .int 22, .int 27, .int 28, .int 30, .int 33, .int 34] = true) i hg) ?_⟩⟩
    have sN : Same H (upd _ p0 (.lst [.int 0, .int 2, .int 3, .int 5, .int 8, .int 9, .int 11, .int 15, .int 22, .int 27, .int 28, .int 30, .int 33, .int 34])) := Same.trans sH (same_upd n0)
    exact ⟨.ref a, rfl, a, p.1, p.2, v, rfl, Err.same sN er, (fld0_given T i hg p ep).1, (fld0_given T i hg p ep).2.1, (fld0_given T i hg p ep).2.2, by show 1 ≤ sizeLine; decide, fun R nR => q _ R (Same.trans sN (same_upd nR)) (by rw [upd_same, hh])⟩
  refine ⟨.int i, rfl, by show 14 ≤ sizeLine; decide, fun p0 n0 => ⟨p0, _, rfl, .inl (SqL.of upd_same), rfl, rfl, _, rfl, if_false_of ((by decide : ∀ i, i < 44 → i ∉ ([0, 2, 3, 5, 8, 9, 11, 15, 22, 27, 28, 30, 33, 34] : List Nat) → inV (.int (i : Int)) [.int 0, .int 2, .int 3, .int 5, .int 8, .int 9, .int 11, .int 15, .int 22, .int 27, .int 28, .int 30, .int 33, .int 34] = false) i hi hg) ?_⟩⟩
  have s0 : Same H (upd _ p0 (.lst [.int 0, .int 2, .int 3, .int 5, .int 8, .int 9, .int 11, .int 15, .int 22, .int 27, .int 28, .int 30, .int 33, .int 34])) := Same.trans sH (same_upd n0)
  by_cases hg : i ∈ ([1, 6, 7] : List Nat)
  · have hh : holds i v w = [v] := by
      unfold holds
      rw [if_neg ((by decide : ∀ i ∈ ([1, 6, 7] : List Nat), i ∉ ([16, 35, 40] : List Nat)) i hg), if_neg ((by decide : ∀ i ∈ ([1, 6, 7] : List Nat), ¬ i ∈ ([4, 12, 20, 23, 26, 31] : List Nat)) i hg)]
    refine ⟨.int i, rfl, by show 3 ≤ sizeLine; decide, fun p1 n1 => ⟨p1, _, rfl, .inl (SqL.of upd_same), rfl, rfl, _, rfl, if_true_of ((by decide : ∀ i ∈ ([1, 6, 7] : List Nat), inV (.int (i : Int)) [.int 1, .int 6, .int 7] = true) i hg) ?_⟩⟩
    have sN : Same H (upd _ p1 (.lst [.int 1, .int 6, .int 7])) := Same.trans s0 (same_upd n1)
    exact ⟨.ref a, rfl, a, p.1, p.2, v, rfl, Err.same sN er, (fld1_place T i hg p ep).1, (fld1_place T i hg p ep).2.1, (fld1_place T i hg p ep).2.2, by show 1 ≤ sizeLine; decide, fun R nR => q _ R (Same.trans sN (same_upd nR)) (by rw [upd_same, hh])⟩
  refine ⟨.int i, rfl, by show 3 ≤ sizeLine; decide, fun p1 n1 => ⟨p1, _, rfl, .inl (SqL.of upd_same), rfl, rfl, _, rfl, if_false_of ((by decide : ∀ i, i < 44 → i ∉ ([1, 6, 7] : List Nat) → inV (.int (i : Int)) [.int 1, .int 6, .int 7] = false) i hi hg) ?_⟩⟩
  have s1 : Same H (upd _ p1 (.lst [.int 1, .int 6, .int 7])) := Same.trans s0 (same_upd n1)
  by_cases hg : i ∈ ([12, 20, 23, 31] : List Nat)
  · have hh : holds i v w = [v, w] := by
      unfold holds
      rw [if_neg ((by decide : ∀ i ∈ ([12, 20, 23, 31] : List Nat), i ∉ ([16, 35, 40] : List Nat)) i hg), if_pos ((by decide : ∀ i ∈ ([12, 20, 23, 31] : List Nat),  i ∈ ([4, 12, 20, 23, 26, 31] : List Nat)) i hg)]
    refine ⟨.int i, rfl, by show 4 ≤ sizeLine; decide, fun p2 n2 => ⟨p2, _, rfl, .inl (SqL.of upd_same), rfl, rfl, _, rfl, if_true_of ((by decide : ∀ i ∈ ([12, 20, 23, 31] : List Nat), inV (.int (i : Int)) [.int 12, .int 20, .int 23, .int 31] = true) i hg) ?_⟩⟩
    have sN : Same H (upd _ p2 (.lst [.int 12, .int 20, .int 23, .int 31])) := Same.trans s1 (same_upd n2)
    exact ⟨.ref a, rfl, a, p.1, p.2, v, rfl, Err.same sN er, (fld2_attribute T i hg p ep).1, (fld2_attribute T i hg p ep).2.1, (fld2_attribute T i hg p ep).2.2, .ref a, rfl, a, p.1, p.2, w, rfl, Err.same sN er, (fld2_item T i hg p ep).1, (fld2_item T i hg p ep).2.1, (fld2_item T i hg p ep).2.2, by show 2 ≤ sizeLine; decide, fun R nR => q _ R (Same.trans sN (same_upd nR)) (by rw [upd_same, hh])⟩
  refine ⟨.int i, rfl, by show 4 ≤ sizeLine; decide, fun p2 n2 => ⟨p2, _, rfl, .inl (SqL.of upd_same), rfl, rfl, _, rfl, if_false_of ((by decide : ∀ i, i < 44 → i ∉ ([12, 20, 23, 31] : List Nat) → inV (.int (i : Int)) [.int 12, .int 20, .int 23, .int 31] = false) i hi hg) ?_⟩⟩
  have s2 : Same H (upd _ p2 (.lst [.int 12, .int 20, .int 23, .int 31])) := Same.trans s1 (same_upd n2)
  by_cases hg : i ∈ ([13, 14, 17, 18, 19, 21, 24, 25] : List Nat)
  · have hh : holds i v w = [v] := by
      unfold holds
      rw [if_neg ((by decide : ∀ i ∈ ([13, 14, 17, 18, 19, 21, 24, 25] : List Nat), i ∉ ([16, 35, 40] : List Nat)) i hg), if_neg ((by decide : ∀ i ∈ ([13, 14, 17, 18, 19, 21, 24, 25] : List Nat), ¬ i ∈ ([4, 12, 20, 23, 26, 31] : List Nat)) i hg)]
    refine ⟨.int i, rfl, by show 8 ≤ sizeLine; decide, fun p3 n3 => ⟨p3, _, rfl, .inl (SqL.of upd_same), rfl, rfl, _, rfl, if_true_of ((by decide : ∀ i ∈ ([13, 14, 17, 18, 19, 21, 24, 25] : List Nat), inV (.int (i : Int)) [.int 13, .int 14, .int 17, .int 18, .int 19, .int 21, .int 24, .int 25] = true) i hg) ?_⟩⟩
    have sN : Same H (upd _ p3 (.lst [.int 13, .int 14, .int 17, .int 18, .int 19, .int 21, .int 24, .int 25])) := Same.trans s2 (same_upd n3)
    exact ⟨.ref a, rfl, a, p.1, p.2, v, rfl, Err.same sN er, (fld3_attribute T i hg p ep).1, (fld3_attribute T i hg p ep).2.1, (fld3_attribute T i hg p ep).2.2, by show 1 ≤ sizeLine; decide, fun R nR => q _ R (Same.trans sN (same_upd nR)) (by rw [upd_same, hh])⟩
  refine ⟨.int i, rfl, by show 8 ≤ sizeLine; decide, fun p3 n3 => ⟨p3, _, rfl, .inl (SqL.of upd_same), rfl, rfl, _, rfl, if_false_of ((by decide : ∀ i, i < 44 → i ∉ ([13, 14, 17, 18, 19, 21, 24, 25] : List Nat) → inV (.int (i : Int)) [.int 13, .int 14, .int 17, .int 18, .int 19, .int 21, .int 24, .int 25] = false) i hi hg) ?_⟩⟩
  have s3 : Same H (upd _ p3 (.lst [.int 13, .int 14, .int 17, .int 18, .int 19, .int 21, .int 24, .int 25])) := Same.trans s2 (same_upd n3)
  by_cases hg : i ∈ ([36, 37, 38, 39] : List Nat)
  · have hh : holds i v w = [v] := by
      unfold holds
      rw [if_neg ((by decide : ∀ i ∈ ([36, 37, 38, 39] : List Nat), i ∉ ([16, 35, 40] : List Nat)) i hg), if_neg ((by decide : ∀ i ∈ ([36, 37, 38, 39] : List Nat), ¬ i ∈ ([4, 12, 20, 23, 26, 31] : List Nat)) i hg)]
    refine ⟨.int i, rfl, by show 4 ≤ sizeLine; decide, fun p4 n4 => ⟨p4, _, rfl, .inl (SqL.of upd_same), rfl, rfl, _, rfl, if_true_of ((by decide : ∀ i ∈ ([36, 37, 38, 39] : List Nat), inV (.int (i : Int)) [.int 36, .int 37, .int 38, .int 39] = true) i hg) ?_⟩⟩
    have sN : Same H (upd _ p4 (.lst [.int 36, .int 37, .int 38, .int 39])) := Same.trans s3 (same_upd n4)
    exact ⟨.ref a, rfl, a, p.1, p.2, v, rfl, Err.same sN er, (fld4_host T i hg p ep).1, (fld4_host T i hg p ep).2.1, (fld4_host T i hg p ep).2.2, by show 1 ≤ sizeLine; decide, fun R nR => q _ R (Same.trans sN (same_upd nR)) (by rw [upd_same, hh])⟩
  refine ⟨.int i, rfl, by show 4 ≤ sizeLine; decide, fun p4 n4 => ⟨p4, _, rfl, .inl (SqL.of upd_same), rfl, rfl, _, rfl, if_false_of ((by decide : ∀ i, i < 44 → i ∉ ([36, 37, 38, 39] : List Nat) → inV (.int (i : Int)) [.int 36, .int 37, .int 38, .int 39] = false) i hi hg) ?_⟩⟩
  have s4 : Same H (upd _ p4 (.lst [.int 36, .int 37, .int 38, .int 39])) := Same.trans s3 (same_upd n4)
  by_cases hg : i ∈ ([41, 42, 43] : List Nat)
  · have hh : holds i v w = [v] := by
      unfold holds
      rw [if_neg ((by decide : ∀ i ∈ ([41, 42, 43] : List Nat), i ∉ ([16, 35, 40] : List Nat)) i hg), if_neg ((by decide : ∀ i ∈ ([41, 42, 43] : List Nat), ¬ i ∈ ([4, 12, 20, 23, 26, 31] : List Nat)) i hg)]
    have hi2 : 40 < i := (by decide : ∀ i ∈ ([41, 42, 43] : List Nat), 40 < i) i hg
    refine ⟨.int i, rfl, i, 40, rfl, rfl, _, rfl, if_true_of (decide_eq_true (by omega)) ?_⟩
    exact ⟨.ref a, rfl, a, p.1, p.2, v, rfl, Err.same s4 er, (fld5_limit T i hg p ep).1, (fld5_limit T i hg p ep).2.1, (fld5_limit T i hg p ep).2.2, by show 1 ≤ sizeLine; decide, fun R nR => q _ R (Same.trans s4 (same_upd nR)) (by rw [upd_same, hh])⟩
  have hi2 : ¬ 40 < i := fun z => hg ((by decide : ∀ i, i < 44 → 40 < i → i ∈ ([41, 42, 43] : List Nat)) i hi z)
  refine ⟨.int i, rfl, i, 40, rfl, rfl, _, rfl, if_false_of (decide_eq_false (by omega)) ?_⟩
  by_cases hg : i ∈ ([4] : List Nat)
  · have hh : holds i v w = [v, w] := by
      unfold holds
      rw [if_neg ((by decide : ∀ i ∈ ([4] : List Nat), i ∉ ([16, 35, 40] : List Nat)) i hg), if_pos ((by decide : ∀ i ∈ ([4] : List Nat),  i ∈ ([4, 12, 20, 23, 26, 31] : List Nat)) i hg)]
    have hi2 : i = 4 := List.mem_singleton.mp hg
    refine ⟨.int i, rfl, rfl, _, rfl, if_true_of (decide_eq_true (by rw [hi2]; rfl)) ?_⟩
    exact ⟨.ref a, rfl, a, p.1, p.2, v, rfl, Err.same s4 er, (fld6_part T i hg p ep).1, (fld6_part T i hg p ep).2.1, (fld6_part T i hg p ep).2.2, .ref a, rfl, a, p.1, p.2, w, rfl, Err.same s4 er, (fld6_place T i hg p ep).1, (fld6_place T i hg p ep).2.1, (fld6_place T i hg p ep).2.2, by show 2 ≤ sizeLine; decide, fun R nR => q _ R (Same.trans s4 (same_upd nR)) (by rw [upd_same, hh])⟩
  have hi2 : i ≠ 4 := fun z => hg (List.mem_singleton.mpr z)
  refine ⟨.int i, rfl, rfl, _, rfl, if_false_of (decide_eq_false (fun z => hi2 (by have := V.int.inj z; omega))) ?_⟩
  by_cases hg : i ∈ ([10] : List Nat)
  · have hh : holds i v w = [v] := by
      unfold holds
      rw [if_neg ((by decide : ∀ i ∈ ([10] : List Nat), i ∉ ([16, 35, 40] : List Nat)) i hg), if_neg ((by decide : ∀ i ∈ ([10] : List Nat), ¬ i ∈ ([4, 12, 20, 23, 26, 31] : List Nat)) i hg)]
    have hi2 : i = 10 := List.mem_singleton.mp hg
    refine ⟨.int i, rfl, rfl, _, rfl, if_true_of (decide_eq_true (by rw [hi2]; rfl)) ?_⟩
    exact ⟨.ref a, rfl, a, p.1, p.2, v, rfl, Err.same s4 er, (fld7_line T i hg p ep).1, (fld7_line T i hg p ep).2.1, (fld7_line T i hg p ep).2.2, by show 1 ≤ sizeLine; decide, fun R nR => q _ R (Same.trans s4 (same_upd nR)) (by rw [upd_same, hh])⟩
  have hi2 : i ≠ 10 := fun z => hg (List.mem_singleton.mpr z)
  refine ⟨.int i, rfl, rfl, _, rfl, if_false_of (decide_eq_false (fun z => hi2 (by have := V.int.inj z; omega))) ?_⟩
  by_cases hg : i ∈ ([26] : List Nat)
  · have hh : holds i v w = [v, w] := by
      unfold holds
      rw [if_neg ((by decide : ∀ i ∈ ([26] : List Nat), i ∉ ([16, 35, 40] : List Nat)) i hg), if_pos ((by decide : ∀ i ∈ ([26] : List Nat),  i ∈ ([4, 12, 20, 23, 26, 31] : List Nat)) i hg)]
    have hi2 : i = 26 := List.mem_singleton.mp hg
    refine ⟨.int i, rfl, rfl, _, rfl, if_true_of (decide_eq_true (by rw [hi2]; rfl)) ?_⟩
    exact ⟨.ref a, rfl, a, p.1, p.2, v, rfl, Err.same s4 er, (fld8_missing T i hg p ep).1, (fld8_missing T i hg p ep).2.1, (fld8_missing T i hg p ep).2.2, .ref a, rfl, a, p.1, p.2, w, rfl, Err.same s4 er, (fld8_matched T i hg p ep).1, (fld8_matched T i hg p ep).2.1, (fld8_matched T i hg p ep).2.2, by show 2 ≤ sizeLine; decide, fun R nR => q _ R (Same.trans s4 (same_upd nR)) (by rw [upd_same, hh])⟩
  have hi2 : i ≠ 26 := fun z => hg (List.mem_singleton.mpr z)
  refine ⟨.int i, rfl, rfl, _, rfl, if_false_of (decide_eq_false (fun z => hi2 (by have := V.int.inj z; omega))) ?_⟩
  by_cases hg : i ∈ ([29] : List Nat)
  · have hh : holds i v w = [v] := by
      unfold holds
      rw [if_neg ((by decide : ∀ i ∈ ([29] : List Nat), i ∉ ([16, 35, 40] : List Nat)) i hg), if_neg ((by decide : ∀ i ∈ ([29] : List Nat), ¬ i ∈ ([4, 12, 20, 23, 26, 31] : List Nat)) i hg)]
    have hi2 : i = 29 := List.mem_singleton.mp hg
    refine ⟨.int i, rfl, rfl, _, rfl, if_true_of (decide_eq_true (by rw [hi2]; rfl)) ?_⟩
    exact ⟨.ref a, rfl, a, p.1, p.2, v, rfl, Err.same s4 er, (fld9_holder T i hg p ep).1, (fld9_holder T i hg p ep).2.1, (fld9_holder T i hg p ep).2.2, by show 1 ≤ sizeLine; decide, fun R nR => q _ R (Same.trans s4 (same_upd nR)) (by rw [upd_same, hh])⟩
  have hi2 : i ≠ 29 := fun z => hg (List.mem_singleton.mpr z)
  refine ⟨.int i, rfl, rfl, _, rfl, if_false_of (decide_eq_false (fun z => hi2 (by have := V.int.inj z; omega))) ?_⟩
  by_cases hg : i ∈ ([32] : List Nat)
  · have hh : holds i v w = [v] := by
      unfold holds
      rw [if_neg ((by decide : ∀ i ∈ ([32] : List Nat), i ∉ ([16, 35, 40] : List Nat)) i hg), if_neg ((by decide : ∀ i ∈ ([32] : List Nat), ¬ i ∈ ([4, 12, 20, 23, 26, 31] : List Nat)) i hg)]
    have hi2 : i = 32 := List.mem_singleton.mp hg
    refine ⟨.int i, rfl, rfl, _, rfl, if_true_of (decide_eq_true (by rw [hi2]; rfl)) ?_⟩
    exact ⟨.ref a, rfl, a, p.1, p.2, v, rfl, Err.same s4 er, (fld10_targets T i hg p ep).1, (fld10_targets T i hg p ep).2.1, (fld10_targets T i hg p ep).2.2, by show 1 ≤ sizeLine; decide, fun R nR => q _ R (Same.trans s4 (same_upd nR)) (by rw [upd_same, hh])⟩
  have hi2 : i ≠ 32 := fun z => hg (List.mem_singleton.mpr z)
  refine ⟨.int i, rfl, rfl, _, rfl, if_false_of (decide_eq_false (fun z => hi2 (by have := V.int.inj z; omega))) ?_⟩
  have hh : holds i v w = [] := by
    unfold holds
    rw [if_pos]
    simp only [List.mem_cons, List.not_mem_nil, or_false, not_or] at *
    omega
  exact ⟨Nat.zero_le _, fun R nR => q _ R (Same.trans s4 (same_upd nR)) (by rw [upd_same, hh])⟩
theorem ok_q_due (T : Txt K mg) : FnOk P w K mg base CX0 1 T.f_q_due T.d_q_due ["_law_spot", "_law_one", "_law_two"] spDue := by
  refine T.F_q_due.ok sc_q_due (fun vs H Q E h => by obtain ⟨i, v, w, rfl, _⟩ := h; rfl) (fun cdv A outer s H vs Q E hr h => ?_)
  obtain ⟨i, v, w, rfl, hi, q⟩ := h
  refine ⟨_, (pss_cons (ps_if (pt_cmpR op_in_seq (pv 0) (pe_lst (pa_cons pe_int (pa_cons pe_int (pa_cons pe_int pa_nil)))) (by rfl))
    (pss_one (ps_ret (pe_lst pa_nil)))
    pss_nil)
    (pss_one (ps_ret (pe_ifExp (pt_cmpR op_in_seq (pv 0) (pe_lst (pa_cons pe_int (pa_cons pe_int (pa_cons pe_int (pa_cons pe_int (pa_cons pe_int (pa_cons pe_int pa_nil))))))) (by rfl)) (pe_lst (pa_cons (pv 1) (pa_cons (pv 2) pa_nil))) (pe_lst (pa_cons (pv 1) pa_nil)))))), ?_⟩
  by_cases h1 : i ∈ ([16, 35, 40] : List Nat)
  · refine ⟨.int i, rfl, by show 3 ≤ sizeLine; decide, fun p0 n0 => ⟨p0, _, rfl, .inl (SqL.of upd_same), rfl, rfl, _, rfl, if_true_of ((by decide : ∀ i ∈ ([16, 35, 40] : List Nat), inV (.int (i : Int)) [.int 16, .int 35, .int 40] = true) i h1) ?_⟩⟩
    exact ⟨Nat.zero_le _, fun R nR => q _ R (Same.trans (same_upd n0) (same_upd nR)) (by rw [upd_same]; unfold holds; rw [if_pos h1])⟩
  refine ⟨.int i, rfl, by show 3 ≤ sizeLine; decide, fun p0 n0 => ⟨p0, _, rfl, .inl (SqL.of upd_same), rfl, rfl, _, rfl, if_false_of ((by decide : ∀ i, i < 44 → i ∉ ([16, 35, 40] : List Nat) → inV (.int (i : Int)) [.int 16, .int 35, .int 40] = false) i hi h1) ?_⟩⟩
  by_cases h2 : i ∈ ([4, 12, 20, 23, 26, 31] : List Nat)
  · refine ⟨.int i, rfl, by show 6 ≤ sizeLine; decide, fun p1 n1 => ⟨p1, _, rfl, .inl (SqL.of upd_same), rfl, rfl, _, rfl, if_true_of ((by decide : ∀ i ∈ ([4, 12, 20, 23, 26, 31] : List Nat), inV (.int (i : Int)) [.int 4, .int 12, .int 20, .int 23, .int 26, .int 31] = true) i h2) ?_⟩⟩
    exact ⟨v, rfl, w, rfl, by show 2 ≤ sizeLine; decide, fun R nR => q _ R (Same.trans (same_upd n0) (Same.trans (same_upd n1) (same_upd nR))) (by rw [upd_same]; unfold holds; rw [if_neg h1, if_pos h2])⟩
  refine ⟨.int i, rfl, by show 6 ≤ sizeLine; decide, fun p1 n1 => ⟨p1, _, rfl, .inl (SqL.of upd_same), rfl, rfl, _, rfl, if_false_of ((by decide : ∀ i, i < 44 → i ∉ ([4, 12, 20, 23, 26, 31] : List Nat) → inV (.int (i : Int)) [.int 4, .int 12, .int 20, .int 23, .int 26, .int 31] = false) i hi h2) ?_⟩⟩
  exact ⟨v, rfl, by show 1 ≤ sizeLine; decide, fun R nR => q _ R (Same.trans (same_upd n0) (Same.trans (same_upd n1) (same_upd nR))) (by rw [upd_same]; unfold holds; rw [if_neg h1, if_neg h2])⟩
end
end K1

namespace K1
open PySem PySem.Spec PyProof.Rows L2 TL G ExG
section
variable {P : Program} {w : World} {K : PySem.W.Frag} {mg : Str → Option Value} {base : Heap}

def clsL (T : Txt K mg) : List Addr := [T.X_BadName, T.X_BadFilter, T.X_BadScope, T.X_BadNumber, T.X_BadSchema, T.X_BadEntry, T.X_BadDeed, T.X_BadChange, T.X_BadVector, T.X_BadIndex, T.X_BadText, T.X_BadHost, T.X_BadValue, T.X_UnknownAttribute, T.X_MirrorGiven, T.X_UnknownClass, T.X_BadClasses, T.X_NotAllowed, T.X_Missing, T.X_TooManyValues, T.X_ValueTaken, T.X_NotNamed, T.X_BadPlace, T.X_NoTarget, T.X_NotInteger, T.X_NoOrder, T.X_NoEntry, T.X_NameTaken, T.X_HasChildren, T.X_InUse, T.X_Inside, T.X_NoValue, T.X_Referral, T.X_IndexTaken, T.X_NoIndex, T.X_NothingToUndo, T.X_NoHost, T.X_Gap, T.X_Behind, T.X_Forgotten, T.X_PagingOver, T.X_Full, T.X_TooDeep, T.X_SizeLimit]
theorem cls_data (T : Txt K mg) : ∀ i, i < 44 → Exd.ClsD K ((clsL T).getD i 0)
  | 0, _ => T.cD_BadName
  | 1, _ => T.cD_BadFilter
  | 2, _ => T.cD_BadScope
  | 3, _ => T.cD_BadNumber
  | 4, _ => T.cD_BadSchema
  | 5, _ => T.cD_BadEntry
  | 6, _ => T.cD_BadDeed
  | 7, _ => T.cD_BadChange
  | 8, _ => T.cD_BadVector
  | 9, _ => T.cD_BadIndex
  | 10, _ => T.cD_BadText
  | 11, _ => T.cD_BadHost
  | 12, _ => T.cD_BadValue
  | 13, _ => T.cD_UnknownAttribute
  | 14, _ => T.cD_MirrorGiven
  | 15, _ => T.cD_UnknownClass
  | 16, _ => T.cD_BadClasses
  | 17, _ => T.cD_NotAllowed
  | 18, _ => T.cD_Missing
  | 19, _ => T.cD_TooManyValues
  | 20, _ => T.cD_ValueTaken
  | 21, _ => T.cD_NotNamed
  | 22, _ => T.cD_BadPlace
  | 23, _ => T.cD_NoTarget
  | 24, _ => T.cD_NotInteger
  | 25, _ => T.cD_NoOrder
  | 26, _ => T.cD_NoEntry
  | 27, _ => T.cD_NameTaken
  | 28, _ => T.cD_HasChildren
  | 29, _ => T.cD_InUse
  | 30, _ => T.cD_Inside
  | 31, _ => T.cD_NoValue
  | 32, _ => T.cD_Referral
  | 33, _ => T.cD_IndexTaken
  | 34, _ => T.cD_NoIndex
  | 35, _ => T.cD_NothingToUndo
  | 36, _ => T.cD_NoHost
  | 37, _ => T.cD_Gap
  | 38, _ => T.cD_Behind
  | 39, _ => T.cD_Forgotten
  | 40, _ => T.cD_PagingOver
  | 41, _ => T.cD_Full
  | 42, _ => T.cD_TooDeep
  | 43, _ => T.cD_SizeLimit
  | n + 44, h => absurd h (by omega)
theorem cls_at (T : Txt K mg) {v w : V} : ∀ i, i < 44 → ∃ fs, (errs T v w)[i]? = some ((clsL T).getD i 0, fs)
  | 0, _ => ⟨_, rfl⟩
  | 1, _ => ⟨_, rfl⟩
  | 2, _ => ⟨_, rfl⟩
  | 3, _ => ⟨_, rfl⟩
  | 4, _ => ⟨_, rfl⟩
  | 5, _ => ⟨_, rfl⟩
  | 6, _ => ⟨_, rfl⟩
  | 7, _ => ⟨_, rfl⟩
  | 8, _ => ⟨_, rfl⟩
  | 9, _ => ⟨_, rfl⟩
  | 10, _ => ⟨_, rfl⟩
  | 11, _ => ⟨_, rfl⟩
  | 12, _ => ⟨_, rfl⟩
  | 13, _ => ⟨_, rfl⟩
  | 14, _ => ⟨_, rfl⟩
  | 15, _ => ⟨_, rfl⟩
  | 16, _ => ⟨_, rfl⟩
  | 17, _ => ⟨_, rfl⟩
  | 18, _ => ⟨_, rfl⟩
  | 19, _ => ⟨_, rfl⟩
  | 20, _ => ⟨_, rfl⟩
  | 21, _ => ⟨_, rfl⟩
  | 22, _ => ⟨_, rfl⟩
  | 23, _ => ⟨_, rfl⟩
  | 24, _ => ⟨_, rfl⟩
  | 25, _ => ⟨_, rfl⟩
  | 26, _ => ⟨_, rfl⟩
  | 27, _ => ⟨_, rfl⟩
  | 28, _ => ⟨_, rfl⟩
  | 29, _ => ⟨_, rfl⟩
  | 30, _ => ⟨_, rfl⟩
  | 31, _ => ⟨_, rfl⟩
  | 32, _ => ⟨_, rfl⟩
  | 33, _ => ⟨_, rfl⟩
  | 34, _ => ⟨_, rfl⟩
  | 35, _ => ⟨_, rfl⟩
  | 36, _ => ⟨_, rfl⟩
  | 37, _ => ⟨_, rfl⟩
  | 38, _ => ⟨_, rfl⟩
  | 39, _ => ⟨_, rfl⟩
  | 40, _ => ⟨_, rfl⟩
  | 41, _ => ⟨_, rfl⟩
  | 42, _ => ⟨_, rfl⟩
  | 43, _ => ⟨_, rfl⟩
  | n + 44, h => absurd h (by omega)
def marksV (n : Nat) (f : Nat → Bool) : List V := (List.range n).map fun j => V.bl (f j)
/-- a row of bools of an error -/
def spTab (L : List Addr) (n : Nat) (f : Nat → Nat → Bool) : Sp := fun vs H Q _ => ∃ (a : Addr) (i : Nat) (fs : List (Str × V)), vs = [.ref a] ∧ i < 44 ∧ Err H a (L.getD i 0) fs ∧ ∀ H' R, Same H H' → H' R = some (.lst (marksV n (f i))) → Q (.ref R) H'
theorem ok_q_marks (T : Txt K mg) : FnOk P w K mg base CX0 1 T.f_q_marks T.d_q_marks ["_law_error"] (spTab (clsL T) 44 (fun i j => decide (i = j))) := by
  refine T.F_q_marks.ok sc_q_marks (fun vs H Q E h => by obtain ⟨a, i, fs, rfl, _⟩ := h; rfl) (fun cdv A outer s H vs Q E hr h => ?_)
  obtain ⟨a, i, fs, rfl, hi, er, q⟩ := h
  refine ⟨_, (Evl.pss_cut (ps_set (i := 1) sc_q_marks.nd rfl (.inl rfl) (pe_lst (pa_cons (pe_callB ExG.call_isG (by rfl) T.z_isinstance (by decide +kernel) (pa_cons (pv 0) (pa_cons (pe_glob (by rfl) T.gX_BadName T.rX_BadName) pa_nil))) (pa_cons (pe_callB ExG.call_isG (by rfl) T.z_isinstance (by decide +kernel) (pa_cons (pv 0) (pa_cons (pe_glob (by rfl) T.gX_BadFilter T.rX_BadFilter) pa_nil))) (pa_cons (pe_callB ExG.call_isG (by rfl) T.z_isinstance (by decide +kernel) (pa_cons (pv 0) (pa_cons (pe_glob (by rfl) T.gX_BadScope T.rX_BadScope) pa_nil))) pa_nil)))))
    (Evl.pss_cut (ps_set (i := 1) sc_q_marks.nd rfl (.inl rfl) (pe_op op_cat (pv 1) (pe_lst (pa_cons (pe_callB ExG.call_isG (by rfl) T.z_isinstance (by decide +kernel) (pa_cons (pv 0) (pa_cons (pe_glob (by rfl) T.gX_BadNumber T.rX_BadNumber) pa_nil))) (pa_cons (pe_callB ExG.call_isG (by rfl) T.z_isinstance (by decide +kernel) (pa_cons (pv 0) (pa_cons (pe_glob (by rfl) T.gX_BadSchema T.rX_BadSchema) pa_nil))) (pa_cons (pe_callB ExG.call_isG (by rfl) T.z_isinstance (by decide +kernel) (pa_cons (pv 0) (pa_cons (pe_glob (by rfl) T.gX_BadEntry T.rX_BadEntry) pa_nil))) pa_nil))))))
    (Evl.pss_cut (ps_set (i := 1) sc_q_marks.nd rfl (.inl rfl) (pe_op op_cat (pv 1) (pe_lst (pa_cons (pe_callB ExG.call_isG (by rfl) T.z_isinstance (by decide +kernel) (pa_cons (pv 0) (pa_cons (pe_glob (by rfl) T.gX_BadDeed T.rX_BadDeed) pa_nil))) (pa_cons (pe_callB ExG.call_isG (by rfl) T.z_isinstance (by decide +kernel) (pa_cons (pv 0) (pa_cons (pe_glob (by rfl) T.gX_BadChange T.rX_BadChange) pa_nil))) (pa_cons (pe_callB ExG.call_isG (by rfl) T.z_isinstance (by decide +kernel) (pa_cons (pv 0) (pa_cons (pe_glob (by rfl) T.gX_BadVector T.rX_BadVector) pa_nil))) pa_nil))))))
    (Evl.pss_cut (ps_set (i := 1) sc_q_marks.nd rfl (.inl rfl) (pe_op op_cat (pv 1) (pe_lst (pa_cons (pe_callB ExG.call_isG (by rfl) T.z_isinstance (by decide +kernel) (pa_cons (pv 0) (pa_cons (pe_glob (by rfl) T.gX_BadIndex T.rX_BadIndex) pa_nil))) (pa_cons (pe_callB ExG.call_isG (by rfl) T.z_isinstance (by decide +kernel) (pa_cons (pv 0) (pa_cons (pe_glob (by rfl) T.gX_BadText T.rX_BadText) pa_nil))) (pa_cons (pe_callB ExG.call_isG (by rfl) T.z_isinstance (by decide +kernel) (pa_cons (pv 0) (pa_cons (pe_glob (by rfl) T.gX_BadHost T.rX_BadHost) pa_nil))) pa_nil))))))
    (Evl.pss_cut (ps_set (i := 1) sc_q_marks.nd rfl (.inl rfl) (pe_op op_cat (pv 1) (pe_lst (pa_cons (pe_callB ExG.call_isG (by rfl) T.z_isinstance (by decide +kernel) (pa_cons (pv 0) (pa_cons (pe_glob (by rfl) T.gX_BadValue T.rX_BadValue) pa_nil))) (pa_cons (pe_callB ExG.call_isG (by rfl) T.z_isinstance (by decide +kernel) (pa_cons (pv 0) (pa_cons (pe_glob (by rfl) T.gX_UnknownAttribute T.rX_UnknownAttribute) pa_nil))) (pa_cons (pe_callB ExG.call_isG (by rfl) T.z_isinstance (by decide +kernel) (pa_cons (pv 0) (pa_cons (pe_glob (by rfl) T.gX_MirrorGiven T.rX_MirrorGiven) pa_nil))) pa_nil))))))
    (Evl.pss_cut (ps_set (i := 1) sc_q_marks.nd rfl (.inl rfl) (pe_op op_cat (pv 1) (pe_lst (pa_cons (pe_callB ExG.call_isG (by rfl) T.z_isinstance (by decide +kernel) (pa_cons (pv 0) (pa_cons (pe_glob (by rfl) T.gX_UnknownClass T.rX_UnknownClass) pa_nil))) (pa_cons (pe_callB ExG.call_isG (by rfl) T.z_isinstance (by decide +kernel) (pa_cons (pv 0) (pa_cons (pe_glob (by rfl) T.gX_BadClasses T.rX_BadClasses) pa_nil))) (pa_cons (pe_callB ExG.call_isG (by rfl) T.z_isinstance (by decide +kernel) (pa_cons (pv 0) (pa_cons (pe_glob (by rfl) T.gX_NotAllowed T.rX_NotAllowed) pa_nil))) pa_nil))))))
    (Evl.pss_cut (ps_set (i := 1) sc_q_marks.nd rfl (.inl rfl) (pe_op op_cat (pv 1) (pe_lst (pa_cons (pe_callB ExG.call_isG (by rfl) T.z_isinstance (by decide +kernel) (pa_cons (pv 0) (pa_cons (pe_glob (by rfl) T.gX_Missing T.rX_Missing) pa_nil))) (pa_cons (pe_callB ExG.call_isG (by rfl) T.z_isinstance (by decide +kernel) (pa_cons (pv 0) (pa_cons (pe_glob (by rfl) T.gX_TooManyValues T.rX_TooManyValues) pa_nil))) (pa_cons (pe_callB ExG.call_isG (by rfl) T.z_isinstance (by decide +kernel) (pa_cons (pv 0) (pa_cons (pe_glob (by rfl) T.gX_ValueTaken T.rX_ValueTaken) pa_nil))) pa_nil))))))
    (Evl.pss_cut (ps_set (i := 1) sc_q_marks.nd rfl (.inl rfl) (pe_op op_cat (pv 1) (pe_lst (pa_cons (pe_callB ExG.call_isG (by rfl) T.z_isinstance (by decide +kernel) (pa_cons (pv 0) (pa_cons (pe_glob (by rfl) T.gX_NotNamed T.rX_NotNamed) pa_nil))) (pa_cons (pe_callB ExG.call_isG (by rfl) T.z_isinstance (by decide +kernel) (pa_cons (pv 0) (pa_cons (pe_glob (by rfl) T.gX_BadPlace T.rX_BadPlace) pa_nil))) (pa_cons (pe_callB ExG.call_isG (by rfl) T.z_isinstance (by decide +kernel) (pa_cons (pv 0) (pa_cons (pe_glob (by rfl) T.gX_NoTarget T.rX_NoTarget) pa_nil))) pa_nil))))))
    (Evl.pss_cut (ps_set (i := 1) sc_q_marks.nd rfl (.inl rfl) (pe_op op_cat (pv 1) (pe_lst (pa_cons (pe_callB ExG.call_isG (by rfl) T.z_isinstance (by decide +kernel) (pa_cons (pv 0) (pa_cons (pe_glob (by rfl) T.gX_NotInteger T.rX_NotInteger) pa_nil))) (pa_cons (pe_callB ExG.call_isG (by rfl) T.z_isinstance (by decide +kernel) (pa_cons (pv 0) (pa_cons (pe_glob (by rfl) T.gX_NoOrder T.rX_NoOrder) pa_nil))) (pa_cons (pe_callB ExG.call_isG (by rfl) T.z_isinstance (by decide +kernel) (pa_cons (pv 0) (pa_cons (pe_glob (by rfl) T.gX_NoEntry T.rX_NoEntry) pa_nil))) pa_nil))))))
    (Evl.pss_cut (ps_set (i := 1) sc_q_marks.nd rfl (.inl rfl) (pe_op op_cat (pv 1) (pe_lst (pa_cons (pe_callB ExG.call_isG (by rfl) T.z_isinstance (by decide +kernel) (pa_cons (pv 0) (pa_cons (pe_glob (by rfl) T.gX_NameTaken T.rX_NameTaken) pa_nil))) (pa_cons (pe_callB ExG.call_isG (by rfl) T.z_isinstance (by decide +kernel) (pa_cons (pv 0) (pa_cons (pe_glob (by rfl) T.gX_HasChildren T.rX_HasChildren) pa_nil))) (pa_cons (pe_callB ExG.call_isG (by rfl) T.z_isinstance (by decide +kernel) (pa_cons (pv 0) (pa_cons (pe_glob (by rfl) T.gX_InUse T.rX_InUse) pa_nil))) pa_nil))))))
    (Evl.pss_cut (ps_set (i := 1) sc_q_marks.nd rfl (.inl rfl) (pe_op op_cat (pv 1) (pe_lst (pa_cons (pe_callB ExG.call_isG (by rfl) T.z_isinstance (by decide +kernel) (pa_cons (pv 0) (pa_cons (pe_glob (by rfl) T.gX_Inside T.rX_Inside) pa_nil))) (pa_cons (pe_callB ExG.call_isG (by rfl) T.z_isinstance (by decide +kernel) (pa_cons (pv 0) (pa_cons (pe_glob (by rfl) T.gX_NoValue T.rX_NoValue) pa_nil))) (pa_cons (pe_callB ExG.call_isG (by rfl) T.z_isinstance (by decide +kernel) (pa_cons (pv 0) (pa_cons (pe_glob (by rfl) T.gX_Referral T.rX_Referral) pa_nil))) pa_nil))))))
    (Evl.pss_cut (ps_set (i := 1) sc_q_marks.nd rfl (.inl rfl) (pe_op op_cat (pv 1) (pe_lst (pa_cons (pe_callB ExG.call_isG (by rfl) T.z_isinstance (by decide +kernel) (pa_cons (pv 0) (pa_cons (pe_glob (by rfl) T.gX_IndexTaken T.rX_IndexTaken) pa_nil))) (pa_cons (pe_callB ExG.call_isG (by rfl) T.z_isinstance (by decide +kernel) (pa_cons (pv 0) (pa_cons (pe_glob (by rfl) T.gX_NoIndex T.rX_NoIndex) pa_nil))) (pa_cons (pe_callB ExG.call_isG (by rfl) T.z_isinstance (by decide +kernel) (pa_cons (pv 0) (pa_cons (pe_glob (by rfl) T.gX_NothingToUndo T.rX_NothingToUndo) pa_nil))) pa_nil))))))
    (Evl.pss_cut (ps_set (i := 1) sc_q_marks.nd rfl (.inl rfl) (pe_op op_cat (pv 1) (pe_lst (pa_cons (pe_callB ExG.call_isG (by rfl) T.z_isinstance (by decide +kernel) (pa_cons (pv 0) (pa_cons (pe_glob (by rfl) T.gX_NoHost T.rX_NoHost) pa_nil))) (pa_cons (pe_callB ExG.call_isG (by rfl) T.z_isinstance (by decide +kernel) (pa_cons (pv 0) (pa_cons (pe_glob (by rfl) T.gX_Gap T.rX_Gap) pa_nil))) (pa_cons (pe_callB ExG.call_isG (by rfl) T.z_isinstance (by decide +kernel) (pa_cons (pv 0) (pa_cons (pe_glob (by rfl) T.gX_Behind T.rX_Behind) pa_nil))) pa_nil))))))
    (Evl.pss_cut (ps_set (i := 1) sc_q_marks.nd rfl (.inl rfl) (pe_op op_cat (pv 1) (pe_lst (pa_cons (pe_callB ExG.call_isG (by rfl) T.z_isinstance (by decide +kernel) (pa_cons (pv 0) (pa_cons (pe_glob (by rfl) T.gX_Forgotten T.rX_Forgotten) pa_nil))) (pa_cons (pe_callB ExG.call_isG (by rfl) T.z_isinstance (by decide +kernel) (pa_cons (pv 0) (pa_cons (pe_glob (by rfl) T.gX_PagingOver T.rX_PagingOver) pa_nil))) (pa_cons (pe_callB ExG.call_isG (by rfl) T.z_isinstance (by decide +kernel) (pa_cons (pv 0) (pa_cons (pe_glob (by rfl) T.gX_Full T.rX_Full) pa_nil))) pa_nil))))))
    (pss_one (ps_ret (pe_op op_cat (pv 1) (pe_lst (pa_cons (pe_callB ExG.call_isG (by rfl) T.z_isinstance (by decide +kernel) (pa_cons (pv 0) (pa_cons (pe_glob (by rfl) T.gX_TooDeep T.rX_TooDeep) pa_nil))) (pa_cons (pe_callB ExG.call_isG (by rfl) T.z_isinstance (by decide +kernel) (pa_cons (pv 0) (pa_cons (pe_glob (by rfl) T.gX_SizeLimit T.rX_SizeLimit) pa_nil))) pa_nil)))))))))))))))))))), ?_⟩
  refine ⟨fun σ' H' => ∃ (L : Addr), σ' = [some (.ref a), some (.ref L)] ∧ Same H H' ∧ H' L = some (.lst ((marksV 44 ((fun i j => decide (i = j)) i)).take 3)), ?_, ?_⟩
  · have s0 : Same H H := Same.refl H
    refine ⟨.ref a, rfl, a, (clsL T).getD i 0, fs, .ref T.X_BadName, .ref T.X_BadName, _, rfl, er.ext s0, cls_data T i hi, .own _, ExG.kit_of (i := i) (j := 0) T.kt0 hi (by show 0 < 44; decide), .ref a, rfl, a, (clsL T).getD i 0, fs, .ref T.X_BadFilter, .ref T.X_BadFilter, _, rfl, er.ext s0, cls_data T i hi, .own _, ExG.kit_of (i := i) (j := 1) T.kt0 hi (by show 1 < 44; decide), .ref a, rfl, a, (clsL T).getD i 0, fs, .ref T.X_BadScope, .ref T.X_BadScope, _, rfl, er.ext s0, cls_data T i hi, .own _, ExG.kit_of (i := i) (j := 2) T.kt0 hi (by show 2 < 44; decide), by show 3 ≤ sizeLine; decide, fun R nR => ?_⟩
    exact ⟨R, rfl, same_upd nR, upd_same⟩
  rintro σ1 H1 ⟨L, rfl, sH, hL⟩
  refine ⟨fun σ' H' => ∃ (L : Addr), σ' = [some (.ref a), some (.ref L)] ∧ Same H H' ∧ H' L = some (.lst ((marksV 44 ((fun i j => decide (i = j)) i)).take 6)), ?_, ?_⟩
  · have s0 : Same H H1 := sH
    refine ⟨.ref L, rfl, .ref a, rfl, a, (clsL T).getD i 0, fs, .ref T.X_BadNumber, .ref T.X_BadNumber, _, rfl, er.ext s0, cls_data T i hi, .own _, ExG.kit_of (i := i) (j := 3) T.kt0 hi (by show 3 < 44; decide), .ref a, rfl, a, (clsL T).getD i 0, fs, .ref T.X_BadSchema, .ref T.X_BadSchema, _, rfl, er.ext s0, cls_data T i hi, .own _, ExG.kit_of (i := i) (j := 4) T.kt0 hi (by show 4 < 44; decide), .ref a, rfl, a, (clsL T).getD i 0, fs, .ref T.X_BadEntry, .ref T.X_BadEntry, _, rfl, er.ext s0, cls_data T i hi, .own _, ExG.kit_of (i := i) (j := 5) T.kt0 hi (by show 5 < 44; decide), by show 3 ≤ sizeLine; decide, fun R nR => ?_⟩
    refine ⟨L, R, _, _, rfl, rfl, same_upd nR _ _ hL, upd_same, (by show 6 ≤ sizeLine; decide), fun R2 n2 => ?_⟩
    exact ⟨R2, rfl, s0.trans ((same_upd nR).trans (same_upd n2)), upd_same⟩
  rintro σ2 H2 ⟨L, rfl, sH, hL⟩
  refine ⟨fun σ' H' => ∃ (L : Addr), σ' = [some (.ref a), some (.ref L)] ∧ Same H H' ∧ H' L = some (.lst ((marksV 44 ((fun i j => decide (i = j)) i)).take 9)), ?_, ?_⟩
  · have s0 : Same H H2 := sH
    refine ⟨.ref L, rfl, .ref a, rfl, a, (clsL T).getD i 0, fs, .ref T.X_BadDeed, .ref T.X_BadDeed, _, rfl, er.ext s0, cls_data T i hi, .own _, ExG.kit_of (i := i) (j := 6) T.kt0 hi (by show 6 < 44; decide), .ref a, rfl, a, (clsL T).getD i 0, fs, .ref T.X_BadChange, .ref T.X_BadChange, _, rfl, er.ext s0, cls_data T i hi, .own _, ExG.kit_of (i := i) (j := 7) T.kt0 hi (by show 7 < 44; decide), .ref a, rfl, a, (clsL T).getD i 0, fs, .ref T.X_BadVector, .ref T.X_BadVector, _, rfl, er.ext s0, cls_data T i hi, .own _, ExG.kit_of (i := i) (j := 8) T.kt0 hi (by show 8 < 44; decide), by show 3 ≤ sizeLine; decide, fun R nR => ?_⟩
    refine ⟨L, R, _, _, rfl, rfl, same_upd nR _ _ hL, upd_same, (by show 9 ≤ sizeLine; decide), fun R2 n2 => ?_⟩
    exact ⟨R2, rfl, s0.trans ((same_upd nR).trans (same_upd n2)), upd_same⟩
  rintro σ3 H3 ⟨L, rfl, sH, hL⟩
  refine ⟨fun σ' H' => ∃ (L : Addr), σ' = [some (.ref a), some (.ref L)] ∧ Same H H' ∧ H' L = some (.lst ((marksV 44 ((fun i j => decide (i = j)) i)).take 12)), ?_, ?_⟩
  · have s0 : Same H H3 := sH
    refine ⟨.ref L, rfl, .ref a, rfl, a, (clsL T).getD i 0, fs, .ref T.X_BadIndex, .ref T.X_BadIndex, _, rfl, er.ext s0, cls_data T i hi, .own _, ExG.kit_of (i := i) (j := 9) T.kt0 hi (by show 9 < 44; decide), .ref a, rfl, a, (clsL T).getD i 0, fs, .ref T.X_BadText, .ref T.X_BadText, _, rfl, er.ext s0, cls_data T i hi, .own _, ExG.kit_of (i := i) (j := 10) T.kt0 hi (by show 10 < 44; decide), .ref a, rfl, a, (clsL T).getD i 0, fs, .ref T.X_BadHost, .ref T.X_BadHost, _, rfl, er.ext s0, cls_data T i hi, .own _, ExG.kit_of (i := i) (j := 11) T.kt0 hi (by show 11 < 44; decide), by show 3 ≤ sizeLine; decide, fun R nR => ?_⟩
    refine ⟨L, R, _, _, rfl, rfl, same_upd nR _ _ hL, upd_same, (by show 12 ≤ sizeLine; decide), fun R2 n2 => ?_⟩
    exact ⟨R2, rfl, s0.trans ((same_upd nR).trans (same_upd n2)), upd_same⟩
  rintro σ4 H4 ⟨L, rfl, sH, hL⟩
  refine ⟨fun σ' H' => ∃ (L : Addr), σ' = [some (.ref a), some (.ref L)] ∧ Same H H' ∧ H' L = some (.lst ((marksV 44 ((fun i j => decide (i = j)) i)).take 15)), ?_, ?_⟩
  · have s0 : Same H H4 := sH
    refine ⟨.ref L, rfl, .ref a, rfl, a, (clsL T).getD i 0, fs, .ref T.X_BadValue, .ref T.X_BadValue, _, rfl, er.ext s0, cls_data T i hi, .own _, ExG.kit_of (i := i) (j := 12) T.kt0 hi (by show 12 < 44; decide), .ref a, rfl, a, (clsL T).getD i 0, fs, .ref T.X_UnknownAttribute, .ref T.X_UnknownAttribute, _, rfl, er.ext s0, cls_data T i hi, .own _, ExG.kit_of (i := i) (j := 13) T.kt0 hi (by show 13 < 44; decide), .ref a, rfl, a, (clsL T).getD i 0, fs, .ref T.X_MirrorGiven, .ref T.X_MirrorGiven, _, rfl, er.ext s0, cls_data T i hi, .own _, ExG.kit_of (i := i) (j := 14) T.kt0 hi (by show 14 < 44; decide), by show 3 ≤ sizeLine; decide, fun R nR => ?_⟩
    refine ⟨L, R, _, _, rfl, rfl, same_upd nR _ _ hL, upd_same, (by show 15 ≤ sizeLine; decide), fun R2 n2 => ?_⟩
    exact ⟨R2, rfl, s0.trans ((same_upd nR).trans (same_upd n2)), upd_same⟩
  rintro σ5 H5 ⟨L, rfl, sH, hL⟩
  refine ⟨fun σ' H' => ∃ (L : Addr), σ' = [some (.ref a), some (.ref L)] ∧ Same H H' ∧ H' L = some (.lst ((marksV 44 ((fun i j => decide (i = j)) i)).take 18)), ?_, ?_⟩
  · have s0 : Same H H5 := sH
    refine ⟨.ref L, rfl, .ref a, rfl, a, (clsL T).getD i 0, fs, .ref T.X_UnknownClass, .ref T.X_UnknownClass, _, rfl, er.ext s0, cls_data T i hi, .own _, ExG.kit_of (i := i) (j := 15) T.kt0 hi (by show 15 < 44; decide), .ref a, rfl, a, (clsL T).getD i 0, fs, .ref T.X_BadClasses, .ref T.X_BadClasses, _, rfl, er.ext s0, cls_data T i hi, .own _, ExG.kit_of (i := i) (j := 16) T.kt0 hi (by show 16 < 44; decide), .ref a, rfl, a, (clsL T).getD i 0, fs, .ref T.X_NotAllowed, .ref T.X_NotAllowed, _, rfl, er.ext s0, cls_data T i hi, .own _, ExG.kit_of (i := i) (j := 17) T.kt0 hi (by show 17 < 44; decide), by show 3 ≤ sizeLine; decide, fun R nR => ?_⟩
    refine ⟨L, R, _, _, rfl, rfl, same_upd nR _ _ hL, upd_same, (by show 18 ≤ sizeLine; decide), fun R2 n2 => ?_⟩
    exact ⟨R2, rfl, s0.trans ((same_upd nR).trans (same_upd n2)), upd_same⟩
  rintro σ6 H6 ⟨L, rfl, sH, hL⟩
  refine ⟨fun σ' H' => ∃ (L : Addr), σ' = [some (.ref a), some (.ref L)] ∧ Same H H' ∧ H' L = some (.lst ((marksV 44 ((fun i j => decide (i = j)) i)).take 21)), ?_, ?_⟩
  · have s0 : Same H H6 := sH
    refine ⟨.ref L, rfl, .ref a, rfl, a, (clsL T).getD i 0, fs, .ref T.X_Missing, .ref T.X_Missing, _, rfl, er.ext s0, cls_data T i hi, .own _, ExG.kit_of (i := i) (j := 18) T.kt0 hi (by show 18 < 44; decide), .ref a, rfl, a, (clsL T).getD i 0, fs, .ref T.X_TooManyValues, .ref T.X_TooManyValues, _, rfl, er.ext s0, cls_data T i hi, .own _, ExG.kit_of (i := i) (j := 19) T.kt0 hi (by show 19 < 44; decide), .ref a, rfl, a, (clsL T).getD i 0, fs, .ref T.X_ValueTaken, .ref T.X_ValueTaken, _, rfl, er.ext s0, cls_data T i hi, .own _, ExG.kit_of (i := i) (j := 20) T.kt0 hi (by show 20 < 44; decide), by show 3 ≤ sizeLine; decide, fun R nR => ?_⟩
    refine ⟨L, R, _, _, rfl, rfl, same_upd nR _ _ hL, upd_same, (by show 21 ≤ sizeLine; decide), fun R2 n2 => ?_⟩
    exact ⟨R2, rfl, s0.trans ((same_upd nR).trans (same_upd n2)), upd_same⟩
  rintro σ7 H7 ⟨L, rfl, sH, hL⟩
  refine ⟨fun σ' H' => ∃ (L : Addr), σ' = [some (.ref a), some (.ref L)] ∧ Same H H' ∧ H' L = some (.lst ((marksV 44 ((fun i j => decide (i = j)) i)).take 24)), ?_, ?_⟩
  · have s0 : Same H H7 := sH
    refine ⟨.ref L, rfl, .ref a, rfl, a, (clsL T).getD i 0, fs, .ref T.X_NotNamed, .ref T.X_NotNamed, _, rfl, er.ext s0, cls_data T i hi, .own _, ExG.kit_of (i := i) (j := 21) T.kt0 hi (by show 21 < 44; decide), .ref a, rfl, a, (clsL T).getD i 0, fs, .ref T.X_BadPlace, .ref T.X_BadPlace, _, rfl, er.ext s0, cls_data T i hi, .own _, ExG.kit_of (i := i) (j := 22) T.kt0 hi (by show 22 < 44; decide), .ref a, rfl, a, (clsL T).getD i 0, fs, .ref T.X_NoTarget, .ref T.X_NoTarget, _, rfl, er.ext s0, cls_data T i hi, .own _, ExG.kit_of (i := i) (j := 23) T.kt0 hi (by show 23 < 44; decide), by show 3 ≤ sizeLine; decide, fun R nR => ?_⟩
    refine ⟨L, R, _, _, rfl, rfl, same_upd nR _ _ hL, upd_same, (by show 24 ≤ sizeLine; decide), fun R2 n2 => ?_⟩
    exact ⟨R2, rfl, s0.trans ((same_upd nR).trans (same_upd n2)), upd_same⟩
  rintro σ8 H8 ⟨L, rfl, sH, hL⟩
  refine ⟨fun σ' H' => ∃ (L : Addr), σ' = [some (.ref a), some (.ref L)] ∧ Same H H' ∧ H' L = some (.lst ((marksV 44 ((fun i j => decide (i = j)) i)).take 27)), ?_, ?_⟩
  · have s0 : Same H H8 := sH
    refine ⟨.ref L, rfl, .ref a, rfl, a, (clsL T).getD i 0, fs, .ref T.X_NotInteger, .ref T.X_NotInteger, _, rfl, er.ext s0, cls_data T i hi, .own _, ExG.kit_of (i := i) (j := 24) T.kt0 hi (by show 24 < 44; decide), .ref a, rfl, a, (clsL T).getD i 0, fs, .ref T.X_NoOrder, .ref T.X_NoOrder, _, rfl, er.ext s0, cls_data T i hi, .own _, ExG.kit_of (i := i) (j := 25) T.kt0 hi (by show 25 < 44; decide), .ref a, rfl, a, (clsL T).getD i 0, fs, .ref T.X_NoEntry, .ref T.X_NoEntry, _, rfl, er.ext s0, cls_data T i hi, .own _, ExG.kit_of (i := i) (j := 26) T.kt0 hi (by show 26 < 44; decide), by show 3 ≤ sizeLine; decide, fun R nR => ?_⟩
    refine ⟨L, R, _, _, rfl, rfl, same_upd nR _ _ hL, upd_same, (by show 27 ≤ sizeLine; decide), fun R2 n2 => ?_⟩
    exact ⟨R2, rfl, s0.trans ((same_upd nR).trans (same_upd n2)), upd_same⟩
  rintro σ9 H9 ⟨L, rfl, sH, hL⟩
  refine ⟨fun σ' H' => ∃ (L : Addr), σ' = [some (.ref a), some (.ref L)] ∧ Same H H' ∧ H' L = some (.lst ((marksV 44 ((fun i j => decide (i = j)) i)).take 30)), ?_, ?_⟩
  · have s0 : Same H H9 := sH
    refine ⟨.ref L, rfl, .ref a, rfl, a, (clsL T).getD i 0, fs, .ref T.X_NameTaken, .ref T.X_NameTaken, _, rfl, er.ext s0, cls_data T i hi, .own _, ExG.kit_of (i := i) (j := 27) T.kt0 hi (by show 27 < 44; decide), .ref a, rfl, a, (clsL T).getD i 0, fs, .ref T.X_HasChildren, .ref T.X_HasChildren, _, rfl, er.ext s0, cls_data T i hi, .own _, ExG.kit_of (i := i) (j := 28) T.kt0 hi (by show 28 < 44; decide), .ref a, rfl, a, (clsL T).getD i 0, fs, .ref T.X_InUse, .ref T.X_InUse, _, rfl, er.ext s0, cls_data T i hi, .own _, ExG.kit_of (i := i) (j := 29) T.kt0 hi (by show 29 < 44; decide), by show 3 ≤ sizeLine; decide, fun R nR => ?_⟩
    refine ⟨L, R, _, _, rfl, rfl, same_upd nR _ _ hL, upd_same, (by show 30 ≤ sizeLine; decide), fun R2 n2 => ?_⟩
    exact ⟨R2, rfl, s0.trans ((same_upd nR).trans (same_upd n2)), upd_same⟩
  rintro σ10 H10 ⟨L, rfl, sH, hL⟩
  refine ⟨fun σ' H' => ∃ (L : Addr), σ' = [some (.ref a), some (.ref L)] ∧ Same H H' ∧ H' L = some (.lst ((marksV 44 ((fun i j => decide (i = j)) i)).take 33)), ?_, ?_⟩
  · have s0 : Same H H10 := sH
    refine ⟨.ref L, rfl, .ref a, rfl, a, (clsL T).getD i 0, fs, .ref T.X_Inside, .ref T.X_Inside, _, rfl, er.ext s0, cls_data T i hi, .own _, ExG.kit_of (i := i) (j := 30) T.kt0 hi (by show 30 < 44; decide), .ref a, rfl, a, (clsL T).getD i 0, fs, .ref T.X_NoValue, .ref T.X_NoValue, _, rfl, er.ext s0, cls_data T i hi, .own _, ExG.kit_of (i := i) (j := 31) T.kt0 hi (by show 31 < 44; decide), .ref a, rfl, a, (clsL T).getD i 0, fs, .ref T.X_Referral, .ref T.X_Referral, _, rfl, er.ext s0, cls_data T i hi, .own _, ExG.kit_of (i := i) (j := 32) T.kt0 hi (by show 32 < 44; decide), by show 3 ≤ sizeLine; decide, fun R nR => ?_⟩
    refine ⟨L, R, _, _, rfl, rfl, same_upd nR _ _ hL, upd_same, (by show 33 ≤ sizeLine; decide), fun R2 n2 => ?_⟩
    exact ⟨R2, rfl, s0.trans ((same_upd nR).trans (same_upd n2)), upd_same⟩
  rintro σ11 H11 ⟨L, rfl, sH, hL⟩
  refine ⟨fun σ' H' => ∃ (L : Addr), σ' = [some (.ref a), some (.ref L)] ∧ Same H H' ∧ H' L = some (.lst ((marksV 44 ((fun i j => decide (i = j)) i)).take 36)), ?_, ?_⟩
  · have s0 : Same H H11 := sH
    refine ⟨.ref L, rfl, .ref a, rfl, a, (clsL T).getD i 0, fs, .ref T.X_IndexTaken, .ref T.X_IndexTaken, _, rfl, er.ext s0, cls_data T i hi, .own _, ExG.kit_of (i := i) (j := 33) T.kt0 hi (by show 33 < 44; decide), .ref a, rfl, a, (clsL T).getD i 0, fs, .ref T.X_NoIndex, .ref T.X_NoIndex, _, rfl, er.ext s0, cls_data T i hi, .own _, ExG.kit_of (i := i) (j := 34) T.kt0 hi (by show 34 < 44; decide), .ref a, rfl, a, (clsL T).getD i 0, fs, .ref T.X_NothingToUndo, .ref T.X_NothingToUndo, _, rfl, er.ext s0, cls_data T i hi, .own _, ExG.kit_of (i := i) (j := 35) T.kt0 hi (by show 35 < 44; decide), by show 3 ≤ sizeLine; decide, fun R nR => ?_⟩
    refine ⟨L, R, _, _, rfl, rfl, same_upd nR _ _ hL, upd_same, (by show 36 ≤ sizeLine; decide), fun R2 n2 => ?_⟩
    exact ⟨R2, rfl, s0.trans ((same_upd nR).trans (same_upd n2)), upd_same⟩
  rintro σ12 H12 ⟨L, rfl, sH, hL⟩
  refine ⟨fun σ' H' => ∃ (L : Addr), σ' = [some (.ref a), some (.ref L)] ∧ Same H H' ∧ H' L = some (.lst ((marksV 44 ((fun i j => decide (i = j)) i)).take 39)), ?_, ?_⟩
  · have s0 : Same H H12 := sH
    refine ⟨.ref L, rfl, .ref a, rfl, a, (clsL T).getD i 0, fs, .ref T.X_NoHost, .ref T.X_NoHost, _, rfl, er.ext s0, cls_data T i hi, .own _, ExG.kit_of (i := i) (j := 36) T.kt0 hi (by show 36 < 44; decide), .ref a, rfl, a, (clsL T).getD i 0, fs, .ref T.X_Gap, .ref T.X_Gap, _, rfl, er.ext s0, cls_data T i hi, .own _, ExG.kit_of (i := i) (j := 37) T.kt0 hi (by show 37 < 44; decide), .ref a, rfl, a, (clsL T).getD i 0, fs, .ref T.X_Behind, .ref T.X_Behind, _, rfl, er.ext s0, cls_data T i hi, .own _, ExG.kit_of (i := i) (j := 38) T.kt0 hi (by show 38 < 44; decide), by show 3 ≤ sizeLine; decide, fun R nR => ?_⟩
    refine ⟨L, R, _, _, rfl, rfl, same_upd nR _ _ hL, upd_same, (by show 39 ≤ sizeLine; decide), fun R2 n2 => ?_⟩
    exact ⟨R2, rfl, s0.trans ((same_upd nR).trans (same_upd n2)), upd_same⟩
  rintro σ13 H13 ⟨L, rfl, sH, hL⟩
  refine ⟨fun σ' H' => ∃ (L : Addr), σ' = [some (.ref a), some (.ref L)] ∧ Same H H' ∧ H' L = some (.lst ((marksV 44 ((fun i j => decide (i = j)) i)).take 42)), ?_, ?_⟩
  · have s0 : Same H H13 := sH
    refine ⟨.ref L, rfl, .ref a, rfl, a, (clsL T).getD i 0, fs, .ref T.X_Forgotten, .ref T.X_Forgotten, _, rfl, er.ext s0, cls_data T i hi, .own _, ExG.kit_of (i := i) (j := 39) T.kt0 hi (by show 39 < 44; decide), .ref a, rfl, a, (clsL T).getD i 0, fs, .ref T.X_PagingOver, .ref T.X_PagingOver, _, rfl, er.ext s0, cls_data T i hi, .own _, ExG.kit_of (i := i) (j := 40) T.kt0 hi (by show 40 < 44; decide), .ref a, rfl, a, (clsL T).getD i 0, fs, .ref T.X_Full, .ref T.X_Full, _, rfl, er.ext s0, cls_data T i hi, .own _, ExG.kit_of (i := i) (j := 41) T.kt0 hi (by show 41 < 44; decide), by show 3 ≤ sizeLine; decide, fun R nR => ?_⟩
    refine ⟨L, R, _, _, rfl, rfl, same_upd nR _ _ hL, upd_same, (by show 42 ≤ sizeLine; decide), fun R2 n2 => ?_⟩
    exact ⟨R2, rfl, s0.trans ((same_upd nR).trans (same_upd n2)), upd_same⟩
  rintro σ14 H14 ⟨L, rfl, sH, hL⟩
  have s0 : Same H H14 := sH
  refine ⟨.ref L, rfl, .ref a, rfl, a, (clsL T).getD i 0, fs, .ref T.X_TooDeep, .ref T.X_TooDeep, _, rfl, er.ext s0, cls_data T i hi, .own _, ExG.kit_of (i := i) (j := 42) T.kt0 hi (by show 42 < 44; decide), .ref a, rfl, a, (clsL T).getD i 0, fs, .ref T.X_SizeLimit, .ref T.X_SizeLimit, _, rfl, er.ext s0, cls_data T i hi, .own _, ExG.kit_of (i := i) (j := 43) T.kt0 hi (by show 43 < 44; decide), by show 2 ≤ sizeLine; decide, fun R nR => ?_⟩
  refine ⟨L, R, _, _, rfl, rfl, same_upd nR _ _ hL, upd_same, (by show 44 ≤ sizeLine; decide), fun R2 n2 => ?_⟩
  exact q _ R2 (s0.trans ((same_upd nR).trans (same_upd n2))) upd_same
theorem ok_q_families (T : Txt K mg) : FnOk P w K mg base CX0 1 T.f_q_families T.d_q_families ["_law_error"] (spTab (clsL T) 6 (fun i j => decide (ExG.grp i = j % 3))) := by
  refine T.F_q_families.ok sc_q_families (fun vs H Q E h => by obtain ⟨a, i, fs, rfl, _⟩ := h; rfl) (fun cdv A outer s H vs Q E hr h => ?_)
  obtain ⟨a, i, fs, rfl, hi, er, q⟩ := h
  refine ⟨_, (Evl.pss_cut (ps_set (i := 1) sc_q_families.nd rfl (.inl rfl) (pe_lst (pa_cons (pe_callB ExG.call_isG (by rfl) T.z_isinstance (by decide +kernel) (pa_cons (pv 0) (pa_cons (pe_glob (by rfl) T.gX_Invalid T.rX_Invalid) pa_nil))) (pa_cons (pe_callB ExG.call_isG (by rfl) T.z_isinstance (by decide +kernel) (pa_cons (pv 0) (pa_cons (pe_glob (by rfl) T.gX_Conflict T.rX_Conflict) pa_nil))) (pa_cons (pe_callB ExG.call_isG (by rfl) T.z_isinstance (by decide +kernel) (pa_cons (pv 0) (pa_cons (pe_glob (by rfl) T.gX_Excess T.rX_Excess) pa_nil))) pa_nil)))))
    (pss_one (ps_ret (pe_op op_cat (pv 1) (pe_lst (pa_cons (pe_callB ExG.call_isG (by rfl) T.z_isinstance (by decide +kernel) (pa_cons (pv 0) (pa_cons (pe_bltn (v := .ty "ValueError") (by rfl) T.z_ValueError (by decide +kernel) rfl) pa_nil))) (pa_cons (pe_callB ExG.call_isG (by rfl) T.z_isinstance (by decide +kernel) (pa_cons (pv 0) (pa_cons (pe_bltn (v := .ty "LookupError") (by rfl) T.z_LookupError (by decide +kernel) rfl) pa_nil))) (pa_cons (pe_callB ExG.call_isG (by rfl) T.z_isinstance (by decide +kernel) (pa_cons (pv 0) (pa_cons (pe_bltn (v := .ty "ArithmeticError") (by rfl) T.z_ArithmeticError (by decide +kernel) rfl) pa_nil))) pa_nil)))))))), ?_⟩
  refine ⟨fun σ' H' => ∃ (L : Addr), σ' = [some (.ref a), some (.ref L)] ∧ Same H H' ∧ H' L = some (.lst ((marksV 6 ((fun i j => decide (ExG.grp i = j % 3)) i)).take 3)), ?_, ?_⟩
  · have s0 : Same H H := Same.refl H
    refine ⟨.ref a, rfl, a, (clsL T).getD i 0, fs, .ref T.X_Invalid, .ref T.X_Invalid, _, rfl, er.ext s0, cls_data T i hi, .own _, ExG.kit_of (i := i) (j := 0) T.kt1 hi (by show 0 < 6; decide), .ref a, rfl, a, (clsL T).getD i 0, fs, .ref T.X_Conflict, .ref T.X_Conflict, _, rfl, er.ext s0, cls_data T i hi, .own _, ExG.kit_of (i := i) (j := 1) T.kt1 hi (by show 1 < 6; decide), .ref a, rfl, a, (clsL T).getD i 0, fs, .ref T.X_Excess, .ref T.X_Excess, _, rfl, er.ext s0, cls_data T i hi, .own _, ExG.kit_of (i := i) (j := 2) T.kt1 hi (by show 2 < 6; decide), by show 3 ≤ sizeLine; decide, fun R nR => ?_⟩
    exact ⟨R, rfl, same_upd nR, upd_same⟩
  rintro σ1 H1 ⟨L, rfl, sH, hL⟩
  have s0 : Same H H1 := sH
  refine ⟨.ref L, rfl, .ref a, rfl, a, (clsL T).getD i 0, fs, .ty "ValueError", .type "ValueError", _, rfl, er.ext s0, cls_data T i hi, .ty _, ExG.kit_of (i := i) (j := 3) T.kt1 hi (by show 3 < 6; decide), .ref a, rfl, a, (clsL T).getD i 0, fs, .ty "LookupError", .type "LookupError", _, rfl, er.ext s0, cls_data T i hi, .ty _, ExG.kit_of (i := i) (j := 4) T.kt1 hi (by show 4 < 6; decide), .ref a, rfl, a, (clsL T).getD i 0, fs, .ty "ArithmeticError", .type "ArithmeticError", _, rfl, er.ext s0, cls_data T i hi, .ty _, ExG.kit_of (i := i) (j := 5) T.kt1 hi (by show 5 < 6; decide), by show 3 ≤ sizeLine; decide, fun R nR => ?_⟩
  refine ⟨L, R, _, _, rfl, rfl, same_upd nR _ _ hL, upd_same, (by show 6 ≤ sizeLine; decide), fun R2 n2 => ?_⟩
  exact q _ R2 (s0.trans ((same_upd nR).trans (same_upd n2))) upd_same
theorem ok_q_strange (T : Txt K mg) : FnOk P w K mg base CX0 1 T.f_q_strange T.d_q_strange ["_law_error"] (spTab (clsL T) 6 (fun _ _ => false)) := by
  refine T.F_q_strange.ok sc_q_strange (fun vs H Q E h => by obtain ⟨a, i, fs, rfl, _⟩ := h; rfl) (fun cdv A outer s H vs Q E hr h => ?_)
  obtain ⟨a, i, fs, rfl, hi, er, q⟩ := h
  refine ⟨_, (Evl.pss_cut (ps_set (i := 1) sc_q_strange.nd rfl (.inl rfl) (pe_lst (pa_cons (pe_callB ExG.call_isG (by rfl) T.z_isinstance (by decide +kernel) (pa_cons (pv 0) (pa_cons (pe_bltn (v := .ty "KeyError") (by rfl) T.z_KeyError (by decide +kernel) rfl) pa_nil))) (pa_cons (pe_callB ExG.call_isG (by rfl) T.z_isinstance (by decide +kernel) (pa_cons (pv 0) (pa_cons (pe_bltn (v := .ty "IndexError") (by rfl) T.z_IndexError (by decide +kernel) rfl) pa_nil))) (pa_cons (pe_callB ExG.call_isG (by rfl) T.z_isinstance (by decide +kernel) (pa_cons (pv 0) (pa_cons (pe_bltn (v := .ty "TypeError") (by rfl) T.z_TypeError (by decide +kernel) rfl) pa_nil))) pa_nil)))))
    (Evl.pss_cut (ps_set (i := 1) sc_q_strange.nd rfl (.inl rfl) (pe_op op_cat (pv 1) (pe_lst (pa_cons (pe_callB ExG.call_isG (by rfl) T.z_isinstance (by decide +kernel) (pa_cons (pv 0) (pa_cons (pe_bltn (v := .ty "ZeroDivisionError") (by rfl) T.z_ZeroDivisionError (by decide +kernel) rfl) pa_nil))) (pa_cons (pe_callB ExG.call_isG (by rfl) T.z_isinstance (by decide +kernel) (pa_cons (pv 0) (pa_cons (pe_bltn (v := .ty "OverflowError") (by rfl) T.z_OverflowError (by decide +kernel) rfl) pa_nil))) pa_nil)))))
    (pss_one (ps_ret (pe_op op_cat (pv 1) (pe_lst (pa_cons (pe_callB ExG.call_isG (by rfl) T.z_isinstance (by decide +kernel) (pa_cons (pv 0) (pa_cons (pe_bltn (v := .ty "RuntimeError") (by rfl) T.z_RuntimeError (by decide +kernel) rfl) pa_nil))) pa_nil))))))), ?_⟩
  refine ⟨fun σ' H' => ∃ (L : Addr), σ' = [some (.ref a), some (.ref L)] ∧ Same H H' ∧ H' L = some (.lst ((marksV 6 ((fun _ _ => false) i)).take 3)), ?_, ?_⟩
  · have s0 : Same H H := Same.refl H
    refine ⟨.ref a, rfl, a, (clsL T).getD i 0, fs, .ty "KeyError", .type "KeyError", _, rfl, er.ext s0, cls_data T i hi, .ty _, ExG.kit_of (i := i) (j := 0) T.kt2 hi (by show 0 < 6; decide), .ref a, rfl, a, (clsL T).getD i 0, fs, .ty "IndexError", .type "IndexError", _, rfl, er.ext s0, cls_data T i hi, .ty _, ExG.kit_of (i := i) (j := 1) T.kt2 hi (by show 1 < 6; decide), .ref a, rfl, a, (clsL T).getD i 0, fs, .ty "TypeError", .type "TypeError", _, rfl, er.ext s0, cls_data T i hi, .ty _, ExG.kit_of (i := i) (j := 2) T.kt2 hi (by show 2 < 6; decide), by show 3 ≤ sizeLine; decide, fun R nR => ?_⟩
    exact ⟨R, rfl, same_upd nR, upd_same⟩
  rintro σ1 H1 ⟨L, rfl, sH, hL⟩
  refine ⟨fun σ' H' => ∃ (L : Addr), σ' = [some (.ref a), some (.ref L)] ∧ Same H H' ∧ H' L = some (.lst ((marksV 6 ((fun _ _ => false) i)).take 5)), ?_, ?_⟩
  · have s0 : Same H H1 := sH
    refine ⟨.ref L, rfl, .ref a, rfl, a, (clsL T).getD i 0, fs, .ty "ZeroDivisionError", .type "ZeroDivisionError", _, rfl, er.ext s0, cls_data T i hi, .ty _, ExG.kit_of (i := i) (j := 3) T.kt2 hi (by show 3 < 6; decide), .ref a, rfl, a, (clsL T).getD i 0, fs, .ty "OverflowError", .type "OverflowError", _, rfl, er.ext s0, cls_data T i hi, .ty _, ExG.kit_of (i := i) (j := 4) T.kt2 hi (by show 4 < 6; decide), by show 2 ≤ sizeLine; decide, fun R nR => ?_⟩
    refine ⟨L, R, _, _, rfl, rfl, same_upd nR _ _ hL, upd_same, (by show 5 ≤ sizeLine; decide), fun R2 n2 => ?_⟩
    exact ⟨R2, rfl, s0.trans ((same_upd nR).trans (same_upd n2)), upd_same⟩
  rintro σ2 H2 ⟨L, rfl, sH, hL⟩
  have s0 : Same H H2 := sH
  refine ⟨.ref L, rfl, .ref a, rfl, a, (clsL T).getD i 0, fs, .ty "RuntimeError", .type "RuntimeError", _, rfl, er.ext s0, cls_data T i hi, .ty _, ExG.kit_of (i := i) (j := 5) T.kt2 hi (by show 5 < 6; decide), by show 1 ≤ sizeLine; decide, fun R nR => ?_⟩
  refine ⟨L, R, _, _, rfl, rfl, same_upd nR _ _ hL, upd_same, (by show 6 ≤ sizeLine; decide), fun R2 n2 => ?_⟩
  exact q _ R2 (s0.trans ((same_upd nR).trans (same_upd n2))) upd_same
end
end K1

namespace K1
open PySem PySem.Spec PyProof.Rows L2 TL G ExG RepD
section
variable {P : Program} {w : World} {K : PySem.W.Frag} {mg : Str → Option Value} {base : Heap}
/-- the ten values -/
inductive Ten (H : Hp) : V → PyData → Prop
  | n0 : Ten H (.int 0) (.int 0)
  | n1 : Ten H (.int (-1)) (.int (-1))
  | non : Ten H .non .none
  | tr : Ten H (.bl true) (.bool true)
  | sa : Ten H (.str "a") (.str "a")
  | tu {a : Addr} : H a = some (.tup [.int 1, .int 2]) → Ten H (.ref a) (.tuple [.int 1, .int 2])
  | big : Ten H (.int (10 ^ 30)) (.int (10 ^ 30))
  | dk {a : Addr} : H a = some (.dK []) → Ten H (.ref a) (.dict [])
  | ls {a : Addr} : H a = some (.lst [.int 1]) → Ten H (.ref a) (.list [.int 1])
  | se : Ten H (.str "") (.str "")
def tenD : List PyData := [.int 0, .int (-1), .none, .bool true, .str "a", .tuple [.int 1, .int 2], .int (10 ^ 30), .dict [], .list [.int 1], .str ""]
theorem Ten.same {H H' : Hp} {v : V} {d : PyData} (h : Ten H v d) (s : Same H H') : Ten H' v d := by
  cases h with
  | n0 => exact .n0
  | n1 => exact .n1
  | non => exact .non
  | tr => exact .tr
  | sa => exact .sa
  | tu e => exact .tu (s _ _ e)
  | big => exact .big
  | dk e => exact .dk (s _ _ e)
  | ls e => exact .ls (s _ _ e)
  | se => exact .se
theorem Ten.de {H : Hp} {v : V} {d : PyData} (h : Ten H v d) : DE K H v d := by
  cases h with
  | n0 => exact .d (.int 0) rfl
  | n1 => exact .d (.int (-1)) rfl
  | non => exact .d .non rfl
  | tr => exact .d (.bl true) rfl
  | sa => exact .d (.str "a") rfl
  | tu e => exact .d (.tup (SqT.of e) (.cons (.int 1) (.cons (.int 2) .nil))) rfl
  | big => exact .d (.int (10 ^ 30)) rfl
  | dk e => exact .dk e
  | ls e => exact .d (.lst (SqL.of e) (.cons (.int 1) .nil)) rfl
  | se => exact .d (.str "") rfl
theorem Ten.mem {H : Hp} {v : V} {d : PyData} (h : Ten H v d) : d ∈ tenD := by
  unfold tenD
  cases h <;> simp
def okL (ds : List PyData) : Bool := PyData.showableAll ds && (decide (PyData.depthAll ds + 2 ≤ 64) && decide ((PyData.list ds).shown.length ≤ sizeLine))
theorem okL0 : okL [] = true := by decide +kernel
theorem okL1 : ∀ d ∈ tenD, okL [d] = true := fun d h => List.all_eq_true.mp (by decide +kernel : (tenD.all fun d => okL [d]) = true) d h
theorem okL2 : ∀ d ∈ tenD, ∀ e ∈ tenD, okL [d, e] = true := fun d h e h2 => List.all_eq_true.mp (List.all_eq_true.mp (by decide +kernel : (tenD.all fun d => tenD.all fun e => okL [d, e]) = true) d h) e h2
theorem okL_of {ds : List PyData} (h : okL ds = true) : PyData.showableAll ds = true ∧ PyData.depthAll ds + 2 ≤ 64 ∧ (PyData.list ds).shown.length ≤ sizeLine := by
  obtain ⟨h1, h⟩ := Bool.and_eq_true_iff.mp h
  obtain ⟨h2, h3⟩ := Bool.and_eq_true_iff.mp h
  exact ⟨h1, of_decide_eq_true h2, of_decide_eq_true h3⟩
theorem holds_des {H : Hp} {i : Nat} {v w : V} {d e : PyData} (h : Ten H v d) (k : Ten H w e) : ∃ ds, (∀ H', Same H H' → DEs K H' (holds i v w) ds) ∧ okL ds = true := by
  unfold holds
  split
  · exact ⟨[], fun _ _ => .nil, okL0⟩
  · split
    · exact ⟨[d, e], fun _ s => .cons (h.same s).de (.cons (k.same s).de .nil), okL2 d h.mem e k.mem⟩
    · exact ⟨[d], fun _ s => .cons (h.same s).de .nil, okL1 d h.mem⟩
theorem marks_succ (n : Nat) (f : Nat → Bool) : marksV (n + 1) f = marksV n f ++ [.bl (f n)] := by
  unfold marksV
  rw [List.range_succ, List.map_append]
  rfl
theorem marks_len (n : Nat) (f : Nat → Bool) : (marksV n f).length = n := by
  unfold marksV
  rw [List.length_map, List.length_range]
theorem marks_flat (n : Nat) (f : Nat → Bool) : ∀ v ∈ marksV n f, flatV v = true := by
  intro v h
  obtain ⟨j, _, rfl⟩ := List.mem_map.mp h
  rfl
theorem int_eq (i j : Nat) : decide (V.int (i : Int) = V.int (j : Int)) = decide (j = i) := decide_eq_decide.mpr ⟨fun e => by have := V.int.inj e; omega, fun e => by rw [e]⟩
def spRight (es : V → V → List (Addr × List (Str × V))) : Sp := fun vs H Q _ => ∃ (a : Addr) (i : Nat) (v w : V) (p : Addr × List (Str × V)) (d e : PyData), vs = [.ref a, .int i, v, w] ∧ i < 44 ∧ (es v w)[i]? = some p ∧ Err H a p.1 p.2 ∧ Ten H v d ∧ Ten H w e ∧ ∀ H', Same H H' → Q (.bl true) H'
theorem ok_q_error_right (T : Txt K mg) : Grd.FnG P w K mg base CX0 3 T.f_q_error_right T.d_q_error_right ["_law_error", "_law_spot", "_law_one", "_law_two"] (spRight (errs T)) := by
  refine Grd.Fun.okG T.F_q_error_right sc_q_error_right (fun vs H Q E h => by obtain ⟨a, i, v, w, p, d, e, rfl, _⟩ := h; rfl) (fun cdv A outer s H vs Q E hG hr h => ?_)
  obtain ⟨a, i, v, w, p, d, e, rfl, hi, ep, er, tv, tw, q⟩ := h
  obtain ⟨fs, e1⟩ := cls_at T (v := v) (w := w) i hi
  rw [ep] at e1
  obtain rfl := Option.some.inj e1
  refine ⟨_, (pss_cons (ps_if (PW.pt (pw_or (pt_cmpR (K6x.op_neS (hr.mono (by decide))) (pe_call (ok_q_marks T) (hr.mono (by decide)) (by rfl) T.g_q_marks T.F_q_marks.kp T.b_q_marks .nil pass0 (pa_cons (pv 0) pa_nil)) (pe_lc (own := [("_law_n", 5)]) (g := gName 5) (tt := tYes) rfl sc_q_error_right.nd (pi_range1 (by rfl) T.z_range (pa_cons pe_int pa_nil)) (blkOk_by (N := ["_law_error", "_law_spot", "_law_one", "_law_two", "_law_group", "_law_n"]) (sc := defScope s_q_error_right) (by decide +kernel)) (fun _ _ _ _ _ => (pg_name (i := 5) sc_q_error_right.nd rfl (Or.inl rfl))) (fun _ _ _ _ _ => pts_nil) (fun _ _ _ _ _ => (pe_cmpR op_eq (pv 5) (pv 1) (nomark _)))) (nomark _)) (pw_or1 (pt_cmpR (K6x.op_neS (hr.mono (by decide))) (pe_call (ok_q_strange T) (hr.mono (by decide)) (by rfl) T.g_q_strange T.F_q_strange.kp T.b_q_strange .nil pass0 (pa_cons (pv 0) pa_nil)) (pe_op op_rep (pe_lst (pa_cons pe_bl pa_nil)) pe_int) (nomark _)))))
    (pss_one (ps_ret pe_bl))
    pss_nil)
    (Evl.pss_cut (ps_set (i := 4) sc_q_error_right.nd rfl (.inr rfl) (pe_ifExp (pt_cmpR op_lt (pv 1) pe_int (nomark _)) pe_int (pe_ifExp (pt_cmpR op_lt (pv 1) pe_int (nomark _)) pe_int pe_int)))
    (pss_cons (ps_if (pt_cmpR (K6x.op_neS (hr.mono (by decide))) (pe_call (ok_q_families T) (hr.mono (by decide)) (by rfl) T.g_q_families T.F_q_families.kp T.b_q_families .nil pass0 (pa_cons (pv 0) pa_nil)) (pe_op op_rep (pe_lc (own := [("_law_n", 5)]) (g := gName 5) (tt := tYes) rfl sc_q_error_right.nd (pi_range1 (by rfl) T.z_range (pa_cons pe_int pa_nil)) (blkOk_by (N := ["_law_error", "_law_spot", "_law_one", "_law_two", "_law_group", "_law_n"]) (sc := defScope s_q_error_right) (by decide +kernel)) (fun _ _ _ _ _ => (pg_name (i := 5) sc_q_error_right.nd rfl (Or.inl rfl))) (fun _ _ _ _ _ => pts_nil) (fun _ _ _ _ _ => (pe_cmpR op_eq (pv 5) (pv 4) (nomark _)))) pe_int) (nomark _))
    (pss_one (ps_ret pe_bl))
    pss_nil)
    (pss_one (ps_ret (pe_cmpR op_eq (pe_callB (RepD.call_repD hG hr.units) (by rfl) T.z_repr (by decide +kernel) (pa_cons (pe_call (ok_q_held T) (hr.mono (by decide)) (by rfl) T.g_q_held T.F_q_held.kp T.b_q_held .nil pass0 (pa_cons (pv 0) (pa_cons (pv 1) pa_nil))) pa_nil)) (pe_callB (RepD.call_repD hG hr.units) (by rfl) T.z_repr (by decide +kernel) (pa_cons (pe_call (ok_q_due T) (hr.mono (by decide)) (by rfl) T.g_q_due T.F_q_due.kp T.b_q_due .nil pass0 (pa_cons (pv 1) (pa_cons (pv 2) (pa_cons (pv 3) pa_nil)))) pa_nil)) (nomark _))))))), ?_⟩
  refine ⟨.ref a, rfl, a, i, fs, rfl, hi, er, fun H1 R1 s1 h1 => ?_⟩
  refine ⟨44, rfl, by decide, by decide, fun D nD => ?_⟩
  refine lc_range (lo := 0) (n := 44) (fun j H' => Same H1 H' ∧ H' D = some (.lst (marksV j (fun n => decide (i = n))))) ⟨same_upd nD, upd_same⟩ ?_ ?_
  · rintro j H' hj ⟨s2, hD⟩
    refine ⟨rfl, .int _, rfl, .int i, rfl, rfl, ?_⟩
    refine ⟨_, hD, by rw [marks_len]; exact small1000 (by omega), ?_, ?_⟩
    · intro x o hx
      rw [upd_ne (ne_of_none hx nD)]
      exact s2 _ _ hx
    · rw [upd_same, marks_succ, Int.zero_add, int_eq]
  rintro H2 ⟨s2, hD⟩
  refine ⟨R1, D, _, rfl, rfl, s2 _ _ h1, hD, marks_flat _ _, false, rfl, if_false_of rfl ?_⟩
  have s02 : Same H H2 := s1.trans s2
  refine ⟨.ref a, rfl, a, i, fs, rfl, hi, er.ext s02, fun H3 R3 s3 h3 => ⟨by show 1 ≤ sizeLine; decide, fun L nL => ⟨L, 6, [.bl false], rfl, rfl, upd_same, by decide, by decide, by show 6 ≤ sizeLine; decide, fun M nM => ?_⟩⟩⟩
  refine ⟨R3, M, marksV 6 _, rfl, rfl, same_upd nM _ _ (same_upd nL _ _ h3), upd_same, marks_flat _ _, false, rfl, if_false_of rfl ?_⟩
  have s03 : Same H (upd (upd H3 L (.lst [.bl false])) M (.lst (marksV 6 fun _ => false))) := ((s02.trans s3).trans (same_upd nL)).trans (same_upd nM)
  refine ⟨fun σ' H' => σ' = [some (.ref a), some (.int i), some v, some w, some (.int (grp i : Nat)), none] ∧ Same H H', ?_, ?_⟩
  · have done : ∀ n : Nat, n = grp i → ([some (.ref a), some (.int i), some v, some w, some (.int (n : Nat)), none] : L2.St) = [some (.ref a), some (.int i), some v, some w, some (.int (grp i : Nat)), none] ∧ Same H (upd (upd H3 L (.lst [.bl false])) M (.lst (marksV 6 fun _ => false))) := fun n e => ⟨by rw [e], s03⟩
    refine ⟨.int i, rfl, i, 26, rfl, rfl, _, rfl, ite2 (fun g => ?_) (fun g => ?_)⟩
    · have g := of_decide_eq_true g
      exact done 0 (by unfold grp; rw [if_pos (by omega)])
    have g : ¬ ((i : Int) < 26) := fun z => g (decide_eq_true z)
    refine ⟨.int i, rfl, i, 41, rfl, rfl, _, rfl, ite2 (fun g2 => ?_) (fun g2 => ?_)⟩
    · have g2 := of_decide_eq_true g2
      exact done 1 (by unfold grp; rw [if_neg (by omega), if_pos (by omega)])
    · have g2 : ¬ ((i : Int) < 41) := fun z => g2 (decide_eq_true z)
      exact done 2 (by unfold grp; rw [if_neg (by omega), if_neg (by omega)])
  rintro σ4 H4 ⟨rfl, s4⟩
  refine ⟨.ref a, rfl, a, i, fs, rfl, hi, er.ext s4, fun H5 R5 s5 h5 => ?_⟩
  refine ⟨3, rfl, by decide, by decide, fun D nD => ?_⟩
  refine lc_range (lo := 0) (n := 3) (fun j H' => Same H5 H' ∧ H' D = some (.lst (marksV j (fun n => decide (grp i = n))))) ⟨same_upd nD, upd_same⟩ ?_ ?_
  · rintro j H' hj ⟨s6, hD⟩
    refine ⟨rfl, .int _, rfl, .int (grp i : Nat), rfl, rfl, ?_⟩
    refine ⟨_, hD, by rw [marks_len]; exact small1000 (by omega), ?_, ?_⟩
    · intro x o hx
      rw [upd_ne (ne_of_none hx nD)]
      exact s6 _ _ hx
    · rw [upd_same, marks_succ, Int.zero_add, int_eq]
  rintro H6 ⟨s6, hD⟩
  refine ⟨D, 2, _, rfl, rfl, hD, by decide, by decide, by show 6 ≤ sizeLine; decide, fun M nM => ?_⟩
  refine ⟨R5, M, marksV 6 _, rfl, rfl, same_upd nM _ _ (s6 _ _ h5), upd_same, marks_flat _ _, false, rfl, if_false_of rfl ?_⟩
  have s07 : Same H (upd H6 M (.lst (marksV 6 fun j => decide (grp i = j % 3)))) := ((s4.trans s5).trans s6).trans (same_upd nM)
  obtain ⟨ds, de, ok⟩ := holds_des (K := K) (i := i) tv tw
  obtain ⟨k1, k2, k3⟩ := okL_of ok
  refine ⟨.ref a, rfl, .int i, rfl, a, i, v, w, _, rfl, ep, er.ext s07, hi, fun H8 R8 s8 h8 => ?_⟩
  refine ⟨R8, _, ds, rfl, h8, de _ (s07.trans s8), k1, k2, k3, ?_⟩
  refine ⟨.int i, rfl, v, rfl, w, rfl, i, v, w, rfl, hi, fun H9 R9 s9 h9 => ?_⟩
  refine ⟨R9, _, ds, rfl, h9, de _ ((s07.trans s8).trans s9), k1, k2, k3, ?_⟩
  refine ⟨rfl, ?_⟩
  rw [show decide (V.str (PyData.list ds).shown = V.str (PyData.list ds).shown) = true from decide_eq_true rfl]
  exact q _ ((s07.trans s8).trans s9)
end
end K1

namespace K1
open PySem PySem.Spec PyProof.Rows L2 TL G ExG RepD
section
variable {P : Program} {w : World} {K : PySem.W.Frag} {mg : Str → Option Value} {base : Heap}
/-! ### the constants -/
def spYes : Sp := fun vs H Q _ => vs = [] ∧ ∀ H', Q (.bl true) H'
theorem dp4 {H : Hp} {a b c d : Int} : DpAll K H [.int a, .int b, .int c, .int d] [.int a, .int b, .int c, .int d] := .cons (.int a) (.cons (.int b) (.cons (.int c) (.cons (.int d) .nil)))
theorem dp3 {H : Hp} {a b c : Int} : DpAll K H [.int a, .int b, .int c] [.int a, .int b, .int c] := .cons (.int a) (.cons (.int b) (.cons (.int c) .nil))
theorem dp4s {H : Hp} {a b c d : Str} : DpAll K H [.str a, .str b, .str c, .str d] [.str a, .str b, .str c, .str d] := .cons (.str a) (.cons (.str b) (.cons (.str c) (.cons (.str d) .nil)))
theorem dp5s {H : Hp} {a b c d e : Str} : DpAll K H [.str a, .str b, .str c, .str d, .str e] [.str a, .str b, .str c, .str d, .str e] := .cons (.str a) (.cons (.str b) (.cons (.str c) (.cons (.str d) (.cons (.str e) .nil))))
theorem ok_q_limits_right (T : Txt K mg) : FnOk P w K mg base CX0 1 T.f_q_limits_right T.d_q_limits_right [] spYes := by
  refine T.F_q_limits_right.ok sc_q_limits_right (fun vs H Q E h => by obtain ⟨rfl, _⟩ := h; rfl) (fun cdv A outer s H vs Q E hr h => ?_)
  obtain ⟨rfl, q⟩ := h
  refine ⟨_, (pss_cons (ps_if (pt_cmpR (op_neD hr.units) (pe_lst (pa_cons (pe_glob (by rfl) T.c_MAX_VALUE T.r_MAX_VALUE) (pa_cons (pe_glob (by rfl) T.c_MAX_DIGITS T.r_MAX_DIGITS) (pa_cons (pe_glob (by rfl) T.c_MAX_PARTS T.r_MAX_PARTS) (pa_cons (pe_glob (by rfl) T.c_MAX_LEVELS T.r_MAX_LEVELS) pa_nil))))) (pe_lst (pa_cons pe_int (pa_cons pe_int (pa_cons pe_int (pa_cons pe_int pa_nil))))) (nomark _))
    (pss_one (ps_ret pe_bl))
    pss_nil)
    (pss_cons (ps_if (pt_cmpR (op_neD hr.units) (pe_lst (pa_cons (pe_glob (by rfl) T.c_MAX_ENTRIES T.r_MAX_ENTRIES) (pa_cons (pe_glob (by rfl) T.c_MAX_DEPTH T.r_MAX_DEPTH) (pa_cons (pe_glob (by rfl) T.c_MAX_UNDO T.r_MAX_UNDO) pa_nil)))) (pe_lst (pa_cons pe_int (pa_cons pe_int (pa_cons pe_int pa_nil)))) (nomark _))
    (pss_one (ps_ret pe_bl))
    pss_nil)
    (pss_cons (ps_if (PW.pt (pw_or (pt_cmpR (op_neD hr.units) (pe_glob (by rfl) T.c_SYNTAXES T.r_SYNTAXES) (pe_tup (pa_cons pe_str (pa_cons pe_str (pa_cons pe_str (pa_cons pe_str (pa_cons pe_str pa_nil)))))) (nomark _)) (pw_or1 (pt_cmpR (op_neD hr.units) (pe_glob (by rfl) T.c_SCOPES T.r_SCOPES) (pe_tup (pa_cons pe_str (pa_cons pe_str (pa_cons pe_str (pa_cons pe_str pa_nil))))) (nomark _)))))
    (pss_one (ps_ret pe_bl))
    pss_nil)
    (pss_one (ps_ret (pe_cmpR (op_eqD hr.units) (pe_glob (by rfl) T.c_INDEXES T.r_INDEXES) (pe_tup (pa_cons pe_str (pa_cons pe_str (pa_cons pe_str (pa_cons pe_str pa_nil))))) (nomark _))))))), ?_⟩
  refine ⟨by show 4 ≤ sizeLine; decide, fun a na => ⟨by show 4 ≤ sizeLine; decide, fun b nb => ⟨.list [.int 60, .int 30, .int 60, .int 12], .list [.int 60, .int 30, .int 60, .int 12], .lst (SqL.of (same_upd nb _ _ upd_same)) dp4, .lst (SqL.of upd_same) dp4, by decide +kernel, by decide +kernel, false, congrArg V.bl (by decide +kernel), if_false_of rfl ?_⟩⟩⟩
  refine ⟨by show 3 ≤ sizeLine; decide, fun a na => ⟨by show 3 ≤ sizeLine; decide, fun b nb => ⟨.list [.int 300, .int 12, .int 20], .list [.int 300, .int 12, .int 20], .lst (SqL.of (same_upd nb _ _ upd_same)) dp3, .lst (SqL.of upd_same) dp3, by decide +kernel, by decide +kernel, false, congrArg V.bl (by decide +kernel), if_false_of rfl ?_⟩⟩⟩
  refine ⟨by show 5 ≤ sizeLine; decide, fun a na => ⟨.tuple [.str "text", .str "exact", .str "integer", .str "truth", .str "name"], .tuple [.str "text", .str "exact", .str "integer", .str "truth", .str "name"], .tup (T.w_SYNTAXES _) dp5s, .tup (SqT.of upd_same) dp5s, by decide +kernel, by decide +kernel, false, congrArg V.bl (by decide +kernel), if_false_of rfl ?_⟩⟩
  refine ⟨by show 4 ≤ sizeLine; decide, fun a na => ⟨.tuple [.str "base", .str "one", .str "below", .str "subtree"], .tuple [.str "base", .str "one", .str "below", .str "subtree"], .tup (T.w_SCOPES _) dp4s, .tup (SqT.of upd_same) dp4s, by decide +kernel, by decide +kernel, false, congrArg V.bl (by decide +kernel), if_false_of rfl ?_⟩⟩
  refine ⟨by show 4 ≤ sizeLine; decide, fun a na => ⟨.tuple [.str "present", .str "equal", .str "order", .str "pieces"], .tuple [.str "present", .str "equal", .str "order", .str "pieces"], .tup (T.w_INDEXES _) dp4s, .tup (SqT.of upd_same) dp4s, by decide +kernel, by decide +kernel, ?_⟩⟩
  rw [show PyData.eqv (.tuple [.str "present", .str "equal", .str "order", .str "pieces"]) (.tuple [.str "present", .str "equal", .str "order", .str "pieces"]) = true by decide +kernel]
  exact q _
theorem walk_enum {K : PySem.W.Frag} {a : Addr} {xs : List V} {F : V → Hp → (Hp → Prop) → Prop} {Qd : Hp → Prop} {H0 : Hp} (Pv : Nat → Hp → Prop) (h0 : Pv 0 H0) (hl : ∀ i H, Pv i H → SqL K H a xs)
    (hs : ∀ i x H T, xs[i]? = some x → Pv i H → H T = none → F (.ref T) (upd H T (.tup [.int (i : Nat), x])) (Pv (i + 1))) (hd : ∀ H, Pv xs.length H → Qd H) :
    ∃ W : Nat → Nat → Hp → Prop, (∃ m, W 0 m H0) ∧ ∀ i m H, W i m H →
      ((Ite K a).stop i H ∧ Qd H) ∨ ((Ite K a).go i H ∧ ∃ Nx : Hp → Prop, (∀ H', Nx H' → ∃ m', m' < m ∧ W (i + 1) m' H') ∧ ∀ x H', (Ite K a).yld i H x H' → F x H' Nx) := by
  refine ⟨fun i m H => Pv i H ∧ i + m = xs.length, ⟨xs.length, h0, Nat.zero_add _⟩, ?_⟩
  rintro i m H ⟨p, e⟩
  have q := hl i H p
  rcases Nat.lt_or_ge i xs.length with lt | ge
  · refine .inr ⟨⟨xs, xs[i], q, List.getElem?_eq_getElem lt⟩, Pv (i + 1), fun H' p' => ⟨m - 1, by omega, p', by omega⟩, ?_⟩
    rintro x H' ⟨T, y, rfl, nT, rfl, hy⟩
    exact hs i y _ T (hy xs q) p nT
  · have e2 : i = xs.length := by omega
    subst e2
    exact .inl ⟨⟨xs, q, Nat.le_refl _⟩, hd H p⟩
theorem errs_len (T : Txt K mg) (v w : V) : (errs T v w).length = 44 := rfl
def spLaw (K : PySem.W.Frag) : Sp := fun vs H Q _ => ∃ (a : Addr) (ns : List Int), vs = [.ref a] ∧ SqL K H a (ns.map V.int) ∧ ns.length ≤ 63 ∧ ∀ H', Q (.bl true) H'
theorem ok_law (T : Txt K mg) : Grd.FnG P w K mg base CX0 4 T.f_law T.d_law ["_law_script"] (spLaw K) := by
  refine Grd.Fun.okG T.F_law sc_law (fun vs H Q E h => by obtain ⟨a, ns, rfl, _⟩ := h; rfl) (fun cdv A outer s H vs Q E hG hr h => ?_)
  obtain ⟨s0, ns, rfl, hS, hlen, q⟩ := h
  refine ⟨_, (pss_cons (ps_for PassesOwn.never rfl (pi_list (pe_call (ok_q_rounds T) (hr.mono (by decide)) (by rfl) T.g_q_rounds T.F_q_rounds.kp T.b_q_rounds .nil pass0 (pa_cons (pv 0) (pa_cons pe_int pa_nil)))) (pg_name (i := 1) sc_law.nd rfl (.inl rfl))
    (pss_cons (ps_set (i := 2) sc_law.nd rfl (.inl rfl) (pe_lst (pa_cons pe_int (pa_cons (pe_un un_neg pe_int) (pa_cons pe_non (pa_cons pe_bl (pa_cons pe_str (pa_cons (pe_tup (pa_cons pe_int (pa_cons pe_int pa_nil))) (pa_cons (pe_op op_pow pe_int pe_int) (pa_cons pe_dnewK (pa_cons (pe_lst (pa_cons pe_int pa_nil)) (pa_cons pe_str pa_nil))))))))))))
    (pss_cons (ps_asg (pe_tup (pa_cons (pe_call (ok_q_pick T) (hr.mono (by decide)) (by rfl) T.g_q_pick T.F_q_pick.kp T.b_q_pick .nil pass0 (pa_cons (pv 1) (pa_cons (pv 2) pa_nil))) (pa_cons (pe_call (ok_q_pick T) (hr.mono (by decide)) (by rfl) T.g_q_pick T.F_q_pick.kp T.b_q_pick .nil pass0 (pa_cons (pv 1) (pa_cons (pv 2) pa_nil))) pa_nil))) (pg_tup rfl (pgs_cons (pg_name (i := 3) sc_law.nd rfl (.inr rfl)) (pgs_cons (pg_name (i := 4) sc_law.nd rfl (.inr rfl)) pgs_nil))))
    (pss_one (ps_for PassesOwn.never rfl (pi_tup (pe_tup (pa_cons (pe_call (ok_q_made T) (hr.mono (by decide)) (by rfl) T.g_q_made T.F_q_made.kp T.b_q_made .nil pass0 (pa_cons (pv 3) (pa_cons (pv 4) pa_nil))) (pa_cons (pe_call (ok_q_named T) (hr.mono (by decide)) (by rfl) T.g_q_named T.F_q_named.kp T.b_q_named .nil pass0 (pa_cons (pv 3) (pa_cons (pv 4) pa_nil))) pa_nil)))) (pg_name (i := 5) sc_law.nd rfl (.inl rfl))
    (pss_one (ps_if (pt_cmpR (op_neD hr.units) (pe_lc (own := [("_law_spot", 6), ("_law_error", 7)]) (g := gTup K 2 (gCons (gName 6) (gCons (gName 7) gNil))) rfl sc_law.nd (pi_enum (by rfl) T.z_enumerate (pa_cons (pv 5) pa_nil)) (blkOk_by (N := ["_law_script", "_law_source_here", "_law_some", "_law_one", "_law_two", "_law_row", "_law_spot", "_law_error"]) (sc := defScope s_law) (by decide +kernel)) (fun _ _ _ _ _ => (pg_tup rfl (pgs_cons (pg_name (i := 6) sc_law.nd rfl (Or.inl rfl)) (pgs_cons (pg_name (i := 7) sc_law.nd rfl (Or.inl rfl)) pgs_nil)))) (fun _ _ _ _ _ => (pts_one (pt_not (pt_val (Grd.pe_callG hG (ok_q_error_right T) (hr.mono (by decide)) (by rfl) T.g_q_error_right T.F_q_error_right.kp T.b_q_error_right .nil pass0 (pa_cons (pv 7) (pa_cons (pv 6) (pa_cons (pv 3) (pa_cons (pv 4) pa_nil))))))))) (fun _ _ _ _ _ => pe_int)) (pe_lst pa_nil) (nomark _))
    (pss_one (ps_ret pe_bl))
    pss_nil)))))))
    (pss_one (ps_ret (pe_call0 (ok_q_limits_right T) (hr.mono (by decide)) (by rfl) T.g_q_limits_right T.F_q_limits_right.kp T.b_q_limits_right .nil pass0)))), ?_⟩
  refine ⟨.ref s0, rfl, s0, ns, 3, rfl, hS, by decide, fun H1 r srcs nr s1 hr1 ls0 nd hsrc => ?_⟩
  refine ⟨r, rfl, ⟨_, SqL.of hr1⟩, for_list (K := K) (a := r) (xs := srcs.map V.ref) (fun i σ H' => ∃ y1 y2 y3 y4 y5 y6 y7, σ = [some (.ref s0), y1, y2, y3, y4, y5, y6, y7] ∧ H' r = some (.lst (srcs.map V.ref)) ∧ ∀ b ∈ srcs.drop i, Src H' b 3000)
    ⟨none, none, none, none, none, none, none, rfl, hr1, fun b hb => (hsrc b hb).1⟩ (fun i σ H' _ ⟨_, _, _, _, _, _, _, _, h, _⟩ => SqL.of h) ?_ ?_⟩
  · rintro i x σ H2 hi ⟨y1, y2, y3, y4, y5, y6, y7, rfl, hr2, hs2⟩
    obtain ⟨a, ha, rfl⟩ : ∃ a, srcs[i]? = some a ∧ x = V.ref a := by
      rw [List.getElem?_map] at hi
      obtain ⟨z, hz, e⟩ := Option.map_eq_some_iff.mp hi
      exact ⟨z, hz, e.symm⟩
    have ed : srcs.drop i = a :: srcs.drop (i + 1) := by
      obtain ⟨h1, h2⟩ := List.getElem?_eq_some_iff.mp ha
      rw [List.drop_eq_getElem_cons h1, h2]
    have hsa : Src H2 a 3000 := hs2 a (by rw [ed]; exact List.mem_cons_self ..)
    have har : r ≠ a := fun e => (hsrc a (List.mem_of_getElem? ha)).2.2 e.symm
    have nda : ∀ b ∈ srcs.drop (i + 1), b ≠ a := by
      intro b hb e
      have : (srcs.drop i).Nodup := nd.sublist (List.drop_sublist i srcs)
      rw [ed, List.nodup_cons] at this
      exact this.1 (e ▸ hb)
    have after : ∀ H3, ExA a H2 H3 → H3 r = some (.lst (srcs.map V.ref)) ∧ ∀ b ∈ srcs.drop (i + 1), Src H3 b 3000 := fun H3 x3 => by
      refine ⟨x3 _ _ har hr2, fun b hb => ?_⟩
      obtain ⟨u, v, z, e, e0, e1⟩ := hs2 b (by rw [ed]; exact List.mem_cons_of_mem _ hb)
      exact ⟨u, v, z, x3 _ _ (nda b hb) e, e0, e1⟩
    refine ⟨1, rfl, by show 2 ≤ sizeLine; decide, fun t nt => ⟨10, 30, rfl, rfl, ⟨by decide, by decide, by decide⟩, fun k nk => ⟨by show 1 ≤ sizeLine; decide, fun l nl => ⟨by show 10 ≤ sizeLine; decide, fun L nL => ?_⟩⟩⟩⟩
    have g1 := same_upd (o := .tup [.int 1, .int 2]) nt
    have g2 := same_upd (o := .dK []) nk
    have g3 := same_upd (o := .lst [.int 1]) nl
    have g4 := same_upd (o := .lst [.int 0, .int (-1), .non, .bl true, .str "a", .ref t, .int (10 ^ 30), .ref k, .ref l, .str ""]) nL
    have aL : L ≠ a := (((hsa.same g1).same g2).same g3).ne nL
    have at_ : t ≠ a := hsa.ne nt
    have ak : k ≠ a := (hsa.same g1).ne nk
    have al : l ≠ a := ((hsa.same g1).same g2).ne nl
    obtain ⟨H4, e4⟩ : ∃ z, z = upd (upd (upd (upd H2 t (.tup [.int 1, .int 2])) k (.dK [])) l (.lst [.int 1])) L (.lst [.int 0, .int (-1), .non, .bl true, .str "a", .ref t, .int (10 ^ 30), .ref k, .ref l, .str ""]) := ⟨_, rfl⟩
    have s24 : Same H2 H4 := e4 ▸ (((g1.trans g2).trans g3).trans g4)
    have ha4 := hsa.same s24
    have x4 : ExA a H2 H4 := ExA.of s24
    have et : H4 t = some (.tup [.int 1, .int 2]) := e4 ▸ ((g2.trans g3).trans g4) t _ upd_same
    have ek : H4 k = some (.dK []) := e4 ▸ (g3.trans g4) k _ upd_same
    have el : H4 l = some (.lst [.int 1]) := e4 ▸ g4 l _ upd_same
    have eL : H4 L = some (.lst [.int 0, .int (-1), .non, .bl true, .str "a", .ref t, .int (10 ^ 30), .ref k, .ref l, .str ""]) := e4 ▸ upd_same
    have ten : ∀ H' v, ExA a H4 H' → v ∈ ([.int 0, .int (-1), .non, .bl true, .str "a", .ref t, .int (10 ^ 30), .ref k, .ref l, .str ""] : List V) → ∃ d, Ten H' v d := fun H' v x hv => by
      simp only [List.mem_cons, List.not_mem_nil, or_false] at hv
      rcases hv with rfl | rfl | rfl | rfl | rfl | rfl | rfl | rfl | rfl | rfl
      · exact ⟨_, .n0⟩
      · exact ⟨_, .n1⟩
      · exact ⟨_, .non⟩
      · exact ⟨_, .tr⟩
      · exact ⟨_, .sa⟩
      · exact ⟨_, .tu (x _ _ at_ et)⟩
      · exact ⟨_, .big⟩
      · exact ⟨_, .dk (x _ _ ak ek)⟩
      · exact ⟨_, .ls (x _ _ al el)⟩
      · exact ⟨_, .se⟩
    refine ⟨.ref a, rfl, .ref L, rfl, a, 3000, .ref L, rfl, e4 ▸ ha4, by decide, .inr ⟨L, _, rfl, aL, SqL.of upd_same, by show 1 ≤ 10; decide, by show 10 ≤ 1000; decide, fun H5 v hv x5 s5 => ?_⟩⟩
    replace x5 : ExA a H4 H5 := e4 ▸ x5
    refine ⟨.ref a, rfl, .ref L, rfl, a, 3001, .ref L, rfl, s5, by decide, .inr ⟨L, _, rfl, aL, SqL.of (x5 _ _ aL eL), by show 1 ≤ 10; decide, by show 10 ≤ 1000; decide, fun H6 w hw x6 s6 => ?_⟩⟩
    refine ⟨by show 2 ≤ sizeLine; decide, fun u nu => ⟨u, _, rfl, SqT.of upd_same, rfl, ?_⟩⟩
    have x7 : ExA a H4 (upd H6 u (.tup [v, w])) := (x5.trans x6).trans (ExA.new nu)
    obtain ⟨d, tv⟩ := ten _ v x7 hv
    obtain ⟨e, tw⟩ := ten _ w x7 hw
    refine ⟨v, _, rfl, w, _, rfl, rfl, ?_⟩
    refine ⟨v, rfl, w, rfl, v, w, rfl, fun H8 R8 as8 s8 h8 e8 => ⟨v, rfl, w, rfl, v, w, rfl, fun H9 R9 as9 s9 h9 e9 => ⟨by show 2 ≤ sizeLine; decide, fun tt ntt => ?_⟩⟩⟩
    have s10 := same_upd (o := .tup [.ref R8, .ref R9]) ntt
    have rows : ∀ (j : Nat) (x : V), ([.ref R8, .ref R9] : List V)[j]? = some x → ∃ (R : Addr) (as : List Addr), x = V.ref R ∧ (upd H9 tt (.tup [V.ref R8, V.ref R9])) R = some (.lst (as.map V.ref)) ∧ Errs (upd H9 tt (.tup [V.ref R8, V.ref R9])) as (errs T v w) := fun j x hj => by
      match j, hj with
      | 0, hj => exact ⟨R8, as8, (Option.some.inj hj).symm, s10 _ _ (s9 _ _ h8), e8.same (s9.trans s10)⟩
      | 1, hj => exact ⟨R9, as9, (Option.some.inj hj).symm, s10 _ _ h9, e9.same s10⟩
      | n + 2, hj => exact nomatch hj
    have tv2 := tv.same ((s8.trans s9).trans s10)
    have tw2 := tw.same ((s8.trans s9).trans s10)
    have x10 : ExA a H4 (upd H9 tt (.tup [V.ref R8, V.ref R9])) := x7.trans (ExA.of ((s8.trans s9).trans s10))
    refine ⟨tt, rfl, ⟨_, SqT.of upd_same⟩, for_tup (K := K) (a := tt) (xs := [.ref R8, .ref R9]) (fun j σ H' => ∃ y5 y6 y7, σ = [some (.ref s0), some (.ref a), some (.ref L), some v, some w, y5, y6, y7] ∧ Same (upd H9 tt (.tup [V.ref R8, V.ref R9])) H')
      ⟨_, _, _, rfl, Same.refl _⟩ (fun j σ H' _ ⟨_, _, _, _, s⟩ => SqT.of (s _ _ upd_same)) ?_ ?_⟩
    · rintro j x σ H11 hj ⟨y5, y6, y7, rfl, s11⟩
      obtain ⟨R, as, rfl, hR, eR⟩ := rows j x hj
      refine ⟨.ref R, rfl, R, _, rfl, SqL.of (s11 _ _ hR), fun D nD => ?_⟩
      refine walk_enum (K := K) (a := R) (xs := as.map V.ref) (fun i H' => Same H11 H' ∧ H' D = some (.lst [])) ⟨same_upd nD, upd_same⟩ (fun i H' ⟨s, _⟩ => SqL.of (s _ _ (s11 _ _ hR))) ?_ ?_
      · rintro i x H12 Tt hi ⟨s12, hD⟩ nT
        obtain ⟨b, hb, rfl⟩ : ∃ b, as[i]? = some b ∧ x = V.ref b := by
          rw [List.getElem?_map] at hi
          obtain ⟨z, hz, e⟩ := Option.map_eq_some_iff.mp hi
          exact ⟨z, hz, e.symm⟩
        obtain ⟨le, get⟩ := eR.get
        have hi44 : i < 44 := by
          rw [← errs_len T v w, ← le]
          exact (List.getElem?_eq_some_iff.mp hb).1
        have ep : (errs T v w)[i]? = some ((errs T v w)[i]'hi44) := List.getElem?_eq_getElem hi44
        have s13 := (s11.trans s12).trans (same_upd (o := .tup [.int (i : Nat), .ref b]) nT)
        refine ⟨Tt, _, rfl, SqT.of upd_same, rfl, _, _, rfl, _, _, rfl, rfl, rfl, ?_⟩
        refine ⟨.ref b, rfl, .int i, rfl, v, rfl, w, rfl, b, i, v, w, _, d, e, rfl, hi44, ep, (get i b _ hb ep).ext s13, tv2.same s13, tw2.same s13, fun H14 s14 => ?_⟩
        exact ⟨true, rfl, if_false_of rfl ⟨(s12.trans (same_upd nT)).trans s14, s14 _ _ (same_upd nT _ _ hD)⟩⟩
      · rintro H12 ⟨s12, hD⟩
        exact ⟨Nat.zero_le _, fun e ne => ⟨.list [], .list [], .lst (SqL.of (same_upd ne _ _ hD)) .nil, .lst (SqL.of upd_same) .nil, by decide +kernel, by decide +kernel, false, congrArg V.bl (by decide +kernel), if_false_of rfl ⟨_, _, _, rfl, (s11.trans s12).trans (same_upd ne)⟩⟩⟩
    · rintro σ H11 ⟨y5, y6, y7, rfl, s11⟩
      obtain ⟨k1, k2⟩ := after _ ((x4.trans x10).trans (ExA.of s11))
      exact ⟨_, _, _, _, _, _, _, rfl, k1, k2⟩
  · rintro σ H2 ⟨y1, y2, y3, y4, y5, y6, y7, rfl, _⟩
    exact ⟨rfl, q⟩
end
def hg_0 (K : Hk.Fr) : Bool := He.eqO (PySem.W.specialIn K (.builtin "object.__class__") "__get__") (some (some (.builtin "getset_descriptor.__get__"))) && (decide (PySem.W.takesIn K (.builtin "object.__class__") = some true) && (He.eqO (PySem.W.nsIn K mainGlobals "BadName") (some (some (.ref (He.ga K "BadName")))) && (Hk.xcB K (He.ga K "BadName") "ValueError.__new__" (PySem.ExG.overT [.type "ValueError", .type "Exception", .type "BaseException", .type "object"]) && (He.eqO (PySem.W.findIn K (.ref (He.ga K "BadName")) "__setattr__") (some (some (.builtin "object.__setattr__"))) && (He.eqO (PySem.W.findIn K (.ref (He.ga K "BadName")) "__getattribute__") (some (some (.builtin "BaseException.__getattribute__"))) && (He.eqO (PySem.W.findIn K (.ref (He.ga K "BadName")) "__getattr__") (some none) && (PySem.W.keepIn K (.ref (He.ga K "BadName")) && (decide (PySem.W.subIn K (.ref (He.ga K "BadName")) (.type "BaseException") = some true) && (PySem.W.hasDictIn K (He.ga K "BadName"))))))))))
def hg_1 (K : Hk.Fr) : Bool := He.eqO (PySem.W.findIn K (.ref (He.ga K "BadName")) "__class__") (some (some (.builtin "object.__class__"))) && (decide (PySem.W.mroIn K (He.ga K "BadName") (.type "object") = some true) && (He.eqO (PySem.W.findIn K (.ref (He.ga K "BadName")) "given") (some none) && (He.eqO (PySem.W.nsIn K mainGlobals "BadFilter") (some (some (.ref (He.ga K "BadFilter")))) && (Hk.xcB K (He.ga K "BadFilter") "ValueError.__new__" (PySem.ExG.overT [.type "ValueError", .type "Exception", .type "BaseException", .type "object"]) && (He.eqO (PySem.W.findIn K (.ref (He.ga K "BadFilter")) "__setattr__") (some (some (.builtin "object.__setattr__"))) && (He.eqO (PySem.W.findIn K (.ref (He.ga K "BadFilter")) "__getattribute__") (some (some (.builtin "BaseException.__getattribute__"))) && (He.eqO (PySem.W.findIn K (.ref (He.ga K "BadFilter")) "__getattr__") (some none) && (PySem.W.keepIn K (.ref (He.ga K "BadFilter")) && (decide (PySem.W.subIn K (.ref (He.ga K "BadFilter")) (.type "BaseException") = some true))))))))))
def hg_2 (K : Hk.Fr) : Bool := PySem.W.hasDictIn K (He.ga K "BadFilter") && (He.eqO (PySem.W.findIn K (.ref (He.ga K "BadFilter")) "__class__") (some (some (.builtin "object.__class__"))) && (decide (PySem.W.mroIn K (He.ga K "BadFilter") (.type "object") = some true) && (He.eqO (PySem.W.findIn K (.ref (He.ga K "BadFilter")) "place") (some none) && (He.eqO (PySem.W.nsIn K mainGlobals "BadScope") (some (some (.ref (He.ga K "BadScope")))) && (Hk.xcB K (He.ga K "BadScope") "ValueError.__new__" (PySem.ExG.overT [.type "ValueError", .type "Exception", .type "BaseException", .type "object"]) && (He.eqO (PySem.W.findIn K (.ref (He.ga K "BadScope")) "__setattr__") (some (some (.builtin "object.__setattr__"))) && (He.eqO (PySem.W.findIn K (.ref (He.ga K "BadScope")) "__getattribute__") (some (some (.builtin "BaseException.__getattribute__"))) && (He.eqO (PySem.W.findIn K (.ref (He.ga K "BadScope")) "__getattr__") (some none) && (PySem.W.keepIn K (.ref (He.ga K "BadScope")))))))))))
def hg_3 (K : Hk.Fr) : Bool := decide (PySem.W.subIn K (.ref (He.ga K "BadScope")) (.type "BaseException") = some true) && (PySem.W.hasDictIn K (He.ga K "BadScope") && (He.eqO (PySem.W.findIn K (.ref (He.ga K "BadScope")) "__class__") (some (some (.builtin "object.__class__"))) && (decide (PySem.W.mroIn K (He.ga K "BadScope") (.type "object") = some true) && (He.eqO (PySem.W.findIn K (.ref (He.ga K "BadScope")) "given") (some none) && (He.eqO (PySem.W.nsIn K mainGlobals "BadNumber") (some (some (.ref (He.ga K "BadNumber")))) && (Hk.xcB K (He.ga K "BadNumber") "ValueError.__new__" (PySem.ExG.overT [.type "ValueError", .type "Exception", .type "BaseException", .type "object"]) && (He.eqO (PySem.W.findIn K (.ref (He.ga K "BadNumber")) "__setattr__") (some (some (.builtin "object.__setattr__"))) && (He.eqO (PySem.W.findIn K (.ref (He.ga K "BadNumber")) "__getattribute__") (some (some (.builtin "BaseException.__getattribute__"))) && (He.eqO (PySem.W.findIn K (.ref (He.ga K "BadNumber")) "__getattr__") (some none))))))))))
def hg_4 (K : Hk.Fr) : Bool := PySem.W.keepIn K (.ref (He.ga K "BadNumber")) && (decide (PySem.W.subIn K (.ref (He.ga K "BadNumber")) (.type "BaseException") = some true) && (PySem.W.hasDictIn K (He.ga K "BadNumber") && (He.eqO (PySem.W.findIn K (.ref (He.ga K "BadNumber")) "__class__") (some (some (.builtin "object.__class__"))) && (decide (PySem.W.mroIn K (He.ga K "BadNumber") (.type "object") = some true) && (He.eqO (PySem.W.findIn K (.ref (He.ga K "BadNumber")) "given") (some none) && (He.eqO (PySem.W.nsIn K mainGlobals "BadSchema") (some (some (.ref (He.ga K "BadSchema")))) && (Hk.xcB K (He.ga K "BadSchema") "ValueError.__new__" (PySem.ExG.overT [.type "ValueError", .type "Exception", .type "BaseException", .type "object"]) && (He.eqO (PySem.W.findIn K (.ref (He.ga K "BadSchema")) "__setattr__") (some (some (.builtin "object.__setattr__"))) && (He.eqO (PySem.W.findIn K (.ref (He.ga K "BadSchema")) "__getattribute__") (some (some (.builtin "BaseException.__getattribute__"))))))))))))
def hg_5 (K : Hk.Fr) : Bool := He.eqO (PySem.W.findIn K (.ref (He.ga K "BadSchema")) "__getattr__") (some none) && (PySem.W.keepIn K (.ref (He.ga K "BadSchema")) && (decide (PySem.W.subIn K (.ref (He.ga K "BadSchema")) (.type "BaseException") = some true) && (PySem.W.hasDictIn K (He.ga K "BadSchema") && (He.eqO (PySem.W.findIn K (.ref (He.ga K "BadSchema")) "__class__") (some (some (.builtin "object.__class__"))) && (decide (PySem.W.mroIn K (He.ga K "BadSchema") (.type "object") = some true) && (He.eqO (PySem.W.findIn K (.ref (He.ga K "BadSchema")) "part") (some none) && (He.eqO (PySem.W.findIn K (.ref (He.ga K "BadSchema")) "place") (some none) && (He.eqO (PySem.W.nsIn K mainGlobals "BadEntry") (some (some (.ref (He.ga K "BadEntry")))) && (Hk.xcB K (He.ga K "BadEntry") "ValueError.__new__" (PySem.ExG.overT [.type "ValueError", .type "Exception", .type "BaseException", .type "object"]))))))))))
def hg_6 (K : Hk.Fr) : Bool := He.eqO (PySem.W.findIn K (.ref (He.ga K "BadEntry")) "__setattr__") (some (some (.builtin "object.__setattr__"))) && (He.eqO (PySem.W.findIn K (.ref (He.ga K "BadEntry")) "__getattribute__") (some (some (.builtin "BaseException.__getattribute__"))) && (He.eqO (PySem.W.findIn K (.ref (He.ga K "BadEntry")) "__getattr__") (some none) && (PySem.W.keepIn K (.ref (He.ga K "BadEntry")) && (decide (PySem.W.subIn K (.ref (He.ga K "BadEntry")) (.type "BaseException") = some true) && (PySem.W.hasDictIn K (He.ga K "BadEntry") && (He.eqO (PySem.W.findIn K (.ref (He.ga K "BadEntry")) "__class__") (some (some (.builtin "object.__class__"))) && (decide (PySem.W.mroIn K (He.ga K "BadEntry") (.type "object") = some true) && (He.eqO (PySem.W.findIn K (.ref (He.ga K "BadEntry")) "given") (some none) && (He.eqO (PySem.W.nsIn K mainGlobals "BadDeed") (some (some (.ref (He.ga K "BadDeed")))))))))))))
def hg_7 (K : Hk.Fr) : Bool := Hk.xcB K (He.ga K "BadDeed") "ValueError.__new__" (PySem.ExG.overT [.type "ValueError", .type "Exception", .type "BaseException", .type "object"]) && (He.eqO (PySem.W.findIn K (.ref (He.ga K "BadDeed")) "__setattr__") (some (some (.builtin "object.__setattr__"))) && (He.eqO (PySem.W.findIn K (.ref (He.ga K "BadDeed")) "__getattribute__") (some (some (.builtin "BaseException.__getattribute__"))) && (He.eqO (PySem.W.findIn K (.ref (He.ga K "BadDeed")) "__getattr__") (some none) && (PySem.W.keepIn K (.ref (He.ga K "BadDeed")) && (decide (PySem.W.subIn K (.ref (He.ga K "BadDeed")) (.type "BaseException") = some true) && (PySem.W.hasDictIn K (He.ga K "BadDeed") && (He.eqO (PySem.W.findIn K (.ref (He.ga K "BadDeed")) "__class__") (some (some (.builtin "object.__class__"))) && (decide (PySem.W.mroIn K (He.ga K "BadDeed") (.type "object") = some true) && (He.eqO (PySem.W.findIn K (.ref (He.ga K "BadDeed")) "place") (some none))))))))))
def hg_8 (K : Hk.Fr) : Bool := He.eqO (PySem.W.nsIn K mainGlobals "BadChange") (some (some (.ref (He.ga K "BadChange")))) && (Hk.xcB K (He.ga K "BadChange") "ValueError.__new__" (PySem.ExG.overT [.type "ValueError", .type "Exception", .type "BaseException", .type "object"]) && (He.eqO (PySem.W.findIn K (.ref (He.ga K "BadChange")) "__setattr__") (some (some (.builtin "object.__setattr__"))) && (He.eqO (PySem.W.findIn K (.ref (He.ga K "BadChange")) "__getattribute__") (some (some (.builtin "BaseException.__getattribute__"))) && (He.eqO (PySem.W.findIn K (.ref (He.ga K "BadChange")) "__getattr__") (some none) && (PySem.W.keepIn K (.ref (He.ga K "BadChange")) && (decide (PySem.W.subIn K (.ref (He.ga K "BadChange")) (.type "BaseException") = some true) && (PySem.W.hasDictIn K (He.ga K "BadChange") && (He.eqO (PySem.W.findIn K (.ref (He.ga K "BadChange")) "__class__") (some (some (.builtin "object.__class__"))) && (decide (PySem.W.mroIn K (He.ga K "BadChange") (.type "object") = some true))))))))))
def hg_9 (K : Hk.Fr) : Bool := He.eqO (PySem.W.findIn K (.ref (He.ga K "BadChange")) "place") (some none) && (He.eqO (PySem.W.nsIn K mainGlobals "BadVector") (some (some (.ref (He.ga K "BadVector")))) && (Hk.xcB K (He.ga K "BadVector") "ValueError.__new__" (PySem.ExG.overT [.type "ValueError", .type "Exception", .type "BaseException", .type "object"]) && (He.eqO (PySem.W.findIn K (.ref (He.ga K "BadVector")) "__setattr__") (some (some (.builtin "object.__setattr__"))) && (He.eqO (PySem.W.findIn K (.ref (He.ga K "BadVector")) "__getattribute__") (some (some (.builtin "BaseException.__getattribute__"))) && (He.eqO (PySem.W.findIn K (.ref (He.ga K "BadVector")) "__getattr__") (some none) && (PySem.W.keepIn K (.ref (He.ga K "BadVector")) && (decide (PySem.W.subIn K (.ref (He.ga K "BadVector")) (.type "BaseException") = some true) && (PySem.W.hasDictIn K (He.ga K "BadVector") && (He.eqO (PySem.W.findIn K (.ref (He.ga K "BadVector")) "__class__") (some (some (.builtin "object.__class__"))))))))))))
def hg_10 (K : Hk.Fr) : Bool := decide (PySem.W.mroIn K (He.ga K "BadVector") (.type "object") = some true) && (He.eqO (PySem.W.findIn K (.ref (He.ga K "BadVector")) "given") (some none) && (He.eqO (PySem.W.nsIn K mainGlobals "BadIndex") (some (some (.ref (He.ga K "BadIndex")))) && (Hk.xcB K (He.ga K "BadIndex") "ValueError.__new__" (PySem.ExG.overT [.type "ValueError", .type "Exception", .type "BaseException", .type "object"]) && (He.eqO (PySem.W.findIn K (.ref (He.ga K "BadIndex")) "__setattr__") (some (some (.builtin "object.__setattr__"))) && (He.eqO (PySem.W.findIn K (.ref (He.ga K "BadIndex")) "__getattribute__") (some (some (.builtin "BaseException.__getattribute__"))) && (He.eqO (PySem.W.findIn K (.ref (He.ga K "BadIndex")) "__getattr__") (some none) && (PySem.W.keepIn K (.ref (He.ga K "BadIndex")) && (decide (PySem.W.subIn K (.ref (He.ga K "BadIndex")) (.type "BaseException") = some true) && (PySem.W.hasDictIn K (He.ga K "BadIndex"))))))))))
def hg_11 (K : Hk.Fr) : Bool := He.eqO (PySem.W.findIn K (.ref (He.ga K "BadIndex")) "__class__") (some (some (.builtin "object.__class__"))) && (decide (PySem.W.mroIn K (He.ga K "BadIndex") (.type "object") = some true) && (He.eqO (PySem.W.findIn K (.ref (He.ga K "BadIndex")) "given") (some none) && (He.eqO (PySem.W.nsIn K mainGlobals "BadText") (some (some (.ref (He.ga K "BadText")))) && (Hk.xcB K (He.ga K "BadText") "ValueError.__new__" (PySem.ExG.overT [.type "ValueError", .type "Exception", .type "BaseException", .type "object"]) && (He.eqO (PySem.W.findIn K (.ref (He.ga K "BadText")) "__setattr__") (some (some (.builtin "object.__setattr__"))) && (He.eqO (PySem.W.findIn K (.ref (He.ga K "BadText")) "__getattribute__") (some (some (.builtin "BaseException.__getattribute__"))) && (He.eqO (PySem.W.findIn K (.ref (He.ga K "BadText")) "__getattr__") (some none) && (PySem.W.keepIn K (.ref (He.ga K "BadText")) && (decide (PySem.W.subIn K (.ref (He.ga K "BadText")) (.type "BaseException") = some true))))))))))
def hg_12 (K : Hk.Fr) : Bool := PySem.W.hasDictIn K (He.ga K "BadText") && (He.eqO (PySem.W.findIn K (.ref (He.ga K "BadText")) "__class__") (some (some (.builtin "object.__class__"))) && (decide (PySem.W.mroIn K (He.ga K "BadText") (.type "object") = some true) && (He.eqO (PySem.W.findIn K (.ref (He.ga K "BadText")) "line") (some none) && (He.eqO (PySem.W.nsIn K mainGlobals "BadHost") (some (some (.ref (He.ga K "BadHost")))) && (Hk.xcB K (He.ga K "BadHost") "ValueError.__new__" (PySem.ExG.overT [.type "ValueError", .type "Exception", .type "BaseException", .type "object"]) && (He.eqO (PySem.W.findIn K (.ref (He.ga K "BadHost")) "__setattr__") (some (some (.builtin "object.__setattr__"))) && (He.eqO (PySem.W.findIn K (.ref (He.ga K "BadHost")) "__getattribute__") (some (some (.builtin "BaseException.__getattribute__"))) && (He.eqO (PySem.W.findIn K (.ref (He.ga K "BadHost")) "__getattr__") (some none) && (PySem.W.keepIn K (.ref (He.ga K "BadHost")))))))))))
def hg_13 (K : Hk.Fr) : Bool := decide (PySem.W.subIn K (.ref (He.ga K "BadHost")) (.type "BaseException") = some true) && (PySem.W.hasDictIn K (He.ga K "BadHost") && (He.eqO (PySem.W.findIn K (.ref (He.ga K "BadHost")) "__class__") (some (some (.builtin "object.__class__"))) && (decide (PySem.W.mroIn K (He.ga K "BadHost") (.type "object") = some true) && (He.eqO (PySem.W.findIn K (.ref (He.ga K "BadHost")) "given") (some none) && (He.eqO (PySem.W.nsIn K mainGlobals "BadValue") (some (some (.ref (He.ga K "BadValue")))) && (Hk.xcB K (He.ga K "BadValue") "ValueError.__new__" (PySem.ExG.overT [.type "ValueError", .type "Exception", .type "BaseException", .type "object"]) && (He.eqO (PySem.W.findIn K (.ref (He.ga K "BadValue")) "__setattr__") (some (some (.builtin "object.__setattr__"))) && (He.eqO (PySem.W.findIn K (.ref (He.ga K "BadValue")) "__getattribute__") (some (some (.builtin "BaseException.__getattribute__"))) && (He.eqO (PySem.W.findIn K (.ref (He.ga K "BadValue")) "__getattr__") (some none))))))))))
def hg_14 (K : Hk.Fr) : Bool := PySem.W.keepIn K (.ref (He.ga K "BadValue")) && (decide (PySem.W.subIn K (.ref (He.ga K "BadValue")) (.type "BaseException") = some true) && (PySem.W.hasDictIn K (He.ga K "BadValue") && (He.eqO (PySem.W.findIn K (.ref (He.ga K "BadValue")) "__class__") (some (some (.builtin "object.__class__"))) && (decide (PySem.W.mroIn K (He.ga K "BadValue") (.type "object") = some true) && (He.eqO (PySem.W.findIn K (.ref (He.ga K "BadValue")) "attribute") (some none) && (He.eqO (PySem.W.findIn K (.ref (He.ga K "BadValue")) "item") (some none) && (He.eqO (PySem.W.nsIn K mainGlobals "UnknownAttribute") (some (some (.ref (He.ga K "UnknownAttribute")))) && (Hk.xcB K (He.ga K "UnknownAttribute") "ValueError.__new__" (PySem.ExG.overT [.type "ValueError", .type "Exception", .type "BaseException", .type "object"]) && (He.eqO (PySem.W.findIn K (.ref (He.ga K "UnknownAttribute")) "__setattr__") (some (some (.builtin "object.__setattr__"))))))))))))
def hg_15 (K : Hk.Fr) : Bool := He.eqO (PySem.W.findIn K (.ref (He.ga K "UnknownAttribute")) "__getattribute__") (some (some (.builtin "BaseException.__getattribute__"))) && (He.eqO (PySem.W.findIn K (.ref (He.ga K "UnknownAttribute")) "__getattr__") (some none) && (PySem.W.keepIn K (.ref (He.ga K "UnknownAttribute")) && (decide (PySem.W.subIn K (.ref (He.ga K "UnknownAttribute")) (.type "BaseException") = some true) && (PySem.W.hasDictIn K (He.ga K "UnknownAttribute") && (He.eqO (PySem.W.findIn K (.ref (He.ga K "UnknownAttribute")) "__class__") (some (some (.builtin "object.__class__"))) && (decide (PySem.W.mroIn K (He.ga K "UnknownAttribute") (.type "object") = some true) && (He.eqO (PySem.W.findIn K (.ref (He.ga K "UnknownAttribute")) "attribute") (some none) && (He.eqO (PySem.W.nsIn K mainGlobals "MirrorGiven") (some (some (.ref (He.ga K "MirrorGiven")))) && (Hk.xcB K (He.ga K "MirrorGiven") "ValueError.__new__" (PySem.ExG.overT [.type "ValueError", .type "Exception", .type "BaseException", .type "object"]))))))))))
def hg_16 (K : Hk.Fr) : Bool := He.eqO (PySem.W.findIn K (.ref (He.ga K "MirrorGiven")) "__setattr__") (some (some (.builtin "object.__setattr__"))) && (He.eqO (PySem.W.findIn K (.ref (He.ga K "MirrorGiven")) "__getattribute__") (some (some (.builtin "BaseException.__getattribute__"))) && (He.eqO (PySem.W.findIn K (.ref (He.ga K "MirrorGiven")) "__getattr__") (some none) && (PySem.W.keepIn K (.ref (He.ga K "MirrorGiven")) && (decide (PySem.W.subIn K (.ref (He.ga K "MirrorGiven")) (.type "BaseException") = some true) && (PySem.W.hasDictIn K (He.ga K "MirrorGiven") && (He.eqO (PySem.W.findIn K (.ref (He.ga K "MirrorGiven")) "__class__") (some (some (.builtin "object.__class__"))) && (decide (PySem.W.mroIn K (He.ga K "MirrorGiven") (.type "object") = some true) && (He.eqO (PySem.W.findIn K (.ref (He.ga K "MirrorGiven")) "attribute") (some none) && (He.eqO (PySem.W.nsIn K mainGlobals "UnknownClass") (some (some (.ref (He.ga K "UnknownClass")))))))))))))
def hg_17 (K : Hk.Fr) : Bool := Hk.xcB K (He.ga K "UnknownClass") "ValueError.__new__" (PySem.ExG.overT [.type "ValueError", .type "Exception", .type "BaseException", .type "object"]) && (He.eqO (PySem.W.findIn K (.ref (He.ga K "UnknownClass")) "__setattr__") (some (some (.builtin "object.__setattr__"))) && (He.eqO (PySem.W.findIn K (.ref (He.ga K "UnknownClass")) "__getattribute__") (some (some (.builtin "BaseException.__getattribute__"))) && (He.eqO (PySem.W.findIn K (.ref (He.ga K "UnknownClass")) "__getattr__") (some none) && (PySem.W.keepIn K (.ref (He.ga K "UnknownClass")) && (decide (PySem.W.subIn K (.ref (He.ga K "UnknownClass")) (.type "BaseException") = some true) && (PySem.W.hasDictIn K (He.ga K "UnknownClass") && (He.eqO (PySem.W.findIn K (.ref (He.ga K "UnknownClass")) "__class__") (some (some (.builtin "object.__class__"))) && (decide (PySem.W.mroIn K (He.ga K "UnknownClass") (.type "object") = some true) && (He.eqO (PySem.W.findIn K (.ref (He.ga K "UnknownClass")) "given") (some none))))))))))
def hg_18 (K : Hk.Fr) : Bool := He.eqO (PySem.W.nsIn K mainGlobals "BadClasses") (some (some (.ref (He.ga K "BadClasses")))) && (Hk.xcB K (He.ga K "BadClasses") "ValueError.__new__" (PySem.ExG.overT [.type "ValueError", .type "Exception", .type "BaseException", .type "object"]) && (He.eqO (PySem.W.findIn K (.ref (He.ga K "BadClasses")) "__setattr__") (some (some (.builtin "object.__setattr__"))) && (He.eqO (PySem.W.findIn K (.ref (He.ga K "BadClasses")) "__getattribute__") (some (some (.builtin "BaseException.__getattribute__"))) && (He.eqO (PySem.W.findIn K (.ref (He.ga K "BadClasses")) "__getattr__") (some none) && (PySem.W.keepIn K (.ref (He.ga K "BadClasses")) && (decide (PySem.W.subIn K (.ref (He.ga K "BadClasses")) (.type "BaseException") = some true) && (PySem.W.hasDictIn K (He.ga K "BadClasses") && (He.eqO (PySem.W.findIn K (.ref (He.ga K "BadClasses")) "__class__") (some (some (.builtin "object.__class__"))) && (decide (PySem.W.mroIn K (He.ga K "BadClasses") (.type "object") = some true))))))))))
def hg_19 (K : Hk.Fr) : Bool := He.eqO (PySem.W.findIn K (.ref (He.ga K "BadClasses")) "__init__") (some (some (.builtin "ValueError.__init__"))) && (He.eqO (PySem.W.nsIn K mainGlobals "NotAllowed") (some (some (.ref (He.ga K "NotAllowed")))) && (Hk.xcB K (He.ga K "NotAllowed") "ValueError.__new__" (PySem.ExG.overT [.type "ValueError", .type "Exception", .type "BaseException", .type "object"]) && (He.eqO (PySem.W.findIn K (.ref (He.ga K "NotAllowed")) "__setattr__") (some (some (.builtin "object.__setattr__"))) && (He.eqO (PySem.W.findIn K (.ref (He.ga K "NotAllowed")) "__getattribute__") (some (some (.builtin "BaseException.__getattribute__"))) && (He.eqO (PySem.W.findIn K (.ref (He.ga K "NotAllowed")) "__getattr__") (some none) && (PySem.W.keepIn K (.ref (He.ga K "NotAllowed")) && (decide (PySem.W.subIn K (.ref (He.ga K "NotAllowed")) (.type "BaseException") = some true) && (PySem.W.hasDictIn K (He.ga K "NotAllowed") && (He.eqO (PySem.W.findIn K (.ref (He.ga K "NotAllowed")) "__class__") (some (some (.builtin "object.__class__"))))))))))))
def hg_20 (K : Hk.Fr) : Bool := decide (PySem.W.mroIn K (He.ga K "NotAllowed") (.type "object") = some true) && (He.eqO (PySem.W.findIn K (.ref (He.ga K "NotAllowed")) "attribute") (some none) && (He.eqO (PySem.W.nsIn K mainGlobals "Missing") (some (some (.ref (He.ga K "Missing")))) && (Hk.xcB K (He.ga K "Missing") "ValueError.__new__" (PySem.ExG.overT [.type "ValueError", .type "Exception", .type "BaseException", .type "object"]) && (He.eqO (PySem.W.findIn K (.ref (He.ga K "Missing")) "__setattr__") (some (some (.builtin "object.__setattr__"))) && (He.eqO (PySem.W.findIn K (.ref (He.ga K "Missing")) "__getattribute__") (some (some (.builtin "BaseException.__getattribute__"))) && (He.eqO (PySem.W.findIn K (.ref (He.ga K "Missing")) "__getattr__") (some none) && (PySem.W.keepIn K (.ref (He.ga K "Missing")) && (decide (PySem.W.subIn K (.ref (He.ga K "Missing")) (.type "BaseException") = some true) && (PySem.W.hasDictIn K (He.ga K "Missing"))))))))))
def hg_21 (K : Hk.Fr) : Bool := He.eqO (PySem.W.findIn K (.ref (He.ga K "Missing")) "__class__") (some (some (.builtin "object.__class__"))) && (decide (PySem.W.mroIn K (He.ga K "Missing") (.type "object") = some true) && (He.eqO (PySem.W.findIn K (.ref (He.ga K "Missing")) "attribute") (some none) && (He.eqO (PySem.W.nsIn K mainGlobals "TooManyValues") (some (some (.ref (He.ga K "TooManyValues")))) && (Hk.xcB K (He.ga K "TooManyValues") "ValueError.__new__" (PySem.ExG.overT [.type "ValueError", .type "Exception", .type "BaseException", .type "object"]) && (He.eqO (PySem.W.findIn K (.ref (He.ga K "TooManyValues")) "__setattr__") (some (some (.builtin "object.__setattr__"))) && (He.eqO (PySem.W.findIn K (.ref (He.ga K "TooManyValues")) "__getattribute__") (some (some (.builtin "BaseException.__getattribute__"))) && (He.eqO (PySem.W.findIn K (.ref (He.ga K "TooManyValues")) "__getattr__") (some none) && (PySem.W.keepIn K (.ref (He.ga K "TooManyValues")) && (decide (PySem.W.subIn K (.ref (He.ga K "TooManyValues")) (.type "BaseException") = some true))))))))))
def hg_22 (K : Hk.Fr) : Bool := PySem.W.hasDictIn K (He.ga K "TooManyValues") && (He.eqO (PySem.W.findIn K (.ref (He.ga K "TooManyValues")) "__class__") (some (some (.builtin "object.__class__"))) && (decide (PySem.W.mroIn K (He.ga K "TooManyValues") (.type "object") = some true) && (He.eqO (PySem.W.findIn K (.ref (He.ga K "TooManyValues")) "attribute") (some none) && (He.eqO (PySem.W.nsIn K mainGlobals "ValueTaken") (some (some (.ref (He.ga K "ValueTaken")))) && (Hk.xcB K (He.ga K "ValueTaken") "ValueError.__new__" (PySem.ExG.overT [.type "ValueError", .type "Exception", .type "BaseException", .type "object"]) && (He.eqO (PySem.W.findIn K (.ref (He.ga K "ValueTaken")) "__setattr__") (some (some (.builtin "object.__setattr__"))) && (He.eqO (PySem.W.findIn K (.ref (He.ga K "ValueTaken")) "__getattribute__") (some (some (.builtin "BaseException.__getattribute__"))) && (He.eqO (PySem.W.findIn K (.ref (He.ga K "ValueTaken")) "__getattr__") (some none) && (PySem.W.keepIn K (.ref (He.ga K "ValueTaken")))))))))))
def hg_23 (K : Hk.Fr) : Bool := decide (PySem.W.subIn K (.ref (He.ga K "ValueTaken")) (.type "BaseException") = some true) && (PySem.W.hasDictIn K (He.ga K "ValueTaken") && (He.eqO (PySem.W.findIn K (.ref (He.ga K "ValueTaken")) "__class__") (some (some (.builtin "object.__class__"))) && (decide (PySem.W.mroIn K (He.ga K "ValueTaken") (.type "object") = some true) && (He.eqO (PySem.W.findIn K (.ref (He.ga K "ValueTaken")) "attribute") (some none) && (He.eqO (PySem.W.findIn K (.ref (He.ga K "ValueTaken")) "item") (some none) && (He.eqO (PySem.W.nsIn K mainGlobals "NotNamed") (some (some (.ref (He.ga K "NotNamed")))) && (Hk.xcB K (He.ga K "NotNamed") "ValueError.__new__" (PySem.ExG.overT [.type "ValueError", .type "Exception", .type "BaseException", .type "object"]) && (He.eqO (PySem.W.findIn K (.ref (He.ga K "NotNamed")) "__setattr__") (some (some (.builtin "object.__setattr__"))) && (He.eqO (PySem.W.findIn K (.ref (He.ga K "NotNamed")) "__getattribute__") (some (some (.builtin "BaseException.__getattribute__"))))))))))))
def hg_24 (K : Hk.Fr) : Bool := He.eqO (PySem.W.findIn K (.ref (He.ga K "NotNamed")) "__getattr__") (some none) && (PySem.W.keepIn K (.ref (He.ga K "NotNamed")) && (decide (PySem.W.subIn K (.ref (He.ga K "NotNamed")) (.type "BaseException") = some true) && (PySem.W.hasDictIn K (He.ga K "NotNamed") && (He.eqO (PySem.W.findIn K (.ref (He.ga K "NotNamed")) "__class__") (some (some (.builtin "object.__class__"))) && (decide (PySem.W.mroIn K (He.ga K "NotNamed") (.type "object") = some true) && (He.eqO (PySem.W.findIn K (.ref (He.ga K "NotNamed")) "attribute") (some none) && (He.eqO (PySem.W.nsIn K mainGlobals "BadPlace") (some (some (.ref (He.ga K "BadPlace")))) && (Hk.xcB K (He.ga K "BadPlace") "ValueError.__new__" (PySem.ExG.overT [.type "ValueError", .type "Exception", .type "BaseException", .type "object"]) && (He.eqO (PySem.W.findIn K (.ref (He.ga K "BadPlace")) "__setattr__") (some (some (.builtin "object.__setattr__"))))))))))))
def hg_25 (K : Hk.Fr) : Bool := He.eqO (PySem.W.findIn K (.ref (He.ga K "BadPlace")) "__getattribute__") (some (some (.builtin "BaseException.__getattribute__"))) && (He.eqO (PySem.W.findIn K (.ref (He.ga K "BadPlace")) "__getattr__") (some none) && (PySem.W.keepIn K (.ref (He.ga K "BadPlace")) && (decide (PySem.W.subIn K (.ref (He.ga K "BadPlace")) (.type "BaseException") = some true) && (PySem.W.hasDictIn K (He.ga K "BadPlace") && (He.eqO (PySem.W.findIn K (.ref (He.ga K "BadPlace")) "__class__") (some (some (.builtin "object.__class__"))) && (decide (PySem.W.mroIn K (He.ga K "BadPlace") (.type "object") = some true) && (He.eqO (PySem.W.findIn K (.ref (He.ga K "BadPlace")) "given") (some none) && (He.eqO (PySem.W.nsIn K mainGlobals "NoTarget") (some (some (.ref (He.ga K "NoTarget")))) && (Hk.xcB K (He.ga K "NoTarget") "ValueError.__new__" (PySem.ExG.overT [.type "ValueError", .type "Exception", .type "BaseException", .type "object"]))))))))))
def hg_26 (K : Hk.Fr) : Bool := He.eqO (PySem.W.findIn K (.ref (He.ga K "NoTarget")) "__setattr__") (some (some (.builtin "object.__setattr__"))) && (He.eqO (PySem.W.findIn K (.ref (He.ga K "NoTarget")) "__getattribute__") (some (some (.builtin "BaseException.__getattribute__"))) && (He.eqO (PySem.W.findIn K (.ref (He.ga K "NoTarget")) "__getattr__") (some none) && (PySem.W.keepIn K (.ref (He.ga K "NoTarget")) && (decide (PySem.W.subIn K (.ref (He.ga K "NoTarget")) (.type "BaseException") = some true) && (PySem.W.hasDictIn K (He.ga K "NoTarget") && (He.eqO (PySem.W.findIn K (.ref (He.ga K "NoTarget")) "__class__") (some (some (.builtin "object.__class__"))) && (decide (PySem.W.mroIn K (He.ga K "NoTarget") (.type "object") = some true) && (He.eqO (PySem.W.findIn K (.ref (He.ga K "NoTarget")) "attribute") (some none) && (He.eqO (PySem.W.findIn K (.ref (He.ga K "NoTarget")) "item") (some none))))))))))
def hg_27 (K : Hk.Fr) : Bool := He.eqO (PySem.W.nsIn K mainGlobals "NotInteger") (some (some (.ref (He.ga K "NotInteger")))) && (Hk.xcB K (He.ga K "NotInteger") "ValueError.__new__" (PySem.ExG.overT [.type "ValueError", .type "Exception", .type "BaseException", .type "object"]) && (He.eqO (PySem.W.findIn K (.ref (He.ga K "NotInteger")) "__setattr__") (some (some (.builtin "object.__setattr__"))) && (He.eqO (PySem.W.findIn K (.ref (He.ga K "NotInteger")) "__getattribute__") (some (some (.builtin "BaseException.__getattribute__"))) && (He.eqO (PySem.W.findIn K (.ref (He.ga K "NotInteger")) "__getattr__") (some none) && (PySem.W.keepIn K (.ref (He.ga K "NotInteger")) && (decide (PySem.W.subIn K (.ref (He.ga K "NotInteger")) (.type "BaseException") = some true) && (PySem.W.hasDictIn K (He.ga K "NotInteger") && (He.eqO (PySem.W.findIn K (.ref (He.ga K "NotInteger")) "__class__") (some (some (.builtin "object.__class__"))) && (decide (PySem.W.mroIn K (He.ga K "NotInteger") (.type "object") = some true))))))))))
def hg_28 (K : Hk.Fr) : Bool := He.eqO (PySem.W.findIn K (.ref (He.ga K "NotInteger")) "attribute") (some none) && (He.eqO (PySem.W.nsIn K mainGlobals "NoOrder") (some (some (.ref (He.ga K "NoOrder")))) && (Hk.xcB K (He.ga K "NoOrder") "ValueError.__new__" (PySem.ExG.overT [.type "ValueError", .type "Exception", .type "BaseException", .type "object"]) && (He.eqO (PySem.W.findIn K (.ref (He.ga K "NoOrder")) "__setattr__") (some (some (.builtin "object.__setattr__"))) && (He.eqO (PySem.W.findIn K (.ref (He.ga K "NoOrder")) "__getattribute__") (some (some (.builtin "BaseException.__getattribute__"))) && (He.eqO (PySem.W.findIn K (.ref (He.ga K "NoOrder")) "__getattr__") (some none) && (PySem.W.keepIn K (.ref (He.ga K "NoOrder")) && (decide (PySem.W.subIn K (.ref (He.ga K "NoOrder")) (.type "BaseException") = some true) && (PySem.W.hasDictIn K (He.ga K "NoOrder") && (He.eqO (PySem.W.findIn K (.ref (He.ga K "NoOrder")) "__class__") (some (some (.builtin "object.__class__"))))))))))))
def hg_29 (K : Hk.Fr) : Bool := decide (PySem.W.mroIn K (He.ga K "NoOrder") (.type "object") = some true) && (He.eqO (PySem.W.findIn K (.ref (He.ga K "NoOrder")) "attribute") (some none) && (He.eqO (PySem.W.nsIn K mainGlobals "NoEntry") (some (some (.ref (He.ga K "NoEntry")))) && (Hk.xcB K (He.ga K "NoEntry") "LookupError.__new__" (PySem.ExG.overT [.type "LookupError", .type "Exception", .type "BaseException", .type "object"]) && (He.eqO (PySem.W.findIn K (.ref (He.ga K "NoEntry")) "__setattr__") (some (some (.builtin "object.__setattr__"))) && (He.eqO (PySem.W.findIn K (.ref (He.ga K "NoEntry")) "__getattribute__") (some (some (.builtin "BaseException.__getattribute__"))) && (He.eqO (PySem.W.findIn K (.ref (He.ga K "NoEntry")) "__getattr__") (some none) && (PySem.W.keepIn K (.ref (He.ga K "NoEntry")) && (decide (PySem.W.subIn K (.ref (He.ga K "NoEntry")) (.type "BaseException") = some true) && (PySem.W.hasDictIn K (He.ga K "NoEntry"))))))))))
def hg_30 (K : Hk.Fr) : Bool := He.eqO (PySem.W.findIn K (.ref (He.ga K "NoEntry")) "__class__") (some (some (.builtin "object.__class__"))) && (decide (PySem.W.mroIn K (He.ga K "NoEntry") (.type "object") = some true) && (He.eqO (PySem.W.findIn K (.ref (He.ga K "NoEntry")) "missing") (some none) && (He.eqO (PySem.W.findIn K (.ref (He.ga K "NoEntry")) "matched") (some none) && (He.eqO (PySem.W.nsIn K mainGlobals "NameTaken") (some (some (.ref (He.ga K "NameTaken")))) && (Hk.xcB K (He.ga K "NameTaken") "LookupError.__new__" (PySem.ExG.overT [.type "LookupError", .type "Exception", .type "BaseException", .type "object"]) && (He.eqO (PySem.W.findIn K (.ref (He.ga K "NameTaken")) "__setattr__") (some (some (.builtin "object.__setattr__"))) && (He.eqO (PySem.W.findIn K (.ref (He.ga K "NameTaken")) "__getattribute__") (some (some (.builtin "BaseException.__getattribute__"))) && (He.eqO (PySem.W.findIn K (.ref (He.ga K "NameTaken")) "__getattr__") (some none) && (PySem.W.keepIn K (.ref (He.ga K "NameTaken")))))))))))
def hg_31 (K : Hk.Fr) : Bool := decide (PySem.W.subIn K (.ref (He.ga K "NameTaken")) (.type "BaseException") = some true) && (PySem.W.hasDictIn K (He.ga K "NameTaken") && (He.eqO (PySem.W.findIn K (.ref (He.ga K "NameTaken")) "__class__") (some (some (.builtin "object.__class__"))) && (decide (PySem.W.mroIn K (He.ga K "NameTaken") (.type "object") = some true) && (He.eqO (PySem.W.findIn K (.ref (He.ga K "NameTaken")) "given") (some none) && (He.eqO (PySem.W.nsIn K mainGlobals "HasChildren") (some (some (.ref (He.ga K "HasChildren")))) && (Hk.xcB K (He.ga K "HasChildren") "LookupError.__new__" (PySem.ExG.overT [.type "LookupError", .type "Exception", .type "BaseException", .type "object"]) && (He.eqO (PySem.W.findIn K (.ref (He.ga K "HasChildren")) "__setattr__") (some (some (.builtin "object.__setattr__"))) && (He.eqO (PySem.W.findIn K (.ref (He.ga K "HasChildren")) "__getattribute__") (some (some (.builtin "BaseException.__getattribute__"))) && (He.eqO (PySem.W.findIn K (.ref (He.ga K "HasChildren")) "__getattr__") (some none))))))))))
def hg_32 (K : Hk.Fr) : Bool := PySem.W.keepIn K (.ref (He.ga K "HasChildren")) && (decide (PySem.W.subIn K (.ref (He.ga K "HasChildren")) (.type "BaseException") = some true) && (PySem.W.hasDictIn K (He.ga K "HasChildren") && (He.eqO (PySem.W.findIn K (.ref (He.ga K "HasChildren")) "__class__") (some (some (.builtin "object.__class__"))) && (decide (PySem.W.mroIn K (He.ga K "HasChildren") (.type "object") = some true) && (He.eqO (PySem.W.findIn K (.ref (He.ga K "HasChildren")) "given") (some none) && (He.eqO (PySem.W.nsIn K mainGlobals "InUse") (some (some (.ref (He.ga K "InUse")))) && (Hk.xcB K (He.ga K "InUse") "LookupError.__new__" (PySem.ExG.overT [.type "LookupError", .type "Exception", .type "BaseException", .type "object"]) && (He.eqO (PySem.W.findIn K (.ref (He.ga K "InUse")) "__setattr__") (some (some (.builtin "object.__setattr__"))) && (He.eqO (PySem.W.findIn K (.ref (He.ga K "InUse")) "__getattribute__") (some (some (.builtin "BaseException.__getattribute__"))))))))))))
def hg_33 (K : Hk.Fr) : Bool := He.eqO (PySem.W.findIn K (.ref (He.ga K "InUse")) "__getattr__") (some none) && (PySem.W.keepIn K (.ref (He.ga K "InUse")) && (decide (PySem.W.subIn K (.ref (He.ga K "InUse")) (.type "BaseException") = some true) && (PySem.W.hasDictIn K (He.ga K "InUse") && (He.eqO (PySem.W.findIn K (.ref (He.ga K "InUse")) "__class__") (some (some (.builtin "object.__class__"))) && (decide (PySem.W.mroIn K (He.ga K "InUse") (.type "object") = some true) && (He.eqO (PySem.W.findIn K (.ref (He.ga K "InUse")) "holder") (some none) && (He.eqO (PySem.W.nsIn K mainGlobals "Inside") (some (some (.ref (He.ga K "Inside")))) && (Hk.xcB K (He.ga K "Inside") "LookupError.__new__" (PySem.ExG.overT [.type "LookupError", .type "Exception", .type "BaseException", .type "object"]) && (He.eqO (PySem.W.findIn K (.ref (He.ga K "Inside")) "__setattr__") (some (some (.builtin "object.__setattr__"))))))))))))
def hg_34 (K : Hk.Fr) : Bool := He.eqO (PySem.W.findIn K (.ref (He.ga K "Inside")) "__getattribute__") (some (some (.builtin "BaseException.__getattribute__"))) && (He.eqO (PySem.W.findIn K (.ref (He.ga K "Inside")) "__getattr__") (some none) && (PySem.W.keepIn K (.ref (He.ga K "Inside")) && (decide (PySem.W.subIn K (.ref (He.ga K "Inside")) (.type "BaseException") = some true) && (PySem.W.hasDictIn K (He.ga K "Inside") && (He.eqO (PySem.W.findIn K (.ref (He.ga K "Inside")) "__class__") (some (some (.builtin "object.__class__"))) && (decide (PySem.W.mroIn K (He.ga K "Inside") (.type "object") = some true) && (He.eqO (PySem.W.findIn K (.ref (He.ga K "Inside")) "given") (some none) && (He.eqO (PySem.W.nsIn K mainGlobals "NoValue") (some (some (.ref (He.ga K "NoValue")))) && (Hk.xcB K (He.ga K "NoValue") "LookupError.__new__" (PySem.ExG.overT [.type "LookupError", .type "Exception", .type "BaseException", .type "object"]))))))))))
def hg_35 (K : Hk.Fr) : Bool := He.eqO (PySem.W.findIn K (.ref (He.ga K "NoValue")) "__setattr__") (some (some (.builtin "object.__setattr__"))) && (He.eqO (PySem.W.findIn K (.ref (He.ga K "NoValue")) "__getattribute__") (some (some (.builtin "BaseException.__getattribute__"))) && (He.eqO (PySem.W.findIn K (.ref (He.ga K "NoValue")) "__getattr__") (some none) && (PySem.W.keepIn K (.ref (He.ga K "NoValue")) && (decide (PySem.W.subIn K (.ref (He.ga K "NoValue")) (.type "BaseException") = some true) && (PySem.W.hasDictIn K (He.ga K "NoValue") && (He.eqO (PySem.W.findIn K (.ref (He.ga K "NoValue")) "__class__") (some (some (.builtin "object.__class__"))) && (decide (PySem.W.mroIn K (He.ga K "NoValue") (.type "object") = some true) && (He.eqO (PySem.W.findIn K (.ref (He.ga K "NoValue")) "attribute") (some none) && (He.eqO (PySem.W.findIn K (.ref (He.ga K "NoValue")) "item") (some none))))))))))
def hg_36 (K : Hk.Fr) : Bool := He.eqO (PySem.W.nsIn K mainGlobals "Referral") (some (some (.ref (He.ga K "Referral")))) && (Hk.xcB K (He.ga K "Referral") "LookupError.__new__" (PySem.ExG.overT [.type "LookupError", .type "Exception", .type "BaseException", .type "object"]) && (He.eqO (PySem.W.findIn K (.ref (He.ga K "Referral")) "__setattr__") (some (some (.builtin "object.__setattr__"))) && (He.eqO (PySem.W.findIn K (.ref (He.ga K "Referral")) "__getattribute__") (some (some (.builtin "BaseException.__getattribute__"))) && (He.eqO (PySem.W.findIn K (.ref (He.ga K "Referral")) "__getattr__") (some none) && (PySem.W.keepIn K (.ref (He.ga K "Referral")) && (decide (PySem.W.subIn K (.ref (He.ga K "Referral")) (.type "BaseException") = some true) && (PySem.W.hasDictIn K (He.ga K "Referral") && (He.eqO (PySem.W.findIn K (.ref (He.ga K "Referral")) "__class__") (some (some (.builtin "object.__class__"))) && (decide (PySem.W.mroIn K (He.ga K "Referral") (.type "object") = some true))))))))))
def hg_37 (K : Hk.Fr) : Bool := He.eqO (PySem.W.findIn K (.ref (He.ga K "Referral")) "targets") (some none) && (He.eqO (PySem.W.nsIn K mainGlobals "IndexTaken") (some (some (.ref (He.ga K "IndexTaken")))) && (Hk.xcB K (He.ga K "IndexTaken") "LookupError.__new__" (PySem.ExG.overT [.type "LookupError", .type "Exception", .type "BaseException", .type "object"]) && (He.eqO (PySem.W.findIn K (.ref (He.ga K "IndexTaken")) "__setattr__") (some (some (.builtin "object.__setattr__"))) && (He.eqO (PySem.W.findIn K (.ref (He.ga K "IndexTaken")) "__getattribute__") (some (some (.builtin "BaseException.__getattribute__"))) && (He.eqO (PySem.W.findIn K (.ref (He.ga K "IndexTaken")) "__getattr__") (some none) && (PySem.W.keepIn K (.ref (He.ga K "IndexTaken")) && (decide (PySem.W.subIn K (.ref (He.ga K "IndexTaken")) (.type "BaseException") = some true) && (PySem.W.hasDictIn K (He.ga K "IndexTaken") && (He.eqO (PySem.W.findIn K (.ref (He.ga K "IndexTaken")) "__class__") (some (some (.builtin "object.__class__"))))))))))))
def hg_38 (K : Hk.Fr) : Bool := decide (PySem.W.mroIn K (He.ga K "IndexTaken") (.type "object") = some true) && (He.eqO (PySem.W.findIn K (.ref (He.ga K "IndexTaken")) "given") (some none) && (He.eqO (PySem.W.nsIn K mainGlobals "NoIndex") (some (some (.ref (He.ga K "NoIndex")))) && (Hk.xcB K (He.ga K "NoIndex") "LookupError.__new__" (PySem.ExG.overT [.type "LookupError", .type "Exception", .type "BaseException", .type "object"]) && (He.eqO (PySem.W.findIn K (.ref (He.ga K "NoIndex")) "__setattr__") (some (some (.builtin "object.__setattr__"))) && (He.eqO (PySem.W.findIn K (.ref (He.ga K "NoIndex")) "__getattribute__") (some (some (.builtin "BaseException.__getattribute__"))) && (He.eqO (PySem.W.findIn K (.ref (He.ga K "NoIndex")) "__getattr__") (some none) && (PySem.W.keepIn K (.ref (He.ga K "NoIndex")) && (decide (PySem.W.subIn K (.ref (He.ga K "NoIndex")) (.type "BaseException") = some true) && (PySem.W.hasDictIn K (He.ga K "NoIndex"))))))))))
def hg_39 (K : Hk.Fr) : Bool := He.eqO (PySem.W.findIn K (.ref (He.ga K "NoIndex")) "__class__") (some (some (.builtin "object.__class__"))) && (decide (PySem.W.mroIn K (He.ga K "NoIndex") (.type "object") = some true) && (He.eqO (PySem.W.findIn K (.ref (He.ga K "NoIndex")) "given") (some none) && (He.eqO (PySem.W.nsIn K mainGlobals "NothingToUndo") (some (some (.ref (He.ga K "NothingToUndo")))) && (Hk.xcB K (He.ga K "NothingToUndo") "LookupError.__new__" (PySem.ExG.overT [.type "LookupError", .type "Exception", .type "BaseException", .type "object"]) && (He.eqO (PySem.W.findIn K (.ref (He.ga K "NothingToUndo")) "__setattr__") (some (some (.builtin "object.__setattr__"))) && (He.eqO (PySem.W.findIn K (.ref (He.ga K "NothingToUndo")) "__getattribute__") (some (some (.builtin "BaseException.__getattribute__"))) && (He.eqO (PySem.W.findIn K (.ref (He.ga K "NothingToUndo")) "__getattr__") (some none) && (PySem.W.keepIn K (.ref (He.ga K "NothingToUndo")) && (decide (PySem.W.subIn K (.ref (He.ga K "NothingToUndo")) (.type "BaseException") = some true))))))))))
def hg_40 (K : Hk.Fr) : Bool := PySem.W.hasDictIn K (He.ga K "NothingToUndo") && (He.eqO (PySem.W.findIn K (.ref (He.ga K "NothingToUndo")) "__class__") (some (some (.builtin "object.__class__"))) && (decide (PySem.W.mroIn K (He.ga K "NothingToUndo") (.type "object") = some true) && (He.eqO (PySem.W.findIn K (.ref (He.ga K "NothingToUndo")) "__init__") (some (some (.builtin "LookupError.__init__"))) && (He.eqO (PySem.W.nsIn K mainGlobals "NoHost") (some (some (.ref (He.ga K "NoHost")))) && (Hk.xcB K (He.ga K "NoHost") "LookupError.__new__" (PySem.ExG.overT [.type "LookupError", .type "Exception", .type "BaseException", .type "object"]) && (He.eqO (PySem.W.findIn K (.ref (He.ga K "NoHost")) "__setattr__") (some (some (.builtin "object.__setattr__"))) && (He.eqO (PySem.W.findIn K (.ref (He.ga K "NoHost")) "__getattribute__") (some (some (.builtin "BaseException.__getattribute__"))) && (He.eqO (PySem.W.findIn K (.ref (He.ga K "NoHost")) "__getattr__") (some none) && (PySem.W.keepIn K (.ref (He.ga K "NoHost")))))))))))
def hg_41 (K : Hk.Fr) : Bool := decide (PySem.W.subIn K (.ref (He.ga K "NoHost")) (.type "BaseException") = some true) && (PySem.W.hasDictIn K (He.ga K "NoHost") && (He.eqO (PySem.W.findIn K (.ref (He.ga K "NoHost")) "__class__") (some (some (.builtin "object.__class__"))) && (decide (PySem.W.mroIn K (He.ga K "NoHost") (.type "object") = some true) && (He.eqO (PySem.W.findIn K (.ref (He.ga K "NoHost")) "host") (some none) && (He.eqO (PySem.W.nsIn K mainGlobals "Gap") (some (some (.ref (He.ga K "Gap")))) && (Hk.xcB K (He.ga K "Gap") "LookupError.__new__" (PySem.ExG.overT [.type "LookupError", .type "Exception", .type "BaseException", .type "object"]) && (He.eqO (PySem.W.findIn K (.ref (He.ga K "Gap")) "__setattr__") (some (some (.builtin "object.__setattr__"))) && (He.eqO (PySem.W.findIn K (.ref (He.ga K "Gap")) "__getattribute__") (some (some (.builtin "BaseException.__getattribute__"))) && (He.eqO (PySem.W.findIn K (.ref (He.ga K "Gap")) "__getattr__") (some none))))))))))
def hg_42 (K : Hk.Fr) : Bool := PySem.W.keepIn K (.ref (He.ga K "Gap")) && (decide (PySem.W.subIn K (.ref (He.ga K "Gap")) (.type "BaseException") = some true) && (PySem.W.hasDictIn K (He.ga K "Gap") && (He.eqO (PySem.W.findIn K (.ref (He.ga K "Gap")) "__class__") (some (some (.builtin "object.__class__"))) && (decide (PySem.W.mroIn K (He.ga K "Gap") (.type "object") = some true) && (He.eqO (PySem.W.findIn K (.ref (He.ga K "Gap")) "host") (some none) && (He.eqO (PySem.W.nsIn K mainGlobals "Behind") (some (some (.ref (He.ga K "Behind")))) && (Hk.xcB K (He.ga K "Behind") "LookupError.__new__" (PySem.ExG.overT [.type "LookupError", .type "Exception", .type "BaseException", .type "object"]) && (He.eqO (PySem.W.findIn K (.ref (He.ga K "Behind")) "__setattr__") (some (some (.builtin "object.__setattr__"))) && (He.eqO (PySem.W.findIn K (.ref (He.ga K "Behind")) "__getattribute__") (some (some (.builtin "BaseException.__getattribute__"))))))))))))
def hg_43 (K : Hk.Fr) : Bool := He.eqO (PySem.W.findIn K (.ref (He.ga K "Behind")) "__getattr__") (some none) && (PySem.W.keepIn K (.ref (He.ga K "Behind")) && (decide (PySem.W.subIn K (.ref (He.ga K "Behind")) (.type "BaseException") = some true) && (PySem.W.hasDictIn K (He.ga K "Behind") && (He.eqO (PySem.W.findIn K (.ref (He.ga K "Behind")) "__class__") (some (some (.builtin "object.__class__"))) && (decide (PySem.W.mroIn K (He.ga K "Behind") (.type "object") = some true) && (He.eqO (PySem.W.findIn K (.ref (He.ga K "Behind")) "host") (some none) && (He.eqO (PySem.W.nsIn K mainGlobals "Forgotten") (some (some (.ref (He.ga K "Forgotten")))) && (Hk.xcB K (He.ga K "Forgotten") "LookupError.__new__" (PySem.ExG.overT [.type "LookupError", .type "Exception", .type "BaseException", .type "object"]) && (He.eqO (PySem.W.findIn K (.ref (He.ga K "Forgotten")) "__setattr__") (some (some (.builtin "object.__setattr__"))))))))))))
def hg_44 (K : Hk.Fr) : Bool := He.eqO (PySem.W.findIn K (.ref (He.ga K "Forgotten")) "__getattribute__") (some (some (.builtin "BaseException.__getattribute__"))) && (He.eqO (PySem.W.findIn K (.ref (He.ga K "Forgotten")) "__getattr__") (some none) && (PySem.W.keepIn K (.ref (He.ga K "Forgotten")) && (decide (PySem.W.subIn K (.ref (He.ga K "Forgotten")) (.type "BaseException") = some true) && (PySem.W.hasDictIn K (He.ga K "Forgotten") && (He.eqO (PySem.W.findIn K (.ref (He.ga K "Forgotten")) "__class__") (some (some (.builtin "object.__class__"))) && (decide (PySem.W.mroIn K (He.ga K "Forgotten") (.type "object") = some true) && (He.eqO (PySem.W.findIn K (.ref (He.ga K "Forgotten")) "host") (some none) && (He.eqO (PySem.W.nsIn K mainGlobals "PagingOver") (some (some (.ref (He.ga K "PagingOver")))) && (Hk.xcB K (He.ga K "PagingOver") "LookupError.__new__" (PySem.ExG.overT [.type "LookupError", .type "Exception", .type "BaseException", .type "object"]))))))))))
def hg_45 (K : Hk.Fr) : Bool := He.eqO (PySem.W.findIn K (.ref (He.ga K "PagingOver")) "__setattr__") (some (some (.builtin "object.__setattr__"))) && (He.eqO (PySem.W.findIn K (.ref (He.ga K "PagingOver")) "__getattribute__") (some (some (.builtin "BaseException.__getattribute__"))) && (He.eqO (PySem.W.findIn K (.ref (He.ga K "PagingOver")) "__getattr__") (some none) && (PySem.W.keepIn K (.ref (He.ga K "PagingOver")) && (decide (PySem.W.subIn K (.ref (He.ga K "PagingOver")) (.type "BaseException") = some true) && (PySem.W.hasDictIn K (He.ga K "PagingOver") && (He.eqO (PySem.W.findIn K (.ref (He.ga K "PagingOver")) "__class__") (some (some (.builtin "object.__class__"))) && (decide (PySem.W.mroIn K (He.ga K "PagingOver") (.type "object") = some true) && (He.eqO (PySem.W.findIn K (.ref (He.ga K "PagingOver")) "__init__") (some (some (.builtin "LookupError.__init__"))) && (He.eqO (PySem.W.nsIn K mainGlobals "Full") (some (some (.ref (He.ga K "Full")))))))))))))
def hg_46 (K : Hk.Fr) : Bool := Hk.xcB K (He.ga K "Full") "ArithmeticError.__new__" (PySem.ExG.overT [.type "ArithmeticError", .type "Exception", .type "BaseException", .type "object"]) && (He.eqO (PySem.W.findIn K (.ref (He.ga K "Full")) "__setattr__") (some (some (.builtin "object.__setattr__"))) && (He.eqO (PySem.W.findIn K (.ref (He.ga K "Full")) "__getattribute__") (some (some (.builtin "BaseException.__getattribute__"))) && (He.eqO (PySem.W.findIn K (.ref (He.ga K "Full")) "__getattr__") (some none) && (PySem.W.keepIn K (.ref (He.ga K "Full")) && (decide (PySem.W.subIn K (.ref (He.ga K "Full")) (.type "BaseException") = some true) && (PySem.W.hasDictIn K (He.ga K "Full") && (He.eqO (PySem.W.findIn K (.ref (He.ga K "Full")) "__class__") (some (some (.builtin "object.__class__"))) && (decide (PySem.W.mroIn K (He.ga K "Full") (.type "object") = some true) && (He.eqO (PySem.W.findIn K (.ref (He.ga K "Full")) "limit") (some none))))))))))
def hg_47 (K : Hk.Fr) : Bool := He.eqO (PySem.W.nsIn K mainGlobals "TooDeep") (some (some (.ref (He.ga K "TooDeep")))) && (Hk.xcB K (He.ga K "TooDeep") "ArithmeticError.__new__" (PySem.ExG.overT [.type "ArithmeticError", .type "Exception", .type "BaseException", .type "object"]) && (He.eqO (PySem.W.findIn K (.ref (He.ga K "TooDeep")) "__setattr__") (some (some (.builtin "object.__setattr__"))) && (He.eqO (PySem.W.findIn K (.ref (He.ga K "TooDeep")) "__getattribute__") (some (some (.builtin "BaseException.__getattribute__"))) && (He.eqO (PySem.W.findIn K (.ref (He.ga K "TooDeep")) "__getattr__") (some none) && (PySem.W.keepIn K (.ref (He.ga K "TooDeep")) && (decide (PySem.W.subIn K (.ref (He.ga K "TooDeep")) (.type "BaseException") = some true) && (PySem.W.hasDictIn K (He.ga K "TooDeep") && (He.eqO (PySem.W.findIn K (.ref (He.ga K "TooDeep")) "__class__") (some (some (.builtin "object.__class__"))) && (decide (PySem.W.mroIn K (He.ga K "TooDeep") (.type "object") = some true))))))))))
def hg_48 (K : Hk.Fr) : Bool := He.eqO (PySem.W.findIn K (.ref (He.ga K "TooDeep")) "limit") (some none) && (He.eqO (PySem.W.nsIn K mainGlobals "SizeLimit") (some (some (.ref (He.ga K "SizeLimit")))) && (Hk.xcB K (He.ga K "SizeLimit") "ArithmeticError.__new__" (PySem.ExG.overT [.type "ArithmeticError", .type "Exception", .type "BaseException", .type "object"]) && (He.eqO (PySem.W.findIn K (.ref (He.ga K "SizeLimit")) "__setattr__") (some (some (.builtin "object.__setattr__"))) && (He.eqO (PySem.W.findIn K (.ref (He.ga K "SizeLimit")) "__getattribute__") (some (some (.builtin "BaseException.__getattribute__"))) && (He.eqO (PySem.W.findIn K (.ref (He.ga K "SizeLimit")) "__getattr__") (some none) && (PySem.W.keepIn K (.ref (He.ga K "SizeLimit")) && (decide (PySem.W.subIn K (.ref (He.ga K "SizeLimit")) (.type "BaseException") = some true) && (PySem.W.hasDictIn K (He.ga K "SizeLimit") && (He.eqO (PySem.W.findIn K (.ref (He.ga K "SizeLimit")) "__class__") (some (some (.builtin "object.__class__"))))))))))))
def hg_49 (K : Hk.Fr) : Bool := decide (PySem.W.mroIn K (He.ga K "SizeLimit") (.type "object") = some true) && (He.eqO (PySem.W.findIn K (.ref (He.ga K "SizeLimit")) "limit") (some none) && (He.eqO (PySem.W.nsIn K mainGlobals "Invalid") (some (some (.ref (He.ga K "Invalid")))) && (PySem.W.isClsIn K (He.ga K "Invalid") && (decide (PySem.W.typeIn K (.ref (He.ga K "Invalid")) = some (.type "type")) && (He.eqO (PySem.W.nsIn K mainGlobals "Conflict") (some (some (.ref (He.ga K "Conflict")))) && (PySem.W.isClsIn K (He.ga K "Conflict") && (decide (PySem.W.typeIn K (.ref (He.ga K "Conflict")) = some (.type "type")) && (He.eqO (PySem.W.nsIn K mainGlobals "Excess") (some (some (.ref (He.ga K "Excess")))) && (PySem.W.isClsIn K (He.ga K "Excess"))))))))))
def hg_50 (K : Hk.Fr) : Bool := decide (PySem.W.typeIn K (.ref (He.ga K "Excess")) = some (.type "type")) && (He.eqO (PySem.W.findIn K (.ref (He.ga K "BadName")) "__init__") (some (some (.ref (He.ma K (He.ga K "BadName") "__init__")))) && (decide (PySem.W.typeIn K (.ref (He.ma K (He.ga K "BadName") "__init__")) = some (.type "function")) && (He.eqO (PySem.W.findIn K (.ref (He.ga K "BadFilter")) "__init__") (some (some (.ref (He.ma K (He.ga K "BadFilter") "__init__")))) && (decide (PySem.W.typeIn K (.ref (He.ma K (He.ga K "BadFilter") "__init__")) = some (.type "function")) && (He.eqO (PySem.W.findIn K (.ref (He.ga K "BadScope")) "__init__") (some (some (.ref (He.ma K (He.ga K "BadScope") "__init__")))) && (decide (PySem.W.typeIn K (.ref (He.ma K (He.ga K "BadScope") "__init__")) = some (.type "function")) && (He.eqO (PySem.W.findIn K (.ref (He.ga K "BadNumber")) "__init__") (some (some (.ref (He.ma K (He.ga K "BadNumber") "__init__")))) && (decide (PySem.W.typeIn K (.ref (He.ma K (He.ga K "BadNumber") "__init__")) = some (.type "function")) && (He.eqO (PySem.W.findIn K (.ref (He.ga K "BadSchema")) "__init__") (some (some (.ref (He.ma K (He.ga K "BadSchema") "__init__")))))))))))))
def hg_51 (K : Hk.Fr) : Bool := decide (PySem.W.typeIn K (.ref (He.ma K (He.ga K "BadSchema") "__init__")) = some (.type "function")) && (He.eqO (PySem.W.findIn K (.ref (He.ga K "BadEntry")) "__init__") (some (some (.ref (He.ma K (He.ga K "BadEntry") "__init__")))) && (decide (PySem.W.typeIn K (.ref (He.ma K (He.ga K "BadEntry") "__init__")) = some (.type "function")) && (He.eqO (PySem.W.findIn K (.ref (He.ga K "BadDeed")) "__init__") (some (some (.ref (He.ma K (He.ga K "BadDeed") "__init__")))) && (decide (PySem.W.typeIn K (.ref (He.ma K (He.ga K "BadDeed") "__init__")) = some (.type "function")) && (He.eqO (PySem.W.findIn K (.ref (He.ga K "BadChange")) "__init__") (some (some (.ref (He.ma K (He.ga K "BadChange") "__init__")))) && (decide (PySem.W.typeIn K (.ref (He.ma K (He.ga K "BadChange") "__init__")) = some (.type "function")) && (He.eqO (PySem.W.findIn K (.ref (He.ga K "BadVector")) "__init__") (some (some (.ref (He.ma K (He.ga K "BadVector") "__init__")))) && (decide (PySem.W.typeIn K (.ref (He.ma K (He.ga K "BadVector") "__init__")) = some (.type "function")) && (He.eqO (PySem.W.findIn K (.ref (He.ga K "BadIndex")) "__init__") (some (some (.ref (He.ma K (He.ga K "BadIndex") "__init__")))))))))))))
def hg_52 (K : Hk.Fr) : Bool := decide (PySem.W.typeIn K (.ref (He.ma K (He.ga K "BadIndex") "__init__")) = some (.type "function")) && (He.eqO (PySem.W.findIn K (.ref (He.ga K "BadText")) "__init__") (some (some (.ref (He.ma K (He.ga K "BadText") "__init__")))) && (decide (PySem.W.typeIn K (.ref (He.ma K (He.ga K "BadText") "__init__")) = some (.type "function")) && (He.eqO (PySem.W.findIn K (.ref (He.ga K "BadHost")) "__init__") (some (some (.ref (He.ma K (He.ga K "BadHost") "__init__")))) && (decide (PySem.W.typeIn K (.ref (He.ma K (He.ga K "BadHost") "__init__")) = some (.type "function")) && (He.eqO (PySem.W.findIn K (.ref (He.ga K "BadValue")) "__init__") (some (some (.ref (He.ma K (He.ga K "BadValue") "__init__")))) && (decide (PySem.W.typeIn K (.ref (He.ma K (He.ga K "BadValue") "__init__")) = some (.type "function")) && (He.eqO (PySem.W.findIn K (.ref (He.ga K "UnknownAttribute")) "__init__") (some (some (.ref (He.ma K (He.ga K "UnknownAttribute") "__init__")))) && (decide (PySem.W.typeIn K (.ref (He.ma K (He.ga K "UnknownAttribute") "__init__")) = some (.type "function")) && (He.eqO (PySem.W.findIn K (.ref (He.ga K "MirrorGiven")) "__init__") (some (some (.ref (He.ma K (He.ga K "MirrorGiven") "__init__")))))))))))))
def hg_53 (K : Hk.Fr) : Bool := decide (PySem.W.typeIn K (.ref (He.ma K (He.ga K "MirrorGiven") "__init__")) = some (.type "function")) && (He.eqO (PySem.W.findIn K (.ref (He.ga K "UnknownClass")) "__init__") (some (some (.ref (He.ma K (He.ga K "UnknownClass") "__init__")))) && (decide (PySem.W.typeIn K (.ref (He.ma K (He.ga K "UnknownClass") "__init__")) = some (.type "function")) && (He.eqO (PySem.W.findIn K (.ref (He.ga K "NotAllowed")) "__init__") (some (some (.ref (He.ma K (He.ga K "NotAllowed") "__init__")))) && (decide (PySem.W.typeIn K (.ref (He.ma K (He.ga K "NotAllowed") "__init__")) = some (.type "function")) && (He.eqO (PySem.W.findIn K (.ref (He.ga K "Missing")) "__init__") (some (some (.ref (He.ma K (He.ga K "Missing") "__init__")))) && (decide (PySem.W.typeIn K (.ref (He.ma K (He.ga K "Missing") "__init__")) = some (.type "function")) && (He.eqO (PySem.W.findIn K (.ref (He.ga K "TooManyValues")) "__init__") (some (some (.ref (He.ma K (He.ga K "TooManyValues") "__init__")))) && (decide (PySem.W.typeIn K (.ref (He.ma K (He.ga K "TooManyValues") "__init__")) = some (.type "function")) && (He.eqO (PySem.W.findIn K (.ref (He.ga K "ValueTaken")) "__init__") (some (some (.ref (He.ma K (He.ga K "ValueTaken") "__init__")))))))))))))
def hg_54 (K : Hk.Fr) : Bool := decide (PySem.W.typeIn K (.ref (He.ma K (He.ga K "ValueTaken") "__init__")) = some (.type "function")) && (He.eqO (PySem.W.findIn K (.ref (He.ga K "NotNamed")) "__init__") (some (some (.ref (He.ma K (He.ga K "NotNamed") "__init__")))) && (decide (PySem.W.typeIn K (.ref (He.ma K (He.ga K "NotNamed") "__init__")) = some (.type "function")) && (He.eqO (PySem.W.findIn K (.ref (He.ga K "BadPlace")) "__init__") (some (some (.ref (He.ma K (He.ga K "BadPlace") "__init__")))) && (decide (PySem.W.typeIn K (.ref (He.ma K (He.ga K "BadPlace") "__init__")) = some (.type "function")) && (He.eqO (PySem.W.findIn K (.ref (He.ga K "NoTarget")) "__init__") (some (some (.ref (He.ma K (He.ga K "NoTarget") "__init__")))) && (decide (PySem.W.typeIn K (.ref (He.ma K (He.ga K "NoTarget") "__init__")) = some (.type "function")) && (He.eqO (PySem.W.findIn K (.ref (He.ga K "NotInteger")) "__init__") (some (some (.ref (He.ma K (He.ga K "NotInteger") "__init__")))) && (decide (PySem.W.typeIn K (.ref (He.ma K (He.ga K "NotInteger") "__init__")) = some (.type "function")) && (He.eqO (PySem.W.findIn K (.ref (He.ga K "NoOrder")) "__init__") (some (some (.ref (He.ma K (He.ga K "NoOrder") "__init__")))))))))))))
def hg_55 (K : Hk.Fr) : Bool := decide (PySem.W.typeIn K (.ref (He.ma K (He.ga K "NoOrder") "__init__")) = some (.type "function")) && (He.eqO (PySem.W.findIn K (.ref (He.ga K "NoEntry")) "__init__") (some (some (.ref (He.ma K (He.ga K "NoEntry") "__init__")))) && (decide (PySem.W.typeIn K (.ref (He.ma K (He.ga K "NoEntry") "__init__")) = some (.type "function")) && (He.eqO (PySem.W.findIn K (.ref (He.ga K "NameTaken")) "__init__") (some (some (.ref (He.ma K (He.ga K "NameTaken") "__init__")))) && (decide (PySem.W.typeIn K (.ref (He.ma K (He.ga K "NameTaken") "__init__")) = some (.type "function")) && (He.eqO (PySem.W.findIn K (.ref (He.ga K "HasChildren")) "__init__") (some (some (.ref (He.ma K (He.ga K "HasChildren") "__init__")))) && (decide (PySem.W.typeIn K (.ref (He.ma K (He.ga K "HasChildren") "__init__")) = some (.type "function")) && (He.eqO (PySem.W.findIn K (.ref (He.ga K "InUse")) "__init__") (some (some (.ref (He.ma K (He.ga K "InUse") "__init__")))) && (decide (PySem.W.typeIn K (.ref (He.ma K (He.ga K "InUse") "__init__")) = some (.type "function")) && (He.eqO (PySem.W.findIn K (.ref (He.ga K "Inside")) "__init__") (some (some (.ref (He.ma K (He.ga K "Inside") "__init__")))))))))))))
def hg_56 (K : Hk.Fr) : Bool := decide (PySem.W.typeIn K (.ref (He.ma K (He.ga K "Inside") "__init__")) = some (.type "function")) && (He.eqO (PySem.W.findIn K (.ref (He.ga K "NoValue")) "__init__") (some (some (.ref (He.ma K (He.ga K "NoValue") "__init__")))) && (decide (PySem.W.typeIn K (.ref (He.ma K (He.ga K "NoValue") "__init__")) = some (.type "function")) && (He.eqO (PySem.W.findIn K (.ref (He.ga K "Referral")) "__init__") (some (some (.ref (He.ma K (He.ga K "Referral") "__init__")))) && (decide (PySem.W.typeIn K (.ref (He.ma K (He.ga K "Referral") "__init__")) = some (.type "function")) && (He.eqO (PySem.W.findIn K (.ref (He.ga K "IndexTaken")) "__init__") (some (some (.ref (He.ma K (He.ga K "IndexTaken") "__init__")))) && (decide (PySem.W.typeIn K (.ref (He.ma K (He.ga K "IndexTaken") "__init__")) = some (.type "function")) && (He.eqO (PySem.W.findIn K (.ref (He.ga K "NoIndex")) "__init__") (some (some (.ref (He.ma K (He.ga K "NoIndex") "__init__")))) && (decide (PySem.W.typeIn K (.ref (He.ma K (He.ga K "NoIndex") "__init__")) = some (.type "function")) && (He.eqO (PySem.W.findIn K (.ref (He.ga K "NoHost")) "__init__") (some (some (.ref (He.ma K (He.ga K "NoHost") "__init__")))))))))))))
def hg_57 (K : Hk.Fr) : Bool := decide (PySem.W.typeIn K (.ref (He.ma K (He.ga K "NoHost") "__init__")) = some (.type "function")) && (He.eqO (PySem.W.findIn K (.ref (He.ga K "Gap")) "__init__") (some (some (.ref (He.ma K (He.ga K "Gap") "__init__")))) && (decide (PySem.W.typeIn K (.ref (He.ma K (He.ga K "Gap") "__init__")) = some (.type "function")) && (He.eqO (PySem.W.findIn K (.ref (He.ga K "Behind")) "__init__") (some (some (.ref (He.ma K (He.ga K "Behind") "__init__")))) && (decide (PySem.W.typeIn K (.ref (He.ma K (He.ga K "Behind") "__init__")) = some (.type "function")) && (He.eqO (PySem.W.findIn K (.ref (He.ga K "Forgotten")) "__init__") (some (some (.ref (He.ma K (He.ga K "Forgotten") "__init__")))) && (decide (PySem.W.typeIn K (.ref (He.ma K (He.ga K "Forgotten") "__init__")) = some (.type "function")) && (He.eqO (PySem.W.findIn K (.ref (He.ga K "Full")) "__init__") (some (some (.ref (He.ma K (He.ga K "Full") "__init__")))) && (decide (PySem.W.typeIn K (.ref (He.ma K (He.ga K "Full") "__init__")) = some (.type "function")) && (He.eqO (PySem.W.findIn K (.ref (He.ga K "TooDeep")) "__init__") (some (some (.ref (He.ma K (He.ga K "TooDeep") "__init__")))))))))))))
def hg_58 (K : Hk.Fr) : Bool := decide (PySem.W.typeIn K (.ref (He.ma K (He.ga K "TooDeep") "__init__")) = some (.type "function")) && (He.eqO (PySem.W.findIn K (.ref (He.ga K "SizeLimit")) "__init__") (some (some (.ref (He.ma K (He.ga K "SizeLimit") "__init__")))) && (decide (PySem.W.typeIn K (.ref (He.ma K (He.ga K "SizeLimit") "__init__")) = some (.type "function")) && (He.eqO (PySem.W.nsIn K mainGlobals "_law_source") (some (some (.ref (He.ga K "_law_source")))) && (He.eqO (PySem.W.nsIn K mainGlobals "_law_next") (some (some (.ref (He.ga K "_law_next")))) && (He.eqO (PySem.W.nsIn K mainGlobals "_law_pick") (some (some (.ref (He.ga K "_law_pick")))) && (He.eqO (PySem.W.nsIn K mainGlobals "_law_rounds") (some (some (.ref (He.ga K "_law_rounds")))) && (He.eqO (PySem.W.nsIn K mainGlobals "_law_made") (some (some (.ref (He.ga K "_law_made")))) && (He.eqO (PySem.W.nsIn K mainGlobals "_law_named") (some (some (.ref (He.ga K "_law_named")))) && (He.eqO (PySem.W.nsIn K mainGlobals "_law_held") (some (some (.ref (He.ga K "_law_held")))))))))))))
def hg_59 (K : Hk.Fr) : Bool := He.eqO (PySem.W.nsIn K mainGlobals "_law_marks") (some (some (.ref (He.ga K "_law_marks")))) && (He.eqO (PySem.W.nsIn K mainGlobals "_law_families") (some (some (.ref (He.ga K "_law_families")))) && (He.eqO (PySem.W.nsIn K mainGlobals "_law_strange") (some (some (.ref (He.ga K "_law_strange")))) && (He.eqO (PySem.W.nsIn K mainGlobals "_law_due") (some (some (.ref (He.ga K "_law_due")))) && (He.eqO (PySem.W.nsIn K mainGlobals "_law_error_right") (some (some (.ref (He.ga K "_law_error_right")))) && (He.eqO (PySem.W.nsIn K mainGlobals "_law_limits_right") (some (some (.ref (He.ga K "_law_limits_right")))) && (He.eqO (PySem.W.nsIn K mainGlobals "law") (some (some (.ref (He.ga K "law")))) && (He.eqO (PySem.W.nsIn K mainGlobals "ArithmeticError") (some none) && (He.eqO (PySem.W.nsIn K mainGlobals "IndexError") (some none) && (He.eqO (PySem.W.nsIn K mainGlobals "KeyError") (some none))))))))))
def hg_60 (K : Hk.Fr) : Bool := He.eqO (PySem.W.nsIn K mainGlobals "LookupError") (some none) && (He.eqO (PySem.W.nsIn K mainGlobals "OverflowError") (some none) && (He.eqO (PySem.W.nsIn K mainGlobals "RuntimeError") (some none) && (He.eqO (PySem.W.nsIn K mainGlobals "TypeError") (some none) && (He.eqO (PySem.W.nsIn K mainGlobals "ValueError") (some none) && (He.eqO (PySem.W.nsIn K mainGlobals "ZeroDivisionError") (some none) && (He.eqO (PySem.W.nsIn K mainGlobals "enumerate") (some none) && (He.eqO (PySem.W.nsIn K mainGlobals "int") (some none) && (He.eqO (PySem.W.nsIn K mainGlobals "isinstance") (some none) && (He.eqO (PySem.W.nsIn K mainGlobals "len") (some none))))))))))
def hg_61 (K : Hk.Fr) : Bool := He.eqO (PySem.W.nsIn K mainGlobals "list") (some none) && (He.eqO (PySem.W.nsIn K mainGlobals "range") (some none) && (He.eqO (PySem.W.nsIn K mainGlobals "repr") (some none) && (He.eqO (PySem.W.nsIn K mainGlobals "sum") (some none) && (He.eqO (PySem.W.nsIn K mainGlobals "INDEXES") (some (some (.ref (He.ga K "INDEXES")))) && (Hk.tpB K (He.ga K "INDEXES") [.str "present", .str "equal", .str "order", .str "pieces"] && ((He.Fa.int "MAX_DEPTH" 12).ok K && ((He.Fa.int "MAX_DIGITS" 30).ok K && ((He.Fa.int "MAX_ENTRIES" 300).ok K && ((He.Fa.int "MAX_LEVELS" 12).ok K)))))))))
def hg_62 (K : Hk.Fr) : Bool := (He.Fa.int "MAX_PARTS" 60).ok K && ((He.Fa.int "MAX_UNDO" 20).ok K && ((He.Fa.int "MAX_VALUE" 60).ok K && (He.eqO (PySem.W.nsIn K mainGlobals "SCOPES") (some (some (.ref (He.ga K "SCOPES")))) && (Hk.tpB K (He.ga K "SCOPES") [.str "base", .str "one", .str "below", .str "subtree"] && (He.eqO (PySem.W.nsIn K mainGlobals "SYNTAXES") (some (some (.ref (He.ga K "SYNTAXES")))) && (Hk.tpB K (He.ga K "SYNTAXES") [.str "text", .str "exact", .str "integer", .str "truth", .str "name"]))))))
def hg_63 (K : Hk.Fr) : Bool := HkX.part K [(He.ga K "BadName"), (He.ga K "BadFilter"), (He.ga K "BadScope"), (He.ga K "BadNumber"), (He.ga K "BadSchema"), (He.ga K "BadEntry"), (He.ga K "BadDeed"), (He.ga K "BadChange"), (He.ga K "BadVector"), (He.ga K "BadIndex"), (He.ga K "BadText"), (He.ga K "BadHost"), (He.ga K "BadValue"), (He.ga K "UnknownAttribute"), (He.ga K "MirrorGiven"), (He.ga K "UnknownClass"), (He.ga K "BadClasses"), (He.ga K "NotAllowed"), (He.ga K "Missing"), (He.ga K "TooManyValues"), (He.ga K "ValueTaken"), (He.ga K "NotNamed"), (He.ga K "BadPlace"), (He.ga K "NoTarget"), (He.ga K "NotInteger"), (He.ga K "NoOrder"), (He.ga K "NoEntry"), (He.ga K "NameTaken"), (He.ga K "HasChildren"), (He.ga K "InUse"), (He.ga K "Inside"), (He.ga K "NoValue"), (He.ga K "Referral"), (He.ga K "IndexTaken"), (He.ga K "NoIndex"), (He.ga K "NothingToUndo"), (He.ga K "NoHost"), (He.ga K "Gap"), (He.ga K "Behind"), (He.ga K "Forgotten"), (He.ga K "PagingOver"), (He.ga K "Full"), (He.ga K "TooDeep"), (He.ga K "SizeLimit")] ([.ref (He.ga K "BadName"), .ref (He.ga K "BadFilter"), .ref (He.ga K "BadScope"), .ref (He.ga K "BadNumber"), .ref (He.ga K "BadSchema"), .ref (He.ga K "BadEntry"), .ref (He.ga K "BadDeed"), .ref (He.ga K "BadChange"), .ref (He.ga K "BadVector"), .ref (He.ga K "BadIndex"), .ref (He.ga K "BadText"), .ref (He.ga K "BadHost"), .ref (He.ga K "BadValue"), .ref (He.ga K "UnknownAttribute"), .ref (He.ga K "MirrorGiven"), .ref (He.ga K "UnknownClass"), .ref (He.ga K "BadClasses"), .ref (He.ga K "NotAllowed"), .ref (He.ga K "Missing"), .ref (He.ga K "TooManyValues"), .ref (He.ga K "ValueTaken"), .ref (He.ga K "NotNamed"), .ref (He.ga K "BadPlace"), .ref (He.ga K "NoTarget"), .ref (He.ga K "NotInteger"), .ref (He.ga K "NoOrder"), .ref (He.ga K "NoEntry"), .ref (He.ga K "NameTaken"), .ref (He.ga K "HasChildren"), .ref (He.ga K "InUse"), .ref (He.ga K "Inside"), .ref (He.ga K "NoValue"), .ref (He.ga K "Referral"), .ref (He.ga K "IndexTaken"), .ref (He.ga K "NoIndex"), .ref (He.ga K "NothingToUndo"), .ref (He.ga K "NoHost"), .ref (He.ga K "Gap"), .ref (He.ga K "Behind"), .ref (He.ga K "Forgotten"), .ref (He.ga K "PagingOver"), .ref (He.ga K "Full"), .ref (He.ga K "TooDeep"), .ref (He.ga K "SizeLimit")] : List Value) (fun i j => decide (i = j)) 0 15
def hg_64 (K : Hk.Fr) : Bool := HkX.part K [(He.ga K "BadName"), (He.ga K "BadFilter"), (He.ga K "BadScope"), (He.ga K "BadNumber"), (He.ga K "BadSchema"), (He.ga K "BadEntry"), (He.ga K "BadDeed"), (He.ga K "BadChange"), (He.ga K "BadVector"), (He.ga K "BadIndex"), (He.ga K "BadText"), (He.ga K "BadHost"), (He.ga K "BadValue"), (He.ga K "UnknownAttribute"), (He.ga K "MirrorGiven"), (He.ga K "UnknownClass"), (He.ga K "BadClasses"), (He.ga K "NotAllowed"), (He.ga K "Missing"), (He.ga K "TooManyValues"), (He.ga K "ValueTaken"), (He.ga K "NotNamed"), (He.ga K "BadPlace"), (He.ga K "NoTarget"), (He.ga K "NotInteger"), (He.ga K "NoOrder"), (He.ga K "NoEntry"), (He.ga K "NameTaken"), (He.ga K "HasChildren"), (He.ga K "InUse"), (He.ga K "Inside"), (He.ga K "NoValue"), (He.ga K "Referral"), (He.ga K "IndexTaken"), (He.ga K "NoIndex"), (He.ga K "NothingToUndo"), (He.ga K "NoHost"), (He.ga K "Gap"), (He.ga K "Behind"), (He.ga K "Forgotten"), (He.ga K "PagingOver"), (He.ga K "Full"), (He.ga K "TooDeep"), (He.ga K "SizeLimit")] ([.ref (He.ga K "BadName"), .ref (He.ga K "BadFilter"), .ref (He.ga K "BadScope"), .ref (He.ga K "BadNumber"), .ref (He.ga K "BadSchema"), .ref (He.ga K "BadEntry"), .ref (He.ga K "BadDeed"), .ref (He.ga K "BadChange"), .ref (He.ga K "BadVector"), .ref (He.ga K "BadIndex"), .ref (He.ga K "BadText"), .ref (He.ga K "BadHost"), .ref (He.ga K "BadValue"), .ref (He.ga K "UnknownAttribute"), .ref (He.ga K "MirrorGiven"), .ref (He.ga K "UnknownClass"), .ref (He.ga K "BadClasses"), .ref (He.ga K "NotAllowed"), .ref (He.ga K "Missing"), .ref (He.ga K "TooManyValues"), .ref (He.ga K "ValueTaken"), .ref (He.ga K "NotNamed"), .ref (He.ga K "BadPlace"), .ref (He.ga K "NoTarget"), .ref (He.ga K "NotInteger"), .ref (He.ga K "NoOrder"), .ref (He.ga K "NoEntry"), .ref (He.ga K "NameTaken"), .ref (He.ga K "HasChildren"), .ref (He.ga K "InUse"), .ref (He.ga K "Inside"), .ref (He.ga K "NoValue"), .ref (He.ga K "Referral"), .ref (He.ga K "IndexTaken"), .ref (He.ga K "NoIndex"), .ref (He.ga K "NothingToUndo"), .ref (He.ga K "NoHost"), .ref (He.ga K "Gap"), .ref (He.ga K "Behind"), .ref (He.ga K "Forgotten"), .ref (He.ga K "PagingOver"), .ref (He.ga K "Full"), .ref (He.ga K "TooDeep"), .ref (He.ga K "SizeLimit")] : List Value) (fun i j => decide (i = j)) 15 15
def hg_65 (K : Hk.Fr) : Bool := HkX.part K [(He.ga K "BadName"), (He.ga K "BadFilter"), (He.ga K "BadScope"), (He.ga K "BadNumber"), (He.ga K "BadSchema"), (He.ga K "BadEntry"), (He.ga K "BadDeed"), (He.ga K "BadChange"), (He.ga K "BadVector"), (He.ga K "BadIndex"), (He.ga K "BadText"), (He.ga K "BadHost"), (He.ga K "BadValue"), (He.ga K "UnknownAttribute"), (He.ga K "MirrorGiven"), (He.ga K "UnknownClass"), (He.ga K "BadClasses"), (He.ga K "NotAllowed"), (He.ga K "Missing"), (He.ga K "TooManyValues"), (He.ga K "ValueTaken"), (He.ga K "NotNamed"), (He.ga K "BadPlace"), (He.ga K "NoTarget"), (He.ga K "NotInteger"), (He.ga K "NoOrder"), (He.ga K "NoEntry"), (He.ga K "NameTaken"), (He.ga K "HasChildren"), (He.ga K "InUse"), (He.ga K "Inside"), (He.ga K "NoValue"), (He.ga K "Referral"), (He.ga K "IndexTaken"), (He.ga K "NoIndex"), (He.ga K "NothingToUndo"), (He.ga K "NoHost"), (He.ga K "Gap"), (He.ga K "Behind"), (He.ga K "Forgotten"), (He.ga K "PagingOver"), (He.ga K "Full"), (He.ga K "TooDeep"), (He.ga K "SizeLimit")] ([.ref (He.ga K "BadName"), .ref (He.ga K "BadFilter"), .ref (He.ga K "BadScope"), .ref (He.ga K "BadNumber"), .ref (He.ga K "BadSchema"), .ref (He.ga K "BadEntry"), .ref (He.ga K "BadDeed"), .ref (He.ga K "BadChange"), .ref (He.ga K "BadVector"), .ref (He.ga K "BadIndex"), .ref (He.ga K "BadText"), .ref (He.ga K "BadHost"), .ref (He.ga K "BadValue"), .ref (He.ga K "UnknownAttribute"), .ref (He.ga K "MirrorGiven"), .ref (He.ga K "UnknownClass"), .ref (He.ga K "BadClasses"), .ref (He.ga K "NotAllowed"), .ref (He.ga K "Missing"), .ref (He.ga K "TooManyValues"), .ref (He.ga K "ValueTaken"), .ref (He.ga K "NotNamed"), .ref (He.ga K "BadPlace"), .ref (He.ga K "NoTarget"), .ref (He.ga K "NotInteger"), .ref (He.ga K "NoOrder"), .ref (He.ga K "NoEntry"), .ref (He.ga K "NameTaken"), .ref (He.ga K "HasChildren"), .ref (He.ga K "InUse"), .ref (He.ga K "Inside"), .ref (He.ga K "NoValue"), .ref (He.ga K "Referral"), .ref (He.ga K "IndexTaken"), .ref (He.ga K "NoIndex"), .ref (He.ga K "NothingToUndo"), .ref (He.ga K "NoHost"), .ref (He.ga K "Gap"), .ref (He.ga K "Behind"), .ref (He.ga K "Forgotten"), .ref (He.ga K "PagingOver"), .ref (He.ga K "Full"), .ref (He.ga K "TooDeep"), .ref (He.ga K "SizeLimit")] : List Value) (fun i j => decide (i = j)) 30 14
def hg_66 (K : Hk.Fr) : Bool := ExG.kitTab K [(He.ga K "BadName"), (He.ga K "BadFilter"), (He.ga K "BadScope"), (He.ga K "BadNumber"), (He.ga K "BadSchema"), (He.ga K "BadEntry"), (He.ga K "BadDeed"), (He.ga K "BadChange"), (He.ga K "BadVector"), (He.ga K "BadIndex"), (He.ga K "BadText"), (He.ga K "BadHost"), (He.ga K "BadValue"), (He.ga K "UnknownAttribute"), (He.ga K "MirrorGiven"), (He.ga K "UnknownClass"), (He.ga K "BadClasses"), (He.ga K "NotAllowed"), (He.ga K "Missing"), (He.ga K "TooManyValues"), (He.ga K "ValueTaken"), (He.ga K "NotNamed"), (He.ga K "BadPlace"), (He.ga K "NoTarget"), (He.ga K "NotInteger"), (He.ga K "NoOrder"), (He.ga K "NoEntry"), (He.ga K "NameTaken"), (He.ga K "HasChildren"), (He.ga K "InUse"), (He.ga K "Inside"), (He.ga K "NoValue"), (He.ga K "Referral"), (He.ga K "IndexTaken"), (He.ga K "NoIndex"), (He.ga K "NothingToUndo"), (He.ga K "NoHost"), (He.ga K "Gap"), (He.ga K "Behind"), (He.ga K "Forgotten"), (He.ga K "PagingOver"), (He.ga K "Full"), (He.ga K "TooDeep"), (He.ga K "SizeLimit")] ([.ref (He.ga K "Invalid"), .ref (He.ga K "Conflict"), .ref (He.ga K "Excess"), .type "ValueError", .type "LookupError", .type "ArithmeticError"] : List Value) (fun i j => decide (ExG.grp i = j % 3)) && (ExG.kitTab K [(He.ga K "BadName"), (He.ga K "BadFilter"), (He.ga K "BadScope"), (He.ga K "BadNumber"), (He.ga K "BadSchema"), (He.ga K "BadEntry"), (He.ga K "BadDeed"), (He.ga K "BadChange"), (He.ga K "BadVector"), (He.ga K "BadIndex"), (He.ga K "BadText"), (He.ga K "BadHost"), (He.ga K "BadValue"), (He.ga K "UnknownAttribute"), (He.ga K "MirrorGiven"), (He.ga K "UnknownClass"), (He.ga K "BadClasses"), (He.ga K "NotAllowed"), (He.ga K "Missing"), (He.ga K "TooManyValues"), (He.ga K "ValueTaken"), (He.ga K "NotNamed"), (He.ga K "BadPlace"), (He.ga K "NoTarget"), (He.ga K "NotInteger"), (He.ga K "NoOrder"), (He.ga K "NoEntry"), (He.ga K "NameTaken"), (He.ga K "HasChildren"), (He.ga K "InUse"), (He.ga K "Inside"), (He.ga K "NoValue"), (He.ga K "Referral"), (He.ga K "IndexTaken"), (He.ga K "NoIndex"), (He.ga K "NothingToUndo"), (He.ga K "NoHost"), (He.ga K "Gap"), (He.ga K "Behind"), (He.ga K "Forgotten"), (He.ga K "PagingOver"), (He.ga K "Full"), (He.ga K "TooDeep"), (He.ga K "SizeLimit")] ([.type "KeyError", .type "IndexError", .type "TypeError", .type "ZeroDivisionError", .type "OverflowError", .type "RuntimeError"] : List Value) (fun _ _ => false))
def hd_BadName_init : He5.DefA := { at_ := fun K => (He.ma K (He.ga K "BadName") "__init__"), name := "__init__", qual := "BadName.__init__", params := defArgs s_BadName_init, body := defBody s_BadName_init, scope := defScope s_BadName_init, dfl := [], kwd := [] }
def hd_BadFilter_init : He5.DefA := { at_ := fun K => (He.ma K (He.ga K "BadFilter") "__init__"), name := "__init__", qual := "BadFilter.__init__", params := defArgs s_BadFilter_init, body := defBody s_BadFilter_init, scope := defScope s_BadFilter_init, dfl := [], kwd := [] }
def hd_BadScope_init : He5.DefA := { at_ := fun K => (He.ma K (He.ga K "BadScope") "__init__"), name := "__init__", qual := "BadScope.__init__", params := defArgs s_BadScope_init, body := defBody s_BadScope_init, scope := defScope s_BadScope_init, dfl := [], kwd := [] }
def hd_BadNumber_init : He5.DefA := { at_ := fun K => (He.ma K (He.ga K "BadNumber") "__init__"), name := "__init__", qual := "BadNumber.__init__", params := defArgs s_BadNumber_init, body := defBody s_BadNumber_init, scope := defScope s_BadNumber_init, dfl := [], kwd := [] }
def hd_BadSchema_init : He5.DefA := { at_ := fun K => (He.ma K (He.ga K "BadSchema") "__init__"), name := "__init__", qual := "BadSchema.__init__", params := defArgs s_BadSchema_init, body := defBody s_BadSchema_init, scope := defScope s_BadSchema_init, dfl := [], kwd := [] }
def hd_BadEntry_init : He5.DefA := { at_ := fun K => (He.ma K (He.ga K "BadEntry") "__init__"), name := "__init__", qual := "BadEntry.__init__", params := defArgs s_BadEntry_init, body := defBody s_BadEntry_init, scope := defScope s_BadEntry_init, dfl := [], kwd := [] }
def hd_BadDeed_init : He5.DefA := { at_ := fun K => (He.ma K (He.ga K "BadDeed") "__init__"), name := "__init__", qual := "BadDeed.__init__", params := defArgs s_BadDeed_init, body := defBody s_BadDeed_init, scope := defScope s_BadDeed_init, dfl := [], kwd := [] }
def hd_BadChange_init : He5.DefA := { at_ := fun K => (He.ma K (He.ga K "BadChange") "__init__"), name := "__init__", qual := "BadChange.__init__", params := defArgs s_BadChange_init, body := defBody s_BadChange_init, scope := defScope s_BadChange_init, dfl := [], kwd := [] }
def hd_BadVector_init : He5.DefA := { at_ := fun K => (He.ma K (He.ga K "BadVector") "__init__"), name := "__init__", qual := "BadVector.__init__", params := defArgs s_BadVector_init, body := defBody s_BadVector_init, scope := defScope s_BadVector_init, dfl := [], kwd := [] }
def hd_BadIndex_init : He5.DefA := { at_ := fun K => (He.ma K (He.ga K "BadIndex") "__init__"), name := "__init__", qual := "BadIndex.__init__", params := defArgs s_BadIndex_init, body := defBody s_BadIndex_init, scope := defScope s_BadIndex_init, dfl := [], kwd := [] }
def hd_BadText_init : He5.DefA := { at_ := fun K => (He.ma K (He.ga K "BadText") "__init__"), name := "__init__", qual := "BadText.__init__", params := defArgs s_BadText_init, body := defBody s_BadText_init, scope := defScope s_BadText_init, dfl := [], kwd := [] }
def hd_BadHost_init : He5.DefA := { at_ := fun K => (He.ma K (He.ga K "BadHost") "__init__"), name := "__init__", qual := "BadHost.__init__", params := defArgs s_BadHost_init, body := defBody s_BadHost_init, scope := defScope s_BadHost_init, dfl := [], kwd := [] }
def hd_BadValue_init : He5.DefA := { at_ := fun K => (He.ma K (He.ga K "BadValue") "__init__"), name := "__init__", qual := "BadValue.__init__", params := defArgs s_BadValue_init, body := defBody s_BadValue_init, scope := defScope s_BadValue_init, dfl := [], kwd := [] }
def hd_UnknownAttribute_init : He5.DefA := { at_ := fun K => (He.ma K (He.ga K "UnknownAttribute") "__init__"), name := "__init__", qual := "UnknownAttribute.__init__", params := defArgs s_UnknownAttribute_init, body := defBody s_UnknownAttribute_init, scope := defScope s_UnknownAttribute_init, dfl := [], kwd := [] }
def hd_MirrorGiven_init : He5.DefA := { at_ := fun K => (He.ma K (He.ga K "MirrorGiven") "__init__"), name := "__init__", qual := "MirrorGiven.__init__", params := defArgs s_MirrorGiven_init, body := defBody s_MirrorGiven_init, scope := defScope s_MirrorGiven_init, dfl := [], kwd := [] }
def hd_UnknownClass_init : He5.DefA := { at_ := fun K => (He.ma K (He.ga K "UnknownClass") "__init__"), name := "__init__", qual := "UnknownClass.__init__", params := defArgs s_UnknownClass_init, body := defBody s_UnknownClass_init, scope := defScope s_UnknownClass_init, dfl := [], kwd := [] }
def hd_NotAllowed_init : He5.DefA := { at_ := fun K => (He.ma K (He.ga K "NotAllowed") "__init__"), name := "__init__", qual := "NotAllowed.__init__", params := defArgs s_NotAllowed_init, body := defBody s_NotAllowed_init, scope := defScope s_NotAllowed_init, dfl := [], kwd := [] }
def hd_Missing_init : He5.DefA := { at_ := fun K => (He.ma K (He.ga K "Missing") "__init__"), name := "__init__", qual := "Missing.__init__", params := defArgs s_Missing_init, body := defBody s_Missing_init, scope := defScope s_Missing_init, dfl := [], kwd := [] }
def hd_TooManyValues_init : He5.DefA := { at_ := fun K => (He.ma K (He.ga K "TooManyValues") "__init__"), name := "__init__", qual := "TooManyValues.__init__", params := defArgs s_TooManyValues_init, body := defBody s_TooManyValues_init, scope := defScope s_TooManyValues_init, dfl := [], kwd := [] }
def hd_ValueTaken_init : He5.DefA := { at_ := fun K => (He.ma K (He.ga K "ValueTaken") "__init__"), name := "__init__", qual := "ValueTaken.__init__", params := defArgs s_ValueTaken_init, body := defBody s_ValueTaken_init, scope := defScope s_ValueTaken_init, dfl := [], kwd := [] }
def hd_NotNamed_init : He5.DefA := { at_ := fun K => (He.ma K (He.ga K "NotNamed") "__init__"), name := "__init__", qual := "NotNamed.__init__", params := defArgs s_NotNamed_init, body := defBody s_NotNamed_init, scope := defScope s_NotNamed_init, dfl := [], kwd := [] }
def hd_BadPlace_init : He5.DefA := { at_ := fun K => (He.ma K (He.ga K "BadPlace") "__init__"), name := "__init__", qual := "BadPlace.__init__", params := defArgs s_BadPlace_init, body := defBody s_BadPlace_init, scope := defScope s_BadPlace_init, dfl := [], kwd := [] }
def hd_NoTarget_init : He5.DefA := { at_ := fun K => (He.ma K (He.ga K "NoTarget") "__init__"), name := "__init__", qual := "NoTarget.__init__", params := defArgs s_NoTarget_init, body := defBody s_NoTarget_init, scope := defScope s_NoTarget_init, dfl := [], kwd := [] }
def hd_NotInteger_init : He5.DefA := { at_ := fun K => (He.ma K (He.ga K "NotInteger") "__init__"), name := "__init__", qual := "NotInteger.__init__", params := defArgs s_NotInteger_init, body := defBody s_NotInteger_init, scope := defScope s_NotInteger_init, dfl := [], kwd := [] }
def hd_NoOrder_init : He5.DefA := { at_ := fun K => (He.ma K (He.ga K "NoOrder") "__init__"), name := "__init__", qual := "NoOrder.__init__", params := defArgs s_NoOrder_init, body := defBody s_NoOrder_init, scope := defScope s_NoOrder_init, dfl := [], kwd := [] }
def hd_NoEntry_init : He5.DefA := { at_ := fun K => (He.ma K (He.ga K "NoEntry") "__init__"), name := "__init__", qual := "NoEntry.__init__", params := defArgs s_NoEntry_init, body := defBody s_NoEntry_init, scope := defScope s_NoEntry_init, dfl := [], kwd := [] }
def hd_NameTaken_init : He5.DefA := { at_ := fun K => (He.ma K (He.ga K "NameTaken") "__init__"), name := "__init__", qual := "NameTaken.__init__", params := defArgs s_NameTaken_init, body := defBody s_NameTaken_init, scope := defScope s_NameTaken_init, dfl := [], kwd := [] }
def hd_HasChildren_init : He5.DefA := { at_ := fun K => (He.ma K (He.ga K "HasChildren") "__init__"), name := "__init__", qual := "HasChildren.__init__", params := defArgs s_HasChildren_init, body := defBody s_HasChildren_init, scope := defScope s_HasChildren_init, dfl := [], kwd := [] }
def hd_InUse_init : He5.DefA := { at_ := fun K => (He.ma K (He.ga K "InUse") "__init__"), name := "__init__", qual := "InUse.__init__", params := defArgs s_InUse_init, body := defBody s_InUse_init, scope := defScope s_InUse_init, dfl := [], kwd := [] }
def hd_Inside_init : He5.DefA := { at_ := fun K => (He.ma K (He.ga K "Inside") "__init__"), name := "__init__", qual := "Inside.__init__", params := defArgs s_Inside_init, body := defBody s_Inside_init, scope := defScope s_Inside_init, dfl := [], kwd := [] }
def hd_NoValue_init : He5.DefA := { at_ := fun K => (He.ma K (He.ga K "NoValue") "__init__"), name := "__init__", qual := "NoValue.__init__", params := defArgs s_NoValue_init, body := defBody s_NoValue_init, scope := defScope s_NoValue_init, dfl := [], kwd := [] }
def hd_Referral_init : He5.DefA := { at_ := fun K => (He.ma K (He.ga K "Referral") "__init__"), name := "__init__", qual := "Referral.__init__", params := defArgs s_Referral_init, body := defBody s_Referral_init, scope := defScope s_Referral_init, dfl := [], kwd := [] }
def hd_IndexTaken_init : He5.DefA := { at_ := fun K => (He.ma K (He.ga K "IndexTaken") "__init__"), name := "__init__", qual := "IndexTaken.__init__", params := defArgs s_IndexTaken_init, body := defBody s_IndexTaken_init, scope := defScope s_IndexTaken_init, dfl := [], kwd := [] }
def hd_NoIndex_init : He5.DefA := { at_ := fun K => (He.ma K (He.ga K "NoIndex") "__init__"), name := "__init__", qual := "NoIndex.__init__", params := defArgs s_NoIndex_init, body := defBody s_NoIndex_init, scope := defScope s_NoIndex_init, dfl := [], kwd := [] }
def hd_NoHost_init : He5.DefA := { at_ := fun K => (He.ma K (He.ga K "NoHost") "__init__"), name := "__init__", qual := "NoHost.__init__", params := defArgs s_NoHost_init, body := defBody s_NoHost_init, scope := defScope s_NoHost_init, dfl := [], kwd := [] }
def hd_Gap_init : He5.DefA := { at_ := fun K => (He.ma K (He.ga K "Gap") "__init__"), name := "__init__", qual := "Gap.__init__", params := defArgs s_Gap_init, body := defBody s_Gap_init, scope := defScope s_Gap_init, dfl := [], kwd := [] }
def hd_Behind_init : He5.DefA := { at_ := fun K => (He.ma K (He.ga K "Behind") "__init__"), name := "__init__", qual := "Behind.__init__", params := defArgs s_Behind_init, body := defBody s_Behind_init, scope := defScope s_Behind_init, dfl := [], kwd := [] }
def hd_Forgotten_init : He5.DefA := { at_ := fun K => (He.ma K (He.ga K "Forgotten") "__init__"), name := "__init__", qual := "Forgotten.__init__", params := defArgs s_Forgotten_init, body := defBody s_Forgotten_init, scope := defScope s_Forgotten_init, dfl := [], kwd := [] }
def hd_Full_init : He5.DefA := { at_ := fun K => (He.ma K (He.ga K "Full") "__init__"), name := "__init__", qual := "Full.__init__", params := defArgs s_Full_init, body := defBody s_Full_init, scope := defScope s_Full_init, dfl := [], kwd := [] }
def hd_TooDeep_init : He5.DefA := { at_ := fun K => (He.ma K (He.ga K "TooDeep") "__init__"), name := "__init__", qual := "TooDeep.__init__", params := defArgs s_TooDeep_init, body := defBody s_TooDeep_init, scope := defScope s_TooDeep_init, dfl := [], kwd := [] }
def hd_SizeLimit_init : He5.DefA := { at_ := fun K => (He.ma K (He.ga K "SizeLimit") "__init__"), name := "__init__", qual := "SizeLimit.__init__", params := defArgs s_SizeLimit_init, body := defBody s_SizeLimit_init, scope := defScope s_SizeLimit_init, dfl := [], kwd := [] }
def hd_q_source : He5.DefA := { at_ := fun K => (He.ga K "_law_source"), name := "_law_source", qual := "_law_source", params := defArgs s_q_source, body := defBody s_q_source, scope := defScope s_q_source, dfl := [], kwd := [] }
def hd_q_next : He5.DefA := { at_ := fun K => (He.ga K "_law_next"), name := "_law_next", qual := "_law_next", params := defArgs s_q_next, body := defBody s_q_next, scope := defScope s_q_next, dfl := [], kwd := [] }
def hd_q_pick : He5.DefA := { at_ := fun K => (He.ga K "_law_pick"), name := "_law_pick", qual := "_law_pick", params := defArgs s_q_pick, body := defBody s_q_pick, scope := defScope s_q_pick, dfl := [], kwd := [] }
def hd_q_rounds : He5.DefA := { at_ := fun K => (He.ga K "_law_rounds"), name := "_law_rounds", qual := "_law_rounds", params := defArgs s_q_rounds, body := defBody s_q_rounds, scope := defScope s_q_rounds, dfl := [], kwd := [] }
def hd_q_made : He5.DefA := { at_ := fun K => (He.ga K "_law_made"), name := "_law_made", qual := "_law_made", params := defArgs s_q_made, body := defBody s_q_made, scope := defScope s_q_made, dfl := [], kwd := [] }
def hd_q_named : He5.DefA := { at_ := fun K => (He.ga K "_law_named"), name := "_law_named", qual := "_law_named", params := defArgs s_q_named, body := defBody s_q_named, scope := defScope s_q_named, dfl := [], kwd := [] }
def hd_q_held : He5.DefA := { at_ := fun K => (He.ga K "_law_held"), name := "_law_held", qual := "_law_held", params := defArgs s_q_held, body := defBody s_q_held, scope := defScope s_q_held, dfl := [], kwd := [] }
def hd_q_marks : He5.DefA := { at_ := fun K => (He.ga K "_law_marks"), name := "_law_marks", qual := "_law_marks", params := defArgs s_q_marks, body := defBody s_q_marks, scope := defScope s_q_marks, dfl := [], kwd := [] }
def hd_q_families : He5.DefA := { at_ := fun K => (He.ga K "_law_families"), name := "_law_families", qual := "_law_families", params := defArgs s_q_families, body := defBody s_q_families, scope := defScope s_q_families, dfl := [], kwd := [] }
def hd_q_strange : He5.DefA := { at_ := fun K => (He.ga K "_law_strange"), name := "_law_strange", qual := "_law_strange", params := defArgs s_q_strange, body := defBody s_q_strange, scope := defScope s_q_strange, dfl := [], kwd := [] }
def hd_q_due : He5.DefA := { at_ := fun K => (He.ga K "_law_due"), name := "_law_due", qual := "_law_due", params := defArgs s_q_due, body := defBody s_q_due, scope := defScope s_q_due, dfl := [], kwd := [] }
def hd_q_error_right : He5.DefA := { at_ := fun K => (He.ga K "_law_error_right"), name := "_law_error_right", qual := "_law_error_right", params := defArgs s_q_error_right, body := defBody s_q_error_right, scope := defScope s_q_error_right, dfl := [], kwd := [] }
def hd_q_limits_right : He5.DefA := { at_ := fun K => (He.ga K "_law_limits_right"), name := "_law_limits_right", qual := "_law_limits_right", params := defArgs s_q_limits_right, body := defBody s_q_limits_right, scope := defScope s_q_limits_right, dfl := [], kwd := [] }
def hd_law : He5.DefA := { at_ := fun K => (He.ga K "law"), name := "law", qual := "law", params := defArgs s_law, body := defBody s_law, scope := defScope s_law, dfl := [], kwd := [] }
def hn_0 : List He5.DefA := [hd_BadName_init, hd_BadFilter_init, hd_BadScope_init, hd_BadNumber_init, hd_BadSchema_init, hd_BadEntry_init, hd_BadDeed_init, hd_BadChange_init, hd_BadVector_init, hd_BadIndex_init, hd_BadText_init, hd_BadHost_init, hd_BadValue_init, hd_UnknownAttribute_init, hd_MirrorGiven_init, hd_UnknownClass_init, hd_NotAllowed_init, hd_Missing_init, hd_TooManyValues_init, hd_ValueTaken_init, hd_NotNamed_init, hd_BadPlace_init, hd_NoTarget_init, hd_NotInteger_init, hd_NoOrder_init, hd_NoEntry_init, hd_NameTaken_init, hd_HasChildren_init, hd_InUse_init, hd_Inside_init]
def hn_1 : List He5.DefA := [hd_NoValue_init, hd_Referral_init, hd_IndexTaken_init, hd_NoIndex_init, hd_NoHost_init, hd_Gap_init, hd_Behind_init, hd_Forgotten_init, hd_Full_init, hd_TooDeep_init, hd_SizeLimit_init, hd_q_source, hd_q_next, hd_q_pick, hd_q_rounds, hd_q_made, hd_q_named, hd_q_held, hd_q_marks, hd_q_families, hd_q_strange, hd_q_due, hd_q_error_right, hd_q_limits_right, hd_law]
def hB_0 : Hk.Blk := ([hg_0, hg_1, hg_2, hg_3, hg_4, hg_5, hg_6, hg_7, hg_8, hg_9, hg_10, hg_11, hg_12, hg_13, hg_14, hg_15], [])
def hB_1 : Hk.Blk := ([hg_16, hg_17, hg_18, hg_19, hg_20, hg_21, hg_22, hg_23, hg_24, hg_25, hg_26, hg_27, hg_28, hg_29, hg_30, hg_31], hn_1)
def hB_2 : Hk.Blk := ([hg_32, hg_33, hg_34, hg_35, hg_36, hg_37, hg_38, hg_39, hg_40, hg_41, hg_42, hg_43, hg_44, hg_45, hg_46, hg_47], [])
def hB_3 : Hk.Blk := ([hg_48, hg_49, hg_50, hg_51, hg_52, hg_53, hg_54, hg_55, hg_56, hg_57, hg_58, hg_59, hg_60, hg_61, hg_62], [])
def hB_4 : Hk.Blk := ([hg_63], [])
def hB_5 : Hk.Blk := ([hg_64], [])
def hB_6 : Hk.Blk := ([hg_65], [])
def hB_7 : Hk.Blk := ([hg_66], hn_0)
def hBs : List Hk.Blk := [hB_0, hB_1, hB_2, hB_3, hB_4, hB_5, hB_6, hB_7]
def hFa : List (Hk.Fr → Bool) := hBs.flatMap (·.1)
def hFn : List He5.DefA := hBs.flatMap (·.2)
def hTf : List (Hk.Fr → Addr) := []
theorem all_mk {l : PySem.W.OpenLaw} {w : World} {K : Hk.Fr} {h : Heap} {mg : Str → Option Value} {fa : Addr} (X : K.In h) (G : h.Ns mainGlobals mg) (hfa : mg "law" = some (.ref fa)) (S : Hk.Says hFa hFn hTf h K) :
    ∃ (fd : FuncData) (sp : Sp), (∀ (s : Shared) (v : Value), BindsTo s fd ⟨[v], []⟩ [("_law_script", v)]) ∧ (∀ (H : Hp) (a : Addr) (ns : List Int), ns.length ≤ 63 → Only H → SqL K H a (ns.map V.int) → sp [.ref a] H (fun v _ => v = .bl true) fun _ _ _ => False) ∧ ∀ base : Heap, K.In base → base.Ns mainGlobals mg → Grd.FnG l.prog w K mg base CX0 4 fa fd ["_law_script"] sp := by
  obtain ⟨x_Ghn, zz⟩ := He.ba (S.f 0 (f := hg_0))
  obtain ⟨x_Ghk, zz⟩ := He.ba (zz)
  obtain ⟨x_XBadNamea, zz⟩ := He.ba (zz)
  obtain ⟨x_XBadNameL, zz⟩ := He.ba (zz)
  obtain ⟨x_XBadNamesa, zz⟩ := He.ba (zz)
  obtain ⟨x_XBadNamega, zz⟩ := He.ba (zz)
  obtain ⟨x_XBadNamegg, zz⟩ := He.ba (zz)
  obtain ⟨x_XBadNamekC, zz⟩ := He.ba (zz)
  obtain ⟨x_XBadNameeC, zz⟩ := He.ba (zz)
  have x_XBadNamehC := zz
  have y_Ghn := He.eqO_ok x_Ghn
  have y_Ghk := of_decide_eq_true x_Ghk
  have y_XBadNamea := He.eqO_ok x_XBadNamea
  have y_XBadNameL := Hk.xcB_ok x_XBadNameL
  have y_XBadNamesa := He.eqO_ok x_XBadNamesa
  have y_XBadNamega := He.eqO_ok x_XBadNamega
  have y_XBadNamegg := He.eqO_ok x_XBadNamegg
  have y_XBadNamekC := x_XBadNamekC
  have y_XBadNameeC := of_decide_eq_true x_XBadNameeC
  have y_XBadNamehC := x_XBadNamehC
  clear x_Ghn x_Ghk x_XBadNamea x_XBadNameL x_XBadNamesa x_XBadNamega x_XBadNamegg x_XBadNamekC x_XBadNameeC x_XBadNamehC zz
  obtain ⟨x_XBadNameha, zz⟩ := He.ba (S.f 1 (f := hg_1))
  obtain ⟨x_XBadNamehm, zz⟩ := He.ba (zz)
  obtain ⟨x_XBadNamenxgiven, zz⟩ := He.ba (zz)
  obtain ⟨x_XBadFiltera, zz⟩ := He.ba (zz)
  obtain ⟨x_XBadFilterL, zz⟩ := He.ba (zz)
  obtain ⟨x_XBadFiltersa, zz⟩ := He.ba (zz)
  obtain ⟨x_XBadFilterga, zz⟩ := He.ba (zz)
  obtain ⟨x_XBadFiltergg, zz⟩ := He.ba (zz)
  obtain ⟨x_XBadFilterkC, zz⟩ := He.ba (zz)
  have x_XBadFiltereC := zz
  have y_XBadNameha := He.eqO_ok x_XBadNameha
  have y_XBadNamehm := of_decide_eq_true x_XBadNamehm
  have y_XBadNamenxgiven := He.eqO_ok x_XBadNamenxgiven
  have y_XBadFiltera := He.eqO_ok x_XBadFiltera
  have y_XBadFilterL := Hk.xcB_ok x_XBadFilterL
  have y_XBadFiltersa := He.eqO_ok x_XBadFiltersa
  have y_XBadFilterga := He.eqO_ok x_XBadFilterga
  have y_XBadFiltergg := He.eqO_ok x_XBadFiltergg
  have y_XBadFilterkC := x_XBadFilterkC
  have y_XBadFiltereC := of_decide_eq_true x_XBadFiltereC
  clear x_XBadNameha x_XBadNamehm x_XBadNamenxgiven x_XBadFiltera x_XBadFilterL x_XBadFiltersa x_XBadFilterga x_XBadFiltergg x_XBadFilterkC x_XBadFiltereC zz
  obtain ⟨x_XBadFilterhC, zz⟩ := He.ba (S.f 2 (f := hg_2))
  obtain ⟨x_XBadFilterha, zz⟩ := He.ba (zz)
  obtain ⟨x_XBadFilterhm, zz⟩ := He.ba (zz)
  obtain ⟨x_XBadFilternxplace, zz⟩ := He.ba (zz)
  obtain ⟨x_XBadScopea, zz⟩ := He.ba (zz)
  obtain ⟨x_XBadScopeL, zz⟩ := He.ba (zz)
  obtain ⟨x_XBadScopesa, zz⟩ := He.ba (zz)
  obtain ⟨x_XBadScopega, zz⟩ := He.ba (zz)
  obtain ⟨x_XBadScopegg, zz⟩ := He.ba (zz)
  have x_XBadScopekC := zz
  have y_XBadFilterhC := x_XBadFilterhC
  have y_XBadFilterha := He.eqO_ok x_XBadFilterha
  have y_XBadFilterhm := of_decide_eq_true x_XBadFilterhm
  have y_XBadFilternxplace := He.eqO_ok x_XBadFilternxplace
  have y_XBadScopea := He.eqO_ok x_XBadScopea
  have y_XBadScopeL := Hk.xcB_ok x_XBadScopeL
  have y_XBadScopesa := He.eqO_ok x_XBadScopesa
  have y_XBadScopega := He.eqO_ok x_XBadScopega
  have y_XBadScopegg := He.eqO_ok x_XBadScopegg
  have y_XBadScopekC := x_XBadScopekC
  clear x_XBadFilterhC x_XBadFilterha x_XBadFilterhm x_XBadFilternxplace x_XBadScopea x_XBadScopeL x_XBadScopesa x_XBadScopega x_XBadScopegg x_XBadScopekC zz
  obtain ⟨x_XBadScopeeC, zz⟩ := He.ba (S.f 3 (f := hg_3))
  obtain ⟨x_XBadScopehC, zz⟩ := He.ba (zz)
  obtain ⟨x_XBadScopeha, zz⟩ := He.ba (zz)
  obtain ⟨x_XBadScopehm, zz⟩ := He.ba (zz)
  obtain ⟨x_XBadScopenxgiven, zz⟩ := He.ba (zz)
  obtain ⟨x_XBadNumbera, zz⟩ := He.ba (zz)
  obtain ⟨x_XBadNumberL, zz⟩ := He.ba (zz)
  obtain ⟨x_XBadNumbersa, zz⟩ := He.ba (zz)
  obtain ⟨x_XBadNumberga, zz⟩ := He.ba (zz)
  have x_XBadNumbergg := zz
  have y_XBadScopeeC := of_decide_eq_true x_XBadScopeeC
  have y_XBadScopehC := x_XBadScopehC
  have y_XBadScopeha := He.eqO_ok x_XBadScopeha
  have y_XBadScopehm := of_decide_eq_true x_XBadScopehm
  have y_XBadScopenxgiven := He.eqO_ok x_XBadScopenxgiven
  have y_XBadNumbera := He.eqO_ok x_XBadNumbera
  have y_XBadNumberL := Hk.xcB_ok x_XBadNumberL
  have y_XBadNumbersa := He.eqO_ok x_XBadNumbersa
  have y_XBadNumberga := He.eqO_ok x_XBadNumberga
  have y_XBadNumbergg := He.eqO_ok x_XBadNumbergg
  clear x_XBadScopeeC x_XBadScopehC x_XBadScopeha x_XBadScopehm x_XBadScopenxgiven x_XBadNumbera x_XBadNumberL x_XBadNumbersa x_XBadNumberga x_XBadNumbergg zz
  obtain ⟨x_XBadNumberkC, zz⟩ := He.ba (S.f 4 (f := hg_4))
  obtain ⟨x_XBadNumbereC, zz⟩ := He.ba (zz)
  obtain ⟨x_XBadNumberhC, zz⟩ := He.ba (zz)
  obtain ⟨x_XBadNumberha, zz⟩ := He.ba (zz)
  obtain ⟨x_XBadNumberhm, zz⟩ := He.ba (zz)
  obtain ⟨x_XBadNumbernxgiven, zz⟩ := He.ba (zz)
  obtain ⟨x_XBadSchemaa, zz⟩ := He.ba (zz)
  obtain ⟨x_XBadSchemaL, zz⟩ := He.ba (zz)
  obtain ⟨x_XBadSchemasa, zz⟩ := He.ba (zz)
  have x_XBadSchemaga := zz
  have y_XBadNumberkC := x_XBadNumberkC
  have y_XBadNumbereC := of_decide_eq_true x_XBadNumbereC
  have y_XBadNumberhC := x_XBadNumberhC
  have y_XBadNumberha := He.eqO_ok x_XBadNumberha
  have y_XBadNumberhm := of_decide_eq_true x_XBadNumberhm
  have y_XBadNumbernxgiven := He.eqO_ok x_XBadNumbernxgiven
  have y_XBadSchemaa := He.eqO_ok x_XBadSchemaa
  have y_XBadSchemaL := Hk.xcB_ok x_XBadSchemaL
  have y_XBadSchemasa := He.eqO_ok x_XBadSchemasa
  have y_XBadSchemaga := He.eqO_ok x_XBadSchemaga
  clear x_XBadNumberkC x_XBadNumbereC x_XBadNumberhC x_XBadNumberha x_XBadNumberhm x_XBadNumbernxgiven x_XBadSchemaa x_XBadSchemaL x_XBadSchemasa x_XBadSchemaga zz
  obtain ⟨x_XBadSchemagg, zz⟩ := He.ba (S.f 5 (f := hg_5))
  obtain ⟨x_XBadSchemakC, zz⟩ := He.ba (zz)
  obtain ⟨x_XBadSchemaeC, zz⟩ := He.ba (zz)
  obtain ⟨x_XBadSchemahC, zz⟩ := He.ba (zz)
  obtain ⟨x_XBadSchemaha, zz⟩ := He.ba (zz)
  obtain ⟨x_XBadSchemahm, zz⟩ := He.ba (zz)
  obtain ⟨x_XBadSchemanxpart, zz⟩ := He.ba (zz)
  obtain ⟨x_XBadSchemanxplace, zz⟩ := He.ba (zz)
  obtain ⟨x_XBadEntrya, zz⟩ := He.ba (zz)
  have x_XBadEntryL := zz
  have y_XBadSchemagg := He.eqO_ok x_XBadSchemagg
  have y_XBadSchemakC := x_XBadSchemakC
  have y_XBadSchemaeC := of_decide_eq_true x_XBadSchemaeC
  have y_XBadSchemahC := x_XBadSchemahC
  have y_XBadSchemaha := He.eqO_ok x_XBadSchemaha
  have y_XBadSchemahm := of_decide_eq_true x_XBadSchemahm
  have y_XBadSchemanxpart := He.eqO_ok x_XBadSchemanxpart
  have y_XBadSchemanxplace := He.eqO_ok x_XBadSchemanxplace
  have y_XBadEntrya := He.eqO_ok x_XBadEntrya
  have y_XBadEntryL := Hk.xcB_ok x_XBadEntryL
  clear x_XBadSchemagg x_XBadSchemakC x_XBadSchemaeC x_XBadSchemahC x_XBadSchemaha x_XBadSchemahm x_XBadSchemanxpart x_XBadSchemanxplace x_XBadEntrya x_XBadEntryL zz
  obtain ⟨x_XBadEntrysa, zz⟩ := He.ba (S.f 6 (f := hg_6))
  obtain ⟨x_XBadEntryga, zz⟩ := He.ba (zz)
  obtain ⟨x_XBadEntrygg, zz⟩ := He.ba (zz)
  obtain ⟨x_XBadEntrykC, zz⟩ := He.ba (zz)
  obtain ⟨x_XBadEntryeC, zz⟩ := He.ba (zz)
  obtain ⟨x_XBadEntryhC, zz⟩ := He.ba (zz)
  obtain ⟨x_XBadEntryha, zz⟩ := He.ba (zz)
  obtain ⟨x_XBadEntryhm, zz⟩ := He.ba (zz)
  obtain ⟨x_XBadEntrynxgiven, zz⟩ := He.ba (zz)
  have x_XBadDeeda := zz
  have y_XBadEntrysa := He.eqO_ok x_XBadEntrysa
  have y_XBadEntryga := He.eqO_ok x_XBadEntryga
  have y_XBadEntrygg := He.eqO_ok x_XBadEntrygg
  have y_XBadEntrykC := x_XBadEntrykC
  have y_XBadEntryeC := of_decide_eq_true x_XBadEntryeC
  have y_XBadEntryhC := x_XBadEntryhC
  have y_XBadEntryha := He.eqO_ok x_XBadEntryha
  have y_XBadEntryhm := of_decide_eq_true x_XBadEntryhm
  have y_XBadEntrynxgiven := He.eqO_ok x_XBadEntrynxgiven
  have y_XBadDeeda := He.eqO_ok x_XBadDeeda
  clear x_XBadEntrysa x_XBadEntryga x_XBadEntrygg x_XBadEntrykC x_XBadEntryeC x_XBadEntryhC x_XBadEntryha x_XBadEntryhm x_XBadEntrynxgiven x_XBadDeeda zz
  obtain ⟨x_XBadDeedL, zz⟩ := He.ba (S.f 7 (f := hg_7))
  obtain ⟨x_XBadDeedsa, zz⟩ := He.ba (zz)
  obtain ⟨x_XBadDeedga, zz⟩ := He.ba (zz)
  obtain ⟨x_XBadDeedgg, zz⟩ := He.ba (zz)
  obtain ⟨x_XBadDeedkC, zz⟩ := He.ba (zz)
  obtain ⟨x_XBadDeedeC, zz⟩ := He.ba (zz)
  obtain ⟨x_XBadDeedhC, zz⟩ := He.ba (zz)
  obtain ⟨x_XBadDeedha, zz⟩ := He.ba (zz)
  obtain ⟨x_XBadDeedhm, zz⟩ := He.ba (zz)
  have x_XBadDeednxplace := zz
  have y_XBadDeedL := Hk.xcB_ok x_XBadDeedL
  have y_XBadDeedsa := He.eqO_ok x_XBadDeedsa
  have y_XBadDeedga := He.eqO_ok x_XBadDeedga
  have y_XBadDeedgg := He.eqO_ok x_XBadDeedgg
  have y_XBadDeedkC := x_XBadDeedkC
  have y_XBadDeedeC := of_decide_eq_true x_XBadDeedeC
  have y_XBadDeedhC := x_XBadDeedhC
  have y_XBadDeedha := He.eqO_ok x_XBadDeedha
  have y_XBadDeedhm := of_decide_eq_true x_XBadDeedhm
  have y_XBadDeednxplace := He.eqO_ok x_XBadDeednxplace
  clear x_XBadDeedL x_XBadDeedsa x_XBadDeedga x_XBadDeedgg x_XBadDeedkC x_XBadDeedeC x_XBadDeedhC x_XBadDeedha x_XBadDeedhm x_XBadDeednxplace zz
  obtain ⟨x_XBadChangea, zz⟩ := He.ba (S.f 8 (f := hg_8))
  obtain ⟨x_XBadChangeL, zz⟩ := He.ba (zz)
  obtain ⟨x_XBadChangesa, zz⟩ := He.ba (zz)
  obtain ⟨x_XBadChangega, zz⟩ := He.ba (zz)
  obtain ⟨x_XBadChangegg, zz⟩ := He.ba (zz)
  obtain ⟨x_XBadChangekC, zz⟩ := He.ba (zz)
  obtain ⟨x_XBadChangeeC, zz⟩ := He.ba (zz)
  obtain ⟨x_XBadChangehC, zz⟩ := He.ba (zz)
  obtain ⟨x_XBadChangeha, zz⟩ := He.ba (zz)
  have x_XBadChangehm := zz
  have y_XBadChangea := He.eqO_ok x_XBadChangea
  have y_XBadChangeL := Hk.xcB_ok x_XBadChangeL
  have y_XBadChangesa := He.eqO_ok x_XBadChangesa
  have y_XBadChangega := He.eqO_ok x_XBadChangega
  have y_XBadChangegg := He.eqO_ok x_XBadChangegg
  have y_XBadChangekC := x_XBadChangekC
  have y_XBadChangeeC := of_decide_eq_true x_XBadChangeeC
  have y_XBadChangehC := x_XBadChangehC
  have y_XBadChangeha := He.eqO_ok x_XBadChangeha
  have y_XBadChangehm := of_decide_eq_true x_XBadChangehm
  clear x_XBadChangea x_XBadChangeL x_XBadChangesa x_XBadChangega x_XBadChangegg x_XBadChangekC x_XBadChangeeC x_XBadChangehC x_XBadChangeha x_XBadChangehm zz
  obtain ⟨x_XBadChangenxplace, zz⟩ := He.ba (S.f 9 (f := hg_9))
  obtain ⟨x_XBadVectora, zz⟩ := He.ba (zz)
  obtain ⟨x_XBadVectorL, zz⟩ := He.ba (zz)
  obtain ⟨x_XBadVectorsa, zz⟩ := He.ba (zz)
  obtain ⟨x_XBadVectorga, zz⟩ := He.ba (zz)
  obtain ⟨x_XBadVectorgg, zz⟩ := He.ba (zz)
  obtain ⟨x_XBadVectorkC, zz⟩ := He.ba (zz)
  obtain ⟨x_XBadVectoreC, zz⟩ := He.ba (zz)
  obtain ⟨x_XBadVectorhC, zz⟩ := He.ba (zz)
  have x_XBadVectorha := zz
  have y_XBadChangenxplace := He.eqO_ok x_XBadChangenxplace
  have y_XBadVectora := He.eqO_ok x_XBadVectora
  have y_XBadVectorL := Hk.xcB_ok x_XBadVectorL
  have y_XBadVectorsa := He.eqO_ok x_XBadVectorsa
  have y_XBadVectorga := He.eqO_ok x_XBadVectorga
  have y_XBadVectorgg := He.eqO_ok x_XBadVectorgg
  have y_XBadVectorkC := x_XBadVectorkC
  have y_XBadVectoreC := of_decide_eq_true x_XBadVectoreC
  have y_XBadVectorhC := x_XBadVectorhC
  have y_XBadVectorha := He.eqO_ok x_XBadVectorha
  clear x_XBadChangenxplace x_XBadVectora x_XBadVectorL x_XBadVectorsa x_XBadVectorga x_XBadVectorgg x_XBadVectorkC x_XBadVectoreC x_XBadVectorhC x_XBadVectorha zz
  obtain ⟨x_XBadVectorhm, zz⟩ := He.ba (S.f 10 (f := hg_10))
  obtain ⟨x_XBadVectornxgiven, zz⟩ := He.ba (zz)
  obtain ⟨x_XBadIndexa, zz⟩ := He.ba (zz)
  obtain ⟨x_XBadIndexL, zz⟩ := He.ba (zz)
  obtain ⟨x_XBadIndexsa, zz⟩ := He.ba (zz)
  obtain ⟨x_XBadIndexga, zz⟩ := He.ba (zz)
  obtain ⟨x_XBadIndexgg, zz⟩ := He.ba (zz)
  obtain ⟨x_XBadIndexkC, zz⟩ := He.ba (zz)
  obtain ⟨x_XBadIndexeC, zz⟩ := He.ba (zz)
  have x_XBadIndexhC := zz
  have y_XBadVectorhm := of_decide_eq_true x_XBadVectorhm
  have y_XBadVectornxgiven := He.eqO_ok x_XBadVectornxgiven
  have y_XBadIndexa := He.eqO_ok x_XBadIndexa
  have y_XBadIndexL := Hk.xcB_ok x_XBadIndexL
  have y_XBadIndexsa := He.eqO_ok x_XBadIndexsa
  have y_XBadIndexga := He.eqO_ok x_XBadIndexga
  have y_XBadIndexgg := He.eqO_ok x_XBadIndexgg
  have y_XBadIndexkC := x_XBadIndexkC
  have y_XBadIndexeC := of_decide_eq_true x_XBadIndexeC
  have y_XBadIndexhC := x_XBadIndexhC
  clear x_XBadVectorhm x_XBadVectornxgiven x_XBadIndexa x_XBadIndexL x_XBadIndexsa x_XBadIndexga x_XBadIndexgg x_XBadIndexkC x_XBadIndexeC x_XBadIndexhC zz
  obtain ⟨x_XBadIndexha, zz⟩ := He.ba (S.f 11 (f := hg_11))
  obtain ⟨x_XBadIndexhm, zz⟩ := He.ba (zz)
  obtain ⟨x_XBadIndexnxgiven, zz⟩ := He.ba (zz)
  obtain ⟨x_XBadTexta, zz⟩ := He.ba (zz)
  obtain ⟨x_XBadTextL, zz⟩ := He.ba (zz)
  obtain ⟨x_XBadTextsa, zz⟩ := He.ba (zz)
  obtain ⟨x_XBadTextga, zz⟩ := He.ba (zz)
  obtain ⟨x_XBadTextgg, zz⟩ := He.ba (zz)
  obtain ⟨x_XBadTextkC, zz⟩ := He.ba (zz)
  have x_XBadTexteC := zz
  have y_XBadIndexha := He.eqO_ok x_XBadIndexha
  have y_XBadIndexhm := of_decide_eq_true x_XBadIndexhm
  have y_XBadIndexnxgiven := He.eqO_ok x_XBadIndexnxgiven
  have y_XBadTexta := He.eqO_ok x_XBadTexta
  have y_XBadTextL := Hk.xcB_ok x_XBadTextL
  have y_XBadTextsa := He.eqO_ok x_XBadTextsa
  have y_XBadTextga := He.eqO_ok x_XBadTextga
  have y_XBadTextgg := He.eqO_ok x_XBadTextgg
  have y_XBadTextkC := x_XBadTextkC
  have y_XBadTexteC := of_decide_eq_true x_XBadTexteC
  clear x_XBadIndexha x_XBadIndexhm x_XBadIndexnxgiven x_XBadTexta x_XBadTextL x_XBadTextsa x_XBadTextga x_XBadTextgg x_XBadTextkC x_XBadTexteC zz
  obtain ⟨x_XBadTexthC, zz⟩ := He.ba (S.f 12 (f := hg_12))
  obtain ⟨x_XBadTextha, zz⟩ := He.ba (zz)
  obtain ⟨x_XBadTexthm, zz⟩ := He.ba (zz)
  obtain ⟨x_XBadTextnxline, zz⟩ := He.ba (zz)
  obtain ⟨x_XBadHosta, zz⟩ := He.ba (zz)
  obtain ⟨x_XBadHostL, zz⟩ := He.ba (zz)
  obtain ⟨x_XBadHostsa, zz⟩ := He.ba (zz)
  obtain ⟨x_XBadHostga, zz⟩ := He.ba (zz)
  obtain ⟨x_XBadHostgg, zz⟩ := He.ba (zz)
  have x_XBadHostkC := zz
  have y_XBadTexthC := x_XBadTexthC
  have y_XBadTextha := He.eqO_ok x_XBadTextha
  have y_XBadTexthm := of_decide_eq_true x_XBadTexthm
  have y_XBadTextnxline := He.eqO_ok x_XBadTextnxline
  have y_XBadHosta := He.eqO_ok x_XBadHosta
  have y_XBadHostL := Hk.xcB_ok x_XBadHostL
  have y_XBadHostsa := He.eqO_ok x_XBadHostsa
  have y_XBadHostga := He.eqO_ok x_XBadHostga
  have y_XBadHostgg := He.eqO_ok x_XBadHostgg
  have y_XBadHostkC := x_XBadHostkC
  clear x_XBadTexthC x_XBadTextha x_XBadTexthm x_XBadTextnxline x_XBadHosta x_XBadHostL x_XBadHostsa x_XBadHostga x_XBadHostgg x_XBadHostkC zz
  obtain ⟨x_XBadHosteC, zz⟩ := He.ba (S.f 13 (f := hg_13))
  obtain ⟨x_XBadHosthC, zz⟩ := He.ba (zz)
  obtain ⟨x_XBadHostha, zz⟩ := He.ba (zz)
  obtain ⟨x_XBadHosthm, zz⟩ := He.ba (zz)
  obtain ⟨x_XBadHostnxgiven, zz⟩ := He.ba (zz)
  obtain ⟨x_XBadValuea, zz⟩ := He.ba (zz)
  obtain ⟨x_XBadValueL, zz⟩ := He.ba (zz)
  obtain ⟨x_XBadValuesa, zz⟩ := He.ba (zz)
  obtain ⟨x_XBadValuega, zz⟩ := He.ba (zz)
  have x_XBadValuegg := zz
  have y_XBadHosteC := of_decide_eq_true x_XBadHosteC
  have y_XBadHosthC := x_XBadHosthC
  have y_XBadHostha := He.eqO_ok x_XBadHostha
  have y_XBadHosthm := of_decide_eq_true x_XBadHosthm
  have y_XBadHostnxgiven := He.eqO_ok x_XBadHostnxgiven
  have y_XBadValuea := He.eqO_ok x_XBadValuea
  have y_XBadValueL := Hk.xcB_ok x_XBadValueL
  have y_XBadValuesa := He.eqO_ok x_XBadValuesa
  have y_XBadValuega := He.eqO_ok x_XBadValuega
  have y_XBadValuegg := He.eqO_ok x_XBadValuegg
  clear x_XBadHosteC x_XBadHosthC x_XBadHostha x_XBadHosthm x_XBadHostnxgiven x_XBadValuea x_XBadValueL x_XBadValuesa x_XBadValuega x_XBadValuegg zz
  obtain ⟨x_XBadValuekC, zz⟩ := He.ba (S.f 14 (f := hg_14))
  obtain ⟨x_XBadValueeC, zz⟩ := He.ba (zz)
  obtain ⟨x_XBadValuehC, zz⟩ := He.ba (zz)
  obtain ⟨x_XBadValueha, zz⟩ := He.ba (zz)
  obtain ⟨x_XBadValuehm, zz⟩ := He.ba (zz)
  obtain ⟨x_XBadValuenxattribute, zz⟩ := He.ba (zz)
  obtain ⟨x_XBadValuenxitem, zz⟩ := He.ba (zz)
  obtain ⟨x_XUnknownAttributea, zz⟩ := He.ba (zz)
  obtain ⟨x_XUnknownAttributeL, zz⟩ := He.ba (zz)
  have x_XUnknownAttributesa := zz
  have y_XBadValuekC := x_XBadValuekC
  have y_XBadValueeC := of_decide_eq_true x_XBadValueeC
  have y_XBadValuehC := x_XBadValuehC
  have y_XBadValueha := He.eqO_ok x_XBadValueha
  have y_XBadValuehm := of_decide_eq_true x_XBadValuehm
  have y_XBadValuenxattribute := He.eqO_ok x_XBadValuenxattribute
  have y_XBadValuenxitem := He.eqO_ok x_XBadValuenxitem
  have y_XUnknownAttributea := He.eqO_ok x_XUnknownAttributea
  have y_XUnknownAttributeL := Hk.xcB_ok x_XUnknownAttributeL
  have y_XUnknownAttributesa := He.eqO_ok x_XUnknownAttributesa
  clear x_XBadValuekC x_XBadValueeC x_XBadValuehC x_XBadValueha x_XBadValuehm x_XBadValuenxattribute x_XBadValuenxitem x_XUnknownAttributea x_XUnknownAttributeL x_XUnknownAttributesa zz
  obtain ⟨x_XUnknownAttributega, zz⟩ := He.ba (S.f 15 (f := hg_15))
  obtain ⟨x_XUnknownAttributegg, zz⟩ := He.ba (zz)
  obtain ⟨x_XUnknownAttributekC, zz⟩ := He.ba (zz)
  obtain ⟨x_XUnknownAttributeeC, zz⟩ := He.ba (zz)
  obtain ⟨x_XUnknownAttributehC, zz⟩ := He.ba (zz)
  obtain ⟨x_XUnknownAttributeha, zz⟩ := He.ba (zz)
  obtain ⟨x_XUnknownAttributehm, zz⟩ := He.ba (zz)
  obtain ⟨x_XUnknownAttributenxattribute, zz⟩ := He.ba (zz)
  obtain ⟨x_XMirrorGivena, zz⟩ := He.ba (zz)
  have x_XMirrorGivenL := zz
  have y_XUnknownAttributega := He.eqO_ok x_XUnknownAttributega
  have y_XUnknownAttributegg := He.eqO_ok x_XUnknownAttributegg
  have y_XUnknownAttributekC := x_XUnknownAttributekC
  have y_XUnknownAttributeeC := of_decide_eq_true x_XUnknownAttributeeC
  have y_XUnknownAttributehC := x_XUnknownAttributehC
  have y_XUnknownAttributeha := He.eqO_ok x_XUnknownAttributeha
  have y_XUnknownAttributehm := of_decide_eq_true x_XUnknownAttributehm
  have y_XUnknownAttributenxattribute := He.eqO_ok x_XUnknownAttributenxattribute
  have y_XMirrorGivena := He.eqO_ok x_XMirrorGivena
  have y_XMirrorGivenL := Hk.xcB_ok x_XMirrorGivenL
  clear x_XUnknownAttributega x_XUnknownAttributegg x_XUnknownAttributekC x_XUnknownAttributeeC x_XUnknownAttributehC x_XUnknownAttributeha x_XUnknownAttributehm x_XUnknownAttributenxattribute x_XMirrorGivena x_XMirrorGivenL zz
  obtain ⟨x_XMirrorGivensa, zz⟩ := He.ba (S.f 16 (f := hg_16))
  obtain ⟨x_XMirrorGivenga, zz⟩ := He.ba (zz)
  obtain ⟨x_XMirrorGivengg, zz⟩ := He.ba (zz)
  obtain ⟨x_XMirrorGivenkC, zz⟩ := He.ba (zz)
  obtain ⟨x_XMirrorGiveneC, zz⟩ := He.ba (zz)
  obtain ⟨x_XMirrorGivenhC, zz⟩ := He.ba (zz)
  obtain ⟨x_XMirrorGivenha, zz⟩ := He.ba (zz)
  obtain ⟨x_XMirrorGivenhm, zz⟩ := He.ba (zz)
  obtain ⟨x_XMirrorGivennxattribute, zz⟩ := He.ba (zz)
  have x_XUnknownClassa := zz
  have y_XMirrorGivensa := He.eqO_ok x_XMirrorGivensa
  have y_XMirrorGivenga := He.eqO_ok x_XMirrorGivenga
  have y_XMirrorGivengg := He.eqO_ok x_XMirrorGivengg
  have y_XMirrorGivenkC := x_XMirrorGivenkC
  have y_XMirrorGiveneC := of_decide_eq_true x_XMirrorGiveneC
  have y_XMirrorGivenhC := x_XMirrorGivenhC
  have y_XMirrorGivenha := He.eqO_ok x_XMirrorGivenha
  have y_XMirrorGivenhm := of_decide_eq_true x_XMirrorGivenhm
  have y_XMirrorGivennxattribute := He.eqO_ok x_XMirrorGivennxattribute
  have y_XUnknownClassa := He.eqO_ok x_XUnknownClassa
  clear x_XMirrorGivensa x_XMirrorGivenga x_XMirrorGivengg x_XMirrorGivenkC x_XMirrorGiveneC x_XMirrorGivenhC x_XMirrorGivenha x_XMirrorGivenhm x_XMirrorGivennxattribute x_XUnknownClassa zz
  obtain ⟨x_XUnknownClassL, zz⟩ := He.ba (S.f 17 (f := hg_17))
  obtain ⟨x_XUnknownClasssa, zz⟩ := He.ba (zz)
  obtain ⟨x_XUnknownClassga, zz⟩ := He.ba (zz)
  obtain ⟨x_XUnknownClassgg, zz⟩ := He.ba (zz)
  obtain ⟨x_XUnknownClasskC, zz⟩ := He.ba (zz)
  obtain ⟨x_XUnknownClasseC, zz⟩ := He.ba (zz)
  obtain ⟨x_XUnknownClasshC, zz⟩ := He.ba (zz)
  obtain ⟨x_XUnknownClassha, zz⟩ := He.ba (zz)
  obtain ⟨x_XUnknownClasshm, zz⟩ := He.ba (zz)
  have x_XUnknownClassnxgiven := zz
  have y_XUnknownClassL := Hk.xcB_ok x_XUnknownClassL
  have y_XUnknownClasssa := He.eqO_ok x_XUnknownClasssa
  have y_XUnknownClassga := He.eqO_ok x_XUnknownClassga
  have y_XUnknownClassgg := He.eqO_ok x_XUnknownClassgg
  have y_XUnknownClasskC := x_XUnknownClasskC
  have y_XUnknownClasseC := of_decide_eq_true x_XUnknownClasseC
  have y_XUnknownClasshC := x_XUnknownClasshC
  have y_XUnknownClassha := He.eqO_ok x_XUnknownClassha
  have y_XUnknownClasshm := of_decide_eq_true x_XUnknownClasshm
  have y_XUnknownClassnxgiven := He.eqO_ok x_XUnknownClassnxgiven
  clear x_XUnknownClassL x_XUnknownClasssa x_XUnknownClassga x_XUnknownClassgg x_XUnknownClasskC x_XUnknownClasseC x_XUnknownClasshC x_XUnknownClassha x_XUnknownClasshm x_XUnknownClassnxgiven zz
  obtain ⟨x_XBadClassesa, zz⟩ := He.ba (S.f 18 (f := hg_18))
  obtain ⟨x_XBadClassesL, zz⟩ := He.ba (zz)
  obtain ⟨x_XBadClassessa, zz⟩ := He.ba (zz)
  obtain ⟨x_XBadClassesga, zz⟩ := He.ba (zz)
  obtain ⟨x_XBadClassesgg, zz⟩ := He.ba (zz)
  obtain ⟨x_XBadClasseskC, zz⟩ := He.ba (zz)
  obtain ⟨x_XBadClasseseC, zz⟩ := He.ba (zz)
  obtain ⟨x_XBadClasseshC, zz⟩ := He.ba (zz)
  obtain ⟨x_XBadClassesha, zz⟩ := He.ba (zz)
  have x_XBadClasseshm := zz
  have y_XBadClassesa := He.eqO_ok x_XBadClassesa
  have y_XBadClassesL := Hk.xcB_ok x_XBadClassesL
  have y_XBadClassessa := He.eqO_ok x_XBadClassessa
  have y_XBadClassesga := He.eqO_ok x_XBadClassesga
  have y_XBadClassesgg := He.eqO_ok x_XBadClassesgg
  have y_XBadClasseskC := x_XBadClasseskC
  have y_XBadClasseseC := of_decide_eq_true x_XBadClasseseC
  have y_XBadClasseshC := x_XBadClasseshC
  have y_XBadClassesha := He.eqO_ok x_XBadClassesha
  have y_XBadClasseshm := of_decide_eq_true x_XBadClasseshm
  clear x_XBadClassesa x_XBadClassesL x_XBadClassessa x_XBadClassesga x_XBadClassesgg x_XBadClasseskC x_XBadClasseseC x_XBadClasseshC x_XBadClassesha x_XBadClasseshm zz
  obtain ⟨x_XBadClassesi0, zz⟩ := He.ba (S.f 19 (f := hg_19))
  obtain ⟨x_XNotAlloweda, zz⟩ := He.ba (zz)
  obtain ⟨x_XNotAllowedL, zz⟩ := He.ba (zz)
  obtain ⟨x_XNotAllowedsa, zz⟩ := He.ba (zz)
  obtain ⟨x_XNotAllowedga, zz⟩ := He.ba (zz)
  obtain ⟨x_XNotAllowedgg, zz⟩ := He.ba (zz)
  obtain ⟨x_XNotAllowedkC, zz⟩ := He.ba (zz)
  obtain ⟨x_XNotAllowedeC, zz⟩ := He.ba (zz)
  obtain ⟨x_XNotAllowedhC, zz⟩ := He.ba (zz)
  have x_XNotAllowedha := zz
  have y_XBadClassesi0 := He.eqO_ok x_XBadClassesi0
  have y_XNotAlloweda := He.eqO_ok x_XNotAlloweda
  have y_XNotAllowedL := Hk.xcB_ok x_XNotAllowedL
  have y_XNotAllowedsa := He.eqO_ok x_XNotAllowedsa
  have y_XNotAllowedga := He.eqO_ok x_XNotAllowedga
  have y_XNotAllowedgg := He.eqO_ok x_XNotAllowedgg
  have y_XNotAllowedkC := x_XNotAllowedkC
  have y_XNotAllowedeC := of_decide_eq_true x_XNotAllowedeC
  have y_XNotAllowedhC := x_XNotAllowedhC
  have y_XNotAllowedha := He.eqO_ok x_XNotAllowedha
  clear x_XBadClassesi0 x_XNotAlloweda x_XNotAllowedL x_XNotAllowedsa x_XNotAllowedga x_XNotAllowedgg x_XNotAllowedkC x_XNotAllowedeC x_XNotAllowedhC x_XNotAllowedha zz
  obtain ⟨x_XNotAllowedhm, zz⟩ := He.ba (S.f 20 (f := hg_20))
  obtain ⟨x_XNotAllowednxattribute, zz⟩ := He.ba (zz)
  obtain ⟨x_XMissinga, zz⟩ := He.ba (zz)
  obtain ⟨x_XMissingL, zz⟩ := He.ba (zz)
  obtain ⟨x_XMissingsa, zz⟩ := He.ba (zz)
  obtain ⟨x_XMissingga, zz⟩ := He.ba (zz)
  obtain ⟨x_XMissinggg, zz⟩ := He.ba (zz)
  obtain ⟨x_XMissingkC, zz⟩ := He.ba (zz)
  obtain ⟨x_XMissingeC, zz⟩ := He.ba (zz)
  have x_XMissinghC := zz
  have y_XNotAllowedhm := of_decide_eq_true x_XNotAllowedhm
  have y_XNotAllowednxattribute := He.eqO_ok x_XNotAllowednxattribute
  have y_XMissinga := He.eqO_ok x_XMissinga
  have y_XMissingL := Hk.xcB_ok x_XMissingL
  have y_XMissingsa := He.eqO_ok x_XMissingsa
  have y_XMissingga := He.eqO_ok x_XMissingga
  have y_XMissinggg := He.eqO_ok x_XMissinggg
  have y_XMissingkC := x_XMissingkC
  have y_XMissingeC := of_decide_eq_true x_XMissingeC
  have y_XMissinghC := x_XMissinghC
  clear x_XNotAllowedhm x_XNotAllowednxattribute x_XMissinga x_XMissingL x_XMissingsa x_XMissingga x_XMissinggg x_XMissingkC x_XMissingeC x_XMissinghC zz
  obtain ⟨x_XMissingha, zz⟩ := He.ba (S.f 21 (f := hg_21))
  obtain ⟨x_XMissinghm, zz⟩ := He.ba (zz)
  obtain ⟨x_XMissingnxattribute, zz⟩ := He.ba (zz)
  obtain ⟨x_XTooManyValuesa, zz⟩ := He.ba (zz)
  obtain ⟨x_XTooManyValuesL, zz⟩ := He.ba (zz)
  obtain ⟨x_XTooManyValuessa, zz⟩ := He.ba (zz)
  obtain ⟨x_XTooManyValuesga, zz⟩ := He.ba (zz)
  obtain ⟨x_XTooManyValuesgg, zz⟩ := He.ba (zz)
  obtain ⟨x_XTooManyValueskC, zz⟩ := He.ba (zz)
  have x_XTooManyValueseC := zz
  have y_XMissingha := He.eqO_ok x_XMissingha
  have y_XMissinghm := of_decide_eq_true x_XMissinghm
  have y_XMissingnxattribute := He.eqO_ok x_XMissingnxattribute
  have y_XTooManyValuesa := He.eqO_ok x_XTooManyValuesa
  have y_XTooManyValuesL := Hk.xcB_ok x_XTooManyValuesL
  have y_XTooManyValuessa := He.eqO_ok x_XTooManyValuessa
  have y_XTooManyValuesga := He.eqO_ok x_XTooManyValuesga
  have y_XTooManyValuesgg := He.eqO_ok x_XTooManyValuesgg
  have y_XTooManyValueskC := x_XTooManyValueskC
  have y_XTooManyValueseC := of_decide_eq_true x_XTooManyValueseC
  clear x_XMissingha x_XMissinghm x_XMissingnxattribute x_XTooManyValuesa x_XTooManyValuesL x_XTooManyValuessa x_XTooManyValuesga x_XTooManyValuesgg x_XTooManyValueskC x_XTooManyValueseC zz
  obtain ⟨x_XTooManyValueshC, zz⟩ := He.ba (S.f 22 (f := hg_22))
  obtain ⟨x_XTooManyValuesha, zz⟩ := He.ba (zz)
  obtain ⟨x_XTooManyValueshm, zz⟩ := He.ba (zz)
  obtain ⟨x_XTooManyValuesnxattribute, zz⟩ := He.ba (zz)
  obtain ⟨x_XValueTakena, zz⟩ := He.ba (zz)
  obtain ⟨x_XValueTakenL, zz⟩ := He.ba (zz)
  obtain ⟨x_XValueTakensa, zz⟩ := He.ba (zz)
  obtain ⟨x_XValueTakenga, zz⟩ := He.ba (zz)
  obtain ⟨x_XValueTakengg, zz⟩ := He.ba (zz)
  have x_XValueTakenkC := zz
  have y_XTooManyValueshC := x_XTooManyValueshC
  have y_XTooManyValuesha := He.eqO_ok x_XTooManyValuesha
  have y_XTooManyValueshm := of_decide_eq_true x_XTooManyValueshm
  have y_XTooManyValuesnxattribute := He.eqO_ok x_XTooManyValuesnxattribute
  have y_XValueTakena := He.eqO_ok x_XValueTakena
  have y_XValueTakenL := Hk.xcB_ok x_XValueTakenL
  have y_XValueTakensa := He.eqO_ok x_XValueTakensa
  have y_XValueTakenga := He.eqO_ok x_XValueTakenga
  have y_XValueTakengg := He.eqO_ok x_XValueTakengg
  have y_XValueTakenkC := x_XValueTakenkC
  clear x_XTooManyValueshC x_XTooManyValuesha x_XTooManyValueshm x_XTooManyValuesnxattribute x_XValueTakena x_XValueTakenL x_XValueTakensa x_XValueTakenga x_XValueTakengg x_XValueTakenkC zz
  obtain ⟨x_XValueTakeneC, zz⟩ := He.ba (S.f 23 (f := hg_23))
  obtain ⟨x_XValueTakenhC, zz⟩ := He.ba (zz)
  obtain ⟨x_XValueTakenha, zz⟩ := He.ba (zz)
  obtain ⟨x_XValueTakenhm, zz⟩ := He.ba (zz)
  obtain ⟨x_XValueTakennxattribute, zz⟩ := He.ba (zz)
  obtain ⟨x_XValueTakennxitem, zz⟩ := He.ba (zz)
  obtain ⟨x_XNotNameda, zz⟩ := He.ba (zz)
  obtain ⟨x_XNotNamedL, zz⟩ := He.ba (zz)
  obtain ⟨x_XNotNamedsa, zz⟩ := He.ba (zz)
  have x_XNotNamedga := zz
  have y_XValueTakeneC := of_decide_eq_true x_XValueTakeneC
  have y_XValueTakenhC := x_XValueTakenhC
  have y_XValueTakenha := He.eqO_ok x_XValueTakenha
  have y_XValueTakenhm := of_decide_eq_true x_XValueTakenhm
  have y_XValueTakennxattribute := He.eqO_ok x_XValueTakennxattribute
  have y_XValueTakennxitem := He.eqO_ok x_XValueTakennxitem
  have y_XNotNameda := He.eqO_ok x_XNotNameda
  have y_XNotNamedL := Hk.xcB_ok x_XNotNamedL
  have y_XNotNamedsa := He.eqO_ok x_XNotNamedsa
  have y_XNotNamedga := He.eqO_ok x_XNotNamedga
  clear x_XValueTakeneC x_XValueTakenhC x_XValueTakenha x_XValueTakenhm x_XValueTakennxattribute x_XValueTakennxitem x_XNotNameda x_XNotNamedL x_XNotNamedsa x_XNotNamedga zz
  obtain ⟨x_XNotNamedgg, zz⟩ := He.ba (S.f 24 (f := hg_24))
  obtain ⟨x_XNotNamedkC, zz⟩ := He.ba (zz)
  obtain ⟨x_XNotNamedeC, zz⟩ := He.ba (zz)
  obtain ⟨x_XNotNamedhC, zz⟩ := He.ba (zz)
  obtain ⟨x_XNotNamedha, zz⟩ := He.ba (zz)
  obtain ⟨x_XNotNamedhm, zz⟩ := He.ba (zz)
  obtain ⟨x_XNotNamednxattribute, zz⟩ := He.ba (zz)
  obtain ⟨x_XBadPlacea, zz⟩ := He.ba (zz)
  obtain ⟨x_XBadPlaceL, zz⟩ := He.ba (zz)
  have x_XBadPlacesa := zz
  have y_XNotNamedgg := He.eqO_ok x_XNotNamedgg
  have y_XNotNamedkC := x_XNotNamedkC
  have y_XNotNamedeC := of_decide_eq_true x_XNotNamedeC
  have y_XNotNamedhC := x_XNotNamedhC
  have y_XNotNamedha := He.eqO_ok x_XNotNamedha
  have y_XNotNamedhm := of_decide_eq_true x_XNotNamedhm
  have y_XNotNamednxattribute := He.eqO_ok x_XNotNamednxattribute
  have y_XBadPlacea := He.eqO_ok x_XBadPlacea
  have y_XBadPlaceL := Hk.xcB_ok x_XBadPlaceL
  have y_XBadPlacesa := He.eqO_ok x_XBadPlacesa
  clear x_XNotNamedgg x_XNotNamedkC x_XNotNamedeC x_XNotNamedhC x_XNotNamedha x_XNotNamedhm x_XNotNamednxattribute x_XBadPlacea x_XBadPlaceL x_XBadPlacesa zz
  obtain ⟨x_XBadPlacega, zz⟩ := He.ba (S.f 25 (f := hg_25))
  obtain ⟨x_XBadPlacegg, zz⟩ := He.ba (zz)
  obtain ⟨x_XBadPlacekC, zz⟩ := He.ba (zz)
  obtain ⟨x_XBadPlaceeC, zz⟩ := He.ba (zz)
  obtain ⟨x_XBadPlacehC, zz⟩ := He.ba (zz)
  obtain ⟨x_XBadPlaceha, zz⟩ := He.ba (zz)
  obtain ⟨x_XBadPlacehm, zz⟩ := He.ba (zz)
  obtain ⟨x_XBadPlacenxgiven, zz⟩ := He.ba (zz)
  obtain ⟨x_XNoTargeta, zz⟩ := He.ba (zz)
  have x_XNoTargetL := zz
  have y_XBadPlacega := He.eqO_ok x_XBadPlacega
  have y_XBadPlacegg := He.eqO_ok x_XBadPlacegg
  have y_XBadPlacekC := x_XBadPlacekC
  have y_XBadPlaceeC := of_decide_eq_true x_XBadPlaceeC
  have y_XBadPlacehC := x_XBadPlacehC
  have y_XBadPlaceha := He.eqO_ok x_XBadPlaceha
  have y_XBadPlacehm := of_decide_eq_true x_XBadPlacehm
  have y_XBadPlacenxgiven := He.eqO_ok x_XBadPlacenxgiven
  have y_XNoTargeta := He.eqO_ok x_XNoTargeta
  have y_XNoTargetL := Hk.xcB_ok x_XNoTargetL
  clear x_XBadPlacega x_XBadPlacegg x_XBadPlacekC x_XBadPlaceeC x_XBadPlacehC x_XBadPlaceha x_XBadPlacehm x_XBadPlacenxgiven x_XNoTargeta x_XNoTargetL zz
  obtain ⟨x_XNoTargetsa, zz⟩ := He.ba (S.f 26 (f := hg_26))
  obtain ⟨x_XNoTargetga, zz⟩ := He.ba (zz)
  obtain ⟨x_XNoTargetgg, zz⟩ := He.ba (zz)
  obtain ⟨x_XNoTargetkC, zz⟩ := He.ba (zz)
  obtain ⟨x_XNoTargeteC, zz⟩ := He.ba (zz)
  obtain ⟨x_XNoTargethC, zz⟩ := He.ba (zz)
  obtain ⟨x_XNoTargetha, zz⟩ := He.ba (zz)
  obtain ⟨x_XNoTargethm, zz⟩ := He.ba (zz)
  obtain ⟨x_XNoTargetnxattribute, zz⟩ := He.ba (zz)
  have x_XNoTargetnxitem := zz
  have y_XNoTargetsa := He.eqO_ok x_XNoTargetsa
  have y_XNoTargetga := He.eqO_ok x_XNoTargetga
  have y_XNoTargetgg := He.eqO_ok x_XNoTargetgg
  have y_XNoTargetkC := x_XNoTargetkC
  have y_XNoTargeteC := of_decide_eq_true x_XNoTargeteC
  have y_XNoTargethC := x_XNoTargethC
  have y_XNoTargetha := He.eqO_ok x_XNoTargetha
  have y_XNoTargethm := of_decide_eq_true x_XNoTargethm
  have y_XNoTargetnxattribute := He.eqO_ok x_XNoTargetnxattribute
  have y_XNoTargetnxitem := He.eqO_ok x_XNoTargetnxitem
  clear x_XNoTargetsa x_XNoTargetga x_XNoTargetgg x_XNoTargetkC x_XNoTargeteC x_XNoTargethC x_XNoTargetha x_XNoTargethm x_XNoTargetnxattribute x_XNoTargetnxitem zz
  obtain ⟨x_XNotIntegera, zz⟩ := He.ba (S.f 27 (f := hg_27))
  obtain ⟨x_XNotIntegerL, zz⟩ := He.ba (zz)
  obtain ⟨x_XNotIntegersa, zz⟩ := He.ba (zz)
  obtain ⟨x_XNotIntegerga, zz⟩ := He.ba (zz)
  obtain ⟨x_XNotIntegergg, zz⟩ := He.ba (zz)
  obtain ⟨x_XNotIntegerkC, zz⟩ := He.ba (zz)
  obtain ⟨x_XNotIntegereC, zz⟩ := He.ba (zz)
  obtain ⟨x_XNotIntegerhC, zz⟩ := He.ba (zz)
  obtain ⟨x_XNotIntegerha, zz⟩ := He.ba (zz)
  have x_XNotIntegerhm := zz
  have y_XNotIntegera := He.eqO_ok x_XNotIntegera
  have y_XNotIntegerL := Hk.xcB_ok x_XNotIntegerL
  have y_XNotIntegersa := He.eqO_ok x_XNotIntegersa
  have y_XNotIntegerga := He.eqO_ok x_XNotIntegerga
  have y_XNotIntegergg := He.eqO_ok x_XNotIntegergg
  have y_XNotIntegerkC := x_XNotIntegerkC
  have y_XNotIntegereC := of_decide_eq_true x_XNotIntegereC
  have y_XNotIntegerhC := x_XNotIntegerhC
  have y_XNotIntegerha := He.eqO_ok x_XNotIntegerha
  have y_XNotIntegerhm := of_decide_eq_true x_XNotIntegerhm
  clear x_XNotIntegera x_XNotIntegerL x_XNotIntegersa x_XNotIntegerga x_XNotIntegergg x_XNotIntegerkC x_XNotIntegereC x_XNotIntegerhC x_XNotIntegerha x_XNotIntegerhm zz
  obtain ⟨x_XNotIntegernxattribute, zz⟩ := He.ba (S.f 28 (f := hg_28))
  obtain ⟨x_XNoOrdera, zz⟩ := He.ba (zz)
  obtain ⟨x_XNoOrderL, zz⟩ := He.ba (zz)
  obtain ⟨x_XNoOrdersa, zz⟩ := He.ba (zz)
  obtain ⟨x_XNoOrderga, zz⟩ := He.ba (zz)
  obtain ⟨x_XNoOrdergg, zz⟩ := He.ba (zz)
  obtain ⟨x_XNoOrderkC, zz⟩ := He.ba (zz)
  obtain ⟨x_XNoOrdereC, zz⟩ := He.ba (zz)
  obtain ⟨x_XNoOrderhC, zz⟩ := He.ba (zz)
  have x_XNoOrderha := zz
  have y_XNotIntegernxattribute := He.eqO_ok x_XNotIntegernxattribute
  have y_XNoOrdera := He.eqO_ok x_XNoOrdera
  have y_XNoOrderL := Hk.xcB_ok x_XNoOrderL
  have y_XNoOrdersa := He.eqO_ok x_XNoOrdersa
  have y_XNoOrderga := He.eqO_ok x_XNoOrderga
  have y_XNoOrdergg := He.eqO_ok x_XNoOrdergg
  have y_XNoOrderkC := x_XNoOrderkC
  have y_XNoOrdereC := of_decide_eq_true x_XNoOrdereC
  have y_XNoOrderhC := x_XNoOrderhC
  have y_XNoOrderha := He.eqO_ok x_XNoOrderha
  clear x_XNotIntegernxattribute x_XNoOrdera x_XNoOrderL x_XNoOrdersa x_XNoOrderga x_XNoOrdergg x_XNoOrderkC x_XNoOrdereC x_XNoOrderhC x_XNoOrderha zz
  obtain ⟨x_XNoOrderhm, zz⟩ := He.ba (S.f 29 (f := hg_29))
  obtain ⟨x_XNoOrdernxattribute, zz⟩ := He.ba (zz)
  obtain ⟨x_XNoEntrya, zz⟩ := He.ba (zz)
  obtain ⟨x_XNoEntryL, zz⟩ := He.ba (zz)
  obtain ⟨x_XNoEntrysa, zz⟩ := He.ba (zz)
  obtain ⟨x_XNoEntryga, zz⟩ := He.ba (zz)
  obtain ⟨x_XNoEntrygg, zz⟩ := He.ba (zz)
  obtain ⟨x_XNoEntrykC, zz⟩ := He.ba (zz)
  obtain ⟨x_XNoEntryeC, zz⟩ := He.ba (zz)
  have x_XNoEntryhC := zz
  have y_XNoOrderhm := of_decide_eq_true x_XNoOrderhm
  have y_XNoOrdernxattribute := He.eqO_ok x_XNoOrdernxattribute
  have y_XNoEntrya := He.eqO_ok x_XNoEntrya
  have y_XNoEntryL := Hk.xcB_ok x_XNoEntryL
  have y_XNoEntrysa := He.eqO_ok x_XNoEntrysa
  have y_XNoEntryga := He.eqO_ok x_XNoEntryga
  have y_XNoEntrygg := He.eqO_ok x_XNoEntrygg
  have y_XNoEntrykC := x_XNoEntrykC
  have y_XNoEntryeC := of_decide_eq_true x_XNoEntryeC
  have y_XNoEntryhC := x_XNoEntryhC
  clear x_XNoOrderhm x_XNoOrdernxattribute x_XNoEntrya x_XNoEntryL x_XNoEntrysa x_XNoEntryga x_XNoEntrygg x_XNoEntrykC x_XNoEntryeC x_XNoEntryhC zz
  obtain ⟨x_XNoEntryha, zz⟩ := He.ba (S.f 30 (f := hg_30))
  obtain ⟨x_XNoEntryhm, zz⟩ := He.ba (zz)
  obtain ⟨x_XNoEntrynxmissing, zz⟩ := He.ba (zz)
  obtain ⟨x_XNoEntrynxmatched, zz⟩ := He.ba (zz)
  obtain ⟨x_XNameTakena, zz⟩ := He.ba (zz)
  obtain ⟨x_XNameTakenL, zz⟩ := He.ba (zz)
  obtain ⟨x_XNameTakensa, zz⟩ := He.ba (zz)
  obtain ⟨x_XNameTakenga, zz⟩ := He.ba (zz)
  obtain ⟨x_XNameTakengg, zz⟩ := He.ba (zz)
  have x_XNameTakenkC := zz
  have y_XNoEntryha := He.eqO_ok x_XNoEntryha
  have y_XNoEntryhm := of_decide_eq_true x_XNoEntryhm
  have y_XNoEntrynxmissing := He.eqO_ok x_XNoEntrynxmissing
  have y_XNoEntrynxmatched := He.eqO_ok x_XNoEntrynxmatched
  have y_XNameTakena := He.eqO_ok x_XNameTakena
  have y_XNameTakenL := Hk.xcB_ok x_XNameTakenL
  have y_XNameTakensa := He.eqO_ok x_XNameTakensa
  have y_XNameTakenga := He.eqO_ok x_XNameTakenga
  have y_XNameTakengg := He.eqO_ok x_XNameTakengg
  have y_XNameTakenkC := x_XNameTakenkC
  clear x_XNoEntryha x_XNoEntryhm x_XNoEntrynxmissing x_XNoEntrynxmatched x_XNameTakena x_XNameTakenL x_XNameTakensa x_XNameTakenga x_XNameTakengg x_XNameTakenkC zz
  obtain ⟨x_XNameTakeneC, zz⟩ := He.ba (S.f 31 (f := hg_31))
  obtain ⟨x_XNameTakenhC, zz⟩ := He.ba (zz)
  obtain ⟨x_XNameTakenha, zz⟩ := He.ba (zz)
  obtain ⟨x_XNameTakenhm, zz⟩ := He.ba (zz)
  obtain ⟨x_XNameTakennxgiven, zz⟩ := He.ba (zz)
  obtain ⟨x_XHasChildrena, zz⟩ := He.ba (zz)
  obtain ⟨x_XHasChildrenL, zz⟩ := He.ba (zz)
  obtain ⟨x_XHasChildrensa, zz⟩ := He.ba (zz)
  obtain ⟨x_XHasChildrenga, zz⟩ := He.ba (zz)
  have x_XHasChildrengg := zz
  have y_XNameTakeneC := of_decide_eq_true x_XNameTakeneC
  have y_XNameTakenhC := x_XNameTakenhC
  have y_XNameTakenha := He.eqO_ok x_XNameTakenha
  have y_XNameTakenhm := of_decide_eq_true x_XNameTakenhm
  have y_XNameTakennxgiven := He.eqO_ok x_XNameTakennxgiven
  have y_XHasChildrena := He.eqO_ok x_XHasChildrena
  have y_XHasChildrenL := Hk.xcB_ok x_XHasChildrenL
  have y_XHasChildrensa := He.eqO_ok x_XHasChildrensa
  have y_XHasChildrenga := He.eqO_ok x_XHasChildrenga
  have y_XHasChildrengg := He.eqO_ok x_XHasChildrengg
  clear x_XNameTakeneC x_XNameTakenhC x_XNameTakenha x_XNameTakenhm x_XNameTakennxgiven x_XHasChildrena x_XHasChildrenL x_XHasChildrensa x_XHasChildrenga x_XHasChildrengg zz
  obtain ⟨x_XHasChildrenkC, zz⟩ := He.ba (S.f 32 (f := hg_32))
  obtain ⟨x_XHasChildreneC, zz⟩ := He.ba (zz)
  obtain ⟨x_XHasChildrenhC, zz⟩ := He.ba (zz)
  obtain ⟨x_XHasChildrenha, zz⟩ := He.ba (zz)
  obtain ⟨x_XHasChildrenhm, zz⟩ := He.ba (zz)
  obtain ⟨x_XHasChildrennxgiven, zz⟩ := He.ba (zz)
  obtain ⟨x_XInUsea, zz⟩ := He.ba (zz)
  obtain ⟨x_XInUseL, zz⟩ := He.ba (zz)
  obtain ⟨x_XInUsesa, zz⟩ := He.ba (zz)
  have x_XInUsega := zz
  have y_XHasChildrenkC := x_XHasChildrenkC
  have y_XHasChildreneC := of_decide_eq_true x_XHasChildreneC
  have y_XHasChildrenhC := x_XHasChildrenhC
  have y_XHasChildrenha := He.eqO_ok x_XHasChildrenha
  have y_XHasChildrenhm := of_decide_eq_true x_XHasChildrenhm
  have y_XHasChildrennxgiven := He.eqO_ok x_XHasChildrennxgiven
  have y_XInUsea := He.eqO_ok x_XInUsea
  have y_XInUseL := Hk.xcB_ok x_XInUseL
  have y_XInUsesa := He.eqO_ok x_XInUsesa
  have y_XInUsega := He.eqO_ok x_XInUsega
  clear x_XHasChildrenkC x_XHasChildreneC x_XHasChildrenhC x_XHasChildrenha x_XHasChildrenhm x_XHasChildrennxgiven x_XInUsea x_XInUseL x_XInUsesa x_XInUsega zz
  obtain ⟨x_XInUsegg, zz⟩ := He.ba (S.f 33 (f := hg_33))
  obtain ⟨x_XInUsekC, zz⟩ := He.ba (zz)
  obtain ⟨x_XInUseeC, zz⟩ := He.ba (zz)
  obtain ⟨x_XInUsehC, zz⟩ := He.ba (zz)
  obtain ⟨x_XInUseha, zz⟩ := He.ba (zz)
  obtain ⟨x_XInUsehm, zz⟩ := He.ba (zz)
  obtain ⟨x_XInUsenxholder, zz⟩ := He.ba (zz)
  obtain ⟨x_XInsidea, zz⟩ := He.ba (zz)
  obtain ⟨x_XInsideL, zz⟩ := He.ba (zz)
  have x_XInsidesa := zz
  have y_XInUsegg := He.eqO_ok x_XInUsegg
  have y_XInUsekC := x_XInUsekC
  have y_XInUseeC := of_decide_eq_true x_XInUseeC
  have y_XInUsehC := x_XInUsehC
  have y_XInUseha := He.eqO_ok x_XInUseha
  have y_XInUsehm := of_decide_eq_true x_XInUsehm
  have y_XInUsenxholder := He.eqO_ok x_XInUsenxholder
  have y_XInsidea := He.eqO_ok x_XInsidea
  have y_XInsideL := Hk.xcB_ok x_XInsideL
  have y_XInsidesa := He.eqO_ok x_XInsidesa
  clear x_XInUsegg x_XInUsekC x_XInUseeC x_XInUsehC x_XInUseha x_XInUsehm x_XInUsenxholder x_XInsidea x_XInsideL x_XInsidesa zz
  obtain ⟨x_XInsidega, zz⟩ := He.ba (S.f 34 (f := hg_34))
  obtain ⟨x_XInsidegg, zz⟩ := He.ba (zz)
  obtain ⟨x_XInsidekC, zz⟩ := He.ba (zz)
  obtain ⟨x_XInsideeC, zz⟩ := He.ba (zz)
  obtain ⟨x_XInsidehC, zz⟩ := He.ba (zz)
  obtain ⟨x_XInsideha, zz⟩ := He.ba (zz)
  obtain ⟨x_XInsidehm, zz⟩ := He.ba (zz)
  obtain ⟨x_XInsidenxgiven, zz⟩ := He.ba (zz)
  obtain ⟨x_XNoValuea, zz⟩ := He.ba (zz)
  have x_XNoValueL := zz
  have y_XInsidega := He.eqO_ok x_XInsidega
  have y_XInsidegg := He.eqO_ok x_XInsidegg
  have y_XInsidekC := x_XInsidekC
  have y_XInsideeC := of_decide_eq_true x_XInsideeC
  have y_XInsidehC := x_XInsidehC
  have y_XInsideha := He.eqO_ok x_XInsideha
  have y_XInsidehm := of_decide_eq_true x_XInsidehm
  have y_XInsidenxgiven := He.eqO_ok x_XInsidenxgiven
  have y_XNoValuea := He.eqO_ok x_XNoValuea
  have y_XNoValueL := Hk.xcB_ok x_XNoValueL
  clear x_XInsidega x_XInsidegg x_XInsidekC x_XInsideeC x_XInsidehC x_XInsideha x_XInsidehm x_XInsidenxgiven x_XNoValuea x_XNoValueL zz
  obtain ⟨x_XNoValuesa, zz⟩ := He.ba (S.f 35 (f := hg_35))
  obtain ⟨x_XNoValuega, zz⟩ := He.ba (zz)
  obtain ⟨x_XNoValuegg, zz⟩ := He.ba (zz)
  obtain ⟨x_XNoValuekC, zz⟩ := He.ba (zz)
  obtain ⟨x_XNoValueeC, zz⟩ := He.ba (zz)
  obtain ⟨x_XNoValuehC, zz⟩ := He.ba (zz)
  obtain ⟨x_XNoValueha, zz⟩ := He.ba (zz)
  obtain ⟨x_XNoValuehm, zz⟩ := He.ba (zz)
  obtain ⟨x_XNoValuenxattribute, zz⟩ := He.ba (zz)
  have x_XNoValuenxitem := zz
  have y_XNoValuesa := He.eqO_ok x_XNoValuesa
  have y_XNoValuega := He.eqO_ok x_XNoValuega
  have y_XNoValuegg := He.eqO_ok x_XNoValuegg
  have y_XNoValuekC := x_XNoValuekC
  have y_XNoValueeC := of_decide_eq_true x_XNoValueeC
  have y_XNoValuehC := x_XNoValuehC
  have y_XNoValueha := He.eqO_ok x_XNoValueha
  have y_XNoValuehm := of_decide_eq_true x_XNoValuehm
  have y_XNoValuenxattribute := He.eqO_ok x_XNoValuenxattribute
  have y_XNoValuenxitem := He.eqO_ok x_XNoValuenxitem
  clear x_XNoValuesa x_XNoValuega x_XNoValuegg x_XNoValuekC x_XNoValueeC x_XNoValuehC x_XNoValueha x_XNoValuehm x_XNoValuenxattribute x_XNoValuenxitem zz
  obtain ⟨x_XReferrala, zz⟩ := He.ba (S.f 36 (f := hg_36))
  obtain ⟨x_XReferralL, zz⟩ := He.ba (zz)
  obtain ⟨x_XReferralsa, zz⟩ := He.ba (zz)
  obtain ⟨x_XReferralga, zz⟩ := He.ba (zz)
  obtain ⟨x_XReferralgg, zz⟩ := He.ba (zz)
  obtain ⟨x_XReferralkC, zz⟩ := He.ba (zz)
  obtain ⟨x_XReferraleC, zz⟩ := He.ba (zz)
  obtain ⟨x_XReferralhC, zz⟩ := He.ba (zz)
  obtain ⟨x_XReferralha, zz⟩ := He.ba (zz)
  have x_XReferralhm := zz
  have y_XReferrala := He.eqO_ok x_XReferrala
  have y_XReferralL := Hk.xcB_ok x_XReferralL
  have y_XReferralsa := He.eqO_ok x_XReferralsa
  have y_XReferralga := He.eqO_ok x_XReferralga
  have y_XReferralgg := He.eqO_ok x_XReferralgg
  have y_XReferralkC := x_XReferralkC
  have y_XReferraleC := of_decide_eq_true x_XReferraleC
  have y_XReferralhC := x_XReferralhC
  have y_XReferralha := He.eqO_ok x_XReferralha
  have y_XReferralhm := of_decide_eq_true x_XReferralhm
  clear x_XReferrala x_XReferralL x_XReferralsa x_XReferralga x_XReferralgg x_XReferralkC x_XReferraleC x_XReferralhC x_XReferralha x_XReferralhm zz
  obtain ⟨x_XReferralnxtargets, zz⟩ := He.ba (S.f 37 (f := hg_37))
  obtain ⟨x_XIndexTakena, zz⟩ := He.ba (zz)
  obtain ⟨x_XIndexTakenL, zz⟩ := He.ba (zz)
  obtain ⟨x_XIndexTakensa, zz⟩ := He.ba (zz)
  obtain ⟨x_XIndexTakenga, zz⟩ := He.ba (zz)
  obtain ⟨x_XIndexTakengg, zz⟩ := He.ba (zz)
  obtain ⟨x_XIndexTakenkC, zz⟩ := He.ba (zz)
  obtain ⟨x_XIndexTakeneC, zz⟩ := He.ba (zz)
  obtain ⟨x_XIndexTakenhC, zz⟩ := He.ba (zz)
  have x_XIndexTakenha := zz
  have y_XReferralnxtargets := He.eqO_ok x_XReferralnxtargets
  have y_XIndexTakena := He.eqO_ok x_XIndexTakena
  have y_XIndexTakenL := Hk.xcB_ok x_XIndexTakenL
  have y_XIndexTakensa := He.eqO_ok x_XIndexTakensa
  have y_XIndexTakenga := He.eqO_ok x_XIndexTakenga
  have y_XIndexTakengg := He.eqO_ok x_XIndexTakengg
  have y_XIndexTakenkC := x_XIndexTakenkC
  have y_XIndexTakeneC := of_decide_eq_true x_XIndexTakeneC
  have y_XIndexTakenhC := x_XIndexTakenhC
  have y_XIndexTakenha := He.eqO_ok x_XIndexTakenha
  clear x_XReferralnxtargets x_XIndexTakena x_XIndexTakenL x_XIndexTakensa x_XIndexTakenga x_XIndexTakengg x_XIndexTakenkC x_XIndexTakeneC x_XIndexTakenhC x_XIndexTakenha zz
  obtain ⟨x_XIndexTakenhm, zz⟩ := He.ba (S.f 38 (f := hg_38))
  obtain ⟨x_XIndexTakennxgiven, zz⟩ := He.ba (zz)
  obtain ⟨x_XNoIndexa, zz⟩ := He.ba (zz)
  obtain ⟨x_XNoIndexL, zz⟩ := He.ba (zz)
  obtain ⟨x_XNoIndexsa, zz⟩ := He.ba (zz)
  obtain ⟨x_XNoIndexga, zz⟩ := He.ba (zz)
  obtain ⟨x_XNoIndexgg, zz⟩ := He.ba (zz)
  obtain ⟨x_XNoIndexkC, zz⟩ := He.ba (zz)
  obtain ⟨x_XNoIndexeC, zz⟩ := He.ba (zz)
  have x_XNoIndexhC := zz
  have y_XIndexTakenhm := of_decide_eq_true x_XIndexTakenhm
  have y_XIndexTakennxgiven := He.eqO_ok x_XIndexTakennxgiven
  have y_XNoIndexa := He.eqO_ok x_XNoIndexa
  have y_XNoIndexL := Hk.xcB_ok x_XNoIndexL
  have y_XNoIndexsa := He.eqO_ok x_XNoIndexsa
  have y_XNoIndexga := He.eqO_ok x_XNoIndexga
  have y_XNoIndexgg := He.eqO_ok x_XNoIndexgg
  have y_XNoIndexkC := x_XNoIndexkC
  have y_XNoIndexeC := of_decide_eq_true x_XNoIndexeC
  have y_XNoIndexhC := x_XNoIndexhC
  clear x_XIndexTakenhm x_XIndexTakennxgiven x_XNoIndexa x_XNoIndexL x_XNoIndexsa x_XNoIndexga x_XNoIndexgg x_XNoIndexkC x_XNoIndexeC x_XNoIndexhC zz
  obtain ⟨x_XNoIndexha, zz⟩ := He.ba (S.f 39 (f := hg_39))
  obtain ⟨x_XNoIndexhm, zz⟩ := He.ba (zz)
  obtain ⟨x_XNoIndexnxgiven, zz⟩ := He.ba (zz)
  obtain ⟨x_XNothingToUndoa, zz⟩ := He.ba (zz)
  obtain ⟨x_XNothingToUndoL, zz⟩ := He.ba (zz)
  obtain ⟨x_XNothingToUndosa, zz⟩ := He.ba (zz)
  obtain ⟨x_XNothingToUndoga, zz⟩ := He.ba (zz)
  obtain ⟨x_XNothingToUndogg, zz⟩ := He.ba (zz)
  obtain ⟨x_XNothingToUndokC, zz⟩ := He.ba (zz)
  have x_XNothingToUndoeC := zz
  have y_XNoIndexha := He.eqO_ok x_XNoIndexha
  have y_XNoIndexhm := of_decide_eq_true x_XNoIndexhm
  have y_XNoIndexnxgiven := He.eqO_ok x_XNoIndexnxgiven
  have y_XNothingToUndoa := He.eqO_ok x_XNothingToUndoa
  have y_XNothingToUndoL := Hk.xcB_ok x_XNothingToUndoL
  have y_XNothingToUndosa := He.eqO_ok x_XNothingToUndosa
  have y_XNothingToUndoga := He.eqO_ok x_XNothingToUndoga
  have y_XNothingToUndogg := He.eqO_ok x_XNothingToUndogg
  have y_XNothingToUndokC := x_XNothingToUndokC
  have y_XNothingToUndoeC := of_decide_eq_true x_XNothingToUndoeC
  clear x_XNoIndexha x_XNoIndexhm x_XNoIndexnxgiven x_XNothingToUndoa x_XNothingToUndoL x_XNothingToUndosa x_XNothingToUndoga x_XNothingToUndogg x_XNothingToUndokC x_XNothingToUndoeC zz
  obtain ⟨x_XNothingToUndohC, zz⟩ := He.ba (S.f 40 (f := hg_40))
  obtain ⟨x_XNothingToUndoha, zz⟩ := He.ba (zz)
  obtain ⟨x_XNothingToUndohm, zz⟩ := He.ba (zz)
  obtain ⟨x_XNothingToUndoi0, zz⟩ := He.ba (zz)
  obtain ⟨x_XNoHosta, zz⟩ := He.ba (zz)
  obtain ⟨x_XNoHostL, zz⟩ := He.ba (zz)
  obtain ⟨x_XNoHostsa, zz⟩ := He.ba (zz)
  obtain ⟨x_XNoHostga, zz⟩ := He.ba (zz)
  obtain ⟨x_XNoHostgg, zz⟩ := He.ba (zz)
  have x_XNoHostkC := zz
  have y_XNothingToUndohC := x_XNothingToUndohC
  have y_XNothingToUndoha := He.eqO_ok x_XNothingToUndoha
  have y_XNothingToUndohm := of_decide_eq_true x_XNothingToUndohm
  have y_XNothingToUndoi0 := He.eqO_ok x_XNothingToUndoi0
  have y_XNoHosta := He.eqO_ok x_XNoHosta
  have y_XNoHostL := Hk.xcB_ok x_XNoHostL
  have y_XNoHostsa := He.eqO_ok x_XNoHostsa
  have y_XNoHostga := He.eqO_ok x_XNoHostga
  have y_XNoHostgg := He.eqO_ok x_XNoHostgg
  have y_XNoHostkC := x_XNoHostkC
  clear x_XNothingToUndohC x_XNothingToUndoha x_XNothingToUndohm x_XNothingToUndoi0 x_XNoHosta x_XNoHostL x_XNoHostsa x_XNoHostga x_XNoHostgg x_XNoHostkC zz
  obtain ⟨x_XNoHosteC, zz⟩ := He.ba (S.f 41 (f := hg_41))
  obtain ⟨x_XNoHosthC, zz⟩ := He.ba (zz)
  obtain ⟨x_XNoHostha, zz⟩ := He.ba (zz)
  obtain ⟨x_XNoHosthm, zz⟩ := He.ba (zz)
  obtain ⟨x_XNoHostnxhost, zz⟩ := He.ba (zz)
  obtain ⟨x_XGapa, zz⟩ := He.ba (zz)
  obtain ⟨x_XGapL, zz⟩ := He.ba (zz)
  obtain ⟨x_XGapsa, zz⟩ := He.ba (zz)
  obtain ⟨x_XGapga, zz⟩ := He.ba (zz)
  have x_XGapgg := zz
  have y_XNoHosteC := of_decide_eq_true x_XNoHosteC
  have y_XNoHosthC := x_XNoHosthC
  have y_XNoHostha := He.eqO_ok x_XNoHostha
  have y_XNoHosthm := of_decide_eq_true x_XNoHosthm
  have y_XNoHostnxhost := He.eqO_ok x_XNoHostnxhost
  have y_XGapa := He.eqO_ok x_XGapa
  have y_XGapL := Hk.xcB_ok x_XGapL
  have y_XGapsa := He.eqO_ok x_XGapsa
  have y_XGapga := He.eqO_ok x_XGapga
  have y_XGapgg := He.eqO_ok x_XGapgg
  clear x_XNoHosteC x_XNoHosthC x_XNoHostha x_XNoHosthm x_XNoHostnxhost x_XGapa x_XGapL x_XGapsa x_XGapga x_XGapgg zz
  obtain ⟨x_XGapkC, zz⟩ := He.ba (S.f 42 (f := hg_42))
  obtain ⟨x_XGapeC, zz⟩ := He.ba (zz)
  obtain ⟨x_XGaphC, zz⟩ := He.ba (zz)
  obtain ⟨x_XGapha, zz⟩ := He.ba (zz)
  obtain ⟨x_XGaphm, zz⟩ := He.ba (zz)
  obtain ⟨x_XGapnxhost, zz⟩ := He.ba (zz)
  obtain ⟨x_XBehinda, zz⟩ := He.ba (zz)
  obtain ⟨x_XBehindL, zz⟩ := He.ba (zz)
  obtain ⟨x_XBehindsa, zz⟩ := He.ba (zz)
  have x_XBehindga := zz
  have y_XGapkC := x_XGapkC
  have y_XGapeC := of_decide_eq_true x_XGapeC
  have y_XGaphC := x_XGaphC
  have y_XGapha := He.eqO_ok x_XGapha
  have y_XGaphm := of_decide_eq_true x_XGaphm
  have y_XGapnxhost := He.eqO_ok x_XGapnxhost
  have y_XBehinda := He.eqO_ok x_XBehinda
  have y_XBehindL := Hk.xcB_ok x_XBehindL
  have y_XBehindsa := He.eqO_ok x_XBehindsa
  have y_XBehindga := He.eqO_ok x_XBehindga
  clear x_XGapkC x_XGapeC x_XGaphC x_XGapha x_XGaphm x_XGapnxhost x_XBehinda x_XBehindL x_XBehindsa x_XBehindga zz
  obtain ⟨x_XBehindgg, zz⟩ := He.ba (S.f 43 (f := hg_43))
  obtain ⟨x_XBehindkC, zz⟩ := He.ba (zz)
  obtain ⟨x_XBehindeC, zz⟩ := He.ba (zz)
  obtain ⟨x_XBehindhC, zz⟩ := He.ba (zz)
  obtain ⟨x_XBehindha, zz⟩ := He.ba (zz)
  obtain ⟨x_XBehindhm, zz⟩ := He.ba (zz)
  obtain ⟨x_XBehindnxhost, zz⟩ := He.ba (zz)
  obtain ⟨x_XForgottena, zz⟩ := He.ba (zz)
  obtain ⟨x_XForgottenL, zz⟩ := He.ba (zz)
  have x_XForgottensa := zz
  have y_XBehindgg := He.eqO_ok x_XBehindgg
  have y_XBehindkC := x_XBehindkC
  have y_XBehindeC := of_decide_eq_true x_XBehindeC
  have y_XBehindhC := x_XBehindhC
  have y_XBehindha := He.eqO_ok x_XBehindha
  have y_XBehindhm := of_decide_eq_true x_XBehindhm
  have y_XBehindnxhost := He.eqO_ok x_XBehindnxhost
  have y_XForgottena := He.eqO_ok x_XForgottena
  have y_XForgottenL := Hk.xcB_ok x_XForgottenL
  have y_XForgottensa := He.eqO_ok x_XForgottensa
  clear x_XBehindgg x_XBehindkC x_XBehindeC x_XBehindhC x_XBehindha x_XBehindhm x_XBehindnxhost x_XForgottena x_XForgottenL x_XForgottensa zz
  obtain ⟨x_XForgottenga, zz⟩ := He.ba (S.f 44 (f := hg_44))
  obtain ⟨x_XForgottengg, zz⟩ := He.ba (zz)
  obtain ⟨x_XForgottenkC, zz⟩ := He.ba (zz)
  obtain ⟨x_XForgotteneC, zz⟩ := He.ba (zz)
  obtain ⟨x_XForgottenhC, zz⟩ := He.ba (zz)
  obtain ⟨x_XForgottenha, zz⟩ := He.ba (zz)
  obtain ⟨x_XForgottenhm, zz⟩ := He.ba (zz)
  obtain ⟨x_XForgottennxhost, zz⟩ := He.ba (zz)
  obtain ⟨x_XPagingOvera, zz⟩ := He.ba (zz)
  have x_XPagingOverL := zz
  have y_XForgottenga := He.eqO_ok x_XForgottenga
  have y_XForgottengg := He.eqO_ok x_XForgottengg
  have y_XForgottenkC := x_XForgottenkC
  have y_XForgotteneC := of_decide_eq_true x_XForgotteneC
  have y_XForgottenhC := x_XForgottenhC
  have y_XForgottenha := He.eqO_ok x_XForgottenha
  have y_XForgottenhm := of_decide_eq_true x_XForgottenhm
  have y_XForgottennxhost := He.eqO_ok x_XForgottennxhost
  have y_XPagingOvera := He.eqO_ok x_XPagingOvera
  have y_XPagingOverL := Hk.xcB_ok x_XPagingOverL
  clear x_XForgottenga x_XForgottengg x_XForgottenkC x_XForgotteneC x_XForgottenhC x_XForgottenha x_XForgottenhm x_XForgottennxhost x_XPagingOvera x_XPagingOverL zz
  obtain ⟨x_XPagingOversa, zz⟩ := He.ba (S.f 45 (f := hg_45))
  obtain ⟨x_XPagingOverga, zz⟩ := He.ba (zz)
  obtain ⟨x_XPagingOvergg, zz⟩ := He.ba (zz)
  obtain ⟨x_XPagingOverkC, zz⟩ := He.ba (zz)
  obtain ⟨x_XPagingOvereC, zz⟩ := He.ba (zz)
  obtain ⟨x_XPagingOverhC, zz⟩ := He.ba (zz)
  obtain ⟨x_XPagingOverha, zz⟩ := He.ba (zz)
  obtain ⟨x_XPagingOverhm, zz⟩ := He.ba (zz)
  obtain ⟨x_XPagingOveri0, zz⟩ := He.ba (zz)
  have x_XFulla := zz
  have y_XPagingOversa := He.eqO_ok x_XPagingOversa
  have y_XPagingOverga := He.eqO_ok x_XPagingOverga
  have y_XPagingOvergg := He.eqO_ok x_XPagingOvergg
  have y_XPagingOverkC := x_XPagingOverkC
  have y_XPagingOvereC := of_decide_eq_true x_XPagingOvereC
  have y_XPagingOverhC := x_XPagingOverhC
  have y_XPagingOverha := He.eqO_ok x_XPagingOverha
  have y_XPagingOverhm := of_decide_eq_true x_XPagingOverhm
  have y_XPagingOveri0 := He.eqO_ok x_XPagingOveri0
  have y_XFulla := He.eqO_ok x_XFulla
  clear x_XPagingOversa x_XPagingOverga x_XPagingOvergg x_XPagingOverkC x_XPagingOvereC x_XPagingOverhC x_XPagingOverha x_XPagingOverhm x_XPagingOveri0 x_XFulla zz
  obtain ⟨x_XFullL, zz⟩ := He.ba (S.f 46 (f := hg_46))
  obtain ⟨x_XFullsa, zz⟩ := He.ba (zz)
  obtain ⟨x_XFullga, zz⟩ := He.ba (zz)
  obtain ⟨x_XFullgg, zz⟩ := He.ba (zz)
  obtain ⟨x_XFullkC, zz⟩ := He.ba (zz)
  obtain ⟨x_XFulleC, zz⟩ := He.ba (zz)
  obtain ⟨x_XFullhC, zz⟩ := He.ba (zz)
  obtain ⟨x_XFullha, zz⟩ := He.ba (zz)
  obtain ⟨x_XFullhm, zz⟩ := He.ba (zz)
  have x_XFullnxlimit := zz
  have y_XFullL := Hk.xcB_ok x_XFullL
  have y_XFullsa := He.eqO_ok x_XFullsa
  have y_XFullga := He.eqO_ok x_XFullga
  have y_XFullgg := He.eqO_ok x_XFullgg
  have y_XFullkC := x_XFullkC
  have y_XFulleC := of_decide_eq_true x_XFulleC
  have y_XFullhC := x_XFullhC
  have y_XFullha := He.eqO_ok x_XFullha
  have y_XFullhm := of_decide_eq_true x_XFullhm
  have y_XFullnxlimit := He.eqO_ok x_XFullnxlimit
  clear x_XFullL x_XFullsa x_XFullga x_XFullgg x_XFullkC x_XFulleC x_XFullhC x_XFullha x_XFullhm x_XFullnxlimit zz
  obtain ⟨x_XTooDeepa, zz⟩ := He.ba (S.f 47 (f := hg_47))
  obtain ⟨x_XTooDeepL, zz⟩ := He.ba (zz)
  obtain ⟨x_XTooDeepsa, zz⟩ := He.ba (zz)
  obtain ⟨x_XTooDeepga, zz⟩ := He.ba (zz)
  obtain ⟨x_XTooDeepgg, zz⟩ := He.ba (zz)
  obtain ⟨x_XTooDeepkC, zz⟩ := He.ba (zz)
  obtain ⟨x_XTooDeepeC, zz⟩ := He.ba (zz)
  obtain ⟨x_XTooDeephC, zz⟩ := He.ba (zz)
  obtain ⟨x_XTooDeepha, zz⟩ := He.ba (zz)
  have x_XTooDeephm := zz
  have y_XTooDeepa := He.eqO_ok x_XTooDeepa
  have y_XTooDeepL := Hk.xcB_ok x_XTooDeepL
  have y_XTooDeepsa := He.eqO_ok x_XTooDeepsa
  have y_XTooDeepga := He.eqO_ok x_XTooDeepga
  have y_XTooDeepgg := He.eqO_ok x_XTooDeepgg
  have y_XTooDeepkC := x_XTooDeepkC
  have y_XTooDeepeC := of_decide_eq_true x_XTooDeepeC
  have y_XTooDeephC := x_XTooDeephC
  have y_XTooDeepha := He.eqO_ok x_XTooDeepha
  have y_XTooDeephm := of_decide_eq_true x_XTooDeephm
  clear x_XTooDeepa x_XTooDeepL x_XTooDeepsa x_XTooDeepga x_XTooDeepgg x_XTooDeepkC x_XTooDeepeC x_XTooDeephC x_XTooDeepha x_XTooDeephm zz
  obtain ⟨x_XTooDeepnxlimit, zz⟩ := He.ba (S.f 48 (f := hg_48))
  obtain ⟨x_XSizeLimita, zz⟩ := He.ba (zz)
  obtain ⟨x_XSizeLimitL, zz⟩ := He.ba (zz)
  obtain ⟨x_XSizeLimitsa, zz⟩ := He.ba (zz)
  obtain ⟨x_XSizeLimitga, zz⟩ := He.ba (zz)
  obtain ⟨x_XSizeLimitgg, zz⟩ := He.ba (zz)
  obtain ⟨x_XSizeLimitkC, zz⟩ := He.ba (zz)
  obtain ⟨x_XSizeLimiteC, zz⟩ := He.ba (zz)
  obtain ⟨x_XSizeLimithC, zz⟩ := He.ba (zz)
  have x_XSizeLimitha := zz
  have y_XTooDeepnxlimit := He.eqO_ok x_XTooDeepnxlimit
  have y_XSizeLimita := He.eqO_ok x_XSizeLimita
  have y_XSizeLimitL := Hk.xcB_ok x_XSizeLimitL
  have y_XSizeLimitsa := He.eqO_ok x_XSizeLimitsa
  have y_XSizeLimitga := He.eqO_ok x_XSizeLimitga
  have y_XSizeLimitgg := He.eqO_ok x_XSizeLimitgg
  have y_XSizeLimitkC := x_XSizeLimitkC
  have y_XSizeLimiteC := of_decide_eq_true x_XSizeLimiteC
  have y_XSizeLimithC := x_XSizeLimithC
  have y_XSizeLimitha := He.eqO_ok x_XSizeLimitha
  clear x_XTooDeepnxlimit x_XSizeLimita x_XSizeLimitL x_XSizeLimitsa x_XSizeLimitga x_XSizeLimitgg x_XSizeLimitkC x_XSizeLimiteC x_XSizeLimithC x_XSizeLimitha zz
  obtain ⟨x_XSizeLimithm, zz⟩ := He.ba (S.f 49 (f := hg_49))
  obtain ⟨x_XSizeLimitnxlimit, zz⟩ := He.ba (zz)
  obtain ⟨x_XInvalida, zz⟩ := He.ba (zz)
  obtain ⟨x_XInvalidiC, zz⟩ := He.ba (zz)
  obtain ⟨x_XInvalidtC, zz⟩ := He.ba (zz)
  obtain ⟨x_XConflicta, zz⟩ := He.ba (zz)
  obtain ⟨x_XConflictiC, zz⟩ := He.ba (zz)
  obtain ⟨x_XConflicttC, zz⟩ := He.ba (zz)
  obtain ⟨x_XExcessa, zz⟩ := He.ba (zz)
  have x_XExcessiC := zz
  have y_XSizeLimithm := of_decide_eq_true x_XSizeLimithm
  have y_XSizeLimitnxlimit := He.eqO_ok x_XSizeLimitnxlimit
  have y_XInvalida := He.eqO_ok x_XInvalida
  have y_XInvalidiC := x_XInvalidiC
  have y_XInvalidtC := of_decide_eq_true x_XInvalidtC
  have y_XConflicta := He.eqO_ok x_XConflicta
  have y_XConflictiC := x_XConflictiC
  have y_XConflicttC := of_decide_eq_true x_XConflicttC
  have y_XExcessa := He.eqO_ok x_XExcessa
  have y_XExcessiC := x_XExcessiC
  clear x_XSizeLimithm x_XSizeLimitnxlimit x_XInvalida x_XInvalidiC x_XInvalidtC x_XConflicta x_XConflictiC x_XConflicttC x_XExcessa x_XExcessiC zz
  obtain ⟨x_XExcesstC, zz⟩ := He.ba (S.f 50 (f := hg_50))
  obtain ⟨x_a_BadName_init, zz⟩ := He.ba (zz)
  obtain ⟨x_i_BadName_init, zz⟩ := He.ba (zz)
  obtain ⟨x_a_BadFilter_init, zz⟩ := He.ba (zz)
  obtain ⟨x_i_BadFilter_init, zz⟩ := He.ba (zz)
  obtain ⟨x_a_BadScope_init, zz⟩ := He.ba (zz)
  obtain ⟨x_i_BadScope_init, zz⟩ := He.ba (zz)
  obtain ⟨x_a_BadNumber_init, zz⟩ := He.ba (zz)
  obtain ⟨x_i_BadNumber_init, zz⟩ := He.ba (zz)
  have x_a_BadSchema_init := zz
  have y_XExcesstC := of_decide_eq_true x_XExcesstC
  have y_a_BadName_init := He.eqO_ok x_a_BadName_init
  have y_i_BadName_init := of_decide_eq_true x_i_BadName_init
  have y_a_BadFilter_init := He.eqO_ok x_a_BadFilter_init
  have y_i_BadFilter_init := of_decide_eq_true x_i_BadFilter_init
  have y_a_BadScope_init := He.eqO_ok x_a_BadScope_init
  have y_i_BadScope_init := of_decide_eq_true x_i_BadScope_init
  have y_a_BadNumber_init := He.eqO_ok x_a_BadNumber_init
  have y_i_BadNumber_init := of_decide_eq_true x_i_BadNumber_init
  have y_a_BadSchema_init := He.eqO_ok x_a_BadSchema_init
  clear x_XExcesstC x_a_BadName_init x_i_BadName_init x_a_BadFilter_init x_i_BadFilter_init x_a_BadScope_init x_i_BadScope_init x_a_BadNumber_init x_i_BadNumber_init x_a_BadSchema_init zz
  obtain ⟨x_i_BadSchema_init, zz⟩ := He.ba (S.f 51 (f := hg_51))
  obtain ⟨x_a_BadEntry_init, zz⟩ := He.ba (zz)
  obtain ⟨x_i_BadEntry_init, zz⟩ := He.ba (zz)
  obtain ⟨x_a_BadDeed_init, zz⟩ := He.ba (zz)
  obtain ⟨x_i_BadDeed_init, zz⟩ := He.ba (zz)
  obtain ⟨x_a_BadChange_init, zz⟩ := He.ba (zz)
  obtain ⟨x_i_BadChange_init, zz⟩ := He.ba (zz)
  obtain ⟨x_a_BadVector_init, zz⟩ := He.ba (zz)
  obtain ⟨x_i_BadVector_init, zz⟩ := He.ba (zz)
  have x_a_BadIndex_init := zz
  have y_i_BadSchema_init := of_decide_eq_true x_i_BadSchema_init
  have y_a_BadEntry_init := He.eqO_ok x_a_BadEntry_init
  have y_i_BadEntry_init := of_decide_eq_true x_i_BadEntry_init
  have y_a_BadDeed_init := He.eqO_ok x_a_BadDeed_init
  have y_i_BadDeed_init := of_decide_eq_true x_i_BadDeed_init
  have y_a_BadChange_init := He.eqO_ok x_a_BadChange_init
  have y_i_BadChange_init := of_decide_eq_true x_i_BadChange_init
  have y_a_BadVector_init := He.eqO_ok x_a_BadVector_init
  have y_i_BadVector_init := of_decide_eq_true x_i_BadVector_init
  have y_a_BadIndex_init := He.eqO_ok x_a_BadIndex_init
  clear x_i_BadSchema_init x_a_BadEntry_init x_i_BadEntry_init x_a_BadDeed_init x_i_BadDeed_init x_a_BadChange_init x_i_BadChange_init x_a_BadVector_init x_i_BadVector_init x_a_BadIndex_init zz
  obtain ⟨x_i_BadIndex_init, zz⟩ := He.ba (S.f 52 (f := hg_52))
  obtain ⟨x_a_BadText_init, zz⟩ := He.ba (zz)
  obtain ⟨x_i_BadText_init, zz⟩ := He.ba (zz)
  obtain ⟨x_a_BadHost_init, zz⟩ := He.ba (zz)
  obtain ⟨x_i_BadHost_init, zz⟩ := He.ba (zz)
  obtain ⟨x_a_BadValue_init, zz⟩ := He.ba (zz)
  obtain ⟨x_i_BadValue_init, zz⟩ := He.ba (zz)
  obtain ⟨x_a_UnknownAttribute_init, zz⟩ := He.ba (zz)
  obtain ⟨x_i_UnknownAttribute_init, zz⟩ := He.ba (zz)
  have x_a_MirrorGiven_init := zz
  have y_i_BadIndex_init := of_decide_eq_true x_i_BadIndex_init
  have y_a_BadText_init := He.eqO_ok x_a_BadText_init
  have y_i_BadText_init := of_decide_eq_true x_i_BadText_init
  have y_a_BadHost_init := He.eqO_ok x_a_BadHost_init
  have y_i_BadHost_init := of_decide_eq_true x_i_BadHost_init
  have y_a_BadValue_init := He.eqO_ok x_a_BadValue_init
  have y_i_BadValue_init := of_decide_eq_true x_i_BadValue_init
  have y_a_UnknownAttribute_init := He.eqO_ok x_a_UnknownAttribute_init
  have y_i_UnknownAttribute_init := of_decide_eq_true x_i_UnknownAttribute_init
  have y_a_MirrorGiven_init := He.eqO_ok x_a_MirrorGiven_init
  clear x_i_BadIndex_init x_a_BadText_init x_i_BadText_init x_a_BadHost_init x_i_BadHost_init x_a_BadValue_init x_i_BadValue_init x_a_UnknownAttribute_init x_i_UnknownAttribute_init x_a_MirrorGiven_init zz
  obtain ⟨x_i_MirrorGiven_init, zz⟩ := He.ba (S.f 53 (f := hg_53))
  obtain ⟨x_a_UnknownClass_init, zz⟩ := He.ba (zz)
  obtain ⟨x_i_UnknownClass_init, zz⟩ := He.ba (zz)
  obtain ⟨x_a_NotAllowed_init, zz⟩ := He.ba (zz)
  obtain ⟨x_i_NotAllowed_init, zz⟩ := He.ba (zz)
  obtain ⟨x_a_Missing_init, zz⟩ := He.ba (zz)
  obtain ⟨x_i_Missing_init, zz⟩ := He.ba (zz)
  obtain ⟨x_a_TooManyValues_init, zz⟩ := He.ba (zz)
  obtain ⟨x_i_TooManyValues_init, zz⟩ := He.ba (zz)
  have x_a_ValueTaken_init := zz
  have y_i_MirrorGiven_init := of_decide_eq_true x_i_MirrorGiven_init
  have y_a_UnknownClass_init := He.eqO_ok x_a_UnknownClass_init
  have y_i_UnknownClass_init := of_decide_eq_true x_i_UnknownClass_init
  have y_a_NotAllowed_init := He.eqO_ok x_a_NotAllowed_init
  have y_i_NotAllowed_init := of_decide_eq_true x_i_NotAllowed_init
  have y_a_Missing_init := He.eqO_ok x_a_Missing_init
  have y_i_Missing_init := of_decide_eq_true x_i_Missing_init
  have y_a_TooManyValues_init := He.eqO_ok x_a_TooManyValues_init
  have y_i_TooManyValues_init := of_decide_eq_true x_i_TooManyValues_init
  have y_a_ValueTaken_init := He.eqO_ok x_a_ValueTaken_init
  clear x_i_MirrorGiven_init x_a_UnknownClass_init x_i_UnknownClass_init x_a_NotAllowed_init x_i_NotAllowed_init x_a_Missing_init x_i_Missing_init x_a_TooManyValues_init x_i_TooManyValues_init x_a_ValueTaken_init zz
  obtain ⟨x_i_ValueTaken_init, zz⟩ := He.ba (S.f 54 (f := hg_54))
  obtain ⟨x_a_NotNamed_init, zz⟩ := He.ba (zz)
  obtain ⟨x_i_NotNamed_init, zz⟩ := He.ba (zz)
  obtain ⟨x_a_BadPlace_init, zz⟩ := He.ba (zz)
  obtain ⟨x_i_BadPlace_init, zz⟩ := He.ba (zz)
  obtain ⟨x_a_NoTarget_init, zz⟩ := He.ba (zz)
  obtain ⟨x_i_NoTarget_init, zz⟩ := He.ba (zz)
  obtain ⟨x_a_NotInteger_init, zz⟩ := He.ba (zz)
  obtain ⟨x_i_NotInteger_init, zz⟩ := He.ba (zz)
  have x_a_NoOrder_init := zz
  have y_i_ValueTaken_init := of_decide_eq_true x_i_ValueTaken_init
  have y_a_NotNamed_init := He.eqO_ok x_a_NotNamed_init
  have y_i_NotNamed_init := of_decide_eq_true x_i_NotNamed_init
  have y_a_BadPlace_init := He.eqO_ok x_a_BadPlace_init
  have y_i_BadPlace_init := of_decide_eq_true x_i_BadPlace_init
  have y_a_NoTarget_init := He.eqO_ok x_a_NoTarget_init
  have y_i_NoTarget_init := of_decide_eq_true x_i_NoTarget_init
  have y_a_NotInteger_init := He.eqO_ok x_a_NotInteger_init
  have y_i_NotInteger_init := of_decide_eq_true x_i_NotInteger_init
  have y_a_NoOrder_init := He.eqO_ok x_a_NoOrder_init
  clear x_i_ValueTaken_init x_a_NotNamed_init x_i_NotNamed_init x_a_BadPlace_init x_i_BadPlace_init x_a_NoTarget_init x_i_NoTarget_init x_a_NotInteger_init x_i_NotInteger_init x_a_NoOrder_init zz
  obtain ⟨x_i_NoOrder_init, zz⟩ := He.ba (S.f 55 (f := hg_55))
  obtain ⟨x_a_NoEntry_init, zz⟩ := He.ba (zz)
  obtain ⟨x_i_NoEntry_init, zz⟩ := He.ba (zz)
  obtain ⟨x_a_NameTaken_init, zz⟩ := He.ba (zz)
  obtain ⟨x_i_NameTaken_init, zz⟩ := He.ba (zz)
  obtain ⟨x_a_HasChildren_init, zz⟩ := He.ba (zz)
  obtain ⟨x_i_HasChildren_init, zz⟩ := He.ba (zz)
  obtain ⟨x_a_InUse_init, zz⟩ := He.ba (zz)
  obtain ⟨x_i_InUse_init, zz⟩ := He.ba (zz)
  have x_a_Inside_init := zz
  have y_i_NoOrder_init := of_decide_eq_true x_i_NoOrder_init
  have y_a_NoEntry_init := He.eqO_ok x_a_NoEntry_init
  have y_i_NoEntry_init := of_decide_eq_true x_i_NoEntry_init
  have y_a_NameTaken_init := He.eqO_ok x_a_NameTaken_init
  have y_i_NameTaken_init := of_decide_eq_true x_i_NameTaken_init
  have y_a_HasChildren_init := He.eqO_ok x_a_HasChildren_init
  have y_i_HasChildren_init := of_decide_eq_true x_i_HasChildren_init
  have y_a_InUse_init := He.eqO_ok x_a_InUse_init
  have y_i_InUse_init := of_decide_eq_true x_i_InUse_init
  have y_a_Inside_init := He.eqO_ok x_a_Inside_init
  clear x_i_NoOrder_init x_a_NoEntry_init x_i_NoEntry_init x_a_NameTaken_init x_i_NameTaken_init x_a_HasChildren_init x_i_HasChildren_init x_a_InUse_init x_i_InUse_init x_a_Inside_init zz
  obtain ⟨x_i_Inside_init, zz⟩ := He.ba (S.f 56 (f := hg_56))
  obtain ⟨x_a_NoValue_init, zz⟩ := He.ba (zz)
  obtain ⟨x_i_NoValue_init, zz⟩ := He.ba (zz)
  obtain ⟨x_a_Referral_init, zz⟩ := He.ba (zz)
  obtain ⟨x_i_Referral_init, zz⟩ := He.ba (zz)
  obtain ⟨x_a_IndexTaken_init, zz⟩ := He.ba (zz)
  obtain ⟨x_i_IndexTaken_init, zz⟩ := He.ba (zz)
  obtain ⟨x_a_NoIndex_init, zz⟩ := He.ba (zz)
  obtain ⟨x_i_NoIndex_init, zz⟩ := He.ba (zz)
  have x_a_NoHost_init := zz
  have y_i_Inside_init := of_decide_eq_true x_i_Inside_init
  have y_a_NoValue_init := He.eqO_ok x_a_NoValue_init
  have y_i_NoValue_init := of_decide_eq_true x_i_NoValue_init
  have y_a_Referral_init := He.eqO_ok x_a_Referral_init
  have y_i_Referral_init := of_decide_eq_true x_i_Referral_init
  have y_a_IndexTaken_init := He.eqO_ok x_a_IndexTaken_init
  have y_i_IndexTaken_init := of_decide_eq_true x_i_IndexTaken_init
  have y_a_NoIndex_init := He.eqO_ok x_a_NoIndex_init
  have y_i_NoIndex_init := of_decide_eq_true x_i_NoIndex_init
  have y_a_NoHost_init := He.eqO_ok x_a_NoHost_init
  clear x_i_Inside_init x_a_NoValue_init x_i_NoValue_init x_a_Referral_init x_i_Referral_init x_a_IndexTaken_init x_i_IndexTaken_init x_a_NoIndex_init x_i_NoIndex_init x_a_NoHost_init zz
  obtain ⟨x_i_NoHost_init, zz⟩ := He.ba (S.f 57 (f := hg_57))
  obtain ⟨x_a_Gap_init, zz⟩ := He.ba (zz)
  obtain ⟨x_i_Gap_init, zz⟩ := He.ba (zz)
  obtain ⟨x_a_Behind_init, zz⟩ := He.ba (zz)
  obtain ⟨x_i_Behind_init, zz⟩ := He.ba (zz)
  obtain ⟨x_a_Forgotten_init, zz⟩ := He.ba (zz)
  obtain ⟨x_i_Forgotten_init, zz⟩ := He.ba (zz)
  obtain ⟨x_a_Full_init, zz⟩ := He.ba (zz)
  obtain ⟨x_i_Full_init, zz⟩ := He.ba (zz)
  have x_a_TooDeep_init := zz
  have y_i_NoHost_init := of_decide_eq_true x_i_NoHost_init
  have y_a_Gap_init := He.eqO_ok x_a_Gap_init
  have y_i_Gap_init := of_decide_eq_true x_i_Gap_init
  have y_a_Behind_init := He.eqO_ok x_a_Behind_init
  have y_i_Behind_init := of_decide_eq_true x_i_Behind_init
  have y_a_Forgotten_init := He.eqO_ok x_a_Forgotten_init
  have y_i_Forgotten_init := of_decide_eq_true x_i_Forgotten_init
  have y_a_Full_init := He.eqO_ok x_a_Full_init
  have y_i_Full_init := of_decide_eq_true x_i_Full_init
  have y_a_TooDeep_init := He.eqO_ok x_a_TooDeep_init
  clear x_i_NoHost_init x_a_Gap_init x_i_Gap_init x_a_Behind_init x_i_Behind_init x_a_Forgotten_init x_i_Forgotten_init x_a_Full_init x_i_Full_init x_a_TooDeep_init zz
  obtain ⟨x_i_TooDeep_init, zz⟩ := He.ba (S.f 58 (f := hg_58))
  obtain ⟨x_a_SizeLimit_init, zz⟩ := He.ba (zz)
  obtain ⟨x_i_SizeLimit_init, zz⟩ := He.ba (zz)
  obtain ⟨x_a_q_source, zz⟩ := He.ba (zz)
  obtain ⟨x_a_q_next, zz⟩ := He.ba (zz)
  obtain ⟨x_a_q_pick, zz⟩ := He.ba (zz)
  obtain ⟨x_a_q_rounds, zz⟩ := He.ba (zz)
  obtain ⟨x_a_q_made, zz⟩ := He.ba (zz)
  obtain ⟨x_a_q_named, zz⟩ := He.ba (zz)
  have x_a_q_held := zz
  have y_i_TooDeep_init := of_decide_eq_true x_i_TooDeep_init
  have y_a_SizeLimit_init := He.eqO_ok x_a_SizeLimit_init
  have y_i_SizeLimit_init := of_decide_eq_true x_i_SizeLimit_init
  have y_a_q_source := He.eqO_ok x_a_q_source
  have y_a_q_next := He.eqO_ok x_a_q_next
  have y_a_q_pick := He.eqO_ok x_a_q_pick
  have y_a_q_rounds := He.eqO_ok x_a_q_rounds
  have y_a_q_made := He.eqO_ok x_a_q_made
  have y_a_q_named := He.eqO_ok x_a_q_named
  have y_a_q_held := He.eqO_ok x_a_q_held
  clear x_i_TooDeep_init x_a_SizeLimit_init x_i_SizeLimit_init x_a_q_source x_a_q_next x_a_q_pick x_a_q_rounds x_a_q_made x_a_q_named x_a_q_held zz
  obtain ⟨x_a_q_marks, zz⟩ := He.ba (S.f 59 (f := hg_59))
  obtain ⟨x_a_q_families, zz⟩ := He.ba (zz)
  obtain ⟨x_a_q_strange, zz⟩ := He.ba (zz)
  obtain ⟨x_a_q_due, zz⟩ := He.ba (zz)
  obtain ⟨x_a_q_error_right, zz⟩ := He.ba (zz)
  obtain ⟨x_a_q_limits_right, zz⟩ := He.ba (zz)
  obtain ⟨x_a_law, zz⟩ := He.ba (zz)
  obtain ⟨x_z_ArithmeticError, zz⟩ := He.ba (zz)
  obtain ⟨x_z_IndexError, zz⟩ := He.ba (zz)
  have x_z_KeyError := zz
  have y_a_q_marks := He.eqO_ok x_a_q_marks
  have y_a_q_families := He.eqO_ok x_a_q_families
  have y_a_q_strange := He.eqO_ok x_a_q_strange
  have y_a_q_due := He.eqO_ok x_a_q_due
  have y_a_q_error_right := He.eqO_ok x_a_q_error_right
  have y_a_q_limits_right := He.eqO_ok x_a_q_limits_right
  have y_a_law := He.eqO_ok x_a_law
  have y_z_ArithmeticError := He.eqO_ok x_z_ArithmeticError
  have y_z_IndexError := He.eqO_ok x_z_IndexError
  have y_z_KeyError := He.eqO_ok x_z_KeyError
  clear x_a_q_marks x_a_q_families x_a_q_strange x_a_q_due x_a_q_error_right x_a_q_limits_right x_a_law x_z_ArithmeticError x_z_IndexError x_z_KeyError zz
  obtain ⟨x_z_LookupError, zz⟩ := He.ba (S.f 60 (f := hg_60))
  obtain ⟨x_z_OverflowError, zz⟩ := He.ba (zz)
  obtain ⟨x_z_RuntimeError, zz⟩ := He.ba (zz)
  obtain ⟨x_z_TypeError, zz⟩ := He.ba (zz)
  obtain ⟨x_z_ValueError, zz⟩ := He.ba (zz)
  obtain ⟨x_z_ZeroDivisionError, zz⟩ := He.ba (zz)
  obtain ⟨x_z_enumerate, zz⟩ := He.ba (zz)
  obtain ⟨x_z_int, zz⟩ := He.ba (zz)
  obtain ⟨x_z_isinstance, zz⟩ := He.ba (zz)
  have x_z_len := zz
  have y_z_LookupError := He.eqO_ok x_z_LookupError
  have y_z_OverflowError := He.eqO_ok x_z_OverflowError
  have y_z_RuntimeError := He.eqO_ok x_z_RuntimeError
  have y_z_TypeError := He.eqO_ok x_z_TypeError
  have y_z_ValueError := He.eqO_ok x_z_ValueError
  have y_z_ZeroDivisionError := He.eqO_ok x_z_ZeroDivisionError
  have y_z_enumerate := He.eqO_ok x_z_enumerate
  have y_z_int := He.eqO_ok x_z_int
  have y_z_isinstance := He.eqO_ok x_z_isinstance
  have y_z_len := He.eqO_ok x_z_len
  clear x_z_LookupError x_z_OverflowError x_z_RuntimeError x_z_TypeError x_z_ValueError x_z_ZeroDivisionError x_z_enumerate x_z_int x_z_isinstance x_z_len zz
  obtain ⟨x_z_list, zz⟩ := He.ba (S.f 61 (f := hg_61))
  obtain ⟨x_z_range, zz⟩ := He.ba (zz)
  obtain ⟨x_z_repr, zz⟩ := He.ba (zz)
  obtain ⟨x_z_sum, zz⟩ := He.ba (zz)
  obtain ⟨x_c_INDEXES, zz⟩ := He.ba (zz)
  obtain ⟨x_w_INDEXES, zz⟩ := He.ba (zz)
  obtain ⟨x_c_MAX_DEPTH, zz⟩ := He.ba (zz)
  obtain ⟨x_c_MAX_DIGITS, zz⟩ := He.ba (zz)
  obtain ⟨x_c_MAX_ENTRIES, zz⟩ := He.ba (zz)
  have x_c_MAX_LEVELS := zz
  have y_z_list := He.eqO_ok x_z_list
  have y_z_range := He.eqO_ok x_z_range
  have y_z_repr := He.eqO_ok x_z_repr
  have y_z_sum := He.eqO_ok x_z_sum
  have y_c_INDEXES := He.eqO_ok x_c_INDEXES
  have y_w_INDEXES := Hk.tpB_ok x_w_INDEXES
  have y_c_MAX_DEPTH := He.int_ok X G x_c_MAX_DEPTH
  have y_c_MAX_DIGITS := He.int_ok X G x_c_MAX_DIGITS
  have y_c_MAX_ENTRIES := He.int_ok X G x_c_MAX_ENTRIES
  have y_c_MAX_LEVELS := He.int_ok X G x_c_MAX_LEVELS
  clear x_z_list x_z_range x_z_repr x_z_sum x_c_INDEXES x_w_INDEXES x_c_MAX_DEPTH x_c_MAX_DIGITS x_c_MAX_ENTRIES x_c_MAX_LEVELS zz
  obtain ⟨x_c_MAX_PARTS, zz⟩ := He.ba (S.f 62 (f := hg_62))
  obtain ⟨x_c_MAX_UNDO, zz⟩ := He.ba (zz)
  obtain ⟨x_c_MAX_VALUE, zz⟩ := He.ba (zz)
  obtain ⟨x_c_SCOPES, zz⟩ := He.ba (zz)
  obtain ⟨x_w_SCOPES, zz⟩ := He.ba (zz)
  obtain ⟨x_c_SYNTAXES, zz⟩ := He.ba (zz)
  have x_w_SYNTAXES := zz
  have y_c_MAX_PARTS := He.int_ok X G x_c_MAX_PARTS
  have y_c_MAX_UNDO := He.int_ok X G x_c_MAX_UNDO
  have y_c_MAX_VALUE := He.int_ok X G x_c_MAX_VALUE
  have y_c_SCOPES := He.eqO_ok x_c_SCOPES
  have y_w_SCOPES := Hk.tpB_ok x_w_SCOPES
  have y_c_SYNTAXES := He.eqO_ok x_c_SYNTAXES
  have y_w_SYNTAXES := Hk.tpB_ok x_w_SYNTAXES
  clear x_c_MAX_PARTS x_c_MAX_UNDO x_c_MAX_VALUE x_c_SCOPES x_w_SCOPES x_c_SYNTAXES x_w_SYNTAXES zz
  have x_kt0_0 := S.f 63 (f := hg_63)
  have y_kt0_0 := x_kt0_0
  clear x_kt0_0
  have x_kt0_1 := S.f 64 (f := hg_64)
  have y_kt0_1 := x_kt0_1
  clear x_kt0_1
  have x_kt0_2 := S.f 65 (f := hg_65)
  have y_kt0_2 := x_kt0_2
  clear x_kt0_2
  obtain ⟨x_kt1, zz⟩ := He.ba (S.f 66 (f := hg_66))
  have x_kt2 := zz
  have y_kt1 := x_kt1
  have y_kt2 := x_kt2
  clear x_kt1 x_kt2 zz
  have e := hfa.symm.trans (PySem.W.mg_of X G y_a_law)
  cases e
  obtain ⟨d_BadName_init, F0_BadName_init⟩ := S.d 25 (d := hd_BadName_init)
  have F_BadName_init : FunD K "__init__" "BadName.__init__" (defArgs s_BadName_init) (defBody s_BadName_init) (defScope s_BadName_init) [] [] (He.ma K (He.ga K "BadName") "__init__") d_BadName_init := F0_BadName_init
  clear F0_BadName_init
  have b_BadName_init : Binds K d_BadName_init ["self", "given"] [] := F_BadName_init.bindsN fun _ _ _ _ _ _ us hl => match us, hl with | [_, _], _ => rfl
  obtain ⟨d_BadFilter_init, F0_BadFilter_init⟩ := S.d 26 (d := hd_BadFilter_init)
  have F_BadFilter_init : FunD K "__init__" "BadFilter.__init__" (defArgs s_BadFilter_init) (defBody s_BadFilter_init) (defScope s_BadFilter_init) [] [] (He.ma K (He.ga K "BadFilter") "__init__") d_BadFilter_init := F0_BadFilter_init
  clear F0_BadFilter_init
  have b_BadFilter_init : Binds K d_BadFilter_init ["self", "place"] [] := F_BadFilter_init.bindsN fun _ _ _ _ _ _ us hl => match us, hl with | [_, _], _ => rfl
  obtain ⟨d_BadScope_init, F0_BadScope_init⟩ := S.d 27 (d := hd_BadScope_init)
  have F_BadScope_init : FunD K "__init__" "BadScope.__init__" (defArgs s_BadScope_init) (defBody s_BadScope_init) (defScope s_BadScope_init) [] [] (He.ma K (He.ga K "BadScope") "__init__") d_BadScope_init := F0_BadScope_init
  clear F0_BadScope_init
  have b_BadScope_init : Binds K d_BadScope_init ["self", "given"] [] := F_BadScope_init.bindsN fun _ _ _ _ _ _ us hl => match us, hl with | [_, _], _ => rfl
  obtain ⟨d_BadNumber_init, F0_BadNumber_init⟩ := S.d 28 (d := hd_BadNumber_init)
  have F_BadNumber_init : FunD K "__init__" "BadNumber.__init__" (defArgs s_BadNumber_init) (defBody s_BadNumber_init) (defScope s_BadNumber_init) [] [] (He.ma K (He.ga K "BadNumber") "__init__") d_BadNumber_init := F0_BadNumber_init
  clear F0_BadNumber_init
  have b_BadNumber_init : Binds K d_BadNumber_init ["self", "given"] [] := F_BadNumber_init.bindsN fun _ _ _ _ _ _ us hl => match us, hl with | [_, _], _ => rfl
  obtain ⟨d_BadSchema_init, F0_BadSchema_init⟩ := S.d 29 (d := hd_BadSchema_init)
  have F_BadSchema_init : FunD K "__init__" "BadSchema.__init__" (defArgs s_BadSchema_init) (defBody s_BadSchema_init) (defScope s_BadSchema_init) [] [] (He.ma K (He.ga K "BadSchema") "__init__") d_BadSchema_init := F0_BadSchema_init
  clear F0_BadSchema_init
  have b_BadSchema_init : Binds K d_BadSchema_init ["self", "part", "place"] [] := F_BadSchema_init.bindsN fun _ _ _ _ _ _ us hl => match us, hl with | [_, _, _], _ => rfl
  obtain ⟨d_BadEntry_init, F0_BadEntry_init⟩ := S.d 30 (d := hd_BadEntry_init)
  have F_BadEntry_init : FunD K "__init__" "BadEntry.__init__" (defArgs s_BadEntry_init) (defBody s_BadEntry_init) (defScope s_BadEntry_init) [] [] (He.ma K (He.ga K "BadEntry") "__init__") d_BadEntry_init := F0_BadEntry_init
  clear F0_BadEntry_init
  have b_BadEntry_init : Binds K d_BadEntry_init ["self", "given"] [] := F_BadEntry_init.bindsN fun _ _ _ _ _ _ us hl => match us, hl with | [_, _], _ => rfl
  obtain ⟨d_BadDeed_init, F0_BadDeed_init⟩ := S.d 31 (d := hd_BadDeed_init)
  have F_BadDeed_init : FunD K "__init__" "BadDeed.__init__" (defArgs s_BadDeed_init) (defBody s_BadDeed_init) (defScope s_BadDeed_init) [] [] (He.ma K (He.ga K "BadDeed") "__init__") d_BadDeed_init := F0_BadDeed_init
  clear F0_BadDeed_init
  have b_BadDeed_init : Binds K d_BadDeed_init ["self", "place"] [] := F_BadDeed_init.bindsN fun _ _ _ _ _ _ us hl => match us, hl with | [_, _], _ => rfl
  obtain ⟨d_BadChange_init, F0_BadChange_init⟩ := S.d 32 (d := hd_BadChange_init)
  have F_BadChange_init : FunD K "__init__" "BadChange.__init__" (defArgs s_BadChange_init) (defBody s_BadChange_init) (defScope s_BadChange_init) [] [] (He.ma K (He.ga K "BadChange") "__init__") d_BadChange_init := F0_BadChange_init
  clear F0_BadChange_init
  have b_BadChange_init : Binds K d_BadChange_init ["self", "place"] [] := F_BadChange_init.bindsN fun _ _ _ _ _ _ us hl => match us, hl with | [_, _], _ => rfl
  obtain ⟨d_BadVector_init, F0_BadVector_init⟩ := S.d 33 (d := hd_BadVector_init)
  have F_BadVector_init : FunD K "__init__" "BadVector.__init__" (defArgs s_BadVector_init) (defBody s_BadVector_init) (defScope s_BadVector_init) [] [] (He.ma K (He.ga K "BadVector") "__init__") d_BadVector_init := F0_BadVector_init
  clear F0_BadVector_init
  have b_BadVector_init : Binds K d_BadVector_init ["self", "given"] [] := F_BadVector_init.bindsN fun _ _ _ _ _ _ us hl => match us, hl with | [_, _], _ => rfl
  obtain ⟨d_BadIndex_init, F0_BadIndex_init⟩ := S.d 34 (d := hd_BadIndex_init)
  have F_BadIndex_init : FunD K "__init__" "BadIndex.__init__" (defArgs s_BadIndex_init) (defBody s_BadIndex_init) (defScope s_BadIndex_init) [] [] (He.ma K (He.ga K "BadIndex") "__init__") d_BadIndex_init := F0_BadIndex_init
  clear F0_BadIndex_init
  have b_BadIndex_init : Binds K d_BadIndex_init ["self", "given"] [] := F_BadIndex_init.bindsN fun _ _ _ _ _ _ us hl => match us, hl with | [_, _], _ => rfl
  obtain ⟨d_BadText_init, F0_BadText_init⟩ := S.d 35 (d := hd_BadText_init)
  have F_BadText_init : FunD K "__init__" "BadText.__init__" (defArgs s_BadText_init) (defBody s_BadText_init) (defScope s_BadText_init) [] [] (He.ma K (He.ga K "BadText") "__init__") d_BadText_init := F0_BadText_init
  clear F0_BadText_init
  have b_BadText_init : Binds K d_BadText_init ["self", "line"] [] := F_BadText_init.bindsN fun _ _ _ _ _ _ us hl => match us, hl with | [_, _], _ => rfl
  obtain ⟨d_BadHost_init, F0_BadHost_init⟩ := S.d 36 (d := hd_BadHost_init)
  have F_BadHost_init : FunD K "__init__" "BadHost.__init__" (defArgs s_BadHost_init) (defBody s_BadHost_init) (defScope s_BadHost_init) [] [] (He.ma K (He.ga K "BadHost") "__init__") d_BadHost_init := F0_BadHost_init
  clear F0_BadHost_init
  have b_BadHost_init : Binds K d_BadHost_init ["self", "given"] [] := F_BadHost_init.bindsN fun _ _ _ _ _ _ us hl => match us, hl with | [_, _], _ => rfl
  obtain ⟨d_BadValue_init, F0_BadValue_init⟩ := S.d 37 (d := hd_BadValue_init)
  have F_BadValue_init : FunD K "__init__" "BadValue.__init__" (defArgs s_BadValue_init) (defBody s_BadValue_init) (defScope s_BadValue_init) [] [] (He.ma K (He.ga K "BadValue") "__init__") d_BadValue_init := F0_BadValue_init
  clear F0_BadValue_init
  have b_BadValue_init : Binds K d_BadValue_init ["self", "attribute", "item"] [] := F_BadValue_init.bindsN fun _ _ _ _ _ _ us hl => match us, hl with | [_, _, _], _ => rfl
  obtain ⟨d_UnknownAttribute_init, F0_UnknownAttribute_init⟩ := S.d 38 (d := hd_UnknownAttribute_init)
  have F_UnknownAttribute_init : FunD K "__init__" "UnknownAttribute.__init__" (defArgs s_UnknownAttribute_init) (defBody s_UnknownAttribute_init) (defScope s_UnknownAttribute_init) [] [] (He.ma K (He.ga K "UnknownAttribute") "__init__") d_UnknownAttribute_init := F0_UnknownAttribute_init
  clear F0_UnknownAttribute_init
  have b_UnknownAttribute_init : Binds K d_UnknownAttribute_init ["self", "attribute"] [] := F_UnknownAttribute_init.bindsN fun _ _ _ _ _ _ us hl => match us, hl with | [_, _], _ => rfl
  obtain ⟨d_MirrorGiven_init, F0_MirrorGiven_init⟩ := S.d 39 (d := hd_MirrorGiven_init)
  have F_MirrorGiven_init : FunD K "__init__" "MirrorGiven.__init__" (defArgs s_MirrorGiven_init) (defBody s_MirrorGiven_init) (defScope s_MirrorGiven_init) [] [] (He.ma K (He.ga K "MirrorGiven") "__init__") d_MirrorGiven_init := F0_MirrorGiven_init
  clear F0_MirrorGiven_init
  have b_MirrorGiven_init : Binds K d_MirrorGiven_init ["self", "attribute"] [] := F_MirrorGiven_init.bindsN fun _ _ _ _ _ _ us hl => match us, hl with | [_, _], _ => rfl
  obtain ⟨d_UnknownClass_init, F0_UnknownClass_init⟩ := S.d 40 (d := hd_UnknownClass_init)
  have F_UnknownClass_init : FunD K "__init__" "UnknownClass.__init__" (defArgs s_UnknownClass_init) (defBody s_UnknownClass_init) (defScope s_UnknownClass_init) [] [] (He.ma K (He.ga K "UnknownClass") "__init__") d_UnknownClass_init := F0_UnknownClass_init
  clear F0_UnknownClass_init
  have b_UnknownClass_init : Binds K d_UnknownClass_init ["self", "given"] [] := F_UnknownClass_init.bindsN fun _ _ _ _ _ _ us hl => match us, hl with | [_, _], _ => rfl
  obtain ⟨d_NotAllowed_init, F0_NotAllowed_init⟩ := S.d 41 (d := hd_NotAllowed_init)
  have F_NotAllowed_init : FunD K "__init__" "NotAllowed.__init__" (defArgs s_NotAllowed_init) (defBody s_NotAllowed_init) (defScope s_NotAllowed_init) [] [] (He.ma K (He.ga K "NotAllowed") "__init__") d_NotAllowed_init := F0_NotAllowed_init
  clear F0_NotAllowed_init
  have b_NotAllowed_init : Binds K d_NotAllowed_init ["self", "attribute"] [] := F_NotAllowed_init.bindsN fun _ _ _ _ _ _ us hl => match us, hl with | [_, _], _ => rfl
  obtain ⟨d_Missing_init, F0_Missing_init⟩ := S.d 42 (d := hd_Missing_init)
  have F_Missing_init : FunD K "__init__" "Missing.__init__" (defArgs s_Missing_init) (defBody s_Missing_init) (defScope s_Missing_init) [] [] (He.ma K (He.ga K "Missing") "__init__") d_Missing_init := F0_Missing_init
  clear F0_Missing_init
  have b_Missing_init : Binds K d_Missing_init ["self", "attribute"] [] := F_Missing_init.bindsN fun _ _ _ _ _ _ us hl => match us, hl with | [_, _], _ => rfl
  obtain ⟨d_TooManyValues_init, F0_TooManyValues_init⟩ := S.d 43 (d := hd_TooManyValues_init)
  have F_TooManyValues_init : FunD K "__init__" "TooManyValues.__init__" (defArgs s_TooManyValues_init) (defBody s_TooManyValues_init) (defScope s_TooManyValues_init) [] [] (He.ma K (He.ga K "TooManyValues") "__init__") d_TooManyValues_init := F0_TooManyValues_init
  clear F0_TooManyValues_init
  have b_TooManyValues_init : Binds K d_TooManyValues_init ["self", "attribute"] [] := F_TooManyValues_init.bindsN fun _ _ _ _ _ _ us hl => match us, hl with | [_, _], _ => rfl
  obtain ⟨d_ValueTaken_init, F0_ValueTaken_init⟩ := S.d 44 (d := hd_ValueTaken_init)
  have F_ValueTaken_init : FunD K "__init__" "ValueTaken.__init__" (defArgs s_ValueTaken_init) (defBody s_ValueTaken_init) (defScope s_ValueTaken_init) [] [] (He.ma K (He.ga K "ValueTaken") "__init__") d_ValueTaken_init := F0_ValueTaken_init
  clear F0_ValueTaken_init
  have b_ValueTaken_init : Binds K d_ValueTaken_init ["self", "attribute", "item"] [] := F_ValueTaken_init.bindsN fun _ _ _ _ _ _ us hl => match us, hl with | [_, _, _], _ => rfl
  obtain ⟨d_NotNamed_init, F0_NotNamed_init⟩ := S.d 45 (d := hd_NotNamed_init)
  have F_NotNamed_init : FunD K "__init__" "NotNamed.__init__" (defArgs s_NotNamed_init) (defBody s_NotNamed_init) (defScope s_NotNamed_init) [] [] (He.ma K (He.ga K "NotNamed") "__init__") d_NotNamed_init := F0_NotNamed_init
  clear F0_NotNamed_init
  have b_NotNamed_init : Binds K d_NotNamed_init ["self", "attribute"] [] := F_NotNamed_init.bindsN fun _ _ _ _ _ _ us hl => match us, hl with | [_, _], _ => rfl
  obtain ⟨d_BadPlace_init, F0_BadPlace_init⟩ := S.d 46 (d := hd_BadPlace_init)
  have F_BadPlace_init : FunD K "__init__" "BadPlace.__init__" (defArgs s_BadPlace_init) (defBody s_BadPlace_init) (defScope s_BadPlace_init) [] [] (He.ma K (He.ga K "BadPlace") "__init__") d_BadPlace_init := F0_BadPlace_init
  clear F0_BadPlace_init
  have b_BadPlace_init : Binds K d_BadPlace_init ["self", "given"] [] := F_BadPlace_init.bindsN fun _ _ _ _ _ _ us hl => match us, hl with | [_, _], _ => rfl
  obtain ⟨d_NoTarget_init, F0_NoTarget_init⟩ := S.d 47 (d := hd_NoTarget_init)
  have F_NoTarget_init : FunD K "__init__" "NoTarget.__init__" (defArgs s_NoTarget_init) (defBody s_NoTarget_init) (defScope s_NoTarget_init) [] [] (He.ma K (He.ga K "NoTarget") "__init__") d_NoTarget_init := F0_NoTarget_init
  clear F0_NoTarget_init
  have b_NoTarget_init : Binds K d_NoTarget_init ["self", "attribute", "item"] [] := F_NoTarget_init.bindsN fun _ _ _ _ _ _ us hl => match us, hl with | [_, _, _], _ => rfl
  obtain ⟨d_NotInteger_init, F0_NotInteger_init⟩ := S.d 48 (d := hd_NotInteger_init)
  have F_NotInteger_init : FunD K "__init__" "NotInteger.__init__" (defArgs s_NotInteger_init) (defBody s_NotInteger_init) (defScope s_NotInteger_init) [] [] (He.ma K (He.ga K "NotInteger") "__init__") d_NotInteger_init := F0_NotInteger_init
  clear F0_NotInteger_init
  have b_NotInteger_init : Binds K d_NotInteger_init ["self", "attribute"] [] := F_NotInteger_init.bindsN fun _ _ _ _ _ _ us hl => match us, hl with | [_, _], _ => rfl
  obtain ⟨d_NoOrder_init, F0_NoOrder_init⟩ := S.d 49 (d := hd_NoOrder_init)
  have F_NoOrder_init : FunD K "__init__" "NoOrder.__init__" (defArgs s_NoOrder_init) (defBody s_NoOrder_init) (defScope s_NoOrder_init) [] [] (He.ma K (He.ga K "NoOrder") "__init__") d_NoOrder_init := F0_NoOrder_init
  clear F0_NoOrder_init
  have b_NoOrder_init : Binds K d_NoOrder_init ["self", "attribute"] [] := F_NoOrder_init.bindsN fun _ _ _ _ _ _ us hl => match us, hl with | [_, _], _ => rfl
  obtain ⟨d_NoEntry_init, F0_NoEntry_init⟩ := S.d 50 (d := hd_NoEntry_init)
  have F_NoEntry_init : FunD K "__init__" "NoEntry.__init__" (defArgs s_NoEntry_init) (defBody s_NoEntry_init) (defScope s_NoEntry_init) [] [] (He.ma K (He.ga K "NoEntry") "__init__") d_NoEntry_init := F0_NoEntry_init
  clear F0_NoEntry_init
  have b_NoEntry_init : Binds K d_NoEntry_init ["self", "missing", "matched"] [] := F_NoEntry_init.bindsN fun _ _ _ _ _ _ us hl => match us, hl with | [_, _, _], _ => rfl
  obtain ⟨d_NameTaken_init, F0_NameTaken_init⟩ := S.d 51 (d := hd_NameTaken_init)
  have F_NameTaken_init : FunD K "__init__" "NameTaken.__init__" (defArgs s_NameTaken_init) (defBody s_NameTaken_init) (defScope s_NameTaken_init) [] [] (He.ma K (He.ga K "NameTaken") "__init__") d_NameTaken_init := F0_NameTaken_init
  clear F0_NameTaken_init
  have b_NameTaken_init : Binds K d_NameTaken_init ["self", "given"] [] := F_NameTaken_init.bindsN fun _ _ _ _ _ _ us hl => match us, hl with | [_, _], _ => rfl
  obtain ⟨d_HasChildren_init, F0_HasChildren_init⟩ := S.d 52 (d := hd_HasChildren_init)
  have F_HasChildren_init : FunD K "__init__" "HasChildren.__init__" (defArgs s_HasChildren_init) (defBody s_HasChildren_init) (defScope s_HasChildren_init) [] [] (He.ma K (He.ga K "HasChildren") "__init__") d_HasChildren_init := F0_HasChildren_init
  clear F0_HasChildren_init
  have b_HasChildren_init : Binds K d_HasChildren_init ["self", "given"] [] := F_HasChildren_init.bindsN fun _ _ _ _ _ _ us hl => match us, hl with | [_, _], _ => rfl
  obtain ⟨d_InUse_init, F0_InUse_init⟩ := S.d 53 (d := hd_InUse_init)
  have F_InUse_init : FunD K "__init__" "InUse.__init__" (defArgs s_InUse_init) (defBody s_InUse_init) (defScope s_InUse_init) [] [] (He.ma K (He.ga K "InUse") "__init__") d_InUse_init := F0_InUse_init
  clear F0_InUse_init
  have b_InUse_init : Binds K d_InUse_init ["self", "holder"] [] := F_InUse_init.bindsN fun _ _ _ _ _ _ us hl => match us, hl with | [_, _], _ => rfl
  obtain ⟨d_Inside_init, F0_Inside_init⟩ := S.d 54 (d := hd_Inside_init)
  have F_Inside_init : FunD K "__init__" "Inside.__init__" (defArgs s_Inside_init) (defBody s_Inside_init) (defScope s_Inside_init) [] [] (He.ma K (He.ga K "Inside") "__init__") d_Inside_init := F0_Inside_init
  clear F0_Inside_init
  have b_Inside_init : Binds K d_Inside_init ["self", "given"] [] := F_Inside_init.bindsN fun _ _ _ _ _ _ us hl => match us, hl with | [_, _], _ => rfl
  obtain ⟨d_NoValue_init, F0_NoValue_init⟩ := S.d 0 (d := hd_NoValue_init)
  have F_NoValue_init : FunD K "__init__" "NoValue.__init__" (defArgs s_NoValue_init) (defBody s_NoValue_init) (defScope s_NoValue_init) [] [] (He.ma K (He.ga K "NoValue") "__init__") d_NoValue_init := F0_NoValue_init
  clear F0_NoValue_init
  have b_NoValue_init : Binds K d_NoValue_init ["self", "attribute", "item"] [] := F_NoValue_init.bindsN fun _ _ _ _ _ _ us hl => match us, hl with | [_, _, _], _ => rfl
  obtain ⟨d_Referral_init, F0_Referral_init⟩ := S.d 1 (d := hd_Referral_init)
  have F_Referral_init : FunD K "__init__" "Referral.__init__" (defArgs s_Referral_init) (defBody s_Referral_init) (defScope s_Referral_init) [] [] (He.ma K (He.ga K "Referral") "__init__") d_Referral_init := F0_Referral_init
  clear F0_Referral_init
  have b_Referral_init : Binds K d_Referral_init ["self", "targets"] [] := F_Referral_init.bindsN fun _ _ _ _ _ _ us hl => match us, hl with | [_, _], _ => rfl
  obtain ⟨d_IndexTaken_init, F0_IndexTaken_init⟩ := S.d 2 (d := hd_IndexTaken_init)
  have F_IndexTaken_init : FunD K "__init__" "IndexTaken.__init__" (defArgs s_IndexTaken_init) (defBody s_IndexTaken_init) (defScope s_IndexTaken_init) [] [] (He.ma K (He.ga K "IndexTaken") "__init__") d_IndexTaken_init := F0_IndexTaken_init
  clear F0_IndexTaken_init
  have b_IndexTaken_init : Binds K d_IndexTaken_init ["self", "given"] [] := F_IndexTaken_init.bindsN fun _ _ _ _ _ _ us hl => match us, hl with | [_, _], _ => rfl
  obtain ⟨d_NoIndex_init, F0_NoIndex_init⟩ := S.d 3 (d := hd_NoIndex_init)
  have F_NoIndex_init : FunD K "__init__" "NoIndex.__init__" (defArgs s_NoIndex_init) (defBody s_NoIndex_init) (defScope s_NoIndex_init) [] [] (He.ma K (He.ga K "NoIndex") "__init__") d_NoIndex_init := F0_NoIndex_init
  clear F0_NoIndex_init
  have b_NoIndex_init : Binds K d_NoIndex_init ["self", "given"] [] := F_NoIndex_init.bindsN fun _ _ _ _ _ _ us hl => match us, hl with | [_, _], _ => rfl
  obtain ⟨d_NoHost_init, F0_NoHost_init⟩ := S.d 4 (d := hd_NoHost_init)
  have F_NoHost_init : FunD K "__init__" "NoHost.__init__" (defArgs s_NoHost_init) (defBody s_NoHost_init) (defScope s_NoHost_init) [] [] (He.ma K (He.ga K "NoHost") "__init__") d_NoHost_init := F0_NoHost_init
  clear F0_NoHost_init
  have b_NoHost_init : Binds K d_NoHost_init ["self", "host"] [] := F_NoHost_init.bindsN fun _ _ _ _ _ _ us hl => match us, hl with | [_, _], _ => rfl
  obtain ⟨d_Gap_init, F0_Gap_init⟩ := S.d 5 (d := hd_Gap_init)
  have F_Gap_init : FunD K "__init__" "Gap.__init__" (defArgs s_Gap_init) (defBody s_Gap_init) (defScope s_Gap_init) [] [] (He.ma K (He.ga K "Gap") "__init__") d_Gap_init := F0_Gap_init
  clear F0_Gap_init
  have b_Gap_init : Binds K d_Gap_init ["self", "host"] [] := F_Gap_init.bindsN fun _ _ _ _ _ _ us hl => match us, hl with | [_, _], _ => rfl
  obtain ⟨d_Behind_init, F0_Behind_init⟩ := S.d 6 (d := hd_Behind_init)
  have F_Behind_init : FunD K "__init__" "Behind.__init__" (defArgs s_Behind_init) (defBody s_Behind_init) (defScope s_Behind_init) [] [] (He.ma K (He.ga K "Behind") "__init__") d_Behind_init := F0_Behind_init
  clear F0_Behind_init
  have b_Behind_init : Binds K d_Behind_init ["self", "host"] [] := F_Behind_init.bindsN fun _ _ _ _ _ _ us hl => match us, hl with | [_, _], _ => rfl
  obtain ⟨d_Forgotten_init, F0_Forgotten_init⟩ := S.d 7 (d := hd_Forgotten_init)
  have F_Forgotten_init : FunD K "__init__" "Forgotten.__init__" (defArgs s_Forgotten_init) (defBody s_Forgotten_init) (defScope s_Forgotten_init) [] [] (He.ma K (He.ga K "Forgotten") "__init__") d_Forgotten_init := F0_Forgotten_init
  clear F0_Forgotten_init
  have b_Forgotten_init : Binds K d_Forgotten_init ["self", "host"] [] := F_Forgotten_init.bindsN fun _ _ _ _ _ _ us hl => match us, hl with | [_, _], _ => rfl
  obtain ⟨d_Full_init, F0_Full_init⟩ := S.d 8 (d := hd_Full_init)
  have F_Full_init : FunD K "__init__" "Full.__init__" (defArgs s_Full_init) (defBody s_Full_init) (defScope s_Full_init) [] [] (He.ma K (He.ga K "Full") "__init__") d_Full_init := F0_Full_init
  clear F0_Full_init
  have b_Full_init : Binds K d_Full_init ["self", "limit"] [] := F_Full_init.bindsN fun _ _ _ _ _ _ us hl => match us, hl with | [_, _], _ => rfl
  obtain ⟨d_TooDeep_init, F0_TooDeep_init⟩ := S.d 9 (d := hd_TooDeep_init)
  have F_TooDeep_init : FunD K "__init__" "TooDeep.__init__" (defArgs s_TooDeep_init) (defBody s_TooDeep_init) (defScope s_TooDeep_init) [] [] (He.ma K (He.ga K "TooDeep") "__init__") d_TooDeep_init := F0_TooDeep_init
  clear F0_TooDeep_init
  have b_TooDeep_init : Binds K d_TooDeep_init ["self", "limit"] [] := F_TooDeep_init.bindsN fun _ _ _ _ _ _ us hl => match us, hl with | [_, _], _ => rfl
  obtain ⟨d_SizeLimit_init, F0_SizeLimit_init⟩ := S.d 10 (d := hd_SizeLimit_init)
  have F_SizeLimit_init : FunD K "__init__" "SizeLimit.__init__" (defArgs s_SizeLimit_init) (defBody s_SizeLimit_init) (defScope s_SizeLimit_init) [] [] (He.ma K (He.ga K "SizeLimit") "__init__") d_SizeLimit_init := F0_SizeLimit_init
  clear F0_SizeLimit_init
  have b_SizeLimit_init : Binds K d_SizeLimit_init ["self", "limit"] [] := F_SizeLimit_init.bindsN fun _ _ _ _ _ _ us hl => match us, hl with | [_, _], _ => rfl
  obtain ⟨d_q_source, F0_q_source⟩ := S.d 11 (d := hd_q_source)
  have F_q_source : FunD K "_law_source" "_law_source" (defArgs s_q_source) (defBody s_q_source) (defScope s_q_source) [] [] (He.ga K "_law_source") d_q_source := F0_q_source
  clear F0_q_source
  have b_q_source : Binds K d_q_source ["_law_script", "_law_k"] [] := F_q_source.bindsN fun _ _ _ _ _ _ us hl => match us, hl with | [_, _], _ => rfl
  obtain ⟨d_q_next, F0_q_next⟩ := S.d 12 (d := hd_q_next)
  have F_q_next : FunD K "_law_next" "_law_next" (defArgs s_q_next) (defBody s_q_next) (defScope s_q_next) [] [] (He.ga K "_law_next") d_q_next := F0_q_next
  clear F0_q_next
  have b_q_next : Binds K d_q_next ["_law_source_here", "_law_many"] [] := F_q_next.bindsN fun _ _ _ _ _ _ us hl => match us, hl with | [_, _], _ => rfl
  obtain ⟨d_q_pick, F0_q_pick⟩ := S.d 13 (d := hd_q_pick)
  have F_q_pick : FunD K "_law_pick" "_law_pick" (defArgs s_q_pick) (defBody s_q_pick) (defScope s_q_pick) [] [] (He.ga K "_law_pick") d_q_pick := F0_q_pick
  clear F0_q_pick
  have b_q_pick : Binds K d_q_pick ["_law_source_here", "_law_items"] [] := F_q_pick.bindsN fun _ _ _ _ _ _ us hl => match us, hl with | [_, _], _ => rfl
  obtain ⟨d_q_rounds, F0_q_rounds⟩ := S.d 14 (d := hd_q_rounds)
  have F_q_rounds : FunD K "_law_rounds" "_law_rounds" (defArgs s_q_rounds) (defBody s_q_rounds) (defScope s_q_rounds) [] [] (He.ga K "_law_rounds") d_q_rounds := F0_q_rounds
  clear F0_q_rounds
  have b_q_rounds : Binds K d_q_rounds ["_law_script", "_law_most"] [] := F_q_rounds.bindsN fun _ _ _ _ _ _ us hl => match us, hl with | [_, _], _ => rfl
  obtain ⟨d_q_made, F0_q_made⟩ := S.d 15 (d := hd_q_made)
  have F_q_made : FunD K "_law_made" "_law_made" (defArgs s_q_made) (defBody s_q_made) (defScope s_q_made) [] [] (He.ga K "_law_made") d_q_made := F0_q_made
  clear F0_q_made
  have b_q_made : Binds K d_q_made ["_law_one", "_law_two"] [] := F_q_made.bindsN fun _ _ _ _ _ _ us hl => match us, hl with | [_, _], _ => rfl
  obtain ⟨d_q_named, F0_q_named⟩ := S.d 16 (d := hd_q_named)
  have F_q_named : FunD K "_law_named" "_law_named" (defArgs s_q_named) (defBody s_q_named) (defScope s_q_named) [] [] (He.ga K "_law_named") d_q_named := F0_q_named
  clear F0_q_named
  have b_q_named : Binds K d_q_named ["_law_one", "_law_two"] [] := F_q_named.bindsN fun _ _ _ _ _ _ us hl => match us, hl with | [_, _], _ => rfl
  obtain ⟨d_q_held, F0_q_held⟩ := S.d 17 (d := hd_q_held)
  have F_q_held : FunD K "_law_held" "_law_held" (defArgs s_q_held) (defBody s_q_held) (defScope s_q_held) [] [] (He.ga K "_law_held") d_q_held := F0_q_held
  clear F0_q_held
  have b_q_held : Binds K d_q_held ["_law_error", "_law_spot"] [] := F_q_held.bindsN fun _ _ _ _ _ _ us hl => match us, hl with | [_, _], _ => rfl
  obtain ⟨d_q_marks, F0_q_marks⟩ := S.d 18 (d := hd_q_marks)
  have F_q_marks : FunD K "_law_marks" "_law_marks" (defArgs s_q_marks) (defBody s_q_marks) (defScope s_q_marks) [] [] (He.ga K "_law_marks") d_q_marks := F0_q_marks
  clear F0_q_marks
  have b_q_marks : Binds K d_q_marks ["_law_error"] [] := F_q_marks.bindsN fun _ _ _ _ _ _ us hl => match us, hl with | [_], _ => rfl
  obtain ⟨d_q_families, F0_q_families⟩ := S.d 19 (d := hd_q_families)
  have F_q_families : FunD K "_law_families" "_law_families" (defArgs s_q_families) (defBody s_q_families) (defScope s_q_families) [] [] (He.ga K "_law_families") d_q_families := F0_q_families
  clear F0_q_families
  have b_q_families : Binds K d_q_families ["_law_error"] [] := F_q_families.bindsN fun _ _ _ _ _ _ us hl => match us, hl with | [_], _ => rfl
  obtain ⟨d_q_strange, F0_q_strange⟩ := S.d 20 (d := hd_q_strange)
  have F_q_strange : FunD K "_law_strange" "_law_strange" (defArgs s_q_strange) (defBody s_q_strange) (defScope s_q_strange) [] [] (He.ga K "_law_strange") d_q_strange := F0_q_strange
  clear F0_q_strange
  have b_q_strange : Binds K d_q_strange ["_law_error"] [] := F_q_strange.bindsN fun _ _ _ _ _ _ us hl => match us, hl with | [_], _ => rfl
  obtain ⟨d_q_due, F0_q_due⟩ := S.d 21 (d := hd_q_due)
  have F_q_due : FunD K "_law_due" "_law_due" (defArgs s_q_due) (defBody s_q_due) (defScope s_q_due) [] [] (He.ga K "_law_due") d_q_due := F0_q_due
  clear F0_q_due
  have b_q_due : Binds K d_q_due ["_law_spot", "_law_one", "_law_two"] [] := F_q_due.bindsN fun _ _ _ _ _ _ us hl => match us, hl with | [_, _, _], _ => rfl
  obtain ⟨d_q_error_right, F0_q_error_right⟩ := S.d 22 (d := hd_q_error_right)
  have F_q_error_right : FunD K "_law_error_right" "_law_error_right" (defArgs s_q_error_right) (defBody s_q_error_right) (defScope s_q_error_right) [] [] (He.ga K "_law_error_right") d_q_error_right := F0_q_error_right
  clear F0_q_error_right
  have b_q_error_right : Binds K d_q_error_right ["_law_error", "_law_spot", "_law_one", "_law_two"] [] := F_q_error_right.bindsN fun _ _ _ _ _ _ us hl => match us, hl with | [_, _, _, _], _ => rfl
  obtain ⟨d_q_limits_right, F0_q_limits_right⟩ := S.d 23 (d := hd_q_limits_right)
  have F_q_limits_right : FunD K "_law_limits_right" "_law_limits_right" (defArgs s_q_limits_right) (defBody s_q_limits_right) (defScope s_q_limits_right) [] [] (He.ga K "_law_limits_right") d_q_limits_right := F0_q_limits_right
  clear F0_q_limits_right
  have b_q_limits_right : Binds K d_q_limits_right [] [] := F_q_limits_right.bindsN fun _ _ _ _ _ _ us hl => match us, hl with | [], _ => rfl
  obtain ⟨d_law, F0_law⟩ := S.d 24 (d := hd_law)
  have F_law : FunD K "law" "law" (defArgs s_law) (defBody s_law) (defScope s_law) [] [] (He.ga K "law") d_law := F0_law
  clear F0_law
  have b_law : Binds K d_law ["_law_script"] [] := F_law.bindsN fun _ _ _ _ _ _ us hl => match us, hl with | [_], _ => rfl
  obtain ⟨u_MAX_DEPTH, v_MAX_DEPTH⟩ := y_c_MAX_DEPTH
  obtain ⟨u_MAX_DIGITS, v_MAX_DIGITS⟩ := y_c_MAX_DIGITS
  obtain ⟨u_MAX_ENTRIES, v_MAX_ENTRIES⟩ := y_c_MAX_ENTRIES
  obtain ⟨u_MAX_LEVELS, v_MAX_LEVELS⟩ := y_c_MAX_LEVELS
  obtain ⟨u_MAX_PARTS, v_MAX_PARTS⟩ := y_c_MAX_PARTS
  obtain ⟨u_MAX_UNDO, v_MAX_UNDO⟩ := y_c_MAX_UNDO
  obtain ⟨u_MAX_VALUE, v_MAX_VALUE⟩ := y_c_MAX_VALUE
  let T : Txt K mg := {
    f_BadName_init := (He.ma K (He.ga K "BadName") "__init__")
    d_BadName_init := d_BadName_init
    F_BadName_init := He5.fun_of F_BadName_init
    b_BadName_init := b_BadName_init
    iX_BadName := y_a_BadName_init
    tX_BadName := y_i_BadName_init
    f_BadFilter_init := (He.ma K (He.ga K "BadFilter") "__init__")
    d_BadFilter_init := d_BadFilter_init
    F_BadFilter_init := He5.fun_of F_BadFilter_init
    b_BadFilter_init := b_BadFilter_init
    iX_BadFilter := y_a_BadFilter_init
    tX_BadFilter := y_i_BadFilter_init
    f_BadScope_init := (He.ma K (He.ga K "BadScope") "__init__")
    d_BadScope_init := d_BadScope_init
    F_BadScope_init := He5.fun_of F_BadScope_init
    b_BadScope_init := b_BadScope_init
    iX_BadScope := y_a_BadScope_init
    tX_BadScope := y_i_BadScope_init
    f_BadNumber_init := (He.ma K (He.ga K "BadNumber") "__init__")
    d_BadNumber_init := d_BadNumber_init
    F_BadNumber_init := He5.fun_of F_BadNumber_init
    b_BadNumber_init := b_BadNumber_init
    iX_BadNumber := y_a_BadNumber_init
    tX_BadNumber := y_i_BadNumber_init
    f_BadSchema_init := (He.ma K (He.ga K "BadSchema") "__init__")
    d_BadSchema_init := d_BadSchema_init
    F_BadSchema_init := He5.fun_of F_BadSchema_init
    b_BadSchema_init := b_BadSchema_init
    iX_BadSchema := y_a_BadSchema_init
    tX_BadSchema := y_i_BadSchema_init
    f_BadEntry_init := (He.ma K (He.ga K "BadEntry") "__init__")
    d_BadEntry_init := d_BadEntry_init
    F_BadEntry_init := He5.fun_of F_BadEntry_init
    b_BadEntry_init := b_BadEntry_init
    iX_BadEntry := y_a_BadEntry_init
    tX_BadEntry := y_i_BadEntry_init
    f_BadDeed_init := (He.ma K (He.ga K "BadDeed") "__init__")
    d_BadDeed_init := d_BadDeed_init
    F_BadDeed_init := He5.fun_of F_BadDeed_init
    b_BadDeed_init := b_BadDeed_init
    iX_BadDeed := y_a_BadDeed_init
    tX_BadDeed := y_i_BadDeed_init
    f_BadChange_init := (He.ma K (He.ga K "BadChange") "__init__")
    d_BadChange_init := d_BadChange_init
    F_BadChange_init := He5.fun_of F_BadChange_init
    b_BadChange_init := b_BadChange_init
    iX_BadChange := y_a_BadChange_init
    tX_BadChange := y_i_BadChange_init
    f_BadVector_init := (He.ma K (He.ga K "BadVector") "__init__")
    d_BadVector_init := d_BadVector_init
    F_BadVector_init := He5.fun_of F_BadVector_init
    b_BadVector_init := b_BadVector_init
    iX_BadVector := y_a_BadVector_init
    tX_BadVector := y_i_BadVector_init
    f_BadIndex_init := (He.ma K (He.ga K "BadIndex") "__init__")
    d_BadIndex_init := d_BadIndex_init
    F_BadIndex_init := He5.fun_of F_BadIndex_init
    b_BadIndex_init := b_BadIndex_init
    iX_BadIndex := y_a_BadIndex_init
    tX_BadIndex := y_i_BadIndex_init
    f_BadText_init := (He.ma K (He.ga K "BadText") "__init__")
    d_BadText_init := d_BadText_init
    F_BadText_init := He5.fun_of F_BadText_init
    b_BadText_init := b_BadText_init
    iX_BadText := y_a_BadText_init
    tX_BadText := y_i_BadText_init
    f_BadHost_init := (He.ma K (He.ga K "BadHost") "__init__")
    d_BadHost_init := d_BadHost_init
    F_BadHost_init := He5.fun_of F_BadHost_init
    b_BadHost_init := b_BadHost_init
    iX_BadHost := y_a_BadHost_init
    tX_BadHost := y_i_BadHost_init
    f_BadValue_init := (He.ma K (He.ga K "BadValue") "__init__")
    d_BadValue_init := d_BadValue_init
    F_BadValue_init := He5.fun_of F_BadValue_init
    b_BadValue_init := b_BadValue_init
    iX_BadValue := y_a_BadValue_init
    tX_BadValue := y_i_BadValue_init
    f_UnknownAttribute_init := (He.ma K (He.ga K "UnknownAttribute") "__init__")
    d_UnknownAttribute_init := d_UnknownAttribute_init
    F_UnknownAttribute_init := He5.fun_of F_UnknownAttribute_init
    b_UnknownAttribute_init := b_UnknownAttribute_init
    iX_UnknownAttribute := y_a_UnknownAttribute_init
    tX_UnknownAttribute := y_i_UnknownAttribute_init
    f_MirrorGiven_init := (He.ma K (He.ga K "MirrorGiven") "__init__")
    d_MirrorGiven_init := d_MirrorGiven_init
    F_MirrorGiven_init := He5.fun_of F_MirrorGiven_init
    b_MirrorGiven_init := b_MirrorGiven_init
    iX_MirrorGiven := y_a_MirrorGiven_init
    tX_MirrorGiven := y_i_MirrorGiven_init
    f_UnknownClass_init := (He.ma K (He.ga K "UnknownClass") "__init__")
    d_UnknownClass_init := d_UnknownClass_init
    F_UnknownClass_init := He5.fun_of F_UnknownClass_init
    b_UnknownClass_init := b_UnknownClass_init
    iX_UnknownClass := y_a_UnknownClass_init
    tX_UnknownClass := y_i_UnknownClass_init
    f_NotAllowed_init := (He.ma K (He.ga K "NotAllowed") "__init__")
    d_NotAllowed_init := d_NotAllowed_init
    F_NotAllowed_init := He5.fun_of F_NotAllowed_init
    b_NotAllowed_init := b_NotAllowed_init
    iX_NotAllowed := y_a_NotAllowed_init
    tX_NotAllowed := y_i_NotAllowed_init
    f_Missing_init := (He.ma K (He.ga K "Missing") "__init__")
    d_Missing_init := d_Missing_init
    F_Missing_init := He5.fun_of F_Missing_init
    b_Missing_init := b_Missing_init
    iX_Missing := y_a_Missing_init
    tX_Missing := y_i_Missing_init
    f_TooManyValues_init := (He.ma K (He.ga K "TooManyValues") "__init__")
    d_TooManyValues_init := d_TooManyValues_init
    F_TooManyValues_init := He5.fun_of F_TooManyValues_init
    b_TooManyValues_init := b_TooManyValues_init
    iX_TooManyValues := y_a_TooManyValues_init
    tX_TooManyValues := y_i_TooManyValues_init
    f_ValueTaken_init := (He.ma K (He.ga K "ValueTaken") "__init__")
    d_ValueTaken_init := d_ValueTaken_init
    F_ValueTaken_init := He5.fun_of F_ValueTaken_init
    b_ValueTaken_init := b_ValueTaken_init
    iX_ValueTaken := y_a_ValueTaken_init
    tX_ValueTaken := y_i_ValueTaken_init
    f_NotNamed_init := (He.ma K (He.ga K "NotNamed") "__init__")
    d_NotNamed_init := d_NotNamed_init
    F_NotNamed_init := He5.fun_of F_NotNamed_init
    b_NotNamed_init := b_NotNamed_init
    iX_NotNamed := y_a_NotNamed_init
    tX_NotNamed := y_i_NotNamed_init
    f_BadPlace_init := (He.ma K (He.ga K "BadPlace") "__init__")
    d_BadPlace_init := d_BadPlace_init
    F_BadPlace_init := He5.fun_of F_BadPlace_init
    b_BadPlace_init := b_BadPlace_init
    iX_BadPlace := y_a_BadPlace_init
    tX_BadPlace := y_i_BadPlace_init
    f_NoTarget_init := (He.ma K (He.ga K "NoTarget") "__init__")
    d_NoTarget_init := d_NoTarget_init
    F_NoTarget_init := He5.fun_of F_NoTarget_init
    b_NoTarget_init := b_NoTarget_init
    iX_NoTarget := y_a_NoTarget_init
    tX_NoTarget := y_i_NoTarget_init
    f_NotInteger_init := (He.ma K (He.ga K "NotInteger") "__init__")
    d_NotInteger_init := d_NotInteger_init
    F_NotInteger_init := He5.fun_of F_NotInteger_init
    b_NotInteger_init := b_NotInteger_init
    iX_NotInteger := y_a_NotInteger_init
    tX_NotInteger := y_i_NotInteger_init
    f_NoOrder_init := (He.ma K (He.ga K "NoOrder") "__init__")
    d_NoOrder_init := d_NoOrder_init
    F_NoOrder_init := He5.fun_of F_NoOrder_init
    b_NoOrder_init := b_NoOrder_init
    iX_NoOrder := y_a_NoOrder_init
    tX_NoOrder := y_i_NoOrder_init
    f_NoEntry_init := (He.ma K (He.ga K "NoEntry") "__init__")
    d_NoEntry_init := d_NoEntry_init
    F_NoEntry_init := He5.fun_of F_NoEntry_init
    b_NoEntry_init := b_NoEntry_init
    iX_NoEntry := y_a_NoEntry_init
    tX_NoEntry := y_i_NoEntry_init
    f_NameTaken_init := (He.ma K (He.ga K "NameTaken") "__init__")
    d_NameTaken_init := d_NameTaken_init
    F_NameTaken_init := He5.fun_of F_NameTaken_init
    b_NameTaken_init := b_NameTaken_init
    iX_NameTaken := y_a_NameTaken_init
    tX_NameTaken := y_i_NameTaken_init
    f_HasChildren_init := (He.ma K (He.ga K "HasChildren") "__init__")
    d_HasChildren_init := d_HasChildren_init
    F_HasChildren_init := He5.fun_of F_HasChildren_init
    b_HasChildren_init := b_HasChildren_init
    iX_HasChildren := y_a_HasChildren_init
    tX_HasChildren := y_i_HasChildren_init
    f_InUse_init := (He.ma K (He.ga K "InUse") "__init__")
    d_InUse_init := d_InUse_init
    F_InUse_init := He5.fun_of F_InUse_init
    b_InUse_init := b_InUse_init
    iX_InUse := y_a_InUse_init
    tX_InUse := y_i_InUse_init
    f_Inside_init := (He.ma K (He.ga K "Inside") "__init__")
    d_Inside_init := d_Inside_init
    F_Inside_init := He5.fun_of F_Inside_init
    b_Inside_init := b_Inside_init
    iX_Inside := y_a_Inside_init
    tX_Inside := y_i_Inside_init
    f_NoValue_init := (He.ma K (He.ga K "NoValue") "__init__")
    d_NoValue_init := d_NoValue_init
    F_NoValue_init := He5.fun_of F_NoValue_init
    b_NoValue_init := b_NoValue_init
    iX_NoValue := y_a_NoValue_init
    tX_NoValue := y_i_NoValue_init
    f_Referral_init := (He.ma K (He.ga K "Referral") "__init__")
    d_Referral_init := d_Referral_init
    F_Referral_init := He5.fun_of F_Referral_init
    b_Referral_init := b_Referral_init
    iX_Referral := y_a_Referral_init
    tX_Referral := y_i_Referral_init
    f_IndexTaken_init := (He.ma K (He.ga K "IndexTaken") "__init__")
    d_IndexTaken_init := d_IndexTaken_init
    F_IndexTaken_init := He5.fun_of F_IndexTaken_init
    b_IndexTaken_init := b_IndexTaken_init
    iX_IndexTaken := y_a_IndexTaken_init
    tX_IndexTaken := y_i_IndexTaken_init
    f_NoIndex_init := (He.ma K (He.ga K "NoIndex") "__init__")
    d_NoIndex_init := d_NoIndex_init
    F_NoIndex_init := He5.fun_of F_NoIndex_init
    b_NoIndex_init := b_NoIndex_init
    iX_NoIndex := y_a_NoIndex_init
    tX_NoIndex := y_i_NoIndex_init
    f_NoHost_init := (He.ma K (He.ga K "NoHost") "__init__")
    d_NoHost_init := d_NoHost_init
    F_NoHost_init := He5.fun_of F_NoHost_init
    b_NoHost_init := b_NoHost_init
    iX_NoHost := y_a_NoHost_init
    tX_NoHost := y_i_NoHost_init
    f_Gap_init := (He.ma K (He.ga K "Gap") "__init__")
    d_Gap_init := d_Gap_init
    F_Gap_init := He5.fun_of F_Gap_init
    b_Gap_init := b_Gap_init
    iX_Gap := y_a_Gap_init
    tX_Gap := y_i_Gap_init
    f_Behind_init := (He.ma K (He.ga K "Behind") "__init__")
    d_Behind_init := d_Behind_init
    F_Behind_init := He5.fun_of F_Behind_init
    b_Behind_init := b_Behind_init
    iX_Behind := y_a_Behind_init
    tX_Behind := y_i_Behind_init
    f_Forgotten_init := (He.ma K (He.ga K "Forgotten") "__init__")
    d_Forgotten_init := d_Forgotten_init
    F_Forgotten_init := He5.fun_of F_Forgotten_init
    b_Forgotten_init := b_Forgotten_init
    iX_Forgotten := y_a_Forgotten_init
    tX_Forgotten := y_i_Forgotten_init
    f_Full_init := (He.ma K (He.ga K "Full") "__init__")
    d_Full_init := d_Full_init
    F_Full_init := He5.fun_of F_Full_init
    b_Full_init := b_Full_init
    iX_Full := y_a_Full_init
    tX_Full := y_i_Full_init
    f_TooDeep_init := (He.ma K (He.ga K "TooDeep") "__init__")
    d_TooDeep_init := d_TooDeep_init
    F_TooDeep_init := He5.fun_of F_TooDeep_init
    b_TooDeep_init := b_TooDeep_init
    iX_TooDeep := y_a_TooDeep_init
    tX_TooDeep := y_i_TooDeep_init
    f_SizeLimit_init := (He.ma K (He.ga K "SizeLimit") "__init__")
    d_SizeLimit_init := d_SizeLimit_init
    F_SizeLimit_init := He5.fun_of F_SizeLimit_init
    b_SizeLimit_init := b_SizeLimit_init
    iX_SizeLimit := y_a_SizeLimit_init
    tX_SizeLimit := y_i_SizeLimit_init
    f_q_source := (He.ga K "_law_source")
    d_q_source := d_q_source
    F_q_source := He5.fun_of F_q_source
    b_q_source := b_q_source
    g_q_source := PySem.W.mg_of X G y_a_q_source
    f_q_next := (He.ga K "_law_next")
    d_q_next := d_q_next
    F_q_next := He5.fun_of F_q_next
    b_q_next := b_q_next
    g_q_next := PySem.W.mg_of X G y_a_q_next
    f_q_pick := (He.ga K "_law_pick")
    d_q_pick := d_q_pick
    F_q_pick := He5.fun_of F_q_pick
    b_q_pick := b_q_pick
    g_q_pick := PySem.W.mg_of X G y_a_q_pick
    f_q_rounds := (He.ga K "_law_rounds")
    d_q_rounds := d_q_rounds
    F_q_rounds := He5.fun_of F_q_rounds
    b_q_rounds := b_q_rounds
    g_q_rounds := PySem.W.mg_of X G y_a_q_rounds
    f_q_made := (He.ga K "_law_made")
    d_q_made := d_q_made
    F_q_made := He5.fun_of F_q_made
    b_q_made := b_q_made
    g_q_made := PySem.W.mg_of X G y_a_q_made
    f_q_named := (He.ga K "_law_named")
    d_q_named := d_q_named
    F_q_named := He5.fun_of F_q_named
    b_q_named := b_q_named
    g_q_named := PySem.W.mg_of X G y_a_q_named
    f_q_held := (He.ga K "_law_held")
    d_q_held := d_q_held
    F_q_held := He5.fun_of F_q_held
    b_q_held := b_q_held
    g_q_held := PySem.W.mg_of X G y_a_q_held
    f_q_marks := (He.ga K "_law_marks")
    d_q_marks := d_q_marks
    F_q_marks := He5.fun_of F_q_marks
    b_q_marks := b_q_marks
    g_q_marks := PySem.W.mg_of X G y_a_q_marks
    f_q_families := (He.ga K "_law_families")
    d_q_families := d_q_families
    F_q_families := He5.fun_of F_q_families
    b_q_families := b_q_families
    g_q_families := PySem.W.mg_of X G y_a_q_families
    f_q_strange := (He.ga K "_law_strange")
    d_q_strange := d_q_strange
    F_q_strange := He5.fun_of F_q_strange
    b_q_strange := b_q_strange
    g_q_strange := PySem.W.mg_of X G y_a_q_strange
    f_q_due := (He.ga K "_law_due")
    d_q_due := d_q_due
    F_q_due := He5.fun_of F_q_due
    b_q_due := b_q_due
    g_q_due := PySem.W.mg_of X G y_a_q_due
    f_q_error_right := (He.ga K "_law_error_right")
    d_q_error_right := d_q_error_right
    F_q_error_right := He5.fun_of F_q_error_right
    b_q_error_right := b_q_error_right
    g_q_error_right := PySem.W.mg_of X G y_a_q_error_right
    f_q_limits_right := (He.ga K "_law_limits_right")
    d_q_limits_right := d_q_limits_right
    F_q_limits_right := He5.fun_of F_q_limits_right
    b_q_limits_right := b_q_limits_right
    g_q_limits_right := PySem.W.mg_of X G y_a_q_limits_right
    f_law := (He.ga K "law")
    d_law := d_law
    F_law := He5.fun_of F_law
    b_law := b_law
    g_law := PySem.W.mg_of X G y_a_law
    X_BadName := (He.ga K "BadName")
    og_BadName := (by obtain ⟨nm, q, N, bs, bm, sn, sub, ab, col, dd, k0, k1, k2, k3, k5, e1, e2⟩ := y_XBadNameL; exact ⟨⟨_, _, _, _, _, _, _, _, _, _, _, _, _, _, _, _, e1, PySem.ExG.above_of PySem.F.excBase_ValueError PySem.F.store_ValueError _ e2⟩, y_XBadNamesa, y_XBadNamekC⟩)
    xf_BadName := ⟨y_XBadNamega, y_XBadNamegg, y_XBadNameeC, y_XBadNamehC⟩
    cD_BadName := ⟨y_XBadNamega, y_XBadNamegg, y_XBadNameeC, y_XBadNamehC, y_XBadNameha, y_Ghn, y_Ghk, y_XBadNamehm⟩
    gX_BadName := PySem.W.mg_of X G y_XBadNamea
    nxBadNamegiven := y_XBadNamenxgiven
    X_BadFilter := (He.ga K "BadFilter")
    og_BadFilter := (by obtain ⟨nm, q, N, bs, bm, sn, sub, ab, col, dd, k0, k1, k2, k3, k5, e1, e2⟩ := y_XBadFilterL; exact ⟨⟨_, _, _, _, _, _, _, _, _, _, _, _, _, _, _, _, e1, PySem.ExG.above_of PySem.F.excBase_ValueError PySem.F.store_ValueError _ e2⟩, y_XBadFiltersa, y_XBadFilterkC⟩)
    xf_BadFilter := ⟨y_XBadFilterga, y_XBadFiltergg, y_XBadFiltereC, y_XBadFilterhC⟩
    cD_BadFilter := ⟨y_XBadFilterga, y_XBadFiltergg, y_XBadFiltereC, y_XBadFilterhC, y_XBadFilterha, y_Ghn, y_Ghk, y_XBadFilterhm⟩
    gX_BadFilter := PySem.W.mg_of X G y_XBadFiltera
    nxBadFilterplace := y_XBadFilternxplace
    X_BadScope := (He.ga K "BadScope")
    og_BadScope := (by obtain ⟨nm, q, N, bs, bm, sn, sub, ab, col, dd, k0, k1, k2, k3, k5, e1, e2⟩ := y_XBadScopeL; exact ⟨⟨_, _, _, _, _, _, _, _, _, _, _, _, _, _, _, _, e1, PySem.ExG.above_of PySem.F.excBase_ValueError PySem.F.store_ValueError _ e2⟩, y_XBadScopesa, y_XBadScopekC⟩)
    xf_BadScope := ⟨y_XBadScopega, y_XBadScopegg, y_XBadScopeeC, y_XBadScopehC⟩
    cD_BadScope := ⟨y_XBadScopega, y_XBadScopegg, y_XBadScopeeC, y_XBadScopehC, y_XBadScopeha, y_Ghn, y_Ghk, y_XBadScopehm⟩
    gX_BadScope := PySem.W.mg_of X G y_XBadScopea
    nxBadScopegiven := y_XBadScopenxgiven
    X_BadNumber := (He.ga K "BadNumber")
    og_BadNumber := (by obtain ⟨nm, q, N, bs, bm, sn, sub, ab, col, dd, k0, k1, k2, k3, k5, e1, e2⟩ := y_XBadNumberL; exact ⟨⟨_, _, _, _, _, _, _, _, _, _, _, _, _, _, _, _, e1, PySem.ExG.above_of PySem.F.excBase_ValueError PySem.F.store_ValueError _ e2⟩, y_XBadNumbersa, y_XBadNumberkC⟩)
    xf_BadNumber := ⟨y_XBadNumberga, y_XBadNumbergg, y_XBadNumbereC, y_XBadNumberhC⟩
    cD_BadNumber := ⟨y_XBadNumberga, y_XBadNumbergg, y_XBadNumbereC, y_XBadNumberhC, y_XBadNumberha, y_Ghn, y_Ghk, y_XBadNumberhm⟩
    gX_BadNumber := PySem.W.mg_of X G y_XBadNumbera
    nxBadNumbergiven := y_XBadNumbernxgiven
    X_BadSchema := (He.ga K "BadSchema")
    og_BadSchema := (by obtain ⟨nm, q, N, bs, bm, sn, sub, ab, col, dd, k0, k1, k2, k3, k5, e1, e2⟩ := y_XBadSchemaL; exact ⟨⟨_, _, _, _, _, _, _, _, _, _, _, _, _, _, _, _, e1, PySem.ExG.above_of PySem.F.excBase_ValueError PySem.F.store_ValueError _ e2⟩, y_XBadSchemasa, y_XBadSchemakC⟩)
    xf_BadSchema := ⟨y_XBadSchemaga, y_XBadSchemagg, y_XBadSchemaeC, y_XBadSchemahC⟩
    cD_BadSchema := ⟨y_XBadSchemaga, y_XBadSchemagg, y_XBadSchemaeC, y_XBadSchemahC, y_XBadSchemaha, y_Ghn, y_Ghk, y_XBadSchemahm⟩
    gX_BadSchema := PySem.W.mg_of X G y_XBadSchemaa
    nxBadSchemapart := y_XBadSchemanxpart
    nxBadSchemaplace := y_XBadSchemanxplace
    X_BadEntry := (He.ga K "BadEntry")
    og_BadEntry := (by obtain ⟨nm, q, N, bs, bm, sn, sub, ab, col, dd, k0, k1, k2, k3, k5, e1, e2⟩ := y_XBadEntryL; exact ⟨⟨_, _, _, _, _, _, _, _, _, _, _, _, _, _, _, _, e1, PySem.ExG.above_of PySem.F.excBase_ValueError PySem.F.store_ValueError _ e2⟩, y_XBadEntrysa, y_XBadEntrykC⟩)
    xf_BadEntry := ⟨y_XBadEntryga, y_XBadEntrygg, y_XBadEntryeC, y_XBadEntryhC⟩
    cD_BadEntry := ⟨y_XBadEntryga, y_XBadEntrygg, y_XBadEntryeC, y_XBadEntryhC, y_XBadEntryha, y_Ghn, y_Ghk, y_XBadEntryhm⟩
    gX_BadEntry := PySem.W.mg_of X G y_XBadEntrya
    nxBadEntrygiven := y_XBadEntrynxgiven
    X_BadDeed := (He.ga K "BadDeed")
    og_BadDeed := (by obtain ⟨nm, q, N, bs, bm, sn, sub, ab, col, dd, k0, k1, k2, k3, k5, e1, e2⟩ := y_XBadDeedL; exact ⟨⟨_, _, _, _, _, _, _, _, _, _, _, _, _, _, _, _, e1, PySem.ExG.above_of PySem.F.excBase_ValueError PySem.F.store_ValueError _ e2⟩, y_XBadDeedsa, y_XBadDeedkC⟩)
    xf_BadDeed := ⟨y_XBadDeedga, y_XBadDeedgg, y_XBadDeedeC, y_XBadDeedhC⟩
    cD_BadDeed := ⟨y_XBadDeedga, y_XBadDeedgg, y_XBadDeedeC, y_XBadDeedhC, y_XBadDeedha, y_Ghn, y_Ghk, y_XBadDeedhm⟩
    gX_BadDeed := PySem.W.mg_of X G y_XBadDeeda
    nxBadDeedplace := y_XBadDeednxplace
    X_BadChange := (He.ga K "BadChange")
    og_BadChange := (by obtain ⟨nm, q, N, bs, bm, sn, sub, ab, col, dd, k0, k1, k2, k3, k5, e1, e2⟩ := y_XBadChangeL; exact ⟨⟨_, _, _, _, _, _, _, _, _, _, _, _, _, _, _, _, e1, PySem.ExG.above_of PySem.F.excBase_ValueError PySem.F.store_ValueError _ e2⟩, y_XBadChangesa, y_XBadChangekC⟩)
    xf_BadChange := ⟨y_XBadChangega, y_XBadChangegg, y_XBadChangeeC, y_XBadChangehC⟩
    cD_BadChange := ⟨y_XBadChangega, y_XBadChangegg, y_XBadChangeeC, y_XBadChangehC, y_XBadChangeha, y_Ghn, y_Ghk, y_XBadChangehm⟩
    gX_BadChange := PySem.W.mg_of X G y_XBadChangea
    nxBadChangeplace := y_XBadChangenxplace
    X_BadVector := (He.ga K "BadVector")
    og_BadVector := (by obtain ⟨nm, q, N, bs, bm, sn, sub, ab, col, dd, k0, k1, k2, k3, k5, e1, e2⟩ := y_XBadVectorL; exact ⟨⟨_, _, _, _, _, _, _, _, _, _, _, _, _, _, _, _, e1, PySem.ExG.above_of PySem.F.excBase_ValueError PySem.F.store_ValueError _ e2⟩, y_XBadVectorsa, y_XBadVectorkC⟩)
    xf_BadVector := ⟨y_XBadVectorga, y_XBadVectorgg, y_XBadVectoreC, y_XBadVectorhC⟩
    cD_BadVector := ⟨y_XBadVectorga, y_XBadVectorgg, y_XBadVectoreC, y_XBadVectorhC, y_XBadVectorha, y_Ghn, y_Ghk, y_XBadVectorhm⟩
    gX_BadVector := PySem.W.mg_of X G y_XBadVectora
    nxBadVectorgiven := y_XBadVectornxgiven
    X_BadIndex := (He.ga K "BadIndex")
    og_BadIndex := (by obtain ⟨nm, q, N, bs, bm, sn, sub, ab, col, dd, k0, k1, k2, k3, k5, e1, e2⟩ := y_XBadIndexL; exact ⟨⟨_, _, _, _, _, _, _, _, _, _, _, _, _, _, _, _, e1, PySem.ExG.above_of PySem.F.excBase_ValueError PySem.F.store_ValueError _ e2⟩, y_XBadIndexsa, y_XBadIndexkC⟩)
    xf_BadIndex := ⟨y_XBadIndexga, y_XBadIndexgg, y_XBadIndexeC, y_XBadIndexhC⟩
    cD_BadIndex := ⟨y_XBadIndexga, y_XBadIndexgg, y_XBadIndexeC, y_XBadIndexhC, y_XBadIndexha, y_Ghn, y_Ghk, y_XBadIndexhm⟩
    gX_BadIndex := PySem.W.mg_of X G y_XBadIndexa
    nxBadIndexgiven := y_XBadIndexnxgiven
    X_BadText := (He.ga K "BadText")
    og_BadText := (by obtain ⟨nm, q, N, bs, bm, sn, sub, ab, col, dd, k0, k1, k2, k3, k5, e1, e2⟩ := y_XBadTextL; exact ⟨⟨_, _, _, _, _, _, _, _, _, _, _, _, _, _, _, _, e1, PySem.ExG.above_of PySem.F.excBase_ValueError PySem.F.store_ValueError _ e2⟩, y_XBadTextsa, y_XBadTextkC⟩)
    xf_BadText := ⟨y_XBadTextga, y_XBadTextgg, y_XBadTexteC, y_XBadTexthC⟩
    cD_BadText := ⟨y_XBadTextga, y_XBadTextgg, y_XBadTexteC, y_XBadTexthC, y_XBadTextha, y_Ghn, y_Ghk, y_XBadTexthm⟩
    gX_BadText := PySem.W.mg_of X G y_XBadTexta
    nxBadTextline := y_XBadTextnxline
    X_BadHost := (He.ga K "BadHost")
    og_BadHost := (by obtain ⟨nm, q, N, bs, bm, sn, sub, ab, col, dd, k0, k1, k2, k3, k5, e1, e2⟩ := y_XBadHostL; exact ⟨⟨_, _, _, _, _, _, _, _, _, _, _, _, _, _, _, _, e1, PySem.ExG.above_of PySem.F.excBase_ValueError PySem.F.store_ValueError _ e2⟩, y_XBadHostsa, y_XBadHostkC⟩)
    xf_BadHost := ⟨y_XBadHostga, y_XBadHostgg, y_XBadHosteC, y_XBadHosthC⟩
    cD_BadHost := ⟨y_XBadHostga, y_XBadHostgg, y_XBadHosteC, y_XBadHosthC, y_XBadHostha, y_Ghn, y_Ghk, y_XBadHosthm⟩
    gX_BadHost := PySem.W.mg_of X G y_XBadHosta
    nxBadHostgiven := y_XBadHostnxgiven
    X_BadValue := (He.ga K "BadValue")
    og_BadValue := (by obtain ⟨nm, q, N, bs, bm, sn, sub, ab, col, dd, k0, k1, k2, k3, k5, e1, e2⟩ := y_XBadValueL; exact ⟨⟨_, _, _, _, _, _, _, _, _, _, _, _, _, _, _, _, e1, PySem.ExG.above_of PySem.F.excBase_ValueError PySem.F.store_ValueError _ e2⟩, y_XBadValuesa, y_XBadValuekC⟩)
    xf_BadValue := ⟨y_XBadValuega, y_XBadValuegg, y_XBadValueeC, y_XBadValuehC⟩
    cD_BadValue := ⟨y_XBadValuega, y_XBadValuegg, y_XBadValueeC, y_XBadValuehC, y_XBadValueha, y_Ghn, y_Ghk, y_XBadValuehm⟩
    gX_BadValue := PySem.W.mg_of X G y_XBadValuea
    nxBadValueattribute := y_XBadValuenxattribute
    nxBadValueitem := y_XBadValuenxitem
    X_UnknownAttribute := (He.ga K "UnknownAttribute")
    og_UnknownAttribute := (by obtain ⟨nm, q, N, bs, bm, sn, sub, ab, col, dd, k0, k1, k2, k3, k5, e1, e2⟩ := y_XUnknownAttributeL; exact ⟨⟨_, _, _, _, _, _, _, _, _, _, _, _, _, _, _, _, e1, PySem.ExG.above_of PySem.F.excBase_ValueError PySem.F.store_ValueError _ e2⟩, y_XUnknownAttributesa, y_XUnknownAttributekC⟩)
    xf_UnknownAttribute := ⟨y_XUnknownAttributega, y_XUnknownAttributegg, y_XUnknownAttributeeC, y_XUnknownAttributehC⟩
    cD_UnknownAttribute := ⟨y_XUnknownAttributega, y_XUnknownAttributegg, y_XUnknownAttributeeC, y_XUnknownAttributehC, y_XUnknownAttributeha, y_Ghn, y_Ghk, y_XUnknownAttributehm⟩
    gX_UnknownAttribute := PySem.W.mg_of X G y_XUnknownAttributea
    nxUnknownAttributeattribute := y_XUnknownAttributenxattribute
    X_MirrorGiven := (He.ga K "MirrorGiven")
    og_MirrorGiven := (by obtain ⟨nm, q, N, bs, bm, sn, sub, ab, col, dd, k0, k1, k2, k3, k5, e1, e2⟩ := y_XMirrorGivenL; exact ⟨⟨_, _, _, _, _, _, _, _, _, _, _, _, _, _, _, _, e1, PySem.ExG.above_of PySem.F.excBase_ValueError PySem.F.store_ValueError _ e2⟩, y_XMirrorGivensa, y_XMirrorGivenkC⟩)
    xf_MirrorGiven := ⟨y_XMirrorGivenga, y_XMirrorGivengg, y_XMirrorGiveneC, y_XMirrorGivenhC⟩
    cD_MirrorGiven := ⟨y_XMirrorGivenga, y_XMirrorGivengg, y_XMirrorGiveneC, y_XMirrorGivenhC, y_XMirrorGivenha, y_Ghn, y_Ghk, y_XMirrorGivenhm⟩
    gX_MirrorGiven := PySem.W.mg_of X G y_XMirrorGivena
    nxMirrorGivenattribute := y_XMirrorGivennxattribute
    X_UnknownClass := (He.ga K "UnknownClass")
    og_UnknownClass := (by obtain ⟨nm, q, N, bs, bm, sn, sub, ab, col, dd, k0, k1, k2, k3, k5, e1, e2⟩ := y_XUnknownClassL; exact ⟨⟨_, _, _, _, _, _, _, _, _, _, _, _, _, _, _, _, e1, PySem.ExG.above_of PySem.F.excBase_ValueError PySem.F.store_ValueError _ e2⟩, y_XUnknownClasssa, y_XUnknownClasskC⟩)
    xf_UnknownClass := ⟨y_XUnknownClassga, y_XUnknownClassgg, y_XUnknownClasseC, y_XUnknownClasshC⟩
    cD_UnknownClass := ⟨y_XUnknownClassga, y_XUnknownClassgg, y_XUnknownClasseC, y_XUnknownClasshC, y_XUnknownClassha, y_Ghn, y_Ghk, y_XUnknownClasshm⟩
    gX_UnknownClass := PySem.W.mg_of X G y_XUnknownClassa
    nxUnknownClassgiven := y_XUnknownClassnxgiven
    X_BadClasses := (He.ga K "BadClasses")
    og_BadClasses := (by obtain ⟨nm, q, N, bs, bm, sn, sub, ab, col, dd, k0, k1, k2, k3, k5, e1, e2⟩ := y_XBadClassesL; exact ⟨⟨_, _, _, _, _, _, _, _, _, _, _, _, _, _, _, _, e1, PySem.ExG.above_of PySem.F.excBase_ValueError PySem.F.store_ValueError _ e2⟩, y_XBadClassessa, y_XBadClasseskC⟩)
    xf_BadClasses := ⟨y_XBadClassesga, y_XBadClassesgg, y_XBadClasseseC, y_XBadClasseshC⟩
    cD_BadClasses := ⟨y_XBadClassesga, y_XBadClassesgg, y_XBadClasseseC, y_XBadClasseshC, y_XBadClassesha, y_Ghn, y_Ghk, y_XBadClasseshm⟩
    gX_BadClasses := PySem.W.mg_of X G y_XBadClassesa
    i0_BadClasses := y_XBadClassesi0
    X_NotAllowed := (He.ga K "NotAllowed")
    og_NotAllowed := (by obtain ⟨nm, q, N, bs, bm, sn, sub, ab, col, dd, k0, k1, k2, k3, k5, e1, e2⟩ := y_XNotAllowedL; exact ⟨⟨_, _, _, _, _, _, _, _, _, _, _, _, _, _, _, _, e1, PySem.ExG.above_of PySem.F.excBase_ValueError PySem.F.store_ValueError _ e2⟩, y_XNotAllowedsa, y_XNotAllowedkC⟩)
    xf_NotAllowed := ⟨y_XNotAllowedga, y_XNotAllowedgg, y_XNotAllowedeC, y_XNotAllowedhC⟩
    cD_NotAllowed := ⟨y_XNotAllowedga, y_XNotAllowedgg, y_XNotAllowedeC, y_XNotAllowedhC, y_XNotAllowedha, y_Ghn, y_Ghk, y_XNotAllowedhm⟩
    gX_NotAllowed := PySem.W.mg_of X G y_XNotAlloweda
    nxNotAllowedattribute := y_XNotAllowednxattribute
    X_Missing := (He.ga K "Missing")
    og_Missing := (by obtain ⟨nm, q, N, bs, bm, sn, sub, ab, col, dd, k0, k1, k2, k3, k5, e1, e2⟩ := y_XMissingL; exact ⟨⟨_, _, _, _, _, _, _, _, _, _, _, _, _, _, _, _, e1, PySem.ExG.above_of PySem.F.excBase_ValueError PySem.F.store_ValueError _ e2⟩, y_XMissingsa, y_XMissingkC⟩)
    xf_Missing := ⟨y_XMissingga, y_XMissinggg, y_XMissingeC, y_XMissinghC⟩
    cD_Missing := ⟨y_XMissingga, y_XMissinggg, y_XMissingeC, y_XMissinghC, y_XMissingha, y_Ghn, y_Ghk, y_XMissinghm⟩
    gX_Missing := PySem.W.mg_of X G y_XMissinga
    nxMissingattribute := y_XMissingnxattribute
    X_TooManyValues := (He.ga K "TooManyValues")
    og_TooManyValues := (by obtain ⟨nm, q, N, bs, bm, sn, sub, ab, col, dd, k0, k1, k2, k3, k5, e1, e2⟩ := y_XTooManyValuesL; exact ⟨⟨_, _, _, _, _, _, _, _, _, _, _, _, _, _, _, _, e1, PySem.ExG.above_of PySem.F.excBase_ValueError PySem.F.store_ValueError _ e2⟩, y_XTooManyValuessa, y_XTooManyValueskC⟩)
    xf_TooManyValues := ⟨y_XTooManyValuesga, y_XTooManyValuesgg, y_XTooManyValueseC, y_XTooManyValueshC⟩
    cD_TooManyValues := ⟨y_XTooManyValuesga, y_XTooManyValuesgg, y_XTooManyValueseC, y_XTooManyValueshC, y_XTooManyValuesha, y_Ghn, y_Ghk, y_XTooManyValueshm⟩
    gX_TooManyValues := PySem.W.mg_of X G y_XTooManyValuesa
    nxTooManyValuesattribute := y_XTooManyValuesnxattribute
    X_ValueTaken := (He.ga K "ValueTaken")
    og_ValueTaken := (by obtain ⟨nm, q, N, bs, bm, sn, sub, ab, col, dd, k0, k1, k2, k3, k5, e1, e2⟩ := y_XValueTakenL; exact ⟨⟨_, _, _, _, _, _, _, _, _, _, _, _, _, _, _, _, e1, PySem.ExG.above_of PySem.F.excBase_ValueError PySem.F.store_ValueError _ e2⟩, y_XValueTakensa, y_XValueTakenkC⟩)
    xf_ValueTaken := ⟨y_XValueTakenga, y_XValueTakengg, y_XValueTakeneC, y_XValueTakenhC⟩
    cD_ValueTaken := ⟨y_XValueTakenga, y_XValueTakengg, y_XValueTakeneC, y_XValueTakenhC, y_XValueTakenha, y_Ghn, y_Ghk, y_XValueTakenhm⟩
    gX_ValueTaken := PySem.W.mg_of X G y_XValueTakena
    nxValueTakenattribute := y_XValueTakennxattribute
    nxValueTakenitem := y_XValueTakennxitem
    X_NotNamed := (He.ga K "NotNamed")
    og_NotNamed := (by obtain ⟨nm, q, N, bs, bm, sn, sub, ab, col, dd, k0, k1, k2, k3, k5, e1, e2⟩ := y_XNotNamedL; exact ⟨⟨_, _, _, _, _, _, _, _, _, _, _, _, _, _, _, _, e1, PySem.ExG.above_of PySem.F.excBase_ValueError PySem.F.store_ValueError _ e2⟩, y_XNotNamedsa, y_XNotNamedkC⟩)
    xf_NotNamed := ⟨y_XNotNamedga, y_XNotNamedgg, y_XNotNamedeC, y_XNotNamedhC⟩
    cD_NotNamed := ⟨y_XNotNamedga, y_XNotNamedgg, y_XNotNamedeC, y_XNotNamedhC, y_XNotNamedha, y_Ghn, y_Ghk, y_XNotNamedhm⟩
    gX_NotNamed := PySem.W.mg_of X G y_XNotNameda
    nxNotNamedattribute := y_XNotNamednxattribute
    X_BadPlace := (He.ga K "BadPlace")
    og_BadPlace := (by obtain ⟨nm, q, N, bs, bm, sn, sub, ab, col, dd, k0, k1, k2, k3, k5, e1, e2⟩ := y_XBadPlaceL; exact ⟨⟨_, _, _, _, _, _, _, _, _, _, _, _, _, _, _, _, e1, PySem.ExG.above_of PySem.F.excBase_ValueError PySem.F.store_ValueError _ e2⟩, y_XBadPlacesa, y_XBadPlacekC⟩)
    xf_BadPlace := ⟨y_XBadPlacega, y_XBadPlacegg, y_XBadPlaceeC, y_XBadPlacehC⟩
    cD_BadPlace := ⟨y_XBadPlacega, y_XBadPlacegg, y_XBadPlaceeC, y_XBadPlacehC, y_XBadPlaceha, y_Ghn, y_Ghk, y_XBadPlacehm⟩
    gX_BadPlace := PySem.W.mg_of X G y_XBadPlacea
    nxBadPlacegiven := y_XBadPlacenxgiven
    X_NoTarget := (He.ga K "NoTarget")
    og_NoTarget := (by obtain ⟨nm, q, N, bs, bm, sn, sub, ab, col, dd, k0, k1, k2, k3, k5, e1, e2⟩ := y_XNoTargetL; exact ⟨⟨_, _, _, _, _, _, _, _, _, _, _, _, _, _, _, _, e1, PySem.ExG.above_of PySem.F.excBase_ValueError PySem.F.store_ValueError _ e2⟩, y_XNoTargetsa, y_XNoTargetkC⟩)
    xf_NoTarget := ⟨y_XNoTargetga, y_XNoTargetgg, y_XNoTargeteC, y_XNoTargethC⟩
    cD_NoTarget := ⟨y_XNoTargetga, y_XNoTargetgg, y_XNoTargeteC, y_XNoTargethC, y_XNoTargetha, y_Ghn, y_Ghk, y_XNoTargethm⟩
    gX_NoTarget := PySem.W.mg_of X G y_XNoTargeta
    nxNoTargetattribute := y_XNoTargetnxattribute
    nxNoTargetitem := y_XNoTargetnxitem
    X_NotInteger := (He.ga K "NotInteger")
    og_NotInteger := (by obtain ⟨nm, q, N, bs, bm, sn, sub, ab, col, dd, k0, k1, k2, k3, k5, e1, e2⟩ := y_XNotIntegerL; exact ⟨⟨_, _, _, _, _, _, _, _, _, _, _, _, _, _, _, _, e1, PySem.ExG.above_of PySem.F.excBase_ValueError PySem.F.store_ValueError _ e2⟩, y_XNotIntegersa, y_XNotIntegerkC⟩)
    xf_NotInteger := ⟨y_XNotIntegerga, y_XNotIntegergg, y_XNotIntegereC, y_XNotIntegerhC⟩
    cD_NotInteger := ⟨y_XNotIntegerga, y_XNotIntegergg, y_XNotIntegereC, y_XNotIntegerhC, y_XNotIntegerha, y_Ghn, y_Ghk, y_XNotIntegerhm⟩
    gX_NotInteger := PySem.W.mg_of X G y_XNotIntegera
    nxNotIntegerattribute := y_XNotIntegernxattribute
    X_NoOrder := (He.ga K "NoOrder")
    og_NoOrder := (by obtain ⟨nm, q, N, bs, bm, sn, sub, ab, col, dd, k0, k1, k2, k3, k5, e1, e2⟩ := y_XNoOrderL; exact ⟨⟨_, _, _, _, _, _, _, _, _, _, _, _, _, _, _, _, e1, PySem.ExG.above_of PySem.F.excBase_ValueError PySem.F.store_ValueError _ e2⟩, y_XNoOrdersa, y_XNoOrderkC⟩)
    xf_NoOrder := ⟨y_XNoOrderga, y_XNoOrdergg, y_XNoOrdereC, y_XNoOrderhC⟩
    cD_NoOrder := ⟨y_XNoOrderga, y_XNoOrdergg, y_XNoOrdereC, y_XNoOrderhC, y_XNoOrderha, y_Ghn, y_Ghk, y_XNoOrderhm⟩
    gX_NoOrder := PySem.W.mg_of X G y_XNoOrdera
    nxNoOrderattribute := y_XNoOrdernxattribute
    X_NoEntry := (He.ga K "NoEntry")
    og_NoEntry := (by obtain ⟨nm, q, N, bs, bm, sn, sub, ab, col, dd, k0, k1, k2, k3, k5, e1, e2⟩ := y_XNoEntryL; exact ⟨⟨_, _, _, _, _, _, _, _, _, _, _, _, _, _, _, _, e1, PySem.ExG.above_of PySem.F.excBase_LookupError PySem.F.store_LookupError _ e2⟩, y_XNoEntrysa, y_XNoEntrykC⟩)
    xf_NoEntry := ⟨y_XNoEntryga, y_XNoEntrygg, y_XNoEntryeC, y_XNoEntryhC⟩
    cD_NoEntry := ⟨y_XNoEntryga, y_XNoEntrygg, y_XNoEntryeC, y_XNoEntryhC, y_XNoEntryha, y_Ghn, y_Ghk, y_XNoEntryhm⟩
    gX_NoEntry := PySem.W.mg_of X G y_XNoEntrya
    nxNoEntrymissing := y_XNoEntrynxmissing
    nxNoEntrymatched := y_XNoEntrynxmatched
    X_NameTaken := (He.ga K "NameTaken")
    og_NameTaken := (by obtain ⟨nm, q, N, bs, bm, sn, sub, ab, col, dd, k0, k1, k2, k3, k5, e1, e2⟩ := y_XNameTakenL; exact ⟨⟨_, _, _, _, _, _, _, _, _, _, _, _, _, _, _, _, e1, PySem.ExG.above_of PySem.F.excBase_LookupError PySem.F.store_LookupError _ e2⟩, y_XNameTakensa, y_XNameTakenkC⟩)
    xf_NameTaken := ⟨y_XNameTakenga, y_XNameTakengg, y_XNameTakeneC, y_XNameTakenhC⟩
    cD_NameTaken := ⟨y_XNameTakenga, y_XNameTakengg, y_XNameTakeneC, y_XNameTakenhC, y_XNameTakenha, y_Ghn, y_Ghk, y_XNameTakenhm⟩
    gX_NameTaken := PySem.W.mg_of X G y_XNameTakena
    nxNameTakengiven := y_XNameTakennxgiven
    X_HasChildren := (He.ga K "HasChildren")
    og_HasChildren := (by obtain ⟨nm, q, N, bs, bm, sn, sub, ab, col, dd, k0, k1, k2, k3, k5, e1, e2⟩ := y_XHasChildrenL; exact ⟨⟨_, _, _, _, _, _, _, _, _, _, _, _, _, _, _, _, e1, PySem.ExG.above_of PySem.F.excBase_LookupError PySem.F.store_LookupError _ e2⟩, y_XHasChildrensa, y_XHasChildrenkC⟩)
    xf_HasChildren := ⟨y_XHasChildrenga, y_XHasChildrengg, y_XHasChildreneC, y_XHasChildrenhC⟩
    cD_HasChildren := ⟨y_XHasChildrenga, y_XHasChildrengg, y_XHasChildreneC, y_XHasChildrenhC, y_XHasChildrenha, y_Ghn, y_Ghk, y_XHasChildrenhm⟩
    gX_HasChildren := PySem.W.mg_of X G y_XHasChildrena
    nxHasChildrengiven := y_XHasChildrennxgiven
    X_InUse := (He.ga K "InUse")
    og_InUse := (by obtain ⟨nm, q, N, bs, bm, sn, sub, ab, col, dd, k0, k1, k2, k3, k5, e1, e2⟩ := y_XInUseL; exact ⟨⟨_, _, _, _, _, _, _, _, _, _, _, _, _, _, _, _, e1, PySem.ExG.above_of PySem.F.excBase_LookupError PySem.F.store_LookupError _ e2⟩, y_XInUsesa, y_XInUsekC⟩)
    xf_InUse := ⟨y_XInUsega, y_XInUsegg, y_XInUseeC, y_XInUsehC⟩
    cD_InUse := ⟨y_XInUsega, y_XInUsegg, y_XInUseeC, y_XInUsehC, y_XInUseha, y_Ghn, y_Ghk, y_XInUsehm⟩
    gX_InUse := PySem.W.mg_of X G y_XInUsea
    nxInUseholder := y_XInUsenxholder
    X_Inside := (He.ga K "Inside")
    og_Inside := (by obtain ⟨nm, q, N, bs, bm, sn, sub, ab, col, dd, k0, k1, k2, k3, k5, e1, e2⟩ := y_XInsideL; exact ⟨⟨_, _, _, _, _, _, _, _, _, _, _, _, _, _, _, _, e1, PySem.ExG.above_of PySem.F.excBase_LookupError PySem.F.store_LookupError _ e2⟩, y_XInsidesa, y_XInsidekC⟩)
    xf_Inside := ⟨y_XInsidega, y_XInsidegg, y_XInsideeC, y_XInsidehC⟩
    cD_Inside := ⟨y_XInsidega, y_XInsidegg, y_XInsideeC, y_XInsidehC, y_XInsideha, y_Ghn, y_Ghk, y_XInsidehm⟩
    gX_Inside := PySem.W.mg_of X G y_XInsidea
    nxInsidegiven := y_XInsidenxgiven
    X_NoValue := (He.ga K "NoValue")
    og_NoValue := (by obtain ⟨nm, q, N, bs, bm, sn, sub, ab, col, dd, k0, k1, k2, k3, k5, e1, e2⟩ := y_XNoValueL; exact ⟨⟨_, _, _, _, _, _, _, _, _, _, _, _, _, _, _, _, e1, PySem.ExG.above_of PySem.F.excBase_LookupError PySem.F.store_LookupError _ e2⟩, y_XNoValuesa, y_XNoValuekC⟩)
    xf_NoValue := ⟨y_XNoValuega, y_XNoValuegg, y_XNoValueeC, y_XNoValuehC⟩
    cD_NoValue := ⟨y_XNoValuega, y_XNoValuegg, y_XNoValueeC, y_XNoValuehC, y_XNoValueha, y_Ghn, y_Ghk, y_XNoValuehm⟩
    gX_NoValue := PySem.W.mg_of X G y_XNoValuea
    nxNoValueattribute := y_XNoValuenxattribute
    nxNoValueitem := y_XNoValuenxitem
    X_Referral := (He.ga K "Referral")
    og_Referral := (by obtain ⟨nm, q, N, bs, bm, sn, sub, ab, col, dd, k0, k1, k2, k3, k5, e1, e2⟩ := y_XReferralL; exact ⟨⟨_, _, _, _, _, _, _, _, _, _, _, _, _, _, _, _, e1, PySem.ExG.above_of PySem.F.excBase_LookupError PySem.F.store_LookupError _ e2⟩, y_XReferralsa, y_XReferralkC⟩)
    xf_Referral := ⟨y_XReferralga, y_XReferralgg, y_XReferraleC, y_XReferralhC⟩
    cD_Referral := ⟨y_XReferralga, y_XReferralgg, y_XReferraleC, y_XReferralhC, y_XReferralha, y_Ghn, y_Ghk, y_XReferralhm⟩
    gX_Referral := PySem.W.mg_of X G y_XReferrala
    nxReferraltargets := y_XReferralnxtargets
    X_IndexTaken := (He.ga K "IndexTaken")
    og_IndexTaken := (by obtain ⟨nm, q, N, bs, bm, sn, sub, ab, col, dd, k0, k1, k2, k3, k5, e1, e2⟩ := y_XIndexTakenL; exact ⟨⟨_, _, _, _, _, _, _, _, _, _, _, _, _, _, _, _, e1, PySem.ExG.above_of PySem.F.excBase_LookupError PySem.F.store_LookupError _ e2⟩, y_XIndexTakensa, y_XIndexTakenkC⟩)
    xf_IndexTaken := ⟨y_XIndexTakenga, y_XIndexTakengg, y_XIndexTakeneC, y_XIndexTakenhC⟩
    cD_IndexTaken := ⟨y_XIndexTakenga, y_XIndexTakengg, y_XIndexTakeneC, y_XIndexTakenhC, y_XIndexTakenha, y_Ghn, y_Ghk, y_XIndexTakenhm⟩
    gX_IndexTaken := PySem.W.mg_of X G y_XIndexTakena
    nxIndexTakengiven := y_XIndexTakennxgiven
    X_NoIndex := (He.ga K "NoIndex")
    og_NoIndex := (by obtain ⟨nm, q, N, bs, bm, sn, sub, ab, col, dd, k0, k1, k2, k3, k5, e1, e2⟩ := y_XNoIndexL; exact ⟨⟨_, _, _, _, _, _, _, _, _, _, _, _, _, _, _, _, e1, PySem.ExG.above_of PySem.F.excBase_LookupError PySem.F.store_LookupError _ e2⟩, y_XNoIndexsa, y_XNoIndexkC⟩)
    xf_NoIndex := ⟨y_XNoIndexga, y_XNoIndexgg, y_XNoIndexeC, y_XNoIndexhC⟩
    cD_NoIndex := ⟨y_XNoIndexga, y_XNoIndexgg, y_XNoIndexeC, y_XNoIndexhC, y_XNoIndexha, y_Ghn, y_Ghk, y_XNoIndexhm⟩
    gX_NoIndex := PySem.W.mg_of X G y_XNoIndexa
    nxNoIndexgiven := y_XNoIndexnxgiven
    X_NothingToUndo := (He.ga K "NothingToUndo")
    og_NothingToUndo := (by obtain ⟨nm, q, N, bs, bm, sn, sub, ab, col, dd, k0, k1, k2, k3, k5, e1, e2⟩ := y_XNothingToUndoL; exact ⟨⟨_, _, _, _, _, _, _, _, _, _, _, _, _, _, _, _, e1, PySem.ExG.above_of PySem.F.excBase_LookupError PySem.F.store_LookupError _ e2⟩, y_XNothingToUndosa, y_XNothingToUndokC⟩)
    xf_NothingToUndo := ⟨y_XNothingToUndoga, y_XNothingToUndogg, y_XNothingToUndoeC, y_XNothingToUndohC⟩
    cD_NothingToUndo := ⟨y_XNothingToUndoga, y_XNothingToUndogg, y_XNothingToUndoeC, y_XNothingToUndohC, y_XNothingToUndoha, y_Ghn, y_Ghk, y_XNothingToUndohm⟩
    gX_NothingToUndo := PySem.W.mg_of X G y_XNothingToUndoa
    i0_NothingToUndo := y_XNothingToUndoi0
    X_NoHost := (He.ga K "NoHost")
    og_NoHost := (by obtain ⟨nm, q, N, bs, bm, sn, sub, ab, col, dd, k0, k1, k2, k3, k5, e1, e2⟩ := y_XNoHostL; exact ⟨⟨_, _, _, _, _, _, _, _, _, _, _, _, _, _, _, _, e1, PySem.ExG.above_of PySem.F.excBase_LookupError PySem.F.store_LookupError _ e2⟩, y_XNoHostsa, y_XNoHostkC⟩)
    xf_NoHost := ⟨y_XNoHostga, y_XNoHostgg, y_XNoHosteC, y_XNoHosthC⟩
    cD_NoHost := ⟨y_XNoHostga, y_XNoHostgg, y_XNoHosteC, y_XNoHosthC, y_XNoHostha, y_Ghn, y_Ghk, y_XNoHosthm⟩
    gX_NoHost := PySem.W.mg_of X G y_XNoHosta
    nxNoHosthost := y_XNoHostnxhost
    X_Gap := (He.ga K "Gap")
    og_Gap := (by obtain ⟨nm, q, N, bs, bm, sn, sub, ab, col, dd, k0, k1, k2, k3, k5, e1, e2⟩ := y_XGapL; exact ⟨⟨_, _, _, _, _, _, _, _, _, _, _, _, _, _, _, _, e1, PySem.ExG.above_of PySem.F.excBase_LookupError PySem.F.store_LookupError _ e2⟩, y_XGapsa, y_XGapkC⟩)
    xf_Gap := ⟨y_XGapga, y_XGapgg, y_XGapeC, y_XGaphC⟩
    cD_Gap := ⟨y_XGapga, y_XGapgg, y_XGapeC, y_XGaphC, y_XGapha, y_Ghn, y_Ghk, y_XGaphm⟩
    gX_Gap := PySem.W.mg_of X G y_XGapa
    nxGaphost := y_XGapnxhost
    X_Behind := (He.ga K "Behind")
    og_Behind := (by obtain ⟨nm, q, N, bs, bm, sn, sub, ab, col, dd, k0, k1, k2, k3, k5, e1, e2⟩ := y_XBehindL; exact ⟨⟨_, _, _, _, _, _, _, _, _, _, _, _, _, _, _, _, e1, PySem.ExG.above_of PySem.F.excBase_LookupError PySem.F.store_LookupError _ e2⟩, y_XBehindsa, y_XBehindkC⟩)
    xf_Behind := ⟨y_XBehindga, y_XBehindgg, y_XBehindeC, y_XBehindhC⟩
    cD_Behind := ⟨y_XBehindga, y_XBehindgg, y_XBehindeC, y_XBehindhC, y_XBehindha, y_Ghn, y_Ghk, y_XBehindhm⟩
    gX_Behind := PySem.W.mg_of X G y_XBehinda
    nxBehindhost := y_XBehindnxhost
    X_Forgotten := (He.ga K "Forgotten")
    og_Forgotten := (by obtain ⟨nm, q, N, bs, bm, sn, sub, ab, col, dd, k0, k1, k2, k3, k5, e1, e2⟩ := y_XForgottenL; exact ⟨⟨_, _, _, _, _, _, _, _, _, _, _, _, _, _, _, _, e1, PySem.ExG.above_of PySem.F.excBase_LookupError PySem.F.store_LookupError _ e2⟩, y_XForgottensa, y_XForgottenkC⟩)
    xf_Forgotten := ⟨y_XForgottenga, y_XForgottengg, y_XForgotteneC, y_XForgottenhC⟩
    cD_Forgotten := ⟨y_XForgottenga, y_XForgottengg, y_XForgotteneC, y_XForgottenhC, y_XForgottenha, y_Ghn, y_Ghk, y_XForgottenhm⟩
    gX_Forgotten := PySem.W.mg_of X G y_XForgottena
    nxForgottenhost := y_XForgottennxhost
    X_PagingOver := (He.ga K "PagingOver")
    og_PagingOver := (by obtain ⟨nm, q, N, bs, bm, sn, sub, ab, col, dd, k0, k1, k2, k3, k5, e1, e2⟩ := y_XPagingOverL; exact ⟨⟨_, _, _, _, _, _, _, _, _, _, _, _, _, _, _, _, e1, PySem.ExG.above_of PySem.F.excBase_LookupError PySem.F.store_LookupError _ e2⟩, y_XPagingOversa, y_XPagingOverkC⟩)
    xf_PagingOver := ⟨y_XPagingOverga, y_XPagingOvergg, y_XPagingOvereC, y_XPagingOverhC⟩
    cD_PagingOver := ⟨y_XPagingOverga, y_XPagingOvergg, y_XPagingOvereC, y_XPagingOverhC, y_XPagingOverha, y_Ghn, y_Ghk, y_XPagingOverhm⟩
    gX_PagingOver := PySem.W.mg_of X G y_XPagingOvera
    i0_PagingOver := y_XPagingOveri0
    X_Full := (He.ga K "Full")
    og_Full := (by obtain ⟨nm, q, N, bs, bm, sn, sub, ab, col, dd, k0, k1, k2, k3, k5, e1, e2⟩ := y_XFullL; exact ⟨⟨_, _, _, _, _, _, _, _, _, _, _, _, _, _, _, _, e1, PySem.ExG.above_of PySem.F.excBase_ArithmeticError PySem.F.store_ArithmeticError _ e2⟩, y_XFullsa, y_XFullkC⟩)
    xf_Full := ⟨y_XFullga, y_XFullgg, y_XFulleC, y_XFullhC⟩
    cD_Full := ⟨y_XFullga, y_XFullgg, y_XFulleC, y_XFullhC, y_XFullha, y_Ghn, y_Ghk, y_XFullhm⟩
    gX_Full := PySem.W.mg_of X G y_XFulla
    nxFulllimit := y_XFullnxlimit
    X_TooDeep := (He.ga K "TooDeep")
    og_TooDeep := (by obtain ⟨nm, q, N, bs, bm, sn, sub, ab, col, dd, k0, k1, k2, k3, k5, e1, e2⟩ := y_XTooDeepL; exact ⟨⟨_, _, _, _, _, _, _, _, _, _, _, _, _, _, _, _, e1, PySem.ExG.above_of PySem.F.excBase_ArithmeticError PySem.F.store_ArithmeticError _ e2⟩, y_XTooDeepsa, y_XTooDeepkC⟩)
    xf_TooDeep := ⟨y_XTooDeepga, y_XTooDeepgg, y_XTooDeepeC, y_XTooDeephC⟩
    cD_TooDeep := ⟨y_XTooDeepga, y_XTooDeepgg, y_XTooDeepeC, y_XTooDeephC, y_XTooDeepha, y_Ghn, y_Ghk, y_XTooDeephm⟩
    gX_TooDeep := PySem.W.mg_of X G y_XTooDeepa
    nxTooDeeplimit := y_XTooDeepnxlimit
    X_SizeLimit := (He.ga K "SizeLimit")
    og_SizeLimit := (by obtain ⟨nm, q, N, bs, bm, sn, sub, ab, col, dd, k0, k1, k2, k3, k5, e1, e2⟩ := y_XSizeLimitL; exact ⟨⟨_, _, _, _, _, _, _, _, _, _, _, _, _, _, _, _, e1, PySem.ExG.above_of PySem.F.excBase_ArithmeticError PySem.F.store_ArithmeticError _ e2⟩, y_XSizeLimitsa, y_XSizeLimitkC⟩)
    xf_SizeLimit := ⟨y_XSizeLimitga, y_XSizeLimitgg, y_XSizeLimiteC, y_XSizeLimithC⟩
    cD_SizeLimit := ⟨y_XSizeLimitga, y_XSizeLimitgg, y_XSizeLimiteC, y_XSizeLimithC, y_XSizeLimitha, y_Ghn, y_Ghk, y_XSizeLimithm⟩
    gX_SizeLimit := PySem.W.mg_of X G y_XSizeLimita
    nxSizeLimitlimit := y_XSizeLimitnxlimit
    kt0 := HkX.Up.tab (HkX.Up.step (HkX.Up.step (HkX.Up.step HkX.Up.zero y_kt0_0) y_kt0_1) y_kt0_2) rfl
    kt1 := y_kt1
    kt2 := y_kt2
    X_Invalid := (He.ga K "Invalid")
    gX_Invalid := PySem.W.mg_of X G y_XInvalida
    X_Conflict := (He.ga K "Conflict")
    gX_Conflict := PySem.W.mg_of X G y_XConflicta
    X_Excess := (He.ga K "Excess")
    gX_Excess := PySem.W.mg_of X G y_XExcessa
    z_ArithmeticError := PySem.W.mg_none_of X G y_z_ArithmeticError
    z_IndexError := PySem.W.mg_none_of X G y_z_IndexError
    z_KeyError := PySem.W.mg_none_of X G y_z_KeyError
    z_LookupError := PySem.W.mg_none_of X G y_z_LookupError
    z_OverflowError := PySem.W.mg_none_of X G y_z_OverflowError
    z_RuntimeError := PySem.W.mg_none_of X G y_z_RuntimeError
    z_TypeError := PySem.W.mg_none_of X G y_z_TypeError
    z_ValueError := PySem.W.mg_none_of X G y_z_ValueError
    z_ZeroDivisionError := PySem.W.mg_none_of X G y_z_ZeroDivisionError
    z_enumerate := PySem.W.mg_none_of X G y_z_enumerate
    z_int := PySem.W.mg_none_of X G y_z_int
    z_isinstance := PySem.W.mg_none_of X G y_z_isinstance
    z_len := PySem.W.mg_none_of X G y_z_len
    z_list := PySem.W.mg_none_of X G y_z_list
    z_range := PySem.W.mg_none_of X G y_z_range
    z_repr := PySem.W.mg_none_of X G y_z_repr
    z_sum := PySem.W.mg_none_of X G y_z_sum
    a_INDEXES := (He.ga K "INDEXES")
    c_INDEXES := PySem.W.mg_of X G y_c_INDEXES
    w_INDEXES := y_w_INDEXES
    u_MAX_DEPTH := u_MAX_DEPTH
    c_MAX_DEPTH := v_MAX_DEPTH
    u_MAX_DIGITS := u_MAX_DIGITS
    c_MAX_DIGITS := v_MAX_DIGITS
    u_MAX_ENTRIES := u_MAX_ENTRIES
    c_MAX_ENTRIES := v_MAX_ENTRIES
    u_MAX_LEVELS := u_MAX_LEVELS
    c_MAX_LEVELS := v_MAX_LEVELS
    u_MAX_PARTS := u_MAX_PARTS
    c_MAX_PARTS := v_MAX_PARTS
    u_MAX_UNDO := u_MAX_UNDO
    c_MAX_UNDO := v_MAX_UNDO
    u_MAX_VALUE := u_MAX_VALUE
    c_MAX_VALUE := v_MAX_VALUE
    a_SCOPES := (He.ga K "SCOPES")
    c_SCOPES := PySem.W.mg_of X G y_c_SCOPES
    w_SCOPES := y_w_SCOPES
    a_SYNTAXES := (He.ga K "SYNTAXES")
    c_SYNTAXES := PySem.W.mg_of X G y_c_SYNTAXES
    w_SYNTAXES := y_w_SYNTAXES }
  exact ⟨_, spLaw _, fun s v => F_law.bindsA (ps := ["_law_script"]) (fun _ _ _ _ _ _ us hl => match us, hl with | [_], _ => rfl) s [v] rfl, fun H a ns hl _ hS => ⟨a, ns, rfl, hS, hl, fun _ => rfl⟩, fun base _ _ => ok_law T⟩
def hm_0 : List PySem.Str := ["Invalid", "Conflict", "Excess", "BadName", "BadFilter", "BadScope", "BadNumber", "BadSchema", "BadEntry", "BadDeed", "BadChange", "BadVector", "BadIndex", "BadText", "BadHost", "BadValue", "UnknownAttribute", "MirrorGiven", "UnknownClass", "BadClasses", "NotAllowed", "Missing", "TooManyValues", "ValueTaken", "NotNamed", "BadPlace", "NoTarget", "NotInteger", "NoOrder", "NoEntry"]
def hm_1 : List PySem.Str := ["NameTaken", "HasChildren", "InUse", "Inside", "NoValue", "Referral", "IndexTaken", "NoIndex", "NothingToUndo", "NoHost", "Gap", "Behind", "Forgotten", "PagingOver", "Full", "TooDeep", "SizeLimit", "SYNTAXES", "MAX_VALUE", "MAX_DIGITS", "MAX_ENTRIES", "MAX_DEPTH", "MAX_UNDO", "MAX_PARTS", "MAX_LEVELS", "INDEXES", "SCOPES", "_law_source", "_law_next", "_law_pick"]
def hm_2 : List PySem.Str := ["_law_rounds", "_law_made", "_law_named", "_law_held", "_law_marks", "_law_families", "_law_strange", "_law_due", "_law_error_right", "_law_limits_right"]
def hNm : List PySem.Str := hm_0 ++ hm_1 ++ hm_2
abbrev hR : PySem.W.OpenRow := PySem.W.OpenLaw.row PySem.Challenge.rw_dirservice_k01_errors
def hAs : List Addr := List.range 1200
abbrev hH : PySem.W.Hook := Hk.hk hAs hFa hFn hTf
set_option maxHeartbeats 0
theorem hrun0 (w : World) : Hk.Run0 hR (PySem.W.view hR.prog [72]) 30000 hNm hAs hTf w := by
  intro os
  kernel_rfl
theorem hrun_0 (w : World) : Hk.RunB hR 30000 hAs hB_0 w := by
  intro os
  kernel_rfl
theorem hrun_1 (w : World) : Hk.RunB hR 30000 hAs hB_1 w := by
  intro os
  kernel_rfl
theorem hrun_2 (w : World) : Hk.RunB hR 30000 hAs hB_2 w := by
  intro os
  kernel_rfl
theorem hrun_3 (w : World) : Hk.RunB hR 30000 hAs hB_3 w := by
  intro os
  kernel_rfl
theorem hrun_4 (w : World) : Hk.RunB hR 30000 hAs hB_4 w := by
  intro os
  kernel_rfl
theorem hrun_5 (w : World) : Hk.RunB hR 30000 hAs hB_5 w := by
  intro os
  kernel_rfl
theorem hrun_6 (w : World) : Hk.RunB hR 30000 hAs hB_6 w := by
  intro os
  kernel_rfl
theorem hrun_7 (w : World) : Hk.RunB hR 30000 hAs hB_7 w := by
  intro os
  kernel_rfl
theorem hrun (w : World) : HandSHeadRun.RunEq hR (PySem.W.view hR.prog [72]) hH (Hk.ob hAs hFa hFn hTf) 30000 hNm w := by
  refine Hk.run_join (bs := hBs) (hrun0 w) fun b hb => ?_
  simp only [hBs, List.mem_cons, List.not_mem_nil, or_false] at hb
  rcases hb with rfl | rfl | rfl | rfl | rfl | rfl | rfl | rfl
  · exact hrun_0 w
  · exact hrun_1 w
  · exact hrun_2 w
  · exact hrun_3 w
  · exact hrun_4 w
  · exact hrun_5 w
  · exact hrun_6 w
  · exact hrun_7 w
set_option maxHeartbeats 2000000
end K1
open PySem PySem.W PySem.Calls PyProof.Rows
set_option maxHeartbeats 0 in
theorem PySem.Challenge.cw_dirservice_k01_errors_holds : PySem.Challenge.rw_dirservice_k01_errors.Holds := by
  w_on; o_law
  refine HandSHeadRun.head_any (r := K1.hR) (q := view K1.hR.prog [72]) (H := K1.hH) (ob := Hk.ob K1.hAs K1.hFa K1.hFn K1.hTf) (M := 30000) (loose := K1.hNm) (d := HandSHeadRun.topDef K1.hR.prog 72) (kwd := []) (Hk.ob_eq _ _ _ _)
    (by kernel_rfl) (fun s => by kernel_rfl) K1.hrun (by kernel_rfl) (by kernel_rfl) (by kernel_rfl) (by rfl) (by first | assumption | decide +kernel) (by decide +kernel) ⟨rfl, rfl, rfl, rfl, rfl, by decide +kernel⟩ ?hw ?hc
  case hw => w_witness2
  case hc =>
    refine Hk.walk_g (l := PySem.Challenge.rw_dirservice_k01_errors) (n := 63) (k := 4) (x := "_law_script") (CX := L2.CX0) rfl (by decide) (by kernel_rfl) ⟨rfl, by decide, by decide⟩ ?F (fun _ _ _ _ z => z)
    intro w mg fa h Y G hmg0
    obtain ⟨K, KX, c⟩ := Y
    have hmg : mg ("law" : PySem.Str) = some (.ref fa) := by
      have e : (HandSHeadRun.topDef K1.hR.prog 72).name = ("law" : PySem.Str) := by kernel_rfl
      rw [← e]
      exact hmg0
    obtain ⟨fd, sp, h1, h2, h3⟩ := K1.all_mk (l := PySem.Challenge.rw_dirservice_k01_errors) (w := w) KX G hmg c
    exact ⟨K, fd, sp, KX, h1, h2, h3⟩

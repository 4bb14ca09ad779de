import PyProof.Rows.All
import Wide.All
import OpenK.AllK
import Wide.FinOn
import HandS.ForMost
import HandS.IsInst
import HandS.Style
import HandS.Set
import HandS.Strs
import HandS.SetBool
import HandS.SetFor
import PySem.Challenge.RW_ringproofs_k25_all_bindings
import HandS.Zip
import HandS.Deep
import HandS.Flow
import PyProof.Rows.RegFStrParts
import HandS.TupAny
import HandS.Walk
import HandS.Steps
import HandS.Text
import PyProof.StrLaws
import KE.KUnpackStar
import HandS.Star
import HandS.FStr
import HandS.CallLocal
import HandS.Codes
import HandS.Conv
import KE.KDictPairs
import HandS.Nested
import HandS.TupMul
import HandS.Rev
import HandS.StrMore
import HandS.ReplaceLit
import HandS.ReplaceDef
import HandS.RaiseMore
import KE.KDictZip
import HandS.GenList
import HandS.DictTup
import HandS.SetKeys
import KE.SortKeyHeap
import HandS.More
import HandS.SortKw
import HandS.Iter
import HandS.ExcValue
import HandS.SortOrd
import KE.KItemsList
import HandS.Dict
import HandS.Lambda
import HandS.EndTab
import KE.KNest
set_option Elab.async false
set_option linter.all false
set_option maxRecDepth 100000
set_option maxHeartbeats 4000000
/-! Two rules that the layer lacks: a comprehension that makes a set of ints, and set(xs) of a list of ints whose table is known well enough to be sorted afterwards. -/
namespace Rp
open PySem PySem.Spec PyProof.Rows L2 PpSet

section addi
variable {X : Cx}
/-- an int goes into a tracked set of ints -/
theorem putInt {pins : List (Addr × Obj)} {σ : L2.St} {H : Hp} {s : Shared} {E : Value → Shared → Prop} {D : Addr} {S : Int → Bool} {n : Nat} {y : Int} {t : Tok} {Q : Value → Shared → Prop}
    (I : Inv X pins σ H s) (hD : H D = some (SetO X.w D S n)) (few : n + 1 < scanBound)
    (go : ∀ s', Inv X pins σ (upd H D (SetO X.w D (fun j => S j || decide (j = y)) (if S y = true then n else n + 1))) s' → Q .none s') :
    wpAny (model X.prog X.w) X.A (call (.builtin "set.add") [.ref D, .int y t]) Q E s :=
  setR_add (setO_get I hD) few fun h' same now =>
    have there : ∃ u, h'.get? D = some u := let ⟨o, _, _, _, ho, _⟩ := now; ⟨o, ho⟩
    go _ (I.write (e := D) (t' := s.toks + 1) (by rw [hD]; trivial) (.inl rfl) (fun b u ne hu => (same.2 b ne).trans hu) there (setO_new now))

/-- what {e for x in .. if ..} asks where e is an int -/
def tScI (w : World) (wi : TI) (g : TG) (tt : TT) (te : TE) (vs : List Nat) : TE := fun σ H Q => wi σ H fun J H1 => ∀ D, H1 D = none →
  ∃ W : Nat → Nat → Hp → Prop, (∃ m, W 0 m (upd H1 D (SetO w D (fun _ => false) 0))) ∧ ∀ i m H, W i m H → (J.stop i H ∧ Q (.ref D) H) ∨
    (J.go i H ∧ ∃ Nx : Hp → Prop, (∀ H', Nx H' → ∃ m', m' < m ∧ W (i + 1) m' H') ∧ ∀ x H', J.yld i H x H' → g x (wipe σ vs) H' fun σ2 H2 => wipe σ2 vs = wipe σ vs ∧
      tt σ2 H2 fun b H3 => if b = true then te σ2 H3 fun y H4 => ∃ (k : Int) (S : Int → Bool) (n : Nat), y = .int k ∧ H4 D = some (SetO w D S n) ∧ n + 1 < scanBound ∧
        Nx (upd H4 D (SetO w D (fun j => S j || decide (j = k)) (if S k = true then n else n + 1))) else Nx H3)

abbrev emptySet (w : World) : Obj := { cls := .type "set", dict := none, data := .set #[] 0 (.fresh 0 0 (!w.params.followText "set-order")) }

theorem pe_scI {elt tg iter : Expr} {ifs : List Expr} {scope : Scope} {own : List (PySem.Str × Nat)} {pos : Pos} {wi : TI} {g : TG} {tt : TT} {te : TE}
    (hc : X.calm = true) (hN : X.N.Nodup) (hi : PI X tg iter wi) (ok : BlkOk X.N X.env.scope scope own)
    (hg : ∀ (s : Shared) (H : Hp) (C : Addr) (cl : List (PySem.Str × Addr)) (fp : List Addr), PG (X.blk s H scope (compEnvC scope cl C X.env) fp) tg g)
    (ht : ∀ (s : Shared) (H : Hp) (C : Addr) (cl : List (PySem.Str × Addr)) (fp : List Addr), PTs (X.blk s H scope (compEnvC scope cl C X.env) fp) ifs tt)
    (he : ∀ (s : Shared) (H : Hp) (C : Addr) (cl : List (PySem.Str × Addr)) (fp : List Addr), PE (X.blk s H scope (compEnvC scope cl C X.env) fp) elt te)
    (hs : ∀ x, foldedSetIterable iter X.env x = pure x := by intro _; rfl) :
    PE X (.SetComp elt [⟨tg, iter, ifs, 0⟩] scope pos) (tScI X.w wi g tt te (own.map (·.2))) := by
  refine ⟨fun pins s σ H Q I h => ?_⟩
  rw [eval_SetComp]
  have caught : ∀ y ∈ scope.names, y.2 = .free → ∃ c, X.env.cells.lookup y.1 = some c := fun y hy e =>
    (ok.free y hy e).elim (fun k => I.ok.has _ (.inl k)) fun k => I.ok.has _ (.inr k)
  refine wpAny_comprehension_free (use := none) rfl hs (closure_ok caught) ok.kind (fun y hy e => (ok.uniq y hy).trans (by rw [e])) (thn (hi.run pins s σ H _ I h) fun xv s1 hx => thn hx fun itv s2 h2 => ?_)
  obtain ⟨it, fp, tn, J, H2, rfl, I2, T, st2, f2, q⟩ := h2
  refine newSet_ok (newEnv_comp ?_)
  -- the new set's place
  obtain ⟨D, hD⟩ : ∃ D, s2.heap.objs.size = D := ⟨_, rfl⟩
  rw [hD]
  obtain ⟨W, ⟨m0, w0⟩, turn⟩ := q D (I2.hok.fresh (Nat.le_of_eq hD))
  obtain ⟨s3, hs3⟩ : ∃ s3 : Shared, { s2 with heap := s2.heap.push (emptySet X.w) } = s3 := ⟨_, rfl⟩
  have h3 : s3.heap = s2.heap.push (emptySet X.w) := by rw [← hs3]
  have I3 : Inv X pins σ (upd H2 D (SetO X.w D (fun _ => false) 0)) s3 := by
    have z := I2.laid (a := D) (o := SetO X.w D (fun _ => false) 0) (t' := s2.toks) (h' := s2.heap.push (emptySet X.w)) (fun b o e => Heap.get?_push_of_some _ e) (Nat.le_of_eq hD) (by rw [← hD]; exact setO_new (setR_fresh X.w))
    exact hs3 ▸ z
  have low : ∀ b ∈ fp, b < s2.heap.objs.size := fun b hb => let ⟨o, e, _⟩ := T.obj _ _ st2 b hb; Heap.lt_size e
  have f3 : ∀ b ∈ fp, FpOk X pins (upd H2 D (SetO X.w D (fun _ => false) 0)) b ∧ b < s3.heap.objs.size := fun b hb =>
    ⟨⟨(upd_ne (by rw [← hD]; exact Nat.ne_of_lt (low b hb))).trans (f2 b hb).1, (f2 b hb).2⟩, by rw [h3, Heap.size_push]; exact Nat.lt_succ_of_lt (low b hb)⟩
  have st3 : tn 0 s3.heap := T.keep _ _ _ st2 fun b _ o e => h3 ▸ Heap.get?_push_of_some _ e
  have I4 := block_start I3 ok hN f3
  obtain ⟨H3, hH3⟩ : ∃ H3, upd H2 D (SetO X.w D (fun _ => false) 0) = H3 := ⟨_, rfl⟩
  rw [hH3] at I3 f3 I4 w0
  obtain ⟨C, hC⟩ : ∃ C, s3.heap.objs.size = C := ⟨_, rfl⟩
  rw [hC] at I4
  have pg := hg s3 H3 C (cellsFrom (C + 1) scope.names (cloFrom X.env.cells scope.names [])) fp
  have pt := ht s3 H3 C (cellsFrom (C + 1) scope.names (cloFrom X.env.cells scope.names [])) fp
  have pe := he s3 H3 C (cellsFrom (C + 1) scope.names (cloFrom X.env.cells scope.names [])) fp
  subst hs3
  have hC' : (s2.heap.push (emptySet X.w)).objs.size = C := hC
  show codeAny _ _ (.compStart (.SetComp elt [⟨tg, iter, ifs, 0⟩] scope pos) 0 (.ref it) (.ref D) (compEnvC scope (cellsFrom ((s2.heap.push (emptySet X.w)).objs.size + 1) scope.names (cloFrom X.env.cells scope.names [])) (s2.heap.push (emptySet X.w)).objs.size X.env))
    (compPost (model X.prog X.w) X.A X.xe none (EP X pins σ Q) (.ref D) (s2.heap.push (emptySet X.w)).objs.size) { s2 with heap := pushCells ((s2.heap.push (emptySet X.w)).push { cls := .type "dict", data := .dict #[] }) scope.names }
  rw [hC']
  obtain ⟨ce, hce⟩ : ∃ ce, compEnvC scope (cellsFrom (C + 1) scope.names (cloFrom X.env.cells scope.names [])) C X.env = ce := ⟨_, rfl⟩
  rw [hce] at I4 pg pt pe ⊢
  have cL : ce.locals = C := by subst hce; rfl
  obtain ⟨s4, hs4⟩ : ∃ s4 : Shared, { s2 with heap := pushCells ((s2.heap.push (emptySet X.w)).push { cls := .type "dict", data := .dict #[] }) scope.names } = s4 := ⟨_, rfl⟩
  have I4 : Inv (X.blk _ H3 scope ce fp) [] (wipe σ (own.map (·.2))) H3 s4 := hs4 ▸ I4
  rw [hs4]
  have st4 : tn 0 s4.heap := T.keep _ _ _ st3 fun b _ o e => by rw [← hs4]; exact pushCells_keeps _ _ _ _ (Heap.get?_push_of_some _ e)
  obtain ⟨Y, hY⟩ : ∃ Y, X.blk { s2 with heap := s2.heap.push (emptySet X.w) } H3 scope ce fp = Y := ⟨_, rfl⟩
  have rest : ∀ {σ' : L2.St} {H' : Hp} {s' : Shared}, Inv Y [] σ' H' s' → (∀ b ∈ fp, H' b = none) → ∀ b ∈ fp, FpOk Y [] H' b := by
    subst hY
    intro σ' H' s' I' hn b hb
    exact ⟨hn b hb, (I'.ok.exf b hb).1, I'.ok.exfs b hb, .inl hb, fun x c e => (I'.ok.exf b hb).2 x c e, fun p hp => absurd (show p ∈ ([] : List (Addr × Obj)) ++ [] from hp) (by simp)⟩
  have round : codeAny (model X.prog X.w) X.A (.compLoop (.SetComp elt [⟨tg, iter, ifs, 0⟩] scope pos) 0 (.ref it) (.ref D) ce) (compPost (model X.prog X.w) X.A X.xe none (EP X pins σ Q) (.ref D) C) s4 := by
    refine compLoopS_any (fun n s' => ∃ i H', Inv Y [] (wipe σ (own.map (·.2))) H' s' ∧ tn i s'.heap ∧ (∀ b ∈ fp, H' b = none) ∧ W i n H') ?_ m0 ⟨0, H3, hY ▸ I4, st4, fun b hb => (f3 b hb).1.1, w0⟩
    rintro n s5 ⟨i, H5, I5, st5, n5, w5⟩
    rcases turn i n H5 w5 with ⟨stop, qq⟩ | ⟨go, Nx, hNx, step⟩
    · subst hY
      refine thnF (T.done (X.blk _ H3 scope ce fp) rfl rfl rfl hc i [] s5 _ H5 (fun _ _ => False) I5 (rest I5 n5) st5 stop) fun r s6 ⟨hr, I6⟩ => ?_
      subst hr
      have I7 : Inv X pins σ H5 s6 := I3.call' (ch := fp) I6.os I6.base I6.hok I6.bare fun b hb => ⟨(f3 b hb).1.2.2.2.1, (f3 b hb).1.2.1, (f3 b hb).1.2.2.2.2.1, (f3 b hb).1.2.2.2.2.2⟩
      have nC : H5 C = none := cL ▸ (show H5 ce.locals = none from I6.free)
      obtain ⟨m, hn, _⟩ := I6.loc
      have hn : s6.heap.Ns C m := cL ▸ (show s6.heap.Ns ce.locals m from hn)
      refine ⟨m, hn, fun h'' sb => ?_⟩
      obtain ⟨g0, g1, g2, g3, g4, g5⟩ := I3.fpOk (Nat.le_of_eq hC) nC
      exact ⟨.ref D, H5, I7.turned (t' := s6.toks) (fun b o hb e => (sb.2 b hb).trans e) g0 g1 g3 g4 g5, rfl, qq⟩
    · have ti := T.item Y (by subst hY; rfl) (by subst hY; rfl) (by subst hY; rfl) (by subst hY; exact hc) i [] s5 _ H5 (fun _ _ => False) I5 (rest I5 n5) st5 go
      subst hY
      refine thnF ti fun r s6 ⟨u, hr, h6⟩ => ?_
      subst hr
      refine thnF h6 fun _ s7 ⟨x, H7, I7, r7, y7, st7, n7⟩ => ?_
      refine thnF (pg.run _ s7 _ H7 x u _ (I7.pinned (rest I7 n7) (T.obj _ _ st7)) r7 (step x H7 y7)) fun _ s8 ⟨σ8, H8, I8, hw8, q8⟩ => ?_
      refine thnF (pt.run _ s8 σ8 H8 _ I8 q8) fun b s9 ⟨H9, I9, q9⟩ => ?_
      have turned : ∀ {s' : Shared} {H' : Hp}, Inv (X.blk { s2 with heap := s2.heap.push (emptySet X.w) } H3 scope ce fp) ([] ++ pinsAt fp s7.heap) σ8 H' s' → Nx H' → ∃ m, m < n ∧ ∃ i H', Inv (X.blk { s2 with heap := s2.heap.push (emptySet X.w) } H3 scope ce fp) [] (wipe σ (own.map (·.2))) H' s' ∧ tn i s'.heap ∧ (∀ b ∈ fp, H' b = none) ∧ W i m H' := by
        intro s' H' I' nx
        obtain ⟨m', hm, w'⟩ := hNx H' nx
        have pin : ∀ b ∈ fp, ∀ o, s7.heap.get? b = some o → s'.heap.get? b = some o ∧ H' b = none := fun b hb o e =>
          let z := I'.pin (b, o) (List.mem_append_right _ (List.mem_append_right _ (mem_pinsAt hb e))); ⟨z.1, z.2.1⟩
        refine ⟨m', hm, i + 1, H', (I'.unpinned (pins := [])).weak (by rw [← hw8, wipe_length]) (fun j v e => (wipe_some (by rw [hw8]; exact e)).1), T.keep _ _ _ st7 fun b hb o e => (pin b hb o e).1, fun b hb => ?_, w'⟩
        obtain ⟨o, e, _⟩ := T.obj _ _ st7 b hb
        exact (pin b hb o e).2
      cases b with
      | false => simp only [Bool.false_eq_true, if_false] at q9 ⊢; exact turned I9 q9
      | true =>
        simp only [if_true] at q9 ⊢
        refine thnF (pe.run _ s9 σ8 H9 _ I9 q9) fun z s10 ⟨yv, H10, I10, r10, k, S0, n0, ey, hD10, few, nx⟩ => ?_
        subst ey
        obtain ⟨t, rfl⟩ := r10
        exact putInt (X := X.blk _ H3 scope ce fp) I10 hD10 few fun s11 I11 => turned I11 nx
  exact codeAny_compStart_set round (T.self X.A 0 _ _ _ st4 round)

/-- the walk over a list that the block leaves as it is -/
theorem scI_list {w : World} {K : PySem.W.Frag} {a : Addr} {xs : List V} {g : TG} {tt : TT} {te : TE} {vs : List Nat} {σ : L2.St} {H1 : Hp} {D : Addr} {Qd : Hp → Prop}
    (Pv : Nat → Hp → Prop) (h0 : Pv 0 (upd H1 D (SetO w D (fun _ => false) 0))) (hl : ∀ i H, i ≤ xs.length → Pv i H → SqL K H a xs)
    (hs : ∀ i x H, xs[i]? = some x → Pv i H → g x (wipe σ vs) H fun σ2 H2 => wipe σ2 vs = wipe σ vs ∧ tt σ2 H2 fun b H3 => if b = true then te σ2 H3 fun y H4 =>
      ∃ (k : Int) (S : Int → Bool) (n : Nat), y = .int k ∧ H4 D = some (SetO w D S n) ∧ n + 1 < scanBound ∧ Pv (i + 1) (upd H4 D (SetO w D (fun j => S j || decide (j = k)) (if S k = true then n else n + 1))) else Pv (i + 1) H3)
    (hd : ∀ H, Pv xs.length H → Qd H) :
    ∃ W : Nat → Nat → Hp → Prop, (∃ m, W 0 m (upd H1 D (SetO w D (fun _ => false) 0))) ∧ ∀ i m H, W i m H → ((Itl K a).stop i H ∧ Qd H) ∨
      ((Itl K a).go i H ∧ ∃ Nx : Hp → Prop, (∀ H', Nx H' → ∃ m', m' < m ∧ W (i + 1) m' H') ∧ ∀ x H', (Itl K a).yld i H x H' → g x (wipe σ vs) H' fun σ2 H2 => wipe σ2 vs = wipe σ vs ∧
        tt σ2 H2 fun b H3 => if b = true then te σ2 H3 fun y H4 => ∃ (k : Int) (S : Int → Bool) (n : Nat), y = .int k ∧ H4 D = some (SetO w D S n) ∧ n + 1 < scanBound ∧
          Nx (upd H4 D (SetO w D (fun j => S j || decide (j = k)) (if S k = true then n else n + 1))) else Nx H3) := by
  refine ⟨fun i m H => m + i = xs.length ∧ Pv i H, ⟨xs.length, by simp, h0⟩, ?_⟩
  rintro i m H ⟨em, p⟩
  have here := hl i H (by omega) p
  rcases Nat.lt_or_ge i xs.length with lt | ge
  · refine .inr ⟨⟨xs, xs[i], here, by simp [lt]⟩, Pv (i + 1), fun H' p' => ⟨m - 1, by omega, by omega, p'⟩, fun x H' ⟨e, y⟩ => ?_⟩
    subst e
    exact hs i x _ (y xs here) p
  · have e : i = xs.length := by omega
    subst e
    exact .inl ⟨⟨xs, here, Nat.le_refl _⟩, hd H p⟩
end addi
end Rp

namespace Rp
open PySem PySem.Spec PyProof.Rows L2 PpSet
section
variable {P : Program} {w : World} {A : Around} {E : Value → Shared → Prop} {s : Shared}
set_option maxHeartbeats 6400000 in
theorem set_of_list {l : Addr} {items : Array Value} (ns : List Int) {Q : Value → Shared → Prop} (calm : A.handled = none) (hl : s.heap.IsList l items) (hi : IntsAre items.toList ns) (few : ns.length + 1 < scanBound)
    (go : ∀ (h' : Heap) (tk c : Nat), SetR w h' s.heap.objs.size (fun j => decide (j ∈ ns)) c → c ≤ ns.length → (∀ b o, s.heap.get? b = some o → h'.get? b = some o) → Q (.ref s.heap.objs.size) { s with heap := h', toks := tk }) :
    wpAny (model P w) A (call (.type "set") [.ref l]) Q E s := by
  have cnt : items.size = ns.length := by have q := IntsAre.length hi; rwa [Array.length_toList] at q
  obtain ⟨c, tl, hmro⟩ := F.called_set.mro
  have hmade := F.called_set.made
  have hsub := F.called_set.sub
  refine wpAny_call (codeAny_of_tree ?_)
  show wpAny _ _ (callAny (.type "set") _) _ _ _
  refine wpAny_pure ⟨Code.quiet_builtin _ (by decide +kernel), codeAny_builtin F.entry_type_call ?_⟩
  rw [Around.under_plain (weight_type_call_type "set" [.ref l] []) rfl]
  have h1 := F.called_set.notType
  have h2 := F.called_set.canCreate
  have hct := F.typeCall_set_1 (.ref l)
  repeat (any_goals (first | assumption | wp_step))
  refine codeAny_mono (code_set_led1 (.ref l) (E := E) (Q₁ := fun obj z => obj = .ref s.heap.objs.size ∧ z = { s with heap := s.heap.push (emptySet w) }) ⟨rfl, rfl⟩) fun r s₁ hr => ?_
  cases r with
  | error e => exact hr
  | ok fl =>
    cases fl with
    | ret obj =>
      obtain ⟨rfl, rfl⟩ := hr
      have atNew : (s.heap.push (emptySet w)).get? s.heap.objs.size = some (emptySet w) := Heap.get?_push_size _ rfl
      have hT : Shared.TypeIs { s with heap := s.heap.push (emptySet w) } (.ref s.heap.objs.size) "set" := ⟨_, atNew, rfl⟩
      have hli := F.called_set.init.lookup
      have hbi := F.called_set.init.bind (.ref s.heap.objs.size)
      repeat (any_goals (first | assumption | wp_step))
      refine codeAny_mono (codeAny_call_builtin (R := wants (fun r z => r = .none ∧ ∃ h' tk c, z = { s with heap := h', toks := tk } ∧ SetR w h' s.heap.objs.size (fun j => decide (j ∈ ns)) c ∧ c ≤ ns.length ∧
        (∀ b o, s.heap.get? b = some o → h'.get? b = some o)) E) F.called_set.init.plain F.entry_set_init (check_set_init_1 hT ?_)) fun r₂ s₂ hr₂ => ?_
      · obtain ⟨⟨ocls, odict, odata, oslots⟩, hol, hcl, nl, hdl⟩ := hl
        simp only at hcl hdl
        subst hcl hdl
        have hol' : (s.heap.push (emptySet w)).get? l = some { cls := .type "list", dict := odict, data := .seq items nl, slots := oslots } := Heap.get?_push_of_some _ hol
        have hsls := F.sub_list_set
        have hslf := F.sub_list_frozenset
        have hne : (Value.type "list" == Value.type "dict") = false := by decide
        have here : (s.heap.push (emptySet w)).IsList l items := ⟨_, hol', rfl, nl, rfl⟩
        unfold Builtin.«set.__init__» noKeywords Builtin.Frozenset.updateFrom
        generalize hPI : pyIter = PI
        wp_walk
        subst hPI
        refine wpAny_pyIter_list here (wpAny_bind (wpAny_runValue ?_))
        have below : l < s.heap.objs.size := Heap.lt_size hol
        have top : (s.heap.push (emptySet w)).objs.size = s.heap.objs.size + 1 := Heap.size_push ..
        have apart : l ≠ (s.heap.push (emptySet w)).objs.size := by rw [top]; exact Nat.ne_of_lt (Nat.lt_succ_of_lt below)
        have out : s.heap.objs.size ∉ [(s.heap.push (emptySet w)).objs.size, l] := by
          simp only [List.mem_cons, List.not_mem_nil, or_false, not_or, top]
          exact ⟨Nat.ne_of_lt (Nat.lt_succ_self _), Nat.ne_of_gt below⟩
        have each : ∀ (i : Nat) (v : Value), items[i]? = some v → ∃ k t, ns[i]? = some k ∧ v = .int k t := by
          intro i v hv
          have lt : i < ns.length := by rw [← cnt]; exact (Array.getElem?_eq_some_iff.mp hv).1
          obtain ⟨t, e⟩ := PyProof.Rows.IntsAre.int_at hi i v (by rw [Array.getElem?_toList]; exact hv)
          exact ⟨ns[i], t, List.getElem?_eq_getElem lt, by rw [e, List.getD_eq_getElem?_getD, List.getElem?_eq_getElem lt]; rfl⟩
        refine set_update_ints ((Walks.list (by simp [calm]) _ l apart items).toS) s.heap.objs.size out ns cnt few each (items.size - 0) 0 _ (by omega) (Nat.zero_le _)
          ⟨⟨_, Heap.get?_push_size _ rfl, rfl, rfl⟩, here.push _⟩ ⟨0, Nat.le_refl 0, setR_new_at (Heap.get?_push_of_some _ atNew)⟩ fun s' c' hm hc' hS' => ?_
        obtain ⟨h', g2, d', tk', os'⟩ := s'
        have eg : g2 = s.gens := hm.gens
        have ed : d' = s.drawn := hm.drawn
        have eo : os' = s.os := hm.os
        subst eg ed eo
        show wpAny _ _ _ _ _ _
        refine wpAny_pure ?_
        show wpAny _ _ (ret Value.none) _ _ _
        refine wpAny_pure ⟨rfl, h', tk', c', rfl, hS', by omega, fun b o e => ?_⟩
        have lt := Heap.lt_size e
        exact hm.heap b o (by simp only [List.mem_cons, List.not_mem_nil, or_false, not_or, top]; exact ⟨Nat.ne_of_lt lt, Nat.ne_of_lt (Nat.lt_succ_of_lt lt)⟩) (Heap.get?_push_of_some _ (Heap.get?_push_of_some _ e))
      · cases r₂ with
        | error e => exact hr₂
        | ok fl₂ =>
          cases fl₂ with
          | ret r =>
            obtain ⟨rfl, h', tk, c', rfl, hS', hc', hk'⟩ := hr₂
            repeat (any_goals (first | assumption | wp_step))
            exact go _ _ _ hS' hc' hk'
          | _ => exact hr₂.elim
    | _ => exact hr.elim
end
section
variable {X : Cx}
theorem intsOf : ∀ {ns : List Int} {us : List Value}, Vals (ns.map V.int) us → PyProof.Rows.IntsAre us ns
  | [], _, .nil => .nil
  | n :: ns, _, .cons ⟨k, e⟩ t => by subst e; exact .cons n k (intsOf t)
/-- set(xs), xs a list of ints -/
def rSetI (K : PySem.W.Frag) (w : World) : List V → Hp → VK → Prop := fun vs H Q => ∃ (a : Addr) (ns : List Int), vs = [V.ref a] ∧ SqL K H a (ns.map V.int) ∧ ns.length < 1000 ∧
  ∀ (p : Addr) (c : Nat), H p = none → c ≤ ns.length → Q (.ref p) (upd H p (SetO w p (fun j => decide (j ∈ ns)) c))
theorem cr_setI (hc : X.calm = true) : CallR X (.type "set") (rSetI X.K X.w) := by
  intro pins s σ H vs us Q I r h
  obtain ⟨a, ns, rfl, hs, hn, q⟩ := h
  rw [Vals.ref1 r]
  obtain ⟨its, rv, pl, hz⟩ := I.list hs
  refine set_of_list ns (I.ok.hd hc) pl.isList (by simpa using intsOf rv) (by unfold scanBound; omega) fun h' tk c R hc' k => ?_
  have hn : H s.heap.objs.size = none := I.hok.fresh (Nat.le_refl _)
  exact ⟨.ref _, upd H s.heap.objs.size (SetO X.w s.heap.objs.size (fun j => decide (j ∈ ns)) c), I.laid (t' := tk) k (Nat.le_refl _) (setO_new R), rfl, q _ c hn hc'⟩
end
end Rp

namespace Rp
open PySem L2
/-! ### TERMs -/
inductive Tm where
  | v (n : Int) | z | s (t : Tm) | f (l r : Tm)
  deriving DecidableEq
namespace Tm
def size : Tm → Nat
  | v _ => 1 | z => 1 | s t => t.size + 1 | f l r => l.size + r.size + 1
def deep : Tm → Nat
  | v _ => 0 | z => 0 | s t => t.deep + 1 | f l r => max l.deep r.deep + 1
def nums : Tm → List Int
  | v n => [n] | z => [] | s t => t.nums | f l r => l.nums ++ r.nums
/-- all parts, the whole first, the right-hand ones ahead of the left-hand ones -/
def rpost : Tm → List Tm
  | v n => [v n] | z => [z] | s t => s t :: t.rpost | f l r => f l r :: (r.rpost ++ l.rpost)
def kids : Tm → List Tm
  | v _ => [] | z => [] | s t => [t] | f l r => [l, r]
theorem size_pos : ∀ t : Tm, 1 ≤ t.size
  | v _ => Nat.le_refl _ | z => Nat.le_refl _ | s _ => by unfold size; omega | f _ _ => by unfold size; omega
theorem deep_lt : ∀ t : Tm, t.deep < t.size
  | v _ => Nat.zero_lt_one | z => Nat.zero_lt_one | s t => by have := deep_lt t; unfold deep size; omega
  | f l r => by have := deep_lt l; have := deep_lt r; unfold deep size; omega
theorem rpost_len : ∀ t : Tm, t.rpost.length = t.size
  | v _ => rfl | z => rfl | s t => by unfold rpost size; rw [List.length_cons, rpost_len t]
  | f l r => by unfold rpost size; rw [List.length_cons, List.length_append, rpost_len l, rpost_len r]; omega
/-- an int among the parts -/
theorem mem_rpost (n : Int) : ∀ t : Tm, v n ∈ t.rpost ↔ n ∈ t.nums
  | v m => by unfold rpost nums; simp
  | z => by unfold rpost nums; simp
  | s t => by unfold rpost nums; have := mem_rpost n t; simp [this]
  | f l r => by unfold rpost nums; have := mem_rpost n l; have := mem_rpost n r; simp [*]; exact Or.comm
theorem rpost_kids (t : Tm) : t.rpost = t :: (t.kids.reverse.flatMap rpost) := by
  cases t <;> simp [rpost, kids]
theorem kids_size (t : Tm) : (t.kids.map size).sum + 1 = t.size := by
  cases t <;> simp [kids, size] <;> omega
theorem nums_len : ∀ t : Tm, t.nums.length ≤ t.size
  | v _ => Nat.le_refl _ | z => Nat.zero_le _ | s t => by have := nums_len t; unfold nums size; omega
  | f l r => by have := nums_len l; have := nums_len r; unfold nums size; rw [List.length_append]; omega
/-- all signs, as law's leaves has them -/
def signs : Tm → List V
  | v n => [.int n] | z => [.str "0"] | s t => .str "s" :: t.signs | f l r => .str "f" :: (l.signs ++ r.signs)
theorem signs_len : ∀ t : Tm, t.signs.length = t.size
  | v _ => rfl | z => rfl | s t => by unfold signs size; rw [List.length_cons, signs_len t]
  | f l r => by unfold signs size; rw [List.length_cons, List.length_append, signs_len l, signs_len r]
end Tm
/-- the ints of a row of ints and texts -/
def rowInts : List V → List Int
  | [] => []
  | .int n :: r => n :: rowInts r
  | _ :: r => rowInts r
theorem rowInts_append : ∀ a b : List V, rowInts (a ++ b) = rowInts a ++ rowInts b
  | [], b => rfl
  | x :: r, b => by cases x <;> simp [rowInts, rowInts_append r b]
theorem signs_nums : ∀ t : Tm, rowInts t.signs = t.nums
  | .v _ => rfl | .z => rfl | .s t => by simp [Tm.signs, Tm.nums, rowInts, signs_nums t]
  | .f l r => by simp [Tm.signs, Tm.nums, rowInts, rowInts_append, signs_nums l, signs_nums r]
/-- a row of ints and texts -/
def Flat2 : V → Prop
  | .int _ => True
  | .str _ => True
  | _ => False
theorem signs_flat : ∀ t : Tm, ∀ x ∈ t.signs, Flat2 x
  | .v _, x, h => by simp [Tm.signs] at h; subst h; trivial
  | .z, x, h => by simp [Tm.signs] at h; subst h; trivial
  | .s t, x, h => by
    simp only [Tm.signs, List.mem_cons] at h
    rcases h with h | h
    · subst h; trivial
    · exact signs_flat t x h
  | .f l r, x, h => by
    simp only [Tm.signs, List.mem_cons, List.mem_append] at h
    rcases h with h | h | h
    · subst h; trivial
    · exact signs_flat l x h
    · exact signs_flat r x h
/-! ### two rising rows of the same ints are one -/
theorem rising_one : ∀ {a b : List Int}, a.Pairwise (· < ·) → b.Pairwise (· < ·) → (∀ k, k ∈ a ↔ k ∈ b) → a = b
  | [], [], _, _, _ => rfl
  | [], y :: b, _, _, h => by have := (h y).2 (by simp); simp at this
  | x :: a, [], _, _, h => by have := (h x).1 (by simp); simp at this
  | x :: a, y :: b, ha, hb, h => by
    rw [List.pairwise_cons] at ha hb
    have exy : x = y := by
      rcases List.mem_cons.mp ((h x).1 (by simp)) with e | e
      · exact e
      · rcases List.mem_cons.mp ((h y).2 (by simp)) with e' | e'
        · exact e'.symm
        · have := hb.1 x e
          have := ha.1 y e'
          omega
    subst exy
    rw [rising_one ha.2 hb.2 fun k => ?_]
    constructor
    · intro hk
      rcases List.mem_cons.mp ((h k).1 (List.mem_cons_of_mem _ hk)) with e | e
      · have := ha.1 k hk; omega
      · exact e
    · intro hk
      rcases List.mem_cons.mp ((h k).2 (List.mem_cons_of_mem _ hk)) with e | e
      · have := hb.1 k hk; omega
      · exact e
/-! ### heaps -/
/-- all but b stays -/
def But (b : Addr) (H H' : Hp) : Prop := ∀ c o, H c = some o → c ≠ b → H' c = some o
theorem But.refl (b : Addr) (H : Hp) : But b H H := fun _ _ h _ => h
theorem But.trans {b : Addr} {H H1 H2 : Hp} (x : But b H H1) (y : But b H1 H2) : But b H H2 := fun c o h n => y c o (x c o h n) n
theorem but_of {b : Addr} {H H' : Hp} (x : Same H H') : But b H H' := fun c o h _ => x c o h
theorem same_new {H : Hp} {p : Addr} (h : H p = none) (o : HO) : Same H (upd H p o) := fun b u q => by rw [upd_ne (ne_of_none q h)]; exact q
theorem but_upd {H : Hp} {b : Addr} (o : HO) : But b H (upd H b o) := fun c u h n => by rw [upd_ne n]; exact h
/-- the box of draws: j bounds how often it was drawn from -/
structure BoxAt (H : Hp) (b : Addr) (j : Nat) : Prop where
  ex : ∃ x y z : Int, H b = some (.lst [.int x, .int y, .int z]) ∧ 0 ≤ x ∧ 0 ≤ y ∧ y < 10000000000 ∧ 0 ≤ z ∧ z ≤ (j : Int)
theorem BoxAt.same {H H' : Hp} {b : Addr} {j : Nat} (B : BoxAt H b j) (e : Same H H') : BoxAt H' b j := by
  obtain ⟨x, y, z, h, r⟩ := B.ex
  exact ⟨x, y, z, e _ _ h, r⟩
theorem BoxAt.more {H : Hp} {b : Addr} {j k : Nat} (B : BoxAt H b j) (h : j ≤ k) : BoxAt H b k := by
  obtain ⟨x, y, z, e, h1, h2, h3, h4, h5⟩ := B.ex
  exact ⟨x, y, z, e, h1, h2, h3, h4, by omega⟩
theorem BoxAt.some {H : Hp} {b : Addr} {j : Nat} (B : BoxAt H b j) : ∃ xs, H b = some (.lst xs) := by
  obtain ⟨x, y, z, e, _⟩ := B.ex
  exact ⟨_, e⟩
/-- a TERM stands as the value v -/
inductive TmAt (H : Hp) : V → Tm → Prop where
  | v (n : Int) : TmAt H (.int n) (.v n)
  | z {a : Addr} (h : H a = some (.tup [.str "0"])) : TmAt H (.ref a) .z
  | s {a : Addr} {x : V} {t : Tm} (h : H a = some (.tup [.str "s", x])) (q : TmAt H x t) : TmAt H (.ref a) (.s t)
  | f {a : Addr} {x y : V} {l r : Tm} (h : H a = some (.tup [.str "f", x, y])) (q : TmAt H x l) (q' : TmAt H y r) : TmAt H (.ref a) (.f l r)
theorem TmAt.mono {H H' : Hp} (e : ∀ a xs, H a = some (.tup xs) → H' a = some (.tup xs)) {v : V} {t : Tm} (h : TmAt H v t) : TmAt H' v t := by
  induction h with
  | v n => exact .v n
  | z h => exact .z (e _ _ h)
  | s h _ ih => exact .s (e _ _ h) ih
  | f h _ _ ih ih' => exact .f (e _ _ h) ih ih'
theorem TmAt.same {H H' : Hp} (e : Same H H') {v : V} {t : Tm} (h : TmAt H v t) : TmAt H' v t := h.mono fun a xs q => e a _ q
theorem TmAt.but {H H' : Hp} {b : Addr} {ys : List V} (e : But b H H') (hb : H b = some (.lst ys)) {v : V} {t : Tm} (h : TmAt H v t) : TmAt H' v t :=
  h.mono fun a xs q => e a _ q (ne_of q hb (by intro z; cases z))
/-! ### what is alike, kind by kind (to a depth) -/
def Plain : V → Prop
  | .non => True
  | .bl _ => True
  | .int _ => True
  | .str _ => True
  | _ => False
def Alike (H : Hp) : Nat → V → V → Prop
  | 0, x, y => Plain x ∧ x = y
  | n + 1, x, y => (Plain x ∧ x = y) ∨ ∃ a b xs ys, x = .ref a ∧ y = .ref b ∧ ((H a = some (.lst xs) ∧ H b = some (.lst ys)) ∨ (H a = some (.tup xs) ∧ H b = some (.tup ys))) ∧
      xs.length = ys.length ∧ xs.length ≤ 1000000 ∧ ∀ (i : Nat) (u v : V), xs[i]? = some u → ys[i]? = some v → Alike H n u v
theorem Alike.mono {H H' : Hp} (e : Same H H') : ∀ (n : Nat) {x y : V}, Alike H n x y → Alike H' n x y
  | 0, _, _, h => by unfold Alike at h ⊢; exact h
  | n + 1, x, y, h => by
    unfold Alike at h ⊢
    rcases h with h | ⟨a, b, xs, ys, h1, h2, h3, h4, h5, h6⟩
    · exact .inl h
    · exact .inr ⟨a, b, xs, ys, h1, h2, h3.imp (fun q => ⟨e _ _ q.1, e _ _ q.2⟩) (fun q => ⟨e _ _ q.1, e _ _ q.2⟩), h4, h5, fun i u v p q => Alike.mono e n (h6 i u v p q)⟩
theorem alike_ints {H : Hp} {n : Nat} {a b : Addr} {ns : List Int} (ha : H a = some (.lst (ns.map V.int))) (hb : H b = some (.lst (ns.map V.int))) (hl : ns.length ≤ 1000000) : Alike H (n + 1) (.ref a) (.ref b) := by
  unfold Alike
  refine .inr ⟨a, b, _, _, rfl, rfl, .inl ⟨ha, hb⟩, rfl, by rw [List.length_map]; exact hl, fun i u v h1 h2 => ?_⟩
  have e : u = v := Option.some.inj (h1.symm.trans h2)
  subst e
  rw [List.getElem?_map] at h1
  cases q : ns[i]? with
  | none => rw [q] at h1; cases h1
  | some k =>
    rw [q] at h1
    cases h1
    cases n with
    | zero => unfold Alike; exact ⟨trivial, rfl⟩
    | succ n => unfold Alike; exact .inl ⟨trivial, rfl⟩
end Rp

/-! Defs whose body asks for the repr of lists and tuples: their promise is kept where no repr is at work (the around's guards are told to be none), and so where the law itself is called. -/
namespace Rp
open PySem PySem.Spec PyProof.Rows L2
structure GnOk (P : Program) (w : World) (K : PySem.W.Frag) (mg : Str → Option Value) (base : Heap) (k : Nat) (f : Addr) (fd : FuncData) (ps : List Str) (sp : Sp) : Prop where
  len : ∀ vs H Q E, sp vs H Q E → vs.length = ps.length
  run : ∀ (A : Around) (outer : List Env) (s : Shared) (H : Hp) (args : Args) (us : List Value) (vs : List V) (Q : VK) (E : XK), A.guards = some [] → Room k A → Env0 P w K mg base A outer s H → BindsTo s fd args (ps.zip us) → Vals vs us → sp vs H Q E →
    codeAny (model P w) A (.call (.ref f) args) (CR CX0 outer P w H s Q E) s
section
variable {P : Program} {w : World} {K : PySem.W.Frag} {mg : Str → Option Value} {base : Heap}
/-- a def by its body, the guards told -/
theorem gok {x qual : Str} {st : Stmt} {f : Addr} {fd : FuncData} {N ps : List Str} {k : Nat} {sp : Sp} (F : Fun K x qual st f fd) (S : FnScope N ps (defScope st)) (len : ∀ vs H Q E, sp vs H Q E → vs.length = ps.length)
    (walk : ∀ (cdv : Value) (A : Around) (outer : List Env) (s : Shared) (H : Hp) (vs : List V) (Q : VK) (E : XK), A.guards = some [] → Room k (A.deeper (envOfC qual (defScope st) s.heap.objs.size f cdv)) → sp vs H Q E →
      ∃ t, PSs (cxOf CX0 P w K mg base N qual (defScope st) f cdv A outer s H E).nox (defBody st) t ∧ t { nx := fun _ H' => Q .non H', rt := Q } (start N vs) H) : GnOk P w K mg base (k + 1) f fd ps sp := by
  obtain ⟨oc, od, kV, doc, pm, an, cdv, ct, osl, rfl, lk, hcd⟩ := F.ex
  refine ⟨len, fun A outer s H args us vs Q E hg hr e0 hb r hsp => ?_⟩
  have K0 : K.In s.heap := e0.mod.kin.keeps fun b o e => (e0.bs b o e).1
  have L0 : s.heap.NoLimit := e0.mod.nolimit.keeps fun b o e => (e0.bs b o e).1
  have each : ∀ y ∈ ps.zip us, (defScope st).names.lookup y.1 = some .local ∨ ((defScope st).names.lookup y.1 = some .cell ∧ ((cellsFrom (s.heap.objs.size + 1) (defScope st).names []).lookup y.1).isSome = true) := by
    rintro ⟨n, v⟩ hy
    exact (S.par n (List.of_mem_zip hy).1).imp id fun q => ⟨q, PySem.W.cellsFrom_some _ _ _ (.inl q)⟩
  refine codeAny_call_function hr.depth (K0 _ _ lk) rfl S.co S.gen rfl (PySem.W.codeRec_of K0 hcd) (hb _ _ _ _ (wpAny_newFunctionEnv_cells S.kind each fun env he s1 z => ?_))
  subst he
  refine ⟨L0.keeps z.toInCall.keep, codeAny_func ?_⟩
  obtain ⟨t, ht, hq⟩ := walk cdv A outer s H vs Q E hg (hr.deeper _) hsp
  have I : L2.Inv (cxOf CX0 P w K mg base N qual (defScope st) f cdv A outer s H E) [] (start N vs) H s1 := inv_start S hr.hd e0 (len _ _ _ _ hsp) r z
  refine wpAny_mono (ht.nox.run [] s1 (start N vs) H _ I hq) (fun fl s' hs => ?_) fun e s' hs => hs
  rcases fl with _ | _ | _ | u
  · obtain ⟨_, H', J, q⟩ := hs
    exact ⟨V.non, H', J.os, J.bare, J.base, J.hok, rfl, q⟩
  · exact hs.choose_spec.choose_spec.2.elim
  · exact hs.choose_spec.choose_spec.2.elim
  · obtain ⟨v, _, H', J, rv, q⟩ := hs
    exact ⟨v, H', J.os, J.bare, J.base, J.hok, rv, q⟩
end
section
variable {X : Cx} {k : Nat} {f : Addr} {fd : FuncData} {ps : List Str} {sp : Sp} {E : XK} {x : Str} {p pos : Pos} {e : Expr} {es : List Expr} {t : TA}
theorem pe_callG (F : GnOk X.prog X.w X.K X.mg X.base k f fd ps sp) (hgd : X.A.guards = some []) (hr : Room k X.A) (hg : Gl X x) (hm : X.mg x = some (.ref f)) (hk : PySem.W.keepIn X.K (.ref f) = true) (hb : Binds X.K fd ps []) (ha : PA X (e :: es) t)
    (hdb : (x == ("__debug__" : Str)) = false := by decide) (he : starEach (e :: es) X.env = (false, eval e X.env) :: starEach es X.env := by rfl) (hpl : (backTo pos (starEach es X.env)).any (·.1) = false := by rfl) :
    PE X (.Call (.Name x p) (e :: es) [] pos) (tCall sp [] E0 t) := by
  refine ⟨fun pins s σ H Q I h => wpAny_Call_Name_kw (ld_glob I hg hm ?_ hdb)⟩
  refine PySem.W.callWith_K (h₀ := X.base) I.ok.mod.kin hk (thn (ha.run pos pins s σ H _ I h) fun us s1 ⟨vs, H1, I1, r, q⟩ => ⟨I1.kIn, ?_⟩) he hpl
  have q : sp vs H1 Q E0 := by
    have z : sp (vs ++ []) H1 Q E0 := q
    rwa [List.append_nil] at z
  have hl : us.length = ps.length := r.length.symm.trans (F.len _ _ _ _ q)
  have hb' := hb s1 us I1.kIn (by rw [List.append_nil]; exact hl)
  rw [List.append_nil] at hb'
  refine wpAny_call (codeAny_mono (F.run X.A X.stack s1 H1 ⟨us, []⟩ us vs Q E0 hgd hr I1.env0 hb' r q) fun r' s' hq => ?_)
  rcases r' with e' | fl
  · exact hq.elim
  · rcases fl with _ | _ | _ | u
    · exact hq.elim
    · exact hq.elim
    · exact hq.elim
    · exact I1.after hq
/-- repr(v), v data at any depth -/
def rReprD (K : PySem.W.Frag) : List V → Hp → VK → Prop := fun vs H Q => ∃ (v : V) (d : PyData), vs = [v] ∧ Dp K H v d ∧ d.showable = true ∧ d.hasDict = false ∧ d.depth ≤ 64 ∧ d.shown.length ≤ sizeLine ∧ Q (.str d.shown) H
theorem cr_reprD (hgd : X.A.guards = some []) (hu : X.A.units + 66 < cLine) : CallR X (.builtin "repr") (rReprD X.K) := by
  intro pins s σ H vs us Q I r h
  obtain ⟨v, d, rfl, hd, sh, nd, dp, sz, q⟩ := h
  obtain ⟨u, rfl, ru⟩ := vals1 r
  obtain ⟨as, rd⟩ := Dp.reads I d v u hd ru
  cases hd with
  | non => cases ru; exact PySem.P.repr_of_none ⟨.str "None", H, I.tok _, ⟨_, rfl⟩, by simpa [PyData.shown] using q⟩
  | bl b => cases ru; exact PySem.P.repr_of_bool ⟨.str (if b then "True" else "False"), H, I.tok _, ⟨_, rfl⟩, by simpa [PyData.shown] using q⟩
  | int i =>
    obtain ⟨t, rfl⟩ := ru
    exact PySem.P.repr_of_int (by simpa [PyData.showable] using sh) ⟨.str (toString i), H, I.tok _, ⟨_, rfl⟩, by simpa [PyData.shown] using q⟩
  | str x =>
    obtain ⟨t, rfl⟩ := ru
    exact PySem.P.repr_of_str ⟨.str (reprText x), H, I.tok _, ⟨_, rfl⟩, by simpa [PyData.shown] using q⟩ (by simpa [PyData.shown] using sz)
  | lst a b =>
    cases ru
    exact PySem.repr_of_reads' rd sh (fun e => by rw [nd] at e; cases e) hgd (by omega) (fun _ _ e => e) (fun h' u tk k => ⟨.str _, H, I.kept (t' := tk) k, ⟨u, rfl⟩, q⟩) sz
  | tup a b =>
    cases ru
    exact PySem.repr_of_reads' rd sh (fun e => by rw [nd] at e; cases e) hgd (by omega) (fun _ _ e => e) (fun h' u tk k => ⟨.str _, H, I.kept (t' := tk) k, ⟨u, rfl⟩, q⟩) sz
end
/-- the law's own call, its promise with the guards told -/
theorem law_callG {P : Program} {w : World} {K : PySem.W.Frag} {mg mb : Str → Option Value} {k : Nat} {fa a : Addr} {fd : FuncData} {x : Str} {sp : Sp} {s₁ : Shared} {vs : List Value} {ns : List Int}
    (KX : K.In s₁.heap) (hns : s₁.heap.Ns mainGlobals mg) (hb : s₁.heap.Ns builtinsNs mb) (hbb : ∀ x : Str, x ≠ "__name__" → mb x = bootBuiltins x) (hlim : s₁.heap.NoLimit) (hg : s₁.gens = #[])
    (ha : s₁.heap.get? a = some { cls := .type "list", data := .seq vs.toArray }) (hi : IntsAre vs ns) (hl : ns.length ≤ sizeLine) (hr : Room k callerA)
    (F : ∀ base : Heap, K.In base → base.Ns mainGlobals mg → GnOk P w K mg base k fa fd [x] sp) (bind : ∀ (s : Shared) (u : Value), BindsTo s fd ⟨[u], []⟩ [(x, u)])
    (ask : ∀ H : Hp, Only H → SqL K H a (ns.map V.int) → sp [.ref a] H (fun v _ => v = .bl true) E0) :
    codeAny (model P w) callerA (.call (.ref fa) ⟨[.ref a], []⟩) (fun r s' => r = .ok (.ret (.bool true)) ∧ OldK s₁.heap s'.heap ∧ s'.os = s₁.os ∧ AllBare s'.gens) s₁ := by
  have rv := vals_ints hi
  have lenV := hi.length
  have from_ : ∀ H : Hp, Only H → SqL K H a (ns.map V.int) → HOk P w H s₁.heap → (∀ b, H b ≠ none → b = a ∧ K.lookup a = none) →
      codeAny (model P w) callerA (.call (.ref fa) ⟨[.ref a], []⟩) (fun r s' => r = .ok (.ret (.bool true)) ∧ OldK s₁.heap s'.heap ∧ s'.os = s₁.os ∧ AllBare s'.gens) s₁ := by
    intro H only hS hok hA
    have free : ∀ {b : Addr} {o : Obj}, s₁.heap.get? b = some o → (b = a → False) → H b = none := fun {b o} _ n => by
      cases q : H b with
      | none => rfl
      | some u => exact (n (hA b (by rw [q]; simp)).1).elim
    have low : ∀ {b : Addr} {o : Obj}, s₁.heap.get? b = some o → H b = none → (hidT s₁.heap H).get? b = some o := fun e n => hidT_get e n
    have names : ∀ {b : Addr} {m : Str → Option Value}, s₁.heap.Ns b m → (hidT s₁.heap H).Ns b m := fun {b m} ⟨o, es, ep, e, d, r⟩ =>
      ⟨o, es, ep, low e (free e fun z => by subst z; rw [ha] at e; cases e; cases d), d, r⟩
    have hK : K.In (hidT s₁.heap H) := fun b o e => low (KX b o e) (by
      cases q : H b with
      | none => rfl
      | some u =>
        obtain ⟨z, zk⟩ := hA b (by rw [q]; simp)
        subst z
        rw [zk] at e; cases e)
    have M : Mod K mg (hidT s₁.heap H) := ⟨hK, names hns, ⟨mb, names hb, hbb⟩, let ⟨mc, h1, h2⟩ := hlim; ⟨mc, names h1, h2⟩⟩
    have e0 : Env0 P w K mg (hidT s₁.heap H) callerA [] s₁ H := ⟨rfl, M, fun b o e => of_hidT e, Nat.le_of_eq (hidT_size _ _), trivial, fun b z => absurd (show b ∈ ([] : List Addr) from z) (by simp), hok, .of_eq hg⟩
    refine codeAny_mono ((F _ hK (names hns)).run callerA [] s₁ H ⟨[.ref a], []⟩ [.ref a] [.ref a] _ _ rfl hr e0 (bind s₁ (.ref a)) (.cons rfl .nil) (ask H only hS)) fun r s' h => ?_
    rcases r with e | fl
    · exact h.elim
    · rcases fl with _ | _ | _ | u
      · exact h.elim
      · exact h.elim
      · exact h.elim
      · obtain ⟨v, H', os, bare, un, hok', r', q⟩ := h
        obtain rfl : v = .bl true := q
        obtain rfl : u = Value.bool true := r'
        refine ⟨rfl, OldK.of_keep fun b o e => ?_, os, bare⟩
        cases q : H b with
        | none => exact un.keep b o e q (by intro z; exact absurd (show b ∈ ([] : List Addr) from z) (by simp)) (by simp)
        | some u =>
          rcases only b with z | ⟨ob, xs, z⟩
          · rw [q] at z; cases z
          · obtain ⟨e1, _⟩ := hok b _ z
            obtain ⟨e2, _⟩ := hok' b _ (un.frzs b ob _ z)
            rw [e] at e1; cases e1
            exact e2
  cases hk : K.lookup a with
  | some o =>
    have e := KX a o hk
    rw [ha] at e
    cases e
    exact from_ (fun _ => none) (fun _ => .inl rfl) (.inr ⟨_, vs.toArray, _, hk, rfl, rfl, rfl, by rw [List.size_toArray, lenV]; exact hl, by simpa using rv⟩) (fun b u z => nomatch (show (none : Option HO) = some u from z)) fun b z => absurd rfl z
  | none =>
    have at_ : ∀ b, (fun b => if b = a then some (HO.frz { cls := .type "list", data := .seq vs.toArray } (.lst (ns.map V.int))) else none) b ≠ none → b = a := fun b z => by
      by_cases hb : b = a
      · exact hb
      · exact absurd (if_neg hb) z
    refine from_ _ (fun b => ?_) (.inl (.inr ⟨_, if_pos rfl⟩)) (fun b u z => ?_) fun b z => ⟨at_ b z, hk⟩
    · by_cases hb : b = a
      · exact .inr ⟨_, _, if_pos hb⟩
      · exact .inl (if_neg hb)
    · have hb := at_ b (fun e => by have y := z.symm.trans e; cases y)
      subst hb
      have z' := (if_pos rfl).symm.trans z
      cases z'
      exact ⟨ha, by rw [List.length_map]; exact hl, vs, _, rv, ha⟩
theorem walk_ofG {l : PySem.W.OpenLaw} {n k : Nat} {q : Program} {loose : List Str} {XP : (Str → Option Value) → Heap → Prop} {YP : World → Heap → Prop} {d : DefRec} {K : Params → PySem.W.Frag} {sp : PySem.W.Frag → Sp} {x : Str}
    (hn : l.most = some n) (hn2 : n ≤ sizeLine) (hdf : d.params.defaults = []) (hr : Room k callerA) (hY : ∀ (w : World) (h : Heap), YP w h → (K w.params).In h)
    (F : ∀ (w : World) (mg : Str → Option Value) (fa : Addr) (h : Heap), (K w.params).In h → h.Ns mainGlobals mg → mg d.name = some (.ref fa) →
      ∃ fd : FuncData, (∀ (s : Shared) (u : Value), BindsTo s fd ⟨[u], []⟩ [(x, u)]) ∧ ∀ base : Heap, (K w.params).In base → base.Ns mainGlobals mg → GnOk l.prog w (K w.params) mg base k fa fd [x] (sp (K w.params)))
    (ask : ∀ (K : PySem.W.Frag) (H : Hp) (a : Addr) (ns : List Int), ns.length ≤ n → Only H → SqL K H a (ns.map V.int) → sp K [.ref a] H (fun v _ => v = .bl true) E0) :
    PySem.W.WalkO q loose XP YP l.row.toRowW d [] (fun f vs => PySem.call f vs) := by
  refine Att.attach_call hn hdf fun w s₀ s₁ mg mb fa o pm cd doc a vs ns G Y ho hd hcd hmg hobj hints hlen hg => ?_
  obtain ⟨fd, hb, hF⟩ := F w mg fa _ (hY w _ Y) G.T.g hmg
  exact law_callG (hY w _ Y) G.T.g G.T.b G.T.builtins G.T.nolimit hg hobj hints (Nat.le_trans hlen hn2) hr hF hb fun H hO hS => ask _ H a ns hlen hO hS
end Rp

namespace Rp
open PySem L2
def top (i : Nat) : Stmt := PySem.Challenge.pw_ringproofs_k25_all_bindings.main.body.getD i (.Pass ⟨0, 0, 0, 0⟩)
abbrev sParts : Stmt := top 1
abbrev sInside : Stmt := top 2
abbrev sFold : Stmt := top 3
abbrev sTextOf : Stmt := top 5
abbrev sTermText : Stmt := top 6
abbrev sBindingText : Stmt := top 7
abbrev sMatched : Stmt := top 9
abbrev sBindings : Stmt := top 10
abbrev sBox : Stmt := top 12
abbrev sTake : Stmt := top 13
abbrev sPick : Stmt := top 14
abbrev sSame : Stmt := top 15
abbrev sNames : Stmt := top 16
abbrev sTermL : Stmt := top 17
abbrev sPutL : Stmt := top 18
abbrev sUnlikeL : Stmt := top 19
abbrev sText : Stmt := top 20
abbrev sShapes : Stmt := top 21
abbrev sRuleL : Stmt := top 22
abbrev sBaseL : Stmt := top 23
abbrev sRulesL : Stmt := top 24
abbrev sAtomL : Stmt := top 25
abbrev sSayingL : Stmt := top 26
abbrev sLawBT : Stmt := top 27
abbrev sBegin : Stmt := top 28
abbrev sSpots : Stmt := top 29
abbrev sPartsL : Stmt := top 30
abbrev sAllL : Stmt := top 31
abbrev sRightL : Stmt := top 32
abbrev sLaw : Stmt := top 33
end Rp

namespace Rp
open PySem L2
/-! ### promises -/
def spBox (K : PySem.W.Frag) : Sp := fun vs H Q _ => ∃ (a : Addr) (ns : List Int) (k : Int), vs = [.ref a, .int k] ∧ SqL K H a (ns.map V.int) ∧ ns.length ≤ 63 ∧ 0 ≤ k ∧ k ≤ 63 ∧
  ∀ (b : Addr) (H' : Hp), H b = none → BoxAt H' b 0 → Same H H' → Q (.ref b) H'
def spTake : Sp := fun vs H Q _ => ∃ (b : Addr) (c : Int) (j : Nat), vs = [.ref b, .int c] ∧ BoxAt H b j ∧ j ≤ 1000000 ∧ 1 ≤ c ∧ c ≤ 1000000000 ∧
  ∀ (r : Int) (H' : Hp), 0 ≤ r → r < c → BoxAt H' b (j + 1) → But b H H' → Q (.int r) H'
def spPick : Sp := fun vs H Q _ => ∃ (b p : Addr) (xs : List V) (j : Nat), vs = [.ref b, .ref p] ∧ BoxAt H b j ∧ j ≤ 1000000 ∧ H p = some (.lst xs) ∧ p ≠ b ∧ 1 ≤ xs.length ∧ xs.length ≤ 1000000 ∧
  ∀ (v : V) (H' : Hp), v ∈ xs → BoxAt H' b (j + 1) → But b H H' → Q v H'
section
variable {P : Program} {w : World} {K : PySem.W.Frag} {mg : Str → Option Value} {base : Heap}
theorem fmod_pos {a c : Int} (h : 0 < c) : 0 ≤ a.fmod c ∧ a.fmod c < c := by
  rw [Int.fmod_eq_emod_of_nonneg a (Int.le_of_lt h)]
  exact ⟨Int.emod_nonneg a (by omega), Int.emod_lt_of_pos a h⟩
theorem fdiv_pos {a c : Int} (h : 0 < c) (ha : 0 ≤ a) : 0 ≤ a.fdiv c := by
  rw [Int.fdiv_eq_ediv_of_nonneg a (Int.le_of_lt h)]
  exact Int.ediv_nonneg ha (Int.le_of_lt h)
theorem scBox : FnScope ["_law_script", "_law_k", "_law_cell"] ["_law_script", "_law_k"] (defScope sBox) := ⟨rfl, rfl, rfl, by decide +kernel, rfl, by decide +kernel, by decide +kernel⟩
theorem ok_box {f : Addr} {fd : FuncData} (F : Fun K "_law_box" "_law_box" sBox f fd) (mLen : mg "len" = none) (mAbs : mg "abs" = none) (mInt : mg "int" = none) :
    FnOk P w K mg base CX0 1 f fd ["_law_script", "_law_k"] (spBox K) := by
  refine F.ok scBox (fun vs H Q E h => ?_) (fun cdv A outer s H vs Q E hr h => ?_)
  · obtain ⟨a, ns, k, rfl, _⟩ := h
    rfl
  obtain ⟨a, ns, k, rfl, hS, hl, h0, h1, q⟩ := h
  refine ⟨_, pss_cons (ps_set (i := 2) scBox.nd rfl (Or.inl rfl) pe_int)
    (pss_cons (ps_if (pt_cmpR op_lt (pv 1) (pe_callB call_len_seq (by rfl) mLen PySem.boot_len (pa_cons (pv 0) pa_nil)) (nomark _))
      (pss_one (ps_set (i := 2) scBox.nd rfl (Or.inl rfl) (pe_ix ix_list (pv 0) (pv 1) (fun _ _ => rfl)))) pss_nil)
    (pss_one (ps_ret (pe_lst (pa_cons
      (pe_op op_mul (pe_callB call_abs (by rfl) mAbs (by decide +kernel) (pa_cons (pv 2) pa_nil))
        (pe_callTy call_int1 (by rfl) mInt (by decide +kernel) (pa_cons (pe_cmpR op_ge (pe_callB call_abs (by rfl) mAbs (by decide +kernel) (pa_cons (pv 2) pa_nil)) (pe_op op_pow pe_int pe_int) (nomark _)) pa_nil)))
      (pa_cons (pe_op op_add (pe_op op_add (pe_op op_modN (pv 2) pe_int) (pe_op op_mul pe_int (pv 1))) pe_int) (pa_cons pe_int pa_nil))))))), ?_⟩
  refine ⟨_, rfl, _, rfl, a, _, rfl, .inl hS, _, _, rfl, rfl, _, rfl, ?_⟩
  have two : ∀ (b : Bool), -(2 ^ 64) < (if b = true then (1 : Int) else 0) ∧ (if b = true then (1 : Int) else 0) < 2 ^ 64 ∧ 0 ≤ (if b = true then (1 : Int) else 0) := by decide
  have pos : ∀ c : Int, 0 ≤ if c < 0 then -c else c := fun c => by split <;> omega
  have m := fun c : Int => fmod_pos (a := c) (c := 2147483629) (by decide)
  refine ite2 (fun c => ?_) (fun c => ?_)
  · have hk : k.toNat < ns.length := by
      have z : k < (((ns.map V.int).length : Nat) : Int) := of_decide_eq_true c
      rw [List.length_map] at z
      omega
    have it : atI (ns.map V.int) k = some (.int ns[k.toNat]) := at_of (j := k.toNat) (by omega) (by rw [List.getElem?_map, List.getElem?_eq_getElem hk]; rfl)
    refine ⟨_, rfl, _, rfl, a, _, _, _, rfl, rfl, hS, it, ?_⟩
    refine ⟨_, rfl, _, rfl, _, rfl, _, rfl, _, _, rfl, rfl, ⟨by decide, by decide, by decide⟩, _, _, rfl, rfl, .inr ⟨_, rfl, ?_⟩⟩
    refine ⟨_, _, rfl, rfl, .inr ⟨(two _).1, (two _).2.1⟩, _, rfl, _, _, rfl, rfl, (fun h => absurd h (by decide)), _, rfl, _, _, rfl, rfl, .inl ⟨by decide, by decide⟩, _, _, rfl, rfl, _, _, rfl, rfl, (by show 3 ≤ sizeLine; decide), fun b hb => ?_⟩
    have mm := m ns[k.toNat]
    exact q b _ hb ⟨_, _, _, upd_same, Int.mul_nonneg (pos _) (two _).2.2, by omega, by omega, by decide, by decide⟩ (same_new hb _)
  · refine ⟨_, rfl, _, rfl, _, rfl, _, rfl, _, _, rfl, rfl, ⟨by decide, by decide, by decide⟩, _, _, rfl, rfl, .inr ⟨_, rfl, ?_⟩⟩
    refine ⟨_, _, rfl, rfl, .inr ⟨(two _).1, (two _).2.1⟩, _, rfl, _, _, rfl, rfl, (fun h => absurd h (by decide)), _, rfl, _, _, rfl, rfl, .inl ⟨by decide, by decide⟩, _, _, rfl, rfl, _, _, rfl, rfl, (by show 3 ≤ sizeLine; decide), fun b hb => ?_⟩
    have mm := m 0
    exact q b _ hb ⟨_, _, _, upd_same, Int.mul_nonneg (pos _) (two _).2.2, by omega, by omega, by decide, by decide⟩ (same_new hb _)
theorem scTake : FnScope ["_law_box_here", "_law_reach", "_law_found", "_law_once"] ["_law_box_here", "_law_reach"] (defScope sTake) := ⟨rfl, rfl, rfl, by decide +kernel, rfl, by decide +kernel, by decide +kernel⟩
theorem ok_take {f : Addr} {fd : FuncData} (F : Fun K "_law_take" "_law_take" sTake f fd) : FnOk P w K mg base CX0 1 f fd ["_law_box_here", "_law_reach"] spTake := by
  refine F.ok scTake (fun vs H Q E h => ?_) (fun cdv A outer s H vs Q E hr h => ?_)
  · obtain ⟨b, c, j, rfl, _⟩ := h
    rfl
  obtain ⟨b, c, j, rfl, B, hj, h1, h2, q⟩ := h
  obtain ⟨x, y, z, hb, x0, y0, y1, z0, z1⟩ := id B
  have s0 : SqL K H b [.int x, .int y, .int z] := .inl (.inl hb)
  have a0 : ∀ u v t : Int, atI [V.int u, .int v, .int t] 0 = some (.int u) := fun u v t => at_of (j := 0) rfl rfl
  have a1 : ∀ u v t : Int, atI [V.int u, .int v, .int t] 1 = some (.int v) := fun u v t => at_of (j := 1) rfl rfl
  have a2 : ∀ u v t : Int, atI [V.int u, .int v, .int t] 2 = some (.int t) := fun u v t => at_of (j := 2) rfl rfl
  refine ⟨_, pss_cons (ps_if (pt_cmpR op_gt (pe_ix ix_list (pv 0) pe_int (fun _ _ => rfl)) pe_int (nomark _))
      (pss_cons (ps_set (i := 2) scTake.nd rfl (Or.inl rfl) (pe_op op_modN (pe_ix ix_list (pv 0) pe_int (fun _ _ => rfl)) (pv 1)))
      (pss_cons (ps_asg (pe_op op_fdivN (pe_ix ix_list (pv 0) pe_int (fun _ _ => rfl)) (pv 1)) (pg_sub (pv 0) pe_int set_list))
      (pss_one (ps_ret (pv 2))))) pss_nil)
    (pss_cons (ps_asg (pe_op op_add (pe_ix ix_list (pv 0) pe_int (fun _ _ => rfl)) pe_int) (pg_sub (pv 0) pe_int set_list))
    (pss_cons (ps_set (i := 3) scTake.nd rfl (Or.inl rfl) (pe_op op_modN (pe_op op_pow (pe_op op_add (pe_ix ix_list (pv 0) pe_int (fun _ _ => rfl)) (pe_op op_mul pe_int (pe_ix ix_list (pv 0) pe_int (fun _ _ => rfl)))) pe_int) pe_int))
    (pss_one (ps_ret (pe_op op_modN (pe_op op_fdivN (pe_op op_modN (pe_op op_add (pe_op op_mul (pv 3) (pe_op op_add (pe_op op_modN (pv 3) pe_int) pe_int)) (pe_op op_mul (pe_ix ix_list (pv 0) pe_int (fun _ _ => rfl)) pe_int)) pe_int) pe_int) (pv 1)))))), ?_⟩
  refine ⟨_, rfl, b, _, _, _, rfl, rfl, s0, a0 _ _ _, _, _, rfl, rfl, _, rfl, ?_⟩
  refine ite2 (fun d => ?_) (fun d => ?_)
  · refine ⟨_, rfl, b, _, _, _, rfl, rfl, s0, a0 _ _ _, _, rfl, _, _, rfl, rfl, (by omega), ?_⟩
    refine ⟨_, rfl, b, _, _, _, rfl, rfl, s0, a0 _ _ _, _, rfl, _, _, rfl, rfl, ⟨by omega, by omega⟩, ?_⟩
    refine ⟨_, rfl, b, _, _, 0, rfl, rfl, hb, rfl, ?_⟩
    have m := fmod_pos (a := x) (c := c) (by omega)
    exact ⟨_, rfl, q _ _ m.1 m.2 ⟨_, _, _, upd_same, fdiv_pos (by omega) x0, y0, y1, z0, by omega⟩ (but_upd _)⟩
  · refine ⟨_, rfl, b, _, _, _, rfl, rfl, s0, a2 _ _ _, _, _, rfl, rfl, ?_⟩
    refine ⟨_, rfl, b, _, _, 2, rfl, rfl, hb, rfl, ?_⟩
    have hb' : (upd H b (.lst [.int x, .int y, .int (z + 1)])) b = some (.lst [.int x, .int y, .int (z + 1)]) := upd_same
    have s1 : SqL K (upd H b (.lst [.int x, .int y, .int (z + 1)])) b [.int x, .int y, .int (z + 1)] := .inl (.inl hb')
    refine ⟨_, rfl, b, _, _, _, rfl, rfl, s1, a1 _ _ _, _, rfl, b, _, _, _, rfl, rfl, s1, a2 _ _ _, _, _, rfl, rfl, .inl ⟨by decide, by decide⟩, _, _, rfl, rfl, _, _, rfl, rfl, ⟨by decide, by decide, by omega⟩, _, _, rfl, rfl, (fun h => absurd h (by decide)), ?_⟩
    generalize (y + 39373 * (z + 1)) ^ Int.toNat 5 = g
    have m := fmod_pos (a := g) (c := 2147483647) (by decide)
    refine ⟨_, rfl, _, rfl, _, _, rfl, rfl, (fun h => absurd h (by decide)), _, _, rfl, rfl, _, _, rfl, rfl, .inl ⟨by omega, by omega⟩, _, rfl, b, _, _, _, rfl, rfl, s1, a2 _ _ _, _, _, rfl, rfl, .inl ⟨by omega, by omega⟩, _, _, rfl, rfl, _, _, rfl, rfl, (fun h => absurd h (by decide)), _, _, rfl, rfl, ⟨by decide, by decide⟩, _, rfl, _, _, rfl, rfl, (by omega), ?_⟩
    generalize Int.fdiv _ _ = e
    have m2 := fmod_pos (a := e) (c := c) (by omega)
    exact q _ _ m2.1 m2.2 ⟨_, _, _, upd_same, x0, y0, y1, by omega, by omega⟩ (but_upd _)
theorem scPick : FnScope ["_law_box_here", "_law_things"] ["_law_box_here", "_law_things"] (defScope sPick) := ⟨rfl, rfl, rfl, by decide +kernel, rfl, by decide +kernel, by decide +kernel⟩
theorem ok_pick {f fT : Addr} {fd fdT : FuncData} (F : Fun K "_law_pick" "_law_pick" sPick f fd) (FT : Fun K "_law_take" "_law_take" sTake fT fdT) (bT : Binds K fdT ["_law_box_here", "_law_reach"] []) (mT : mg "_law_take" = some (.ref fT)) (mLen : mg "len" = none) :
    FnOk P w K mg base CX0 2 f fd ["_law_box_here", "_law_things"] spPick := by
  have GT : FnOk P w K mg base CX0 1 fT fdT ["_law_box_here", "_law_reach"] spTake := ok_take FT
  refine F.ok scPick (fun vs H Q E h => ?_) (fun cdv A outer s H vs Q E hr h => ?_)
  · obtain ⟨b, p, xs, j, rfl, _⟩ := h
    rfl
  obtain ⟨b, p, xs, j, rfl, B, hj, hp, ne, l1, l2, q⟩ := h
  refine ⟨_, pss_one (ps_ret (pe_ix ix_list (pv 1) (pe_call GT hr rfl mT FT.kp bT .nil pass0 (pa_cons (pv 0) (pa_cons (pe_callB call_len_seq (by rfl) mLen PySem.boot_len (pa_cons (pv 1) pa_nil)) pa_nil))) (fun _ _ => rfl))), ?_⟩
  refine ⟨_, rfl, _, rfl, _, rfl, p, _, rfl, .inl (.inl (.inl hp)), b, _, j, rfl, B, hj, by omega, by omega, fun r H' r0 r1 B' o => ?_⟩
  have hr' : r.toNat < xs.length := by omega
  refine ⟨p, _, _, _, rfl, rfl, .inl (.inl (o _ _ hp ne)), at_of (j := r.toNat) (v := xs[r.toNat]) (by omega) (List.getElem?_eq_getElem hr'), ?_⟩
  exact q _ _ (List.getElem_mem hr') B' o
end
end Rp

namespace Rp
open PySem L2
section
variable {P : Program} {w : World} {K : PySem.W.Frag} {mg : Str → Option Value} {base : Heap}
theorem none_left {k : Nat} {f : Addr} {fd : FuncData} {ps : List Str} {sp : Sp} (no : ∀ vs H Q E, ¬ sp vs H Q E) : FnOk P w K mg base CX0 k f fd ps sp :=
  ⟨fun vs H Q E h => absurd h (no vs H Q E), fun A outer s H args us vs Q E _ _ _ _ h => absurd h (no vs H Q E)⟩
theorem v1_ne {x y : Int} (c : ¬ decide (V.int x = V.int y) = true) : x ≠ y := fun e => c (by rw [e]; simp)
theorem v1_eq {x y : Int} (c : decide (V.int x = V.int y) = true) : x = y := V.int.inj (of_decide_eq_true c)
theorem big1000 : (1000 : Nat) ≤ sizeLine := by decide
end
end Rp

namespace Rp
open PySem L2
/-- the value of a TERM is an int or a tuple that stands -/
theorem TmAt.ty {K : PySem.W.Frag} {H : Hp} {v : V} {t : Tm} (h : TmAt H v t) : (∃ n, v = .int n ∧ t = .v n) ∨ (∃ a xs, v = .ref a ∧ H a = some (.tup xs) ∧ TyX K H v (.type "tuple") ∧ (∀ n, t ≠ .v n)) := by
  cases h with
  | v n => exact .inl ⟨n, rfl, rfl⟩
  | z h => exact .inr ⟨_, _, rfl, h, .base (.tup h), fun n e => by cases e⟩
  | s h _ => exact .inr ⟨_, _, rfl, h, .base (.tup h), fun n e => by cases e⟩
  | f h _ _ => exact .inr ⟨_, _, rfl, h, .base (.tup h), fun n e => by cases e⟩
def signHead : Tm → Str
  | .v _ => "" | .z => "0" | .s _ => "s" | .f _ _ => "f"
/-- a TERM that is no variable: its tuple, its parts -/
theorem TmAt.tupled {H : Hp} {v : V} {t : Tm} (h : TmAt H v t) (no : ∀ n, t ≠ .v n) : ∃ a ks, v = .ref a ∧ H a = some (.tup (.str (signHead t) :: ks)) ∧ ks.length = t.kids.length ∧ ∀ (i : Nat) (x : V) (k : Tm), ks[i]? = some x → t.kids[i]? = some k → TmAt H x k := by
  cases h with
  | v n => exact absurd rfl (no n)
  | z h => exact ⟨_, [], rfl, h, rfl, fun i x k h => by simp at h⟩
  | @s a x t h q =>
    refine ⟨_, [x], rfl, h, rfl, fun i y k h1 h2 => ?_⟩
    cases i with
    | zero => simp [Tm.kids] at h1 h2; subst h1 h2; exact q
    | succ i => simp at h1
  | @f a x y l r h q q' =>
    refine ⟨_, [x, y], rfl, h, rfl, fun i u k h1 h2 => ?_⟩
    match i with
    | 0 => simp [Tm.kids] at h1 h2; subst h1 h2; exact q
    | 1 => simp [Tm.kids] at h1 h2; subst h1 h2; exact q'
    | i + 2 => simp at h1
theorem signs_kids : ∀ {t : Tm}, (∀ n, t ≠ .v n) → t.signs = .str (signHead t) :: t.kids.flatMap Tm.signs
  | .v n, h => absurd rfl (h n)
  | .z, _ => rfl
  | .s t, _ => by simp [Tm.signs, Tm.kids, signHead]
  | .f l r, _ => by simp [Tm.signs, Tm.kids, signHead]
theorem kid_deep {t k : Tm} (h : k ∈ t.kids) : k.deep < t.deep := by
  cases t with
  | v n => simp [Tm.kids] at h
  | z => simp [Tm.kids] at h
  | s t => simp [Tm.kids] at h; subst h; exact Nat.lt_succ_self _
  | f l r =>
    simp [Tm.kids] at h
    rcases h with h | h <;> subst h <;> (simp only [Tm.deep]; omega)
theorem kid_size {t k : Tm} (h : k ∈ t.kids) : k.size < t.size := by
  cases t with
  | v n => simp [Tm.kids] at h
  | z => simp [Tm.kids] at h
  | s t => simp [Tm.kids] at h; subst h; exact Nat.lt_succ_self _
  | f l r =>
    simp [Tm.kids] at h
    rcases h with h | h <;> subst h <;> (simp only [Tm.size]; omega)
theorem take_flat {t : Tm} (i : Nat) : ((t.kids.take i).flatMap Tm.signs).length ≤ t.size := by
  cases t with
  | v n => simp [Tm.kids]
  | z => simp [Tm.kids]
  | s t =>
    match i with
    | 0 => simp
    | i + 1 => simp [Tm.kids, Tm.signs_len, Tm.size]
  | f l r =>
    match i with
    | 0 => simp
    | 1 => simp [Tm.kids, Tm.signs_len, Tm.size]; try omega
    | i + 2 => simp [Tm.kids, Tm.signs_len, Tm.size]; try omega
theorem cut_tail (x : V) (ks : List V) : cutV (x :: ks) (some 1) none = ks := by
  have e : HT.sIx (x :: ks).length 0 (some 1) = 1 := by
    have := HT.sIx_nat (x :: ks).length 0 1
    rw [List.length_cons] at this ⊢
    rw [show (some 1 : Option Int) = some ((1 : Nat) : Int) from rfl, this]
    omega
  unfold cutV
  rw [e, HT.sIx_none, List.drop_one, List.tail_cons, List.take_of_length_le (by simp)]
theorem cut_part (x : V) (ks : List V) : ¬ (HT.sIx (x :: ks).length 0 (some 1) = 0 ∧ HT.sIx (x :: ks).length (x :: ks).length none = (x :: ks).length) := by
  have := HT.sIx_nat (x :: ks).length 0 1
  rw [List.length_cons] at this ⊢
  rw [show (some 1 : Option Int) = some ((1 : Nat) : Int) from rfl, this]
  omega
section
variable {P : Program} {w : World} {K : PySem.W.Frag} {mg : Str → Option Value} {base : Heap}
theorem kit_ii : PySem.W.kitOne K (.type "int") (.type "int") = some true := kit_ty (by decide +kernel)
theorem kit_ti : PySem.W.kitOne K (.type "tuple") (.type "int") = some false := kit_ty (by decide +kernel)
theorem kit_si : PySem.W.kitOne K (.type "str") (.type "int") = some false := kit_ty (by decide +kernel)
end
end Rp

namespace Rp
open PySem PySem.Spec PyProof.Rows L2
/-- list.extend by any tuple object -/
theorem extend_by (l : Addr) (xs : Array Value) (n : Nat) (b : Addr) (od : Option Addr) (ys : Array Value) (m : Nat) (sl : Array (Option Value)) (short : ¬(!xs.isEmpty && Builtin.List.listTooLong (xs.size + ys.size)) = true) (h1 : xs.size ≤ sizeLine) (h2 : xs.size + ys.size ≤ sizeLine + 1) :
    Meets (Builtin.«list.extend» ⟨[.ref l, .ref b], []⟩) (fun _ R s => s.heap.get? l = some { cls := .type "list", data := .seq xs n } ∧ s.heap.get? b = some ⟨.type "tuple", od, .seq ys m, sl⟩ ∧
      R (.ok (.ret Value.none)) { s with heap := s.heap.update l (Obj.mapSeq fun x => x ++ ys) }) :=
  .of_wp fun prog w A R s ⟨hl, hb, h⟩ => by
    obtain ⟨hp, g, d, tk, os⟩ := s
    have g1 := sub_list_list
    have g2 := sub_tuple_list
    have g3 := sub_tuple_tuple
    have g4 := sub_list_tuple
    have both : (xs ++ ys).size ≤ sizeLine + 1 := by rw [Array.size_append]; exact h2
    wp_walk using (wpAny_updateSeq hl rfl (hz := h1) (_hz' := both)), wpAny_loadPart' hl, wpAny_loadPart' hb
    exact ⟨_, rfl, h⟩
section
variable {X : Cx}
/-- xs.extend(t), t a tuple -/
def rExtT (K : PySem.W.Frag) : V → List V → Hp → VK → Prop := fun x vs H Q => ∃ (l b : Addr) (xs zs : List V), x = .ref l ∧ vs = [.ref b] ∧ H l = some (.lst xs) ∧ SqT K H b zs ∧ xs.length + zs.length ≤ sizeLine ∧ Q .non (upd H l (.lst (xs ++ zs)))
theorem mt_extendT : MtM X "list.extend" (rExtT X.K) := by
  intro pins s σ H x vs v us Q I rx rv h
  obtain ⟨l, b, xs, zs, rfl, rfl, hH, hB, few, q⟩ := h
  cases rx
  obtain ⟨u, rfl, ru⟩ := rv.one
  cases ru
  obtain ⟨z, its, n, r, hl, e⟩ := I.lstM hH
  obtain ⟨its2, r2, ⟨⟨c2, d2, dat2, sl2⟩, e2, hc2, n2, hd2⟩, hz2⟩ := I.tuple hB
  simp only at hc2 hd2
  subst hc2 hd2
  have l1 := r.length
  have l2 := r2.length
  have room : its.toArray.size + its2.toArray.size ≤ sizeLine := by rw [List.size_toArray, List.size_toArray]; omega
  have short : ¬ (!its.toArray.isEmpty && Builtin.List.listTooLong (its.toArray.size + its2.toArray.size)) = true := by
    rw [notLongL room, Bool.and_false]; exact Bool.false_ne_true
  refine call_meets PySem.F.slot_list_extend ⟨_, e, rfl⟩ PySem.F.entry_list_extend (PySem.F.args_list_extend_2 _ _) (extend_by l its.toArray n b d2 its2.toArray n2 sl2 short (by rw [List.size_toArray]; omega) (by omega)) ⟨e, e2, ?_⟩
  refine ⟨.non, _, I.lset (its' := its ++ its2) (t' := s.toks) hH e (by simp) (r.append r2) ?_, rfl, q⟩
  rw [List.length_append]; omega
end
end Rp

namespace Rp
open PySem L2
/-- values and TERMs side by side -/
def AllAt (H : Hp) : List V → List Tm → Prop
  | [], [] => True
  | x :: xs, t :: ts => TmAt H x t ∧ AllAt H xs ts
  | _, _ => False
theorem AllAt.len {H : Hp} : ∀ {xs : List V} {ts : List Tm}, AllAt H xs ts → xs.length = ts.length
  | [], [], _ => rfl
  | x :: xs, t :: ts, h => congrArg (· + 1) (AllAt.len h.2)
theorem AllAt.append {H : Hp} : ∀ {xs ys : List V} {ts us : List Tm}, AllAt H xs ts → AllAt H ys us → AllAt H (xs ++ ys) (ts ++ us)
  | [], _, [], _, _, h => h
  | x :: xs, _, t :: ts, _, h, h' => ⟨h.1, AllAt.append h.2 h'⟩
theorem AllAt.parted {H : Hp} : ∀ {xs ys : List V} {ts : List Tm}, AllAt H (xs ++ ys) ts → ∃ t1 t2, ts = t1 ++ t2 ∧ AllAt H xs t1 ∧ AllAt H ys t2
  | [], _, ts, h => ⟨[], ts, rfl, trivial, h⟩
  | x :: xs, ys, t :: ts, h => by
    obtain ⟨t1, t2, e, h1, h2⟩ := AllAt.parted (xs := xs) h.2
    exact ⟨t :: t1, t2, by rw [e]; rfl, ⟨h.1, h1⟩, h2⟩
theorem AllAt.mono {H H' : Hp} (e : ∀ a xs, H a = some (.tup xs) → H' a = some (.tup xs)) : ∀ {xs : List V} {ts : List Tm}, AllAt H xs ts → AllAt H' xs ts
  | [], [], _ => trivial
  | x :: xs, t :: ts, h => ⟨h.1.mono e, AllAt.mono e h.2⟩
theorem AllAt.back {H : Hp} : ∀ {xs : List V} {ts : List Tm}, AllAt H xs ts → AllAt H xs.reverse ts.reverse
  | [], [], _ => trivial
  | x :: xs, t :: ts, h => by
    rw [List.reverse_cons, List.reverse_cons]
    exact (AllAt.back h.2).append ⟨h.1, trivial⟩
theorem AllAt.get {H : Hp} : ∀ {xs : List V} {ts : List Tm} {i : Nat} {x : V}, AllAt H xs ts → xs[i]? = some x → ∃ t, ts[i]? = some t ∧ TmAt H x t
  | x :: xs, t :: ts, 0, y, h, e => by simp at e; subst e; exact ⟨t, rfl, h.1⟩
  | x :: xs, t :: ts, i + 1, y, h, e => by simpa using AllAt.get h.2 (by simpa using e)
theorem AllAt.of {H : Hp} : ∀ {xs : List V} {ts : List Tm}, xs.length = ts.length → (∀ (i : Nat) (x : V) (k : Tm), xs[i]? = some x → ts[i]? = some k → TmAt H x k) → AllAt H xs ts
  | [], [], _, _ => trivial
  | x :: xs, t :: ts, l, h => ⟨h 0 x t rfl rfl, AllAt.of (by simpa using l) fun i y k a b => h (i + 1) y k (by simpa using a) (by simpa using b)⟩
def spParts : Sp := fun vs H Q _ => ∃ (v : V) (t : Tm), vs = [v] ∧ TmAt H v t ∧ ∀ (p : Addr) (ks : List V) (H' : Hp), H p = none → H' p = some (.tup ks) → AllAt H' ks t.kids → Same H H' → Q (.ref p) H'
def spInside : Sp := fun vs H Q _ => ∃ (v : V) (t : Tm), vs = [v] ∧ TmAt H v t ∧ t.size ≤ 1000 ∧ ∀ (p : Addr) (xs : List V) (H' : Hp), H p = none → H' p = some (.lst xs) → AllAt H' xs t.rpost.reverse → Same H H' → Q (.ref p) H'
def spSize : Sp := fun vs H Q _ => ∃ (v : V) (t : Tm), vs = [v] ∧ TmAt H v t ∧ t.size ≤ 1000 ∧ ∀ H', Same H H' → Q (.int (t.size : Nat)) H'
def spVars : Sp := fun vs H Q _ => ∃ (v : V) (t : Tm), vs = [v] ∧ TmAt H v t ∧ t.size ≤ 60 ∧ ∀ (p : Addr) (ns : List Int) (H' : Hp), H p = none → H' p = some (.lst (ns.map V.int)) → ns.Pairwise (· < ·) → (∀ k, k ∈ ns ↔ k ∈ t.nums) → Same H H' → Q (.ref p) H'
section
variable {P : Program} {w : World} {K : PySem.W.Frag} {mg : Str → Option Value} {base : Heap}
theorem scParts : FnScope ["term"] ["term"] (defScope sParts) := ⟨rfl, rfl, rfl, by decide +kernel, rfl, by decide +kernel, by decide +kernel⟩
theorem ok_parts {f : Addr} {fd : FuncData} (F : Fun K "_parts" "_parts" sParts f fd) (mIsi : mg "isinstance" = none) (mInt : mg "int" = none) : FnOk P w K mg base CX0 1 f fd ["term"] spParts := by
  refine F.ok scParts (fun vs H Q E h => ?_) (fun cdv A outer s H vs Q E hr h => ?_)
  · obtain ⟨v, t, rfl, _⟩ := h
    rfl
  obtain ⟨v, t, rfl, T, q⟩ := h
  refine ⟨_, pss_one (ps_ret (pe_ifExp (pt_val (pe_callB call_isi (by rfl) mIsi (by decide +kernel) (pa_cons (pv 0) (pa_cons (pe_bltn (v := .ty "int") (by rfl) mInt (by decide +kernel) rfl) pa_nil)))) (pe_tup pa_nil) (pe_slice sl_tup (pv 0) (po_some pe_int) po_none))), ?_⟩
  rcases T.ty (K := K) with ⟨m, rfl, rfl⟩ | ⟨a, xs, rfl, ha, ty, no⟩
  · refine ⟨_, rfl, _, _, _, _, true, rfl, .ty "int", .base (.int m), kit_ii, true, rfl, iteT ?_⟩
    exact ⟨(by show 0 ≤ sizeLine; decide), fun p hp => q p [] _ hp upd_same trivial (same_new hp _)⟩
  · obtain ⟨a', ks, e, ha', hk, hks⟩ := T.tupled no
    cases e
    refine ⟨_, rfl, _, _, _, _, false, rfl, .ty "int", ty, kit_ti, false, rfl, iteF ?_⟩
    refine ⟨_, rfl, 1, rfl, a, _, rfl, .inl (.inl ha'), cut_part _ _, fun p hp => ?_⟩
    rw [cut_tail]
    have s1 := same_new hp (.tup ks)
    exact q p ks _ hp upd_same (AllAt.of hk fun i x k a b => (hks i x k a b).same s1) s1
theorem scInside : FnScope ["term", "found", "todo", "part"] ["term"] (defScope sInside) := ⟨rfl, rfl, rfl, by decide +kernel, rfl, by decide +kernel, by decide +kernel⟩
/-- how many parts are still to come -/
def leftOf (n : Nat) (σ : List (Option V)) (H : Hp) : Nat := match σ with
  | _ :: some (V.ref p) :: _ => (match H p with
    | some (HO.lst xs) => n - xs.length
    | _ => 0)
  | _ => 0
theorem leftOf_is {n : Nat} {v : Option V} {p : Addr} {r : List (Option V)} {H : Hp} {xs : List V} (h : H p = some (.lst xs)) : leftOf n (v :: some (.ref p) :: r) H = n - xs.length := by
  unfold leftOf
  simp [h]
theorem ok_inside {f fP : Addr} {fd fdP : FuncData} (F : Fun K "inside_out" "inside_out" sInside f fd) (FP : Fun K "_parts" "_parts" sParts fP fdP) (bP : Binds K fdP ["term"] []) (mP : mg "_parts" = some (.ref fP)) (mIsi : mg "isinstance" = none) (mInt : mg "int" = none) :
    FnOk P w K mg base CX0 2 f fd ["term"] spInside := by
  have GP : FnOk P w K mg base CX0 1 fP fdP ["term"] spParts := ok_parts FP mIsi mInt
  refine F.ok scInside (fun vs H Q E h => ?_) (fun cdv A outer s H vs Q E hr h => ?_)
  · obtain ⟨v, t, rfl, _⟩ := h
    rfl
  obtain ⟨v, t, rfl, T, hz, q⟩ := h
  refine ⟨_, pss_cons (ps_set (i := 1) scInside.nd rfl (Or.inl rfl) (pe_lst pa_nil))
    (pss_cons (ps_set (i := 2) scInside.nd rfl (Or.inl rfl) (pe_lst (pa_cons (pv 0) pa_nil)))
    (pss_cons (ps_while PassesOwn.never (pt_truth (pv 2) (by intro _; rfl))
      (pss_cons (ps_set (i := 3) scInside.nd rfl (Or.inl rfl) (pe_bm0 PySem.F.plainAttrs_list PySem.F.slot_list_pop PySem.F.type_list_pop mt_pop (pv 2)))
      (pss_cons (ps_expr (pe_bm PySem.F.plainAttrs_list PySem.F.slot_list_append PySem.F.type_list_append mt_append (pv 1) (pa_cons (pv 3) pa_nil)))
      (pss_one (ps_expr (pe_bm PySem.F.plainAttrs_list PySem.F.slot_list_extend PySem.F.type_list_extend mt_extendT (pv 2) (pa_cons (pe_call GP hr rfl mP FP.kp bP .nil pass0 (pa_cons (pv 3) pa_nil)) pa_nil)))))))
    (pss_one (ps_ret (pe_revL (pv 1)))))), ?_⟩
  refine ⟨(by show 0 ≤ sizeLine; decide), fun p hp => ?_⟩
  refine ⟨_, rfl, (by show 1 ≤ sizeLine; decide), fun d hd => ?_⟩
  have s1 := same_new hp (.lst [])
  have s2 := same_new hd (.lst [v])
  have s12 : Same H _ := s1.trans s2
  have pd : p ≠ d := ne_of_none upd_same hd
  dsimp only [gName, tSeq]
  refine while_by (fun σ H2 => ∃ (fxs txs : List V) (fs ts : List Tm) (x : Option V), σ = [some v, some (.ref p), some (.ref d), x] ∧ H2 p = some (.lst fxs) ∧ H2 d = some (.lst txs) ∧ AllAt H2 fxs fs ∧ AllAt H2 txs ts ∧ fs ++ ts.reverse.flatMap Tm.rpost = t.rpost ∧ Same H H2)
    (leftOf t.size) ⟨[], [v], [], [t], none, rfl, s2 _ _ upd_same, upd_same, trivial, ⟨T.same s12, trivial⟩, by simp, s12⟩ ?_ (fun σ H Q Q' m ⟨v, hv, k, hk, q⟩ => ⟨v, hv, k, hk, m _ _ q⟩)
  rintro σ H2 ⟨fxs, txs, fs, ts, x, rfl, h1, h2, A1, A2, eq, sH⟩
  refine ⟨_, rfl, !txs.isEmpty, .inl ⟨txs, .inl (.inl h2), rfl⟩, ?_⟩
  have tot := congrArg List.length eq
  rw [List.length_append, Tm.rpost_len, ← A1.len] at tot
  rcases List.eq_nil_or_concat txs with e | ⟨M, y, e⟩
  · subst e
    refine iteF ?_
    have e2 : ts = [] := by have := A2.len; cases ts with | nil => rfl | cons => simp at this
    subst e2
    have e3 : fs = t.rpost := by simpa using eq
    subst e3
    refine ⟨_, rfl, p, _, rfl, .inl (.inl h1), fun r hr2 => ?_⟩
    have s3 := same_new hr2 (.lst fxs.reverse)
    refine q r _ _ (sH.free hr2) upd_same (A1.back.mono fun a xs z => s3 _ _ z) (sH.trans s3)
  · rw [List.concat_eq_append] at e
    subst e
    have ne : (!(M ++ [y]).isEmpty) = true := by simp
    rw [ne]
    refine iteT ?_
    obtain ⟨L, k', e2, AM, Ay⟩ := A2.parted
    subst e2
    obtain ⟨k, rfl, Tk⟩ : ∃ k, k' = [k] ∧ TmAt H2 y k := by
      match k', Ay with
      | [k], Ay => exact ⟨k, rfl, Ay.1⟩
    have ek : fs ++ (k :: (k.kids.reverse.flatMap Tm.rpost ++ L.reverse.flatMap Tm.rpost)) = t.rpost := by
      rw [← eq]
      simp [Tm.rpost_kids k]
    have room : fxs.length < t.size := by
      have := congrArg List.length ek
      rw [List.length_append, Tm.rpost_len, ← A1.len, List.length_cons] at this
      omega
    have big := big1000
    -- part = todo.pop()
    refine ⟨_, rfl, .inl ⟨rfl, _, .inl (.inl h2)⟩, d, _, y, rfl, rfl, h2, by simp, ?_⟩
    rw [List.dropLast_concat]
    have dp : d ≠ p := fun z => pd z.symm
    have t3 : ∀ a xs, H2 a = some (.tup xs) → upd H2 d (.lst M) a = some (.tup xs) := fun a xs z => by rw [upd_ne (ne_of z h2 (by intro z; cases z))]; exact z
    -- found.append(part)
    refine ⟨_, rfl, .inl ⟨rfl, fxs, .inl (.inl (by rw [upd_ne pd]; exact h1))⟩, _, rfl, p, fxs, y, rfl, rfl, (by rw [upd_ne pd]; exact h1), by omega, ?_⟩
    have h1' : (upd (upd H2 d (.lst M)) p (.lst (fxs ++ [y]))) p = some (.lst (fxs ++ [y])) := upd_same
    have h2' : (upd (upd H2 d (.lst M)) p (.lst (fxs ++ [y]))) d = some (.lst M) := by rw [upd_ne dp]; exact upd_same
    have t4 : ∀ a xs, H2 a = some (.tup xs) → (upd (upd H2 d (.lst M)) p (.lst (fxs ++ [y]))) a = some (.tup xs) := fun a xs z => by
      rw [upd_ne (ne_of z h1 (by intro z; cases z))]; exact t3 a xs z
    have pn : H p = none := hp
    have dn : H d = none := s1.free hd
    have sH4 : Same H (upd (upd H2 d (.lst M)) p (.lst (fxs ++ [y]))) := fun b o z => by
      rw [upd_ne (ne_of_none z pn), upd_ne (ne_of_none z dn)]; exact sH b o z
    -- todo.extend(_parts(part))
    refine ⟨_, rfl, .inl ⟨rfl, M, .inl (.inl h2')⟩, _, rfl, y, k, rfl, Tk.mono t4, fun g ks H5 hg h5 A5 s5 => ?_⟩
    have kl := A5.len
    have lim : M.length + ks.length ≤ sizeLine := by
      have a1 := congrArg List.length ek
      have a2 : k.kids.length ≤ 2 := by cases k <;> simp [Tm.kids]
      have a3 : L.length ≤ (L.reverse.flatMap Tm.rpost).length := by
        have : ∀ l : List Tm, l.length ≤ (l.flatMap Tm.rpost).length := by
          intro l
          induction l with
          | nil => simp
          | cons z l ih => rw [List.flatMap_cons, List.length_append, Tm.rpost_len, List.length_cons]; have := Tm.size_pos z; omega
        have := this L.reverse
        rwa [List.length_reverse] at this
      have a4 := AM.len
      rw [List.length_append, List.length_cons, List.length_append, Tm.rpost_len] at a1
      have a5 : (1000 : Nat) + 1000 ≤ sizeLine := by decide
      omega
    refine ⟨d, g, M, ks, rfl, rfl, s5 _ _ h2', .inl (.inl h5), lim, ?_⟩
    have h1'' := s5 _ _ h1'
    have t6 : ∀ a xs, H5 a = some (.tup xs) → upd H5 d (.lst (M ++ ks)) a = some (.tup xs) := fun a xs z => by rw [upd_ne (ne_of z (s5 _ _ h2') (by intro z; cases z))]; exact z
    have t7 : ∀ a xs, H2 a = some (.tup xs) → upd H5 d (.lst (M ++ ks)) a = some (.tup xs) := fun a xs z => t6 a xs (s5 _ _ (t4 a xs z))
    have h1d : (upd H5 d (.lst (M ++ ks))) p = some (.lst (fxs ++ [y])) := by rw [upd_ne pd]; exact h1''
    refine ⟨⟨fxs ++ [y], M ++ ks, fs ++ [k], L ++ k.kids, some y, rfl, h1d, upd_same, (A1.mono t7).append ⟨Tk.mono t7, trivial⟩, (AM.mono t7).append (A5.mono t6), ?_, ?_⟩, ?_⟩
    · rw [← ek]; simp
    · intro b o z
      rw [upd_ne (ne_of_none z dn)]
      exact s5 _ _ (sH4 b o z)
    · show leftOf t.size (some v :: some (.ref p) :: _) _ < leftOf t.size (some v :: some (.ref p) :: _) H2
      rw [leftOf_is h1d, leftOf_is h1, List.length_append, List.length_singleton]
      omega
end
end Rp

namespace Rp
open PySem L2
section
variable {P : Program} {w : World} {K : PySem.W.Frag} {mg : Str → Option Value} {base : Heap}
theorem back_len (t : Tm) : t.rpost.reverse.length = t.size := by rw [List.length_reverse, Tm.rpost_len]
end
end Rp

namespace Rp
open PySem L2 RZ
/-- [.. for a, b in zip(xs, ys)], both lists or both tuples, as long -/
theorem lc_pairs {J : It} {xs ys : List V} {g : TG} {tt : TT} {te : TE} {vs : List Nat} {σ : L2.St} {H1 : Hp} {D : Addr} {Qd : Hp → Prop} (same : xs.length = ys.length) (Pv : Nat → Hp → Prop)
    (stops : ∀ H, Pv xs.length H → J.stop xs.length H) (goes : ∀ i H, i < xs.length → Pv i H → J.go i H)
    (gives : ∀ i H v H', Pv i H → J.yld i H v H' → ∃ T x y, v = .ref T ∧ xs[i]? = some x ∧ ys[i]? = some y ∧ H T = none ∧ H' = upd H T (.tup [x, y]))
    (h0 : Pv 0 (upd H1 D (.lst [])))
    (hs : ∀ (i : Nat) (x y : V) (T : Addr) (H : Hp), xs[i]? = some x → ys[i]? = some y → Pv i H → H T = none → g (.ref T) (wipe σ vs) (upd H T (.tup [x, y])) fun σ2 H2 => wipe σ2 vs = wipe σ vs ∧
      tt σ2 H2 fun b H3 => if b = true then te σ2 H3 fun y H4 => ∃ acc, H4 D = some (.lst acc) ∧ acc.length < sizeLine ∧ Pv (i + 1) (upd H4 D (.lst (acc ++ [y]))) else Pv (i + 1) H3)
    (hd : ∀ H, Pv xs.length H → Qd H) :
    ∃ W : Nat → Nat → Hp → Prop, (∃ m, W 0 m (upd H1 D (.lst []))) ∧ ∀ i m H, W i m H → (J.stop i H ∧ Qd H) ∨
      (J.go i H ∧ ∃ Nx : Hp → Prop, (∀ H', Nx H' → ∃ m', m' < m ∧ W (i + 1) m' H') ∧ ∀ x H', J.yld i H x H' → g x (wipe σ vs) H' fun σ2 H2 => wipe σ2 vs = wipe σ vs ∧
        tt σ2 H2 fun b H3 => if b = true then te σ2 H3 fun y H4 => ∃ acc, H4 D = some (.lst acc) ∧ acc.length < sizeLine ∧ Nx (upd H4 D (.lst (acc ++ [y]))) else Nx H3) := by
  refine ⟨fun i m H => m + i = xs.length ∧ Pv i H, ⟨xs.length, by simp, h0⟩, ?_⟩
  rintro i m H ⟨em, p⟩
  rcases Nat.lt_or_ge i xs.length with lt | ge
  · refine .inr ⟨goes i H lt p, Pv (i + 1), fun H' p' => ⟨m - 1, by omega, by omega, p'⟩, fun v H' y => ?_⟩
    obtain ⟨T, x, y', rfl, hx, hy, hT, rfl⟩ := gives i H v H' p y
    exact hs i x y' T H hx hy p hT
  · have e : i = xs.length := by omega
    subst e
    exact .inl ⟨stops H p, hd H p⟩
def spSame (n : Nat) : Sp := fun vs H Q _ => ∃ (x y : V) (m : Nat), vs = [x, y] ∧ n = m + 1 ∧ Alike H m x y ∧ ∀ H', Same H H' → Q (.bl true) H'
section
variable {P : Program} {w : World} {K : PySem.W.Frag} {mg : Str → Option Value} {base : Heap}
structure SameG (mg : Str → Option Value) : Prop where
  isi : mg "isinstance" = none
  list : mg "list" = none
  tuple : mg "tuple" = none
  len : mg "len" = none
  all : mg "all" = none
  zip : mg "zip" = none
  str : mg "str" = none
  int : mg "int" = none
  bool : mg "bool" = none
theorem scSame : FnScope ["_law_found", "_law_due", "_law_one", "_law_two"] ["_law_found", "_law_due"] (defScope sSame) := ⟨rfl, rfl, rfl, by decide +kernel, rfl, by decide +kernel, by decide +kernel⟩
theorem kitB_of {K : PySem.W.Frag} {a b : String} {r : Bool} (h : kitB a b = some r) : PySem.W.kitOne K (.type a) (.type b) = some r := h
theorem kit_lt {K : PySem.W.Frag} {a : String} {p r : Bool} (h1 : kitB a "list" = some p) (h2 : kitB a "tuple" = some r) : PySem.W.kitAny K (.type a) [.type "list", .type "tuple"] = some (p || r) := by
  refine kitAny_cons (kitB_of h1) (fun e => ?_) (fun e => by rw [e]; rfl)
  refine kitAny_cons (kitB_of h2) (fun e2 => by rw [e, e2]; exact kitAny_nil) (fun e2 => by rw [e, e2]; rfl)
theorem ok_same {n : Nat} {f : Addr} {fd : FuncData} (F : Fun K "_law_same" "_law_same" sSame f fd) (b2 : Binds K fd ["_law_found", "_law_due"] []) (mF : mg "_law_same" = some (.ref f)) (G : FnOk P w K mg base CX0 n f fd ["_law_found", "_law_due"] (spSame n)) (M : SameG mg) :
    FnOk P w K mg base CX0 (n + 1) f fd ["_law_found", "_law_due"] (spSame (n + 1)) := by
  refine F.ok scSame (fun vs H Q E h => ?_) (fun cdv A outer s H vs Q E hr h => ?_)
  · obtain ⟨x, y, m, rfl, _⟩ := h
    rfl
  obtain ⟨x, y, m, rfl, em, hA, q⟩ := h
  have em : n = m := by omega
  subst em
  refine ⟨_, pss_cons (ps_if (pt_val (pe_callB (id := "isinstance") call_isiT (by rfl) M.isi (by decide +kernel) (pa_cons (pv 1) (pa_cons (pe_tup (pa_cons (pe_bltn (v := .ty "list") (by rfl) M.list (by decide +kernel) rfl) (pa_cons (pe_bltn (v := .ty "tuple") (by rfl) M.tuple (by decide +kernel) rfl) pa_nil))) pa_nil))))
      (pss_cons (ps_if (PW.pt (pw_or (pt_cmpR op_ne
            (pe_callB (id := "isinstance") call_isi (by rfl) M.isi (by decide +kernel) (pa_cons (pv 0) (pa_cons (pe_bltn (v := .ty "list") (by rfl) M.list (by decide +kernel) rfl) pa_nil)))
            (pe_callB (id := "isinstance") call_isi (by rfl) M.isi (by decide +kernel) (pa_cons (pv 1) (pa_cons (pe_bltn (v := .ty "list") (by rfl) M.list (by decide +kernel) rfl) pa_nil))) (nomark _))
          (pw_or1 (pt_cmpR op_ne
            (pe_callB (id := "isinstance") call_isi (by rfl) M.isi (by decide +kernel) (pa_cons (pv 0) (pa_cons (pe_bltn (v := .ty "tuple") (by rfl) M.tuple (by decide +kernel) rfl) pa_nil)))
            (pe_callB (id := "isinstance") call_isi (by rfl) M.isi (by decide +kernel) (pa_cons (pv 1) (pa_cons (pe_bltn (v := .ty "tuple") (by rfl) M.tuple (by decide +kernel) rfl) pa_nil))) (nomark _))))) (pss_one (ps_ret pe_bl)) pss_nil)
      (pss_cons (ps_if (pt_cmpR op_ne (pe_callB call_len_seq (by rfl) M.len PySem.boot_len (pa_cons (pv 0) pa_nil)) (pe_callB call_len_seq (by rfl) M.len PySem.boot_len (pa_cons (pv 1) pa_nil)) (nomark _)) (pss_one (ps_ret pe_bl)) pss_nil)
      (pss_one (ps_ret (pe_callB (cr_all rfl) (by rfl) M.all (by decide +kernel) (pa_cons (pe_lc (own := [("_law_one", 2), ("_law_two", 3)]) (g := gTup K 2 (gCons (gName 2) (gCons (gName 3) gNil))) (tt := tYes) (te := tCall (spSame n) [] E0 (tCons (tVar 2) (tCons (tVar 3) tNil))) rfl scSame.nd
        (pi_zipA (by rfl) M.zip (pa_cons (pv 0) (pa_cons (pv 1) pa_nil))) (blkOk_by (N := ["_law_found", "_law_due", "_law_one", "_law_two"]) (sc := defScope sSame) (by decide +kernel))
        (fun _ _ _ _ _ => pg_tup (by rfl) (pgs_cons (pg_name (i := 2) scSame.nd rfl (Or.inl rfl)) (pgs_cons (pg_name (i := 3) scSame.nd rfl (Or.inl rfl)) pgs_nil)))
        (fun _ _ _ _ _ => pts_nil) (fun _ _ _ _ _ => pe_call G hr (by rfl) mF F.kp b2 .nil pass0 (pa_cons (pv 2) (pa_cons (pv 3) pa_nil)))) pa_nil)))))) pss_nil)
    (pss_cons (ps_if (PW.pt (pw_or (pt_cmpR op_isN (pv 1) pe_non (nomark _)) (pw_or1 (pt_val (pe_callB (id := "isinstance") call_isi (by rfl) M.isi (by decide +kernel) (pa_cons (pv 1) (pa_cons (pe_bltn (v := .ty "str") (by rfl) M.str (by decide +kernel) rfl) pa_nil)))))))
      (pss_one (ps_ret (pe_and (pe_cmpR op_eq (pv 0) (pv 1) (nomark _)) (pe_one (pe_cmpR op_eq
            (pe_callB (id := "isinstance") call_isi (by rfl) M.isi (by decide +kernel) (pa_cons (pv 0) (pa_cons (pe_bltn (v := .ty "str") (by rfl) M.str (by decide +kernel) rfl) pa_nil)))
            (pe_callB (id := "isinstance") call_isi (by rfl) M.isi (by decide +kernel) (pa_cons (pv 1) (pa_cons (pe_bltn (v := .ty "str") (by rfl) M.str (by decide +kernel) rfl) pa_nil))) (nomark _)))))) pss_nil)
    (pss_one (ps_ret (pe_and (pe_callB (id := "isinstance") call_isi (by rfl) M.isi (by decide +kernel) (pa_cons (pv 0) (pa_cons (pe_bltn (v := .ty "int") (by rfl) M.int (by decide +kernel) rfl) pa_nil)))
      (pe_and (pe_cmpR op_eq
            (pe_callB (id := "isinstance") call_isi (by rfl) M.isi (by decide +kernel) (pa_cons (pv 0) (pa_cons (pe_bltn (v := .ty "bool") (by rfl) M.bool (by decide +kernel) rfl) pa_nil)))
            (pe_callB (id := "isinstance") call_isi (by rfl) M.isi (by decide +kernel) (pa_cons (pv 1) (pa_cons (pe_bltn (v := .ty "bool") (by rfl) M.bool (by decide +kernel) rfl) pa_nil))) (nomark _))
        (pe_one (pe_cmpR op_eq (pv 0) (pv 1) (nomark _)))))))), ?_⟩
  refine ⟨_, rfl, (by show 2 ≤ sizeLine; decide), fun p hp => ?_⟩
  have s1 := same_new hp (.tup [V.ty "list", V.ty "tuple"])
  have plain : Plain x ∧ x = y ∨ ∃ m a b xs ys, n = m + 1 ∧ x = .ref a ∧ y = .ref b ∧ ((H a = some (.lst xs) ∧ H b = some (.lst ys)) ∨ (H a = some (.tup xs) ∧ H b = some (.tup ys))) ∧
      xs.length = ys.length ∧ xs.length ≤ 1000000 ∧ ∀ (i : Nat) (u v : V), xs[i]? = some u → ys[i]? = some v → Alike H m u v := by
    cases n with
    | zero => unfold Alike at hA; exact .inl hA
    | succ m =>
      unfold Alike at hA
      rcases hA with h | ⟨a, b, xs, ys, h⟩
      · exact .inl h
      · exact .inr ⟨m, a, b, xs, ys, rfl, h⟩
  rcases plain with ⟨px, rfl⟩ | ⟨m, a, b, xs, ys, rfl, rfl, rfl, kinds, hl, hz, each⟩
  · cases x with
    | int i =>
      refine ⟨_, p, _, _, [.type "list", .type "tuple"], false, rfl, upd_same, .cons (.ty _) (.cons (.ty _) .nil), .base (.int i), kit_lt (p := false) (r := false) (by decide +kernel) (by decide +kernel), false, rfl, iteF ?_⟩
      refine ⟨_, rfl, rfl, false, congrArg V.bl (decide_eq_false (fun z => nomatch z)), iteF ?_⟩
      refine ⟨_, rfl, _, _, _, _, false, rfl, .ty "str", .base (.int i), kitB_of (by decide +kernel), false, rfl, iteF ?_⟩
      refine ⟨_, rfl, _, _, _, _, true, rfl, .ty "int", .base (.int i), kitB_of (by decide +kernel), true, rfl, iteT ?_⟩
      refine ⟨_, rfl, _, _, _, _, false, rfl, .ty "bool", .base (.int i), kitB_of (by decide +kernel), _, rfl, _, _, _, _, false, rfl, .ty "bool", .base (.int i), kitB_of (by decide +kernel), rfl, true, congrArg V.bl (decide_eq_true rfl), iteT ?_⟩
      refine ⟨_, rfl, _, rfl, rfl, ?_⟩
      have e : decide (V.int i = V.int i) = true := decide_eq_true rfl
      rw [e]
      exact q _ s1
    | bl i =>
      refine ⟨_, p, _, _, [.type "list", .type "tuple"], false, rfl, upd_same, .cons (.ty _) (.cons (.ty _) .nil), .base (.bl i), kit_lt (p := false) (r := false) (by decide +kernel) (by decide +kernel), false, rfl, iteF ?_⟩
      refine ⟨_, rfl, rfl, false, congrArg V.bl (decide_eq_false (fun z => nomatch z)), iteF ?_⟩
      refine ⟨_, rfl, _, _, _, _, false, rfl, .ty "str", .base (.bl i), kitB_of (by decide +kernel), false, rfl, iteF ?_⟩
      refine ⟨_, rfl, _, _, _, _, true, rfl, .ty "int", .base (.bl i), kitB_of (by decide +kernel), true, rfl, iteT ?_⟩
      refine ⟨_, rfl, _, _, _, _, true, rfl, .ty "bool", .base (.bl i), kitB_of (by decide +kernel), _, rfl, _, _, _, _, true, rfl, .ty "bool", .base (.bl i), kitB_of (by decide +kernel), rfl, true, congrArg V.bl (decide_eq_true rfl), iteT ?_⟩
      refine ⟨_, rfl, _, rfl, rfl, ?_⟩
      have e : decide (V.bl i = V.bl i) = true := decide_eq_true rfl
      rw [e]
      exact q _ s1
    | str i =>
      refine ⟨_, p, _, _, [.type "list", .type "tuple"], false, rfl, upd_same, .cons (.ty _) (.cons (.ty _) .nil), .base (.str i), kit_lt (p := false) (r := false) (by decide +kernel) (by decide +kernel), false, rfl, iteF ?_⟩
      refine ⟨_, rfl, rfl, false, congrArg V.bl (decide_eq_false (fun z => nomatch z)), iteF ?_⟩
      refine ⟨_, rfl, _, _, _, _, true, rfl, .ty "str", .base (.str i), kitB_of (by decide +kernel), true, rfl, iteT ?_⟩
      refine ⟨_, rfl, _, rfl, rfl, true, congrArg V.bl (decide_eq_true rfl), iteT ?_⟩
      refine ⟨_, rfl, _, _, _, _, true, rfl, .ty "str", .base (.str i), kitB_of (by decide +kernel), _, rfl, _, _, _, _, true, rfl, .ty "str", .base (.str i), kitB_of (by decide +kernel), rfl, ?_⟩
      have e : decide (V.bl true = V.bl true) = true := decide_eq_true rfl
      rw [e]
      exact q _ s1
    | non =>
      refine ⟨_, p, _, _, [.type "list", .type "tuple"], false, rfl, upd_same, .cons (.ty _) (.cons (.ty _) .nil), .base .non, kit_lt (p := false) (r := false) (by decide +kernel) (by decide +kernel), false, rfl, iteF ?_⟩
      refine ⟨_, rfl, rfl, true, congrArg V.bl (decide_eq_true rfl), iteT ?_⟩
      refine iteT ?_
      refine ⟨_, rfl, _, rfl, rfl, true, congrArg V.bl (decide_eq_true rfl), iteT ?_⟩
      refine ⟨_, rfl, _, _, _, _, false, rfl, .ty "str", .base .non, kitB_of (by decide +kernel), _, rfl, _, _, _, _, false, rfl, .ty "str", .base .non, kitB_of (by decide +kernel), rfl, ?_⟩
      have e : decide (V.bl false = V.bl false) = true := decide_eq_true rfl
      rw [e]
      exact q _ s1
    | _ => exact px.elim
  · rcases kinds with ⟨ha, hb⟩ | ⟨ha, hb⟩
    · have ha1 := s1 _ _ ha
      have hb1 := s1 _ _ hb
      refine ⟨_, p, _, _, [.type "list", .type "tuple"], true, rfl, upd_same, .cons (.ty _) (.cons (.ty _) .nil), .base (.lst hb1), kit_lt (p := true) (r := false) (by decide +kernel) (by decide +kernel), true, rfl, iteT ?_⟩
      refine ⟨_, rfl, _, _, _, _, true, rfl, .ty "list", .base (.lst ha1), kitB_of (by decide +kernel), _, rfl, _, _, _, _, true, rfl, .ty "list", .base (.lst hb1), kitB_of (by decide +kernel), rfl, false, congrArg (fun z => V.bl (!z)) (decide_eq_true rfl), iteF ?_⟩
      refine ⟨_, rfl, _, _, _, _, false, rfl, .ty "tuple", .base (.lst ha1), kitB_of (by decide +kernel), _, rfl, _, _, _, _, false, rfl, .ty "tuple", .base (.lst hb1), kitB_of (by decide +kernel), rfl, false, congrArg (fun z => V.bl (!z)) (decide_eq_true rfl), iteF ?_⟩
      refine ⟨_, rfl, a, _, rfl, .inl (.inl (.inl ha1)), _, rfl, b, _, rfl, .inl (.inl (.inl hb1)), rfl, false, congrArg (fun z => V.bl (!z)) (decide_eq_true (by rw [hl])), iteF ?_⟩
      refine ⟨_, rfl, _, rfl, a, b, xs, ys, rfl, .inl ⟨.inl (.inl ha1), .inl (.inl hb1), fun D hD => ?_⟩⟩
      refine lc_pairs (J := Itz K a b) (xs := xs) (ys := ys) hl (fun i H2 => H2 D = some (.lst (List.replicate i (V.bl true))) ∧ Same _ H2)
        (fun H2 h => ⟨xs, ys, .inl (.inl (h.2 _ _ ha1)), .inl (.inl (h.2 _ _ hb1)), .inl (Nat.le_refl _)⟩)
        (fun i H2 lt h => ⟨xs, ys, xs[i], ys[i]'(by omega), .inl (.inl (h.2 _ _ ha1)), .inl (.inl (h.2 _ _ hb1)), List.getElem?_eq_getElem lt, List.getElem?_eq_getElem (by omega)⟩)
        (fun i H2 v H3 h ⟨T, u, v', e1, hT, e2, f1, f2⟩ => ⟨T, u, v', e1, f1 xs (.inl (.inl (h.2 _ _ ha1))), f2 ys (.inl (.inl (h.2 _ _ hb1))), hT, e2⟩)
        ⟨upd_same, same_new hD _⟩ (fun i u v T H2 hu hv h hT => ?_) (fun H2 h => ⟨D, List.replicate xs.length true, rfl, .inl (.inl (by rw [List.map_replicate]; exact h.1)), ?_⟩)
      · have sT := same_new hT (.tup [u, v])
        refine ⟨T, _, rfl, .inl (.inl upd_same), rfl, _, _, rfl, _, _, rfl, rfl, rfl, ?_⟩
        have lt : i < xs.length := (List.getElem?_eq_some_iff.mp hu).1
        refine ⟨_, rfl, _, rfl, u, v, m, rfl, rfl, Alike.mono (s1.trans (h.2.trans sT)) m (each i u v hu hv), fun H4 s4 => ⟨_, s4 _ _ (sT _ _ h.1), ?_, ?_, ?_⟩⟩
        · rw [List.length_replicate]; exact Nat.lt_of_lt_of_le (by omega : i < 1000000) (by decide)
        · rw [upd_same, List.replicate_succ']
        · intro c o z
          have nD : c ≠ D := fun e => by subst e; rw [hD] at z; cases z
          rw [upd_ne nD]
          exact s4 _ _ (sT _ _ (h.2 _ _ z))
      · have e : (List.replicate xs.length true).all id = true := by rw [List.all_eq_true]; intro x hx; rw [List.eq_of_mem_replicate hx]; rfl
        rw [e]
        exact q _ (s1.trans h.2)
    · have ha1 := s1 _ _ ha
      have hb1 := s1 _ _ hb
      refine ⟨_, p, _, _, [.type "list", .type "tuple"], true, rfl, upd_same, .cons (.ty _) (.cons (.ty _) .nil), .base (.tup hb1), kit_lt (p := false) (r := true) (by decide +kernel) (by decide +kernel), true, rfl, iteT ?_⟩
      refine ⟨_, rfl, _, _, _, _, false, rfl, .ty "list", .base (.tup ha1), kitB_of (by decide +kernel), _, rfl, _, _, _, _, false, rfl, .ty "list", .base (.tup hb1), kitB_of (by decide +kernel), rfl, false, congrArg (fun z => V.bl (!z)) (decide_eq_true rfl), iteF ?_⟩
      refine ⟨_, rfl, _, _, _, _, true, rfl, .ty "tuple", .base (.tup ha1), kitB_of (by decide +kernel), _, rfl, _, _, _, _, true, rfl, .ty "tuple", .base (.tup hb1), kitB_of (by decide +kernel), rfl, false, congrArg (fun z => V.bl (!z)) (decide_eq_true rfl), iteF ?_⟩
      refine ⟨_, rfl, a, _, rfl, .inr (.inl (.inl ha1)), _, rfl, b, _, rfl, .inr (.inl (.inl hb1)), rfl, false, congrArg (fun z => V.bl (!z)) (decide_eq_true (by rw [hl])), iteF ?_⟩
      refine ⟨_, rfl, _, rfl, a, b, xs, ys, rfl, .inr ⟨.inl (.inl ha1), .inl (.inl hb1), fun D hD => ?_⟩⟩
      refine lc_pairs (J := ItzT K a b) (xs := xs) (ys := ys) hl (fun i H2 => H2 D = some (.lst (List.replicate i (V.bl true))) ∧ Same _ H2)
        (fun H2 h => ⟨xs, ys, .inl (.inl (h.2 _ _ ha1)), .inl (.inl (h.2 _ _ hb1)), .inl (Nat.le_refl _)⟩)
        (fun i H2 lt h => ⟨xs, ys, xs[i], ys[i]'(by omega), .inl (.inl (h.2 _ _ ha1)), .inl (.inl (h.2 _ _ hb1)), List.getElem?_eq_getElem lt, List.getElem?_eq_getElem (by omega)⟩)
        (fun i H2 v H3 h ⟨T, u, v', e1, hT, e2, f1, f2⟩ => ⟨T, u, v', e1, f1 xs (.inl (.inl (h.2 _ _ ha1))), f2 ys (.inl (.inl (h.2 _ _ hb1))), hT, e2⟩)
        ⟨upd_same, same_new hD _⟩ (fun i u v T H2 hu hv h hT => ?_) (fun H2 h => ⟨D, List.replicate xs.length true, rfl, .inl (.inl (by rw [List.map_replicate]; exact h.1)), ?_⟩)
      · have sT := same_new hT (.tup [u, v])
        refine ⟨T, _, rfl, .inl (.inl upd_same), rfl, _, _, rfl, _, _, rfl, rfl, rfl, ?_⟩
        have lt : i < xs.length := (List.getElem?_eq_some_iff.mp hu).1
        refine ⟨_, rfl, _, rfl, u, v, m, rfl, rfl, Alike.mono (s1.trans (h.2.trans sT)) m (each i u v hu hv), fun H4 s4 => ⟨_, s4 _ _ (sT _ _ h.1), ?_, ?_, ?_⟩⟩
        · rw [List.length_replicate]; exact Nat.lt_of_lt_of_le (by omega : i < 1000000) (by decide)
        · rw [upd_same, List.replicate_succ']
        · intro c o z
          have nD : c ≠ D := fun e => by subst e; rw [hD] at z; cases z
          rw [upd_ne nD]
          exact s4 _ _ (sT _ _ (h.2 _ _ z))
      · have e : (List.replicate xs.length true).all id = true := by rw [List.all_eq_true]; intro x hx; rw [List.eq_of_mem_replicate hx]; rfl
        rw [e]
        exact q _ (s1.trans h.2)
theorem same_ok {f : Addr} {fd : FuncData} (F : Fun K "_law_same" "_law_same" sSame f fd) (b2 : Binds K fd ["_law_found", "_law_due"] []) (mF : mg "_law_same" = some (.ref f)) (M : SameG mg) :
    ∀ n : Nat, FnOk P w K mg base CX0 n f fd ["_law_found", "_law_due"] (spSame n)
  | 0 => none_left fun vs H Q E h => by
    obtain ⟨x, y, m, _, e, _⟩ := h
    omega
  | n + 1 => ok_same F b2 mF (same_ok F b2 mF M n) M
end
end Rp

/-! Data of any depth: what stands as which, and which data are TERMs. -/
namespace Rp
open PySem L2
/-- a tuple stands at a, plain or not -/
def TupAt (H : Hp) (a : Addr) (xs : List V) : Prop := H a = some (.tup xs) ∨ ∃ o, H a = some (.frz o (.tup xs))
theorem TupAt.same {H H' : Hp} {a : Addr} {xs : List V} (e : Same H H') (h : TupAt H a xs) : TupAt H' a xs := h.imp (fun q => e _ _ q) fun ⟨o, q⟩ => ⟨o, e _ _ q⟩
theorem TupAt.but {H H' : Hp} {b a : Addr} {ys xs : List V} (e : But b H H') (hb : H b = some (.lst ys)) (h : TupAt H a xs) : TupAt H' a xs :=
  h.imp (fun q => e _ _ q (ne_of q hb (by intro z; cases z))) fun ⟨o, q⟩ => ⟨o, e _ _ q (ne_of q hb (by intro z; cases z))⟩
mutual
/-- the value v stands as the data d; its lists are others than the box b -/
def DAt (H : Hp) (b : Addr) : V → PyData → Prop
  | v, .none => v = .non
  | v, .bool c => v = .bl c
  | v, .int i => v = .int i
  | v, .str x => v = .str x
  | v, .list ds => ∃ (a : Addr) (xs : List V), v = .ref a ∧ a ≠ b ∧ H a = some (.lst xs) ∧ DAtAll H b xs ds
  | v, .tuple ds => ∃ (a : Addr) (xs : List V), v = .ref a ∧ TupAt H a xs ∧ DAtAll H b xs ds
  | _, .dict _ => False
def DAtAll (H : Hp) (b : Addr) : List V → List PyData → Prop
  | xs, [] => xs = []
  | xs, d :: ds => ∃ (x : V) (r : List V), xs = x :: r ∧ DAt H b x d ∧ DAtAll H b r ds
end
mutual
theorem DAt.dp {K : PySem.W.Frag} {H : Hp} {b : Addr} : ∀ (d : PyData) {v : V}, DAt H b v d → Dp K H v d
  | .none, _, h => by unfold DAt at h; subst h; exact .non
  | .bool _, _, h => by unfold DAt at h; subst h; exact .bl _
  | .int _, _, h => by unfold DAt at h; subst h; exact .int _
  | .str _, _, h => by unfold DAt at h; subst h; exact .str _
  | .list ds, _, h => by
    unfold DAt at h
    obtain ⟨a, xs, rfl, _, e, q⟩ := h
    exact .lst (.inl (.inl e)) (DAtAll.dp ds q)
  | .tuple ds, _, h => by
    unfold DAt at h
    obtain ⟨a, xs, rfl, e, q⟩ := h
    exact .tup (.inl e) (DAtAll.dp ds q)
  | .dict _, _, h => by unfold DAt at h; exact h.elim
theorem DAtAll.dp {K : PySem.W.Frag} {H : Hp} {b : Addr} : ∀ (ds : List PyData) {xs : List V}, DAtAll H b xs ds → DpAll K H xs ds
  | [], _, h => by unfold DAtAll at h; subst h; exact .nil
  | d :: ds, _, h => by
    unfold DAtAll at h
    obtain ⟨x, r, rfl, q, q'⟩ := h
    exact .cons (DAt.dp d q) (DAtAll.dp ds q')
end
mutual
theorem DAt.mono {H H' : Hp} {b : Addr} (et : ∀ a xs, TupAt H a xs → TupAt H' a xs) (el : ∀ a xs, a ≠ b → H a = some (.lst xs) → H' a = some (.lst xs)) : ∀ (d : PyData) {v : V}, DAt H b v d → DAt H' b v d
  | .none, _, h => by unfold DAt at h ⊢; exact h
  | .bool _, _, h => by unfold DAt at h ⊢; exact h
  | .int _, _, h => by unfold DAt at h ⊢; exact h
  | .str _, _, h => by unfold DAt at h ⊢; exact h
  | .list ds, _, h => by
    unfold DAt at h ⊢
    obtain ⟨a, xs, e, n, q, q'⟩ := h
    exact ⟨a, xs, e, n, el _ _ n q, DAtAll.mono et el ds q'⟩
  | .tuple ds, _, h => by
    unfold DAt at h ⊢
    obtain ⟨a, xs, e, q, q'⟩ := h
    exact ⟨a, xs, e, et _ _ q, DAtAll.mono et el ds q'⟩
  | .dict _, _, h => by unfold DAt at h; exact h.elim
theorem DAtAll.mono {H H' : Hp} {b : Addr} (et : ∀ a xs, TupAt H a xs → TupAt H' a xs) (el : ∀ a xs, a ≠ b → H a = some (.lst xs) → H' a = some (.lst xs)) : ∀ (ds : List PyData) {xs : List V}, DAtAll H b xs ds → DAtAll H' b xs ds
  | [], _, h => by unfold DAtAll at h ⊢; exact h
  | d :: ds, _, h => by
    unfold DAtAll at h ⊢
    obtain ⟨x, r, e, q, q'⟩ := h
    exact ⟨x, r, e, DAt.mono et el d q, DAtAll.mono et el ds q'⟩
end
theorem DAt.same {H H' : Hp} {b : Addr} (e : Same H H') {d : PyData} {v : V} (h : DAt H b v d) : DAt H' b v d := DAt.mono (fun a _ q => q.same e) (fun a _ _ q => e a _ q) d h
theorem DAt.but {H H' : Hp} {b : Addr} {ys : List V} (e : But b H H') (hb : H b = some (.lst ys)) {d : PyData} {v : V} (h : DAt H b v d) : DAt H' b v d :=
  DAt.mono (fun a _ q => q.but e hb) (fun a _ n q => e a _ q n) d h
theorem DAtAll.same {H H' : Hp} {b : Addr} (e : Same H H') {ds : List PyData} {xs : List V} (h : DAtAll H b xs ds) : DAtAll H' b xs ds := DAtAll.mono (fun a _ q => q.same e) (fun a _ _ q => e a _ q) ds h
theorem DAtAll.but {H H' : Hp} {b : Addr} {ys : List V} (e : But b H H') (hb : H b = some (.lst ys)) {ds : List PyData} {xs : List V} (h : DAtAll H b xs ds) : DAtAll H' b xs ds :=
  DAtAll.mono (fun a _ q => q.but e hb) (fun a _ n q => e a _ q n) ds h
theorem DAtAll.nil {H : Hp} {b : Addr} : DAtAll H b [] [] := by unfold DAtAll; rfl
theorem DAtAll.cons {H : Hp} {b : Addr} {x : V} {xs : List V} {d : PyData} {ds : List PyData} (h : DAt H b x d) (h' : DAtAll H b xs ds) : DAtAll H b (x :: xs) (d :: ds) := by unfold DAtAll; exact ⟨x, xs, rfl, h, h'⟩
theorem DAtAll.head {H : Hp} {b : Addr} {x : V} {xs : List V} {ds : List PyData} (h : DAtAll H b (x :: xs) ds) : ∃ d ds', ds = d :: ds' ∧ DAt H b x d ∧ DAtAll H b xs ds' := by
  cases ds with
  | nil => unfold DAtAll at h; cases h
  | cons d ds =>
    unfold DAtAll at h
    obtain ⟨y, r, e, q, q'⟩ := h
    cases e
    exact ⟨d, ds, rfl, q, q'⟩
theorem DAtAll.len {H : Hp} {b : Addr} : ∀ {xs : List V} {ds : List PyData}, DAtAll H b xs ds → xs.length = ds.length
  | xs, [], h => by unfold DAtAll at h; subst h; rfl
  | xs, d :: ds, h => by
    unfold DAtAll at h
    obtain ⟨x, r, rfl, _, q⟩ := h
    rw [List.length_cons, List.length_cons, DAtAll.len q]
theorem DAtAll.append {H : Hp} {b : Addr} : ∀ {xs ys : List V} {ds es : List PyData}, DAtAll H b xs ds → DAtAll H b ys es → DAtAll H b (xs ++ ys) (ds ++ es)
  | xs, ys, [], es, h, h' => by unfold DAtAll at h; subst h; exact h'
  | xs, ys, d :: ds, es, h, h' => by
    unfold DAtAll at h
    obtain ⟨x, r, rfl, q, q'⟩ := h
    exact .cons q (DAtAll.append q' h')
theorem DAtAll.parted {H : Hp} {b : Addr} : ∀ {xs ys : List V} {ds : List PyData}, DAtAll H b (xs ++ ys) ds → ∃ d1 d2, ds = d1 ++ d2 ∧ DAtAll H b xs d1 ∧ DAtAll H b ys d2
  | [], ys, ds, h => ⟨[], ds, rfl, .nil, h⟩
  | x :: xs, ys, ds, h => by
    obtain ⟨d, ds', rfl, q, q'⟩ := DAtAll.head h
    obtain ⟨d1, d2, rfl, h1, h2⟩ := DAtAll.parted q'
    exact ⟨d :: d1, d2, rfl, .cons q h1, h2⟩
theorem DAtAll.take {H : Hp} {b : Addr} : ∀ {xs : List V} {ds : List PyData} (n : Nat), DAtAll H b xs ds → DAtAll H b (xs.take n) (ds.take n)
  | xs, ds, 0, h => by simp; exact .nil
  | [], ds, n + 1, h => by have := h.len; cases ds with | nil => simpa using DAtAll.nil | cons => simp at this
  | x :: xs, ds, n + 1, h => by
    obtain ⟨d, ds', rfl, q, q'⟩ := DAtAll.head h
    exact .cons q (DAtAll.take n q')
theorem DAtAll.drop {H : Hp} {b : Addr} : ∀ {xs : List V} {ds : List PyData} (n : Nat), DAtAll H b xs ds → DAtAll H b (xs.drop n) (ds.drop n)
  | xs, ds, 0, h => by simpa using h
  | [], ds, n + 1, h => by have := h.len; cases ds with | nil => simpa using DAtAll.nil | cons => simp at this
  | x :: xs, ds, n + 1, h => by
    obtain ⟨d, ds', rfl, q, q'⟩ := DAtAll.head h
    simpa using DAtAll.drop n q'
theorem DAtAll.back {H : Hp} {b : Addr} : ∀ {xs : List V} {ds : List PyData}, DAtAll H b xs ds → DAtAll H b xs.reverse ds.reverse
  | [], ds, h => by have := h.len; cases ds with | nil => simpa using DAtAll.nil | cons => simp at this
  | x :: xs, ds, h => by
    obtain ⟨d, ds', rfl, q, q'⟩ := DAtAll.head h
    rw [List.reverse_cons, List.reverse_cons]
    exact (DAtAll.back q').append (.cons q .nil)
theorem DAtAll.get {H : Hp} {b : Addr} : ∀ {xs : List V} {ds : List PyData} {i : Nat} {x : V}, DAtAll H b xs ds → xs[i]? = some x → ∃ d, ds[i]? = some d ∧ DAt H b x d
  | [], ds, i, x, h, e => by simp at e
  | y :: xs, ds, 0, x, h, e => by
    obtain ⟨d, ds', rfl, q, q'⟩ := DAtAll.head h
    simp at e
    subst e
    exact ⟨d, rfl, q⟩
  | y :: xs, ds, i + 1, x, h, e => by
    obtain ⟨d, ds', rfl, q, q'⟩ := DAtAll.head h
    simpa using DAtAll.get q' (by simpa using e)
/-! ### TERMs as data -/
def tmD : Tm → PyData
  | .v n => .int n
  | .z => .tuple [.str "0"]
  | .s t => .tuple [.str "s", tmD t]
  | .f l r => .tuple [.str "f", tmD l, tmD r]
theorem TmAt.dat {H : Hp} {b : Addr} {v : V} {t : Tm} (h : TmAt H v t) : DAt H b v (tmD t) := by
  induction h with
  | v n => unfold tmD DAt; rfl
  | z h => unfold tmD DAt; exact ⟨_, _, rfl, .inl h, .cons (by unfold DAt; rfl) .nil⟩
  | s h _ ih => unfold tmD DAt; exact ⟨_, _, rfl, .inl h, .cons (by unfold DAt; rfl) (.cons ih .nil)⟩
  | f h _ _ ih ih' => unfold tmD DAt; exact ⟨_, _, rfl, .inl h, .cons (by unfold DAt; rfl) (.cons ih (.cons ih' .nil))⟩
theorem DAtAll.nil_of {H : Hp} {b : Addr} {xs : List V} (h : DAtAll H b xs []) : xs = [] := by unfold DAtAll at h; exact h
theorem DAtAll.cons_of {H : Hp} {b : Addr} {xs : List V} {d : PyData} {ds : List PyData} (h : DAtAll H b xs (d :: ds)) : ∃ x r, xs = x :: r ∧ DAt H b x d ∧ DAtAll H b r ds := by unfold DAtAll at h; exact h
theorem DAt.str_of {H : Hp} {b : Addr} {v : V} {x : Str} (h : DAt H b v (.str x)) : v = .str x := by unfold DAt at h; exact h
theorem DAt.int_of {H : Hp} {b : Addr} {v : V} {x : Int} (h : DAt H b v (.int x)) : v = .int x := by unfold DAt at h; exact h
theorem DAt.tup_of {H : Hp} {b : Addr} {v : V} {ds : List PyData} (h : DAt H b v (.tuple ds)) : ∃ (a : Addr) (xs : List V), v = .ref a ∧ TupAt H a xs ∧ DAtAll H b xs ds := by unfold DAt at h; exact h
theorem DAt.lst_of {H : Hp} {b : Addr} {v : V} {ds : List PyData} (h : DAt H b v (.list ds)) : ∃ (a : Addr) (xs : List V), v = .ref a ∧ a ≠ b ∧ H a = some (.lst xs) ∧ DAtAll H b xs ds := by unfold DAt at h; exact h
def IsT (d : PyData) : Prop := ∃ t, d = tmD t ∧ ∀ n ∈ t.nums, 0 ≤ n ∧ n ≤ 99
/-- a sign with as many parts as it takes -/
def Shaped (d : PyData) : Prop := ∃ (x : Str) (ds : List PyData), d = .tuple (.str x :: ds) ∧ ((x = "0" ∧ ds.length = 0) ∨ (x = "s" ∧ ds.length = 1) ∨ (x = "f" ∧ ds.length = 2))
theorem isT_shaped {x : Str} {ds : List PyData} (h : (x = "0" ∧ ds.length = 0) ∨ (x = "s" ∧ ds.length = 1) ∨ (x = "f" ∧ ds.length = 2)) : IsT (.tuple (.str x :: ds)) ↔ ∀ d ∈ ds, IsT d := by
  have s0 : ("0" : Str) ≠ "s" := by decide +kernel
  have s1 : ("0" : Str) ≠ "f" := by decide +kernel
  have s2 : ("s" : Str) ≠ "f" := by decide +kernel
  rcases h with ⟨rfl, h⟩ | ⟨rfl, h⟩ | ⟨rfl, h⟩
  · match ds, h with
    | [], _ => exact ⟨fun _ d hd => by simp at hd, fun _ => ⟨.z, rfl, fun n hn => by simp [Tm.nums] at hn⟩⟩
  · match ds, h with
    | [d], _ =>
      constructor
      · rintro ⟨t, e, g⟩ d' hd
        simp at hd
        subst hd
        cases t with
        | s t => unfold tmD at e; injection e with e; injection e with _ e; injection e with e _; exact ⟨t, e, g⟩
        | v n => cases e
        | z => unfold tmD at e; injection e with e; injection e with e _; injection e with e; exact absurd e.symm s0
        | f l r => unfold tmD at e; injection e with e; injection e with e _; injection e with e; exact absurd e s2
      · intro h
        obtain ⟨t, rfl, g⟩ := h d (by simp)
        exact ⟨.s t, rfl, g⟩
  · match ds, h with
    | [d, d'], _ =>
      constructor
      · rintro ⟨t, e, g⟩ d2 hd
        cases t with
        | f l r =>
          unfold tmD at e
          injection e with e
          injection e with _ e
          injection e with e1 e
          injection e with e2 _
          simp at hd
          rcases hd with rfl | rfl
          · exact ⟨l, e1, fun n hn => g n (by simp [Tm.nums, hn])⟩
          · exact ⟨r, e2, fun n hn => g n (by simp [Tm.nums, hn])⟩
        | v n => cases e
        | z => unfold tmD at e; injection e with e; injection e with e _; injection e with e; exact absurd e.symm s1
        | s t => unfold tmD at e; injection e with e; injection e with e _; injection e with e; exact absurd e.symm s2
      · intro h
        obtain ⟨l, rfl, g1⟩ := h d (by simp)
        obtain ⟨r, rfl, g2⟩ := h d' (by simp)
        refine ⟨.f l r, rfl, fun n hn => ?_⟩
        rcases List.mem_append.mp hn with q | q
        · exact g1 n q
        · exact g2 n q
theorem isT_int {n : Int} : IsT (.int n) ↔ 0 ≤ n ∧ n ≤ 99 := by
  constructor
  · rintro ⟨t, e, g⟩
    cases t with
    | v m => unfold tmD at e; injection e with e; subst e; exact g _ (by simp [Tm.nums])
    | z => cases e
    | s t => cases e
    | f l r => cases e
  · intro h
    exact ⟨.v n, rfl, fun m hm => by simp [Tm.nums] at hm; subst hm; exact h⟩
theorem isT_other {d : PyData} (h : ¬ Shaped d) (h' : ∀ n, d ≠ .int n) : ¬ IsT d := by
  rintro ⟨t, rfl, g⟩
  cases t with
  | v n => exact h' n rfl
  | z => exact h ⟨"0", [], rfl, .inl ⟨rfl, rfl⟩⟩
  | s t => exact h ⟨"s", [_], rfl, .inr (.inl ⟨rfl, rfl⟩)⟩
  | f l r => exact h ⟨"f", [_, _], rfl, .inr (.inr ⟨rfl, rfl⟩)⟩
end Rp

namespace Rp
open PySem PySem.Spec PyProof.Rows L2
def tyD : PyData → String
  | .none => "NoneType" | .bool _ => "bool" | .int _ => "int" | .str _ => "str" | .list _ => "list" | .tuple _ => "tuple" | .dict _ => "dict"
theorem DAt.tyx {K : PySem.W.Frag} {H : Hp} {b : Addr} {v : V} {d : PyData} (h : DAt H b v d) : TyX K H v (.type (tyD d)) := by
  cases d with
  | none => unfold DAt at h; subst h; exact .base .non
  | bool c => unfold DAt at h; subst h; exact .base (.bl c)
  | int i => unfold DAt at h; subst h; exact .base (.int i)
  | str x => unfold DAt at h; subst h; exact .base (.str x)
  | list ds => obtain ⟨a, xs, rfl, _, e, _⟩ := h.lst_of; exact .base (.lst e)
  | tuple ds => obtain ⟨a, xs, rfl, e, _⟩ := h.tup_of; rcases e with e | ⟨o, e⟩; exact .base (.tup e); exact .fTuple e
  | dict ds => unfold DAt at h; exact h.elim
def isI : PyData → Bool | .int _ => true | .bool _ => true | _ => false
def isB : PyData → Bool | .bool _ => true | _ => false
def isS : PyData → Bool | .str _ => true | _ => false
def isU : PyData → Bool | .tuple _ => true | _ => false
def isL : PyData → Bool | .list _ => true | _ => false
def isNum : PyData → Bool | .int _ => true | _ => false
section
variable {K : PySem.W.Frag}
theorem kitI (d : PyData) : PySem.W.kitOne K (.type (tyD d)) (.type "int") = some (isI d) := by cases d <;> exact kit_ty (by simp only [tyD, isI]; decide +kernel)
theorem kitB' (d : PyData) : PySem.W.kitOne K (.type (tyD d)) (.type "bool") = some (isB d) := by cases d <;> exact kit_ty (by simp only [tyD, isB]; decide +kernel)
theorem kitS (d : PyData) : PySem.W.kitOne K (.type (tyD d)) (.type "str") = some (isS d) := by cases d <;> exact kit_ty (by simp only [tyD, isS]; decide +kernel)
theorem kitU (d : PyData) : PySem.W.kitOne K (.type (tyD d)) (.type "tuple") = some (isU d) := by cases d <;> exact kit_ty (by simp only [tyD, isU]; decide +kernel)
theorem kitL (d : PyData) : PySem.W.kitOne K (.type (tyD d)) (.type "list") = some (isL d) := by cases d <;> exact kit_ty (by simp only [tyD, isL]; decide +kernel)
end
def okD (d : PyData) : Prop := d.canLay0 = true ∧ d.depth ≤ 60
theorem okAll {ds : List PyData} (h : PyData.canLayAll0 ds = true) (k : Nat) (hk : PyData.depthAll ds ≤ k) : ∀ d ∈ ds, d.canLay0 = true ∧ d.depth ≤ k := by
  induction ds with
  | nil => intro d hd; simp at hd
  | cons x ds ih =>
    simp only [PyData.canLayAll0, Bool.and_eq_true] at h
    simp only [PyData.depthAll] at hk
    intro d hd
    rcases List.mem_cons.mp hd with rfl | hd
    · exact ⟨h.1, by omega⟩
    · exact ih h.2 (by omega) d hd
theorem okD.tup {ds : List PyData} (h : okD (.tuple ds)) : ∀ d ∈ ds, okD d := fun d hd => by
  have h1 : PyData.canLayAll0 ds = true := by have := h.1; simpa [PyData.canLay0] using this
  have h2 : PyData.depthAll ds + 1 ≤ 60 := by have := h.2; simpa [PyData.depth] using this
  have := okAll h1 59 (by omega) d hd
  exact ⟨this.1, by omega⟩
theorem eqv_str {x : Str} {d : PyData} : PyData.eqv (.str x) d = true ↔ d = .str x := by
  cases d <;> simp [PyData.eqv]
  exact eq_comm
theorem eqv_tup {xs ys : List PyData} : PyData.eqv (.tuple xs) (.tuple ys) = PyData.eqvAll xs ys := by simp only [PyData.eqv]
theorem eqv_int {i j : Int} : PyData.eqv (.int i) (.int j) = (i == j) := by simp only [PyData.eqv]
theorem eqvAll_cons {x y : PyData} {xs ys : List PyData} : PyData.eqvAll (x :: xs) (y :: ys) = (PyData.eqv x y && PyData.eqvAll xs ys) := by simp only [PyData.eqvAll]
theorem eqvAll_nil : PyData.eqvAll [] [] = true := by simp only [PyData.eqvAll]
theorem hu65 {A : Around} {k : Nat} (hr : Room k A) : A.units + 65 < cLine := by have := hr.un; omega
def shapesD : PyData := .tuple [.tuple [.str "0", .int 1], .tuple [.str "s", .int 2], .tuple [.str "f", .int 3]]
def shapesL : List PyData := [.tuple [.str "0", .int 1], .tuple [.str "s", .int 2], .tuple [.str "f", .int 3]]
theorem shapes_any {d0 : PyData} {ds : List PyData} : (shapesL.any fun y => PyData.eqv y (.tuple [d0, .int ((ds.length + 1 : Nat) : Int)])) = true ↔ Shaped (.tuple (d0 :: ds)) := by
  have one : ∀ (x : Str) (n : Int), PyData.eqv (.tuple [.str x, .int n]) (.tuple [d0, .int ((ds.length + 1 : Nat) : Int)]) = true ↔ d0 = .str x ∧ n = ((ds.length + 1 : Nat) : Int) := by
    intro x n
    rw [eqv_tup, eqvAll_cons, eqvAll_cons, eqvAll_nil, eqv_int]
    simp only [Bool.and_true, Bool.and_eq_true, eqv_str, beq_iff_eq]
  simp only [shapesL, List.any_cons, List.any_nil, Bool.or_false, Bool.or_eq_true, one]
  constructor
  · rintro (⟨rfl, e⟩ | ⟨rfl, e⟩ | ⟨rfl, e⟩)
    · exact ⟨"0", ds, rfl, .inl ⟨rfl, by omega⟩⟩
    · exact ⟨"s", ds, rfl, .inr (.inl ⟨rfl, by omega⟩)⟩
    · exact ⟨"f", ds, rfl, .inr (.inr ⟨rfl, by omega⟩)⟩
  · rintro ⟨x, ds', e, h⟩
    injection e with e
    injection e with e1 e2
    subst e1 e2
    rcases h with ⟨rfl, h⟩ | ⟨rfl, h⟩ | ⟨rfl, h⟩
    · exact .inl ⟨rfl, by omega⟩
    · exact .inr (.inl ⟨rfl, by omega⟩)
    · exact .inr (.inr ⟨rfl, by omega⟩)
/-- x in t, t a tuple of data of any depth -/
def rInT (K : PySem.W.Frag) : R2 := fun x y H Q => ∃ (d : PyData) (ds : List PyData), Dp K H x d ∧ Dp K H y (.tuple ds) ∧ SeqAt.shaped d = true ∧ SeqAt.shaped (.tuple ds) = true ∧ Q (.bl (ds.any fun y => PyData.eqv y d)) H
section
variable {X : Cx}
theorem op_inT (hu : X.A.units + 65 < cLine) : OpR X (compareOp .In) (rInT X.K) := by
  intro pins s σ H x y v u Q I rx ry h
  obtain ⟨d, ds, hd, he, sd, se, q⟩ := h
  obtain ⟨as, r1⟩ := Dp.reads I d x v hd rx
  obtain ⟨bs, r2⟩ := Dp.reads I (.tuple ds) y u he ry
  exact SeqAt.in_tuple_reads r2 r1 (SeqAt.canLay_of_shaped se) (SeqAt.canLay_of_shaped sd) (room_in_shaped sd hu) ⟨.bl _, H, I, rfl, q⟩
end
theorem shaped_of {d : PyData} (h : d.canLay0 = true) (h' : d.depth ≤ 64) : SeqAt.shaped d = true := by
  show (d.canLay0 && decide (d.depth ≤ 64)) = true
  rw [h, decide_eq_true h']
  rfl
def spNumber : Sp := fun vs H Q _ => ∃ (b : Addr) (v : V) (d : PyData), vs = [v] ∧ DAt H b v d ∧ Q (.bl (isNum d)) H
def isVar : PyData → Bool | .int n => decide (0 ≤ n) && decide (n ≤ 99) | _ => false
def spVariable : Sp := fun vs H Q _ => ∃ (b : Addr) (v : V) (d : PyData), vs = [v] ∧ DAt H b v d ∧ Q (.bl (isVar d)) H
def spShape : Sp := fun vs H Q _ => ∃ (b : Addr) (v : V) (d : PyData), vs = [v] ∧ DAt H b v d ∧ okD d ∧ ∀ (r : Bool) (H' : Hp), (r = true ↔ Shaped d) → Same H H' → Q (.bl r) H'
section
variable {P : Program} {w : World} {K : PySem.W.Frag} {mg : Str → Option Value} {base : Heap}
end
end Rp

/-! Data of small ints and a few short texts: how large they are, what is said of them. -/
namespace Rp
open PySem PySem.Spec PyProof.Rows L2
def okText (x : Str) : Prop := x = "" ∨ x = "0" ∨ x = "s" ∨ x = "f" ∨ x = "x" ∨ x = "g" ∨ x = "x0"
mutual
def fine (U : List Int) : PyData → Prop
  | .none => True | .bool _ => True | .int i => i ∈ U | .str x => okText x | .list ds => fineAll U ds | .tuple ds => fineAll U ds | .dict _ => False
def fineAll (U : List Int) : List PyData → Prop
  | [] => True
  | d :: ds => fine U d ∧ fineAll U ds
end
mutual
def nd : PyData → Nat
  | .list ds => ndAll ds + 1 | .tuple ds => ndAll ds + 1 | _ => 1
def ndAll : List PyData → Nat
  | [] => 0
  | d :: ds => nd d + ndAll ds
end
theorem nd_pos (d : PyData) : 1 ≤ nd d := by cases d <;> simp [nd]
theorem ndAll_append : ∀ a b : List PyData, ndAll (a ++ b) = ndAll a + ndAll b
  | [], b => by simp [ndAll]
  | x :: a, b => by simp only [List.cons_append, ndAll, ndAll_append a b]; omega
theorem ndAll_mem : ∀ {ds : List PyData} {d : PyData}, d ∈ ds → nd d ≤ ndAll ds
  | x :: ds, d, h => by
    simp only [ndAll]
    rcases List.mem_cons.mp h with rfl | h
    · omega
    · have := ndAll_mem h; omega
theorem ndAll_len : ∀ ds : List PyData, ds.length ≤ ndAll ds
  | [] => Nat.le_refl _
  | d :: ds => by have := ndAll_len ds; have := nd_pos d; simp only [ndAll, List.length_cons]; omega
theorem fineAll_iff {U : List Int} : ∀ {ds : List PyData}, fineAll U ds ↔ ∀ d ∈ ds, fine U d
  | [] => by simp [fineAll]
  | d :: ds => by simp only [fineAll, fineAll_iff (ds := ds), List.forall_mem_cons]
theorem depthAll_iff {k : Nat} : ∀ {ds : List PyData}, PyData.depthAll ds ≤ k ↔ ∀ d ∈ ds, d.depth ≤ k
  | [] => by simp [PyData.depthAll]
  | d :: ds => by simp only [PyData.depthAll, List.forall_mem_cons, ← depthAll_iff (ds := ds)]; omega
theorem okText_lay {x : Str} (h : okText x) : PyData.canLay0 (.str x) = true ∧ x.cps.size ≤ 2 := by
  rcases h with rfl | rfl | rfl | rfl | rfl | rfl | rfl <;> exact ⟨by decide +kernel, by decide +kernel⟩
/-- the few ints of a row of data -/
structure Few (U : List Int) : Prop where
  le : ∀ i ∈ U, -1 ≤ i ∧ i ≤ 100
  len : U.length ≤ 20
mutual
theorem fine_lay {U : List Int} (hU : Few U) : ∀ d : PyData, fine U d → d.canLay0 = true ∧ d.showable = true ∧ d.intsShort 13 = true ∧ d.hasDict = false ∧ d.weight + 1 ≤ 110 * nd d
  | .none, _ => ⟨rfl, rfl, rfl, rfl, by decide⟩
  | .bool b, _ => ⟨rfl, rfl, rfl, rfl, by simp [PyData.weight, nd]⟩
  | .int i, h => by
    have h : -1 ≤ i ∧ i ≤ 100 := hU.le i h
    have a : i.natAbs ≤ 100 := by omega
    have b := Nat.log2_le_self i.natAbs
    refine ⟨rfl, ?_, ?_, rfl, ?_⟩
    · simp only [PyData.showable, decide_eq_true_eq]; omega
    · simp only [PyData.intsShort, decide_eq_true_eq]; exact PyData.shown_int_le (by omega)
    · simp only [PyData.weight, nd]; split <;> omega
  | .str x, h => by
    have z := okText_lay h
    refine ⟨z.1, rfl, rfl, rfl, ?_⟩
    simp only [PyData.weight, nd]
    omega
  | .list ds, h => by
    have z := fine_layAll hU ds h
    simp only [PyData.canLay0, PyData.showable, PyData.intsShort, PyData.hasDict, PyData.weight, nd]
    refine ⟨z.1, z.2.1, z.2.2.1, z.2.2.2.1, by omega⟩
  | .tuple ds, h => by
    have z := fine_layAll hU ds h
    simp only [PyData.canLay0, PyData.showable, PyData.intsShort, PyData.hasDict, PyData.weight, nd]
    refine ⟨z.1, z.2.1, z.2.2.1, z.2.2.2.1, by omega⟩
  | .dict _, h => h.elim
theorem fine_layAll {U : List Int} (hU : Few U) : ∀ ds : List PyData, fineAll U ds → PyData.canLayAll0 ds = true ∧ PyData.showableAll ds = true ∧ PyData.intsShortAll 13 ds = true ∧ PyData.hasDictAll ds = false ∧ PyData.weightAll ds ≤ 110 * ndAll ds
  | [], _ => ⟨rfl, rfl, rfl, rfl, by decide⟩
  | d :: ds, h => by
    have h : fine U d ∧ fineAll U ds := h
    have a := fine_lay hU d h.1
    have b := fine_layAll hU ds h.2
    simp only [PyData.canLayAll0, PyData.showableAll, PyData.intsShortAll, PyData.hasDictAll, PyData.weightAll, ndAll, Bool.and_eq_true, Bool.or_eq_false_iff]
    exact ⟨⟨a.1, b.1⟩, ⟨a.2.1, b.2.1⟩, ⟨a.2.2.1, b.2.2.1⟩, ⟨a.2.2.2.1, b.2.2.2.1⟩, by omega⟩
end
/-- fine, of at most n nodes, at most k deep -/
structure Good (U : List Int) (n k : Nat) (d : PyData) : Prop where
  fine : fine U d
  nd : nd d ≤ n
  dp : d.depth ≤ k
theorem Good.more {U : List Int} {n k n' k' : Nat} {d : PyData} (h : Good U n k d) (hn : n ≤ n') (hk : k ≤ k') : Good U n' k' d := ⟨h.fine, by have := h.nd; omega, by have := h.dp; omega⟩
theorem Good.ok {U : List Int} (hU : Few U) {n k : Nat} {d : PyData} (h : Good U n k d) (hk : k ≤ 60) : okD d := ⟨(fine_lay hU d h.fine).1, by have := h.dp; omega⟩
theorem Good.shown {U : List Int} (hU : Few U) {n k : Nat} {d : PyData} (h : Good U n k d) (hn : n ≤ 9000) (hk : k ≤ 60) : d.showable = true ∧ d.hasDict = false ∧ d.depth ≤ 64 ∧ d.shown.length ≤ 15728653 := by
  obtain ⟨h1, h2, h3, h4, h5⟩ := fine_lay hU d h.fine
  have n1 := h.nd
  have k1 := h.dp
  refine ⟨h2, h4, by omega, shown_le13 ?_ h3⟩
  unfold PyData.layable0
  rw [h1, decide_eq_true (by omega : d.depth ≤ 64), decide_eq_true (by omega : d.weight ≤ 2 ^ 20)]
  rfl
theorem Good.tup {U : List Int} {n k : Nat} {ds : List PyData} (h : Good U n k (.tuple ds)) : (∀ d ∈ ds, Rp.fine U d) ∧ ndAll ds + 1 ≤ n ∧ ∀ d ∈ ds, d.depth + 1 ≤ k := by
  refine ⟨fineAll_iff.mp h.fine, by simpa [Rp.nd] using h.nd, fun d hd => ?_⟩
  have k1 : PyData.depthAll ds + 1 ≤ k := by simpa [PyData.depth] using h.dp
  have := depthAll_iff.mp (Nat.le_refl (PyData.depthAll ds)) d hd
  omega
theorem Good.lst {U : List Int} {n k : Nat} {ds : List PyData} (h : Good U n k (.list ds)) : (∀ d ∈ ds, Rp.fine U d) ∧ ndAll ds + 1 ≤ n ∧ ∀ d ∈ ds, d.depth + 1 ≤ k := by
  refine ⟨fineAll_iff.mp h.fine, by simpa [Rp.nd] using h.nd, fun d hd => ?_⟩
  have k1 : PyData.depthAll ds + 1 ≤ k := by simpa [PyData.depth] using h.dp
  have := depthAll_iff.mp (Nat.le_refl (PyData.depthAll ds)) d hd
  omega
theorem good_lst {U : List Int} {n k : Nat} {ds : List PyData} (h : ∀ d ∈ ds, fine U d) (hn : ndAll ds + 1 ≤ n) (hk : ∀ d ∈ ds, d.depth + 1 ≤ k) (k1 : 1 ≤ k) : Good U n k (.list ds) := by
  refine ⟨fineAll_iff.mpr h, by simpa [Rp.nd] using hn, ?_⟩
  have : PyData.depthAll ds ≤ k - 1 := depthAll_iff.mpr fun d hd => by have := hk d hd; omega
  simp only [PyData.depth]
  omega
theorem good_tup {U : List Int} {n k : Nat} {ds : List PyData} (h : ∀ d ∈ ds, fine U d) (hn : ndAll ds + 1 ≤ n) (hk : ∀ d ∈ ds, d.depth + 1 ≤ k) (k1 : 1 ≤ k) : Good U n k (.tuple ds) := by
  refine ⟨fineAll_iff.mpr h, by simpa [Rp.nd] using hn, ?_⟩
  have : PyData.depthAll ds ≤ k - 1 := depthAll_iff.mpr fun d hd => by have := hk d hd; omega
  simp only [PyData.depth]
  omega
/-- a TERM's data are good -/
theorem tm_good {U : List Int} : ∀ t : Tm, (∀ n ∈ t.nums, n ∈ U) → Good U (2 * t.size) (t.deep + 1) (tmD t)
  | .v n, h => ⟨h n (by simp [Tm.nums]), by simp [tmD, Rp.nd, Tm.size], by simp [tmD, PyData.depth]⟩
  | .z, _ => ⟨⟨.inr (.inl rfl), trivial⟩, by simp [tmD, Rp.nd, ndAll, Tm.size], by simp [tmD, PyData.depth, PyData.depthAll]⟩
  | .s t, h => by
    have g := tm_good t h
    have h1 := g.nd
    have h2 := g.dp
    unfold tmD
    refine good_tup (fun d hd => ?_) ?_ (fun d hd => ?_) (by omega)
    · simp at hd; rcases hd with rfl | rfl
      · exact .inr (.inr (.inl rfl))
      · exact g.fine
    · simp only [ndAll, Rp.nd, Tm.size]; omega
    · simp at hd; rcases hd with rfl | rfl
      · simp [PyData.depth, Tm.deep]
      · simp only [Tm.deep]; omega
  | .f l r, h => by
    have g := tm_good l fun n hn => h n (by simp [Tm.nums, hn])
    have g' := tm_good r fun n hn => h n (by simp [Tm.nums, hn])
    have h1 := g.nd
    have h2 := g.dp
    have h3 := g'.nd
    have h4 := g'.dp
    unfold tmD
    refine good_tup (fun d hd => ?_) ?_ (fun d hd => ?_) (by omega)
    · simp at hd; rcases hd with rfl | rfl | rfl
      · exact .inr (.inr (.inr (.inl rfl)))
      · exact g.fine
      · exact g'.fine
    · simp only [ndAll, Rp.nd, Tm.size]; omega
    · simp at hd; rcases hd with rfl | rfl | rfl
      · simp [PyData.depth, Tm.deep]
      · simp only [Tm.deep]; omega
      · simp only [Tm.deep]; omega
/-- ints of a TERM among the data's -/
theorem tm_fine {U : List Int} : ∀ t : Tm, fine U (tmD t) → ∀ n ∈ t.nums, n ∈ U
  | .v n, h, m, hm => by simp [Tm.nums] at hm; subst hm; exact h
  | .z, h, m, hm => by simp [Tm.nums] at hm
  | .s t, h, m, hm => tm_fine t h.2.1 m hm
  | .f l r, h, m, hm => by
    rcases List.mem_append.mp hm with q | q
    · exact tm_fine l h.2.1 m q
    · exact tm_fine r h.2.2.1 m q
theorem nodup_le : ∀ {L U : List Int}, L.Nodup → (∀ k ∈ L, k ∈ U) → L.length ≤ U.length
  | [], U, _, _ => Nat.zero_le _
  | x :: L, U, h, hs => by
    rw [List.nodup_cons] at h
    have hx := hs x (by simp)
    have := nodup_le (L := L) (U := U.erase x) h.2 fun k hk => (List.mem_erase_of_ne (fun e => h.1 (by rw [← e]; exact hk))).mpr (hs k (by simp [hk]))
    rw [List.length_erase_of_mem hx] at this
    have := List.length_pos_of_mem hx
    rw [List.length_cons]
    omega
/-- the other way: a TERM's data tell its size -/
theorem tm_size : ∀ t : Tm, t.size ≤ nd (tmD t) ∧ t.deep ≤ (tmD t).depth
  | .v n => ⟨by simp [tmD, nd, Tm.size], by simp [Tm.deep]⟩
  | .z => ⟨by simp [tmD, nd, Tm.size], by simp [Tm.deep]⟩
  | .s t => by
    have := tm_size t
    simp only [tmD, nd, ndAll, Tm.size, Tm.deep, PyData.depth, PyData.depthAll]
    omega
  | .f l r => by
    have := tm_size l
    have := tm_size r
    simp only [tmD, nd, ndAll, Tm.size, Tm.deep, PyData.depth, PyData.depthAll]
    omega
end Rp

/-! xs[a:] = ys, ys another list: what the layer has no statement of. -/
namespace Rp
open PySem PySem.Spec PyProof.Rows L2
theorem tail_bounds {k n : Nat} (h : k ≤ n) : sliceBounds (some (k : Int)) none none n = ((k : Int), (n : Int), 1) := by
  simp only [sliceBounds, Option.getD_none, show ¬ ((k : Int) < 0) by omega, if_false, show (1 : Int) > 0 by decide, if_true]
  congr 1
  · omega
theorem tail_items (old fresh : List Value) (k : Nat) : old.toArray.extract 0 k ++ fresh.toArray ++ old.toArray.extract old.toArray.size old.toArray.size = (old.take k ++ fresh).toArray := by
  apply Array.toList_inj.mp
  simp
section
variable {prog : Program} {w : World} {A : Around} {E : Value → Shared → Prop} {s : Shared}
theorem store_tail {at_ src cut : Addr} {old fresh : Array Value} {n1 n2 : Nat} {vlo : Value} {k : Nat} {Q : Unit → Shared → Prop} (oe : s.heap.get? at_ = some { cls := .type "list", data := .seq old n1 })
    (fe : s.heap.get? src = some { cls := .type "list", data := .seq fresh n2 }) (apart : at_ ≠ src) (isCut : s.heap.IsSliceOf cut vlo .none .none) (pLo : IsPart vlo (some (k : Int))) (hk : k ≤ old.size) (room : old.size + fresh.size ≤ sizeLine)
    (go : Q () { s with heap := s.heap.update at_ (Obj.mapSeq fun xs => xs.extract 0 k ++ fresh ++ xs.extract old.size xs.size) }) : wpAny (model prog w) A (setItem (.ref at_) (.ref cut) (.ref src)) Q E s := by
  have lstIs : s.heap.IsList at_ old := PySem.IsL.isList oe
  have srcIs : s.heap.IsList src fresh := PySem.IsL.isList fe
  obtain ⟨oc, hoc, hcc, hdc⟩ := id isCut
  have cutIs : s.TypeIs (.ref cut) "slice" := ⟨oc, hoc, hcc⟩
  have noStep : ¬ ((rawPart none == rawInt 0) = true) := Bool.false_ne_true
  have other : Builtin.List.listSameRef (.ref at_) (.ref src) = false := by unfold Builtin.List.listSameRef; exact beq_eq_false_iff_ne.mpr apart
  have bound : ((fun xs : Array Value => xs.extract 0 k ++ fresh ++ xs.extract old.size xs.size) old).size ≤ sizeLine + 1 := by simp only [Array.size_append, Array.size_extract]; omega
  unfold setItem; try with_reducible refine wpAny_holding ?_
  first | refine wpAny_bind (wpAny_pure ?_) | skip
  refine wpAny_bind (wpAny_sequenceKey lstIs.typeIs (by decide) (wpAny_bind (wpAny_callSpecial?_slot (name := Str.ofString "__setitem__") lstIs.typeIs slot_list_setitem (wpAny_call_entry slot_list_setitem lstIs.typeIs entry_list_setitem ?_ (args_list_setitem _ _ _)))))
  show wpAny _ _ (Builtin.List.listSubscript? (.ref cut) >>= _) _ _ s
  refine wpAny_bind ?_; unfold Builtin.List.listSubscript?
  refine wpAny_bind (wpAny_specialOf cutIs slice_no_index ?_); simp only [Option.isNone_none, if_true]
  refine wpAny_pure ?_; show wpAny _ _ (typeOf (.ref cut) >>= _) _ _ s
  refine wpAny_bind (wpAny_typeOf cutIs ?_)
  first | rw [if_neg (by decide)] | refine PySem.W.KFB.if_not (by decide) ?_
  rw [listSliceParts_eq]; refine wpAny_bind (wpAny_bind (wpAny_field hoc hdc (x := .none) rfl (wpAny_bind (wpAny_listPart .none ?_))))
  rw [if_neg noStep]; refine wpAny_bind (wpAny_field hoc hdc (x := vlo) rfl (wpAny_bind (wpAny_listPart pLo ?_)))
  refine wpAny_bind (wpAny_field hoc hdc (x := .none) rfl (wpAny_bind (wpAny_listPart .none (wpAny_pure ?_))))
  first | simp only [other, Bool.false_eq_true, if_false] | refine PySem.W.KFB.if_not other ?_ | (dsimp only; rw [if_neg (by rw [other]; exact Bool.false_ne_true)])
  refine wpAny_bind (m := Builtin.List.listAllItems (.ref src) "must assign iterable to extended slice") ?_; unfold Builtin.List.listAllItems
  refine wpAny_bind (wpAny_typeOf srcIs.typeIs ?_)
  first | refine PySem.W.KFB.if_so (by decide) ?_ | rw [if_pos (by decide)] | simp only [beq_self_eq_true, Bool.true_or, if_true]
  unfold Builtin.List.listItems; refine wpAny_bind (wpAny_seqItems fe rfl (wpAny_pure ?_))
  refine wpAny_bind (wpAny_bind (wpAny_seqItems oe rfl (wpAny_pure ?_)))
  refine wpAny_bind (wpAny_of_eq ((sliceIndices_raw (some (k : Int)) none none old.size (by simp)).trans (congrArg (pure : Int × Int × Int → Sem (Int × Int × Int)) (tail_bounds hk))) ?_)
  show wpAny _ _ (if ((1 : Int) == 1) = true then _ else _) _ _ s; rw [if_pos (by decide)]
  refine wpAny_bind (wpAny_rule ?_); have small := notLongL room
  first | simp only [small, Bool.false_eq_true, if_false] | refine PySem.W.KFB.if_not small ?_
  first | refine wpAny_bind (wpAny_pure ?_) | skip
  show wpAny _ _ (updateSeq at_ (fun xs => xs.extract 0 ((k : Int)).toNat ++ fresh ++ xs.extract (max (k : Int) (old.size : Int)).toNat xs.size) >>= _) _ _ s
  rw [show (max (k : Int) (old.size : Int)).toNat = old.size by omega, Int.toNat_natCast]
  refine wpAny_bind (wpAny_updateSeq (hz := Nat.le_trans (Nat.le_add_right _ _) room) (_hz' := bound) oe rfl (wpAny_bind (wpAny_letGo ?_)))
  first | exact wpAny_bind (wpAny_pure (wpAny_pure ⟨.none, rfl, wpAny_pure go⟩)) | exact wpAny_pure ⟨.none, rfl, wpAny_pure go⟩
end
/-- xs[a:] = ys -/
def tTail (to : TE) (ta : TO) (tv : TE) : TS := fun D σ H => tv σ H fun y H1 => to σ H1 fun x H2 => ta σ H2 fun i H3 => ∃ (l b : Addr) (xs ys : List V) (k : Nat), y = .ref b ∧ x = .ref l ∧ i = some (k : Int) ∧ H3 l = some (.lst xs) ∧ H3 b = some (.lst ys) ∧ l ≠ b ∧ k ≤ xs.length ∧ xs.length + ys.length ≤ sizeLine ∧
  D.nx σ (upd H3 l (.lst (xs.take k ++ ys)))
section
variable {X : Cx} {o e value : Expr} {pos pos' p2 : Pos} {td tv : TE} {ta : TO}
theorem ps_tail (ho : PE X o td) (hi : PO X (some e) ta) (hv : PE X value tv) (hs : swapsWith value (some (.Subscript o (.Slice (some e) none none p2) pos')) pos.line X.env = pure false := by rfl) :
    PS X (.Assign [.Subscript o (.Slice (some e) none none p2) pos'] value pos) (tTail td ta tv) := by
  refine ⟨fun pins s σ H D I h => wpAny_Assign_Subscript (thn (hv.run pins s σ H _ I h) fun r s1 ⟨v, H1, I1, rv, q1⟩ => thn (ho.run pins s1 σ H1 _ I1 q1) fun u s2 ⟨x, H2, I2, rx, q2⟩ => ?_) hs⟩
  refine wpAny_Slice (thn (hi.run pins s2 σ H2 _ I2 q2) fun vl s3 ⟨i, H3, I3, pl, q3⟩ => ?_)
  obtain ⟨l, b, xs, ys, k, rfl, rfl, rfl, hl, hb, ne, hk, room, go⟩ := q3
  rw [evalPart_none]
  refine wpAny_pure (wpAny_pure ?_)
  cases rv
  cases rx
  have I4 : Inv X pins σ H3 { s3 with heap := s3.heap.push { cls := .type "slice", data := .fields #[vl, .none, .none] } } := I3.kept (t' := s3.toks) fun c ob w => Heap.get?_push_of_some _ w
  obtain ⟨_, old, n1, ro, lo, oe⟩ := I4.lstM hl
  obtain ⟨_, fresh, n2, rf, lf, fe⟩ := I4.lstM hb
  refine store_tail (k := k) oe fe ne (Heap.IsSliceOf.new ..) pl (by rw [List.size_toArray]; omega) (by rw [List.size_toArray, List.size_toArray]; omega) ?_
  refine ⟨σ, _, I4.lset (its' := old.take k ++ fresh) (t' := s3.toks) hl oe ?_ (Vals.append (ro.take _) rf) ?_, go⟩
  · exact tail_items old fresh k
  · rw [List.length_append, List.length_take]; omega
end
end Rp

set_option maxHeartbeats 8000000
/-! is_binding over data of any kind. -/
namespace Rp
open PySem PySem.Spec PyProof.Rows L2 TL RZ
/-- [.. for a, b in zip(xs, ys)], n turns -/
theorem lc_pairsN {J : It} {n : Nat} {xs ys : List V} {g : TG} {tt : TT} {te : TE} {vs : List Nat} {σ : L2.St} {H1 : Hp} {D : Addr} {Qd : Hp → Prop} (Pv : Nat → Hp → Prop)
    (stops : ∀ H, Pv n H → J.stop n H) (goes : ∀ i H, i < n → Pv i H → J.go i H)
    (gives : ∀ i H v H', i < n → Pv i H → J.yld i H v H' → ∃ T x y, v = .ref T ∧ xs[i]? = some x ∧ ys[i]? = some y ∧ H T = none ∧ H' = upd H T (.tup [x, y]))
    (h0 : Pv 0 (upd H1 D (.lst [])))
    (hs : ∀ (i : Nat) (x y : V) (T : Addr) (H : Hp), i < n → xs[i]? = some x → ys[i]? = some y → Pv i H → H T = none → g (.ref T) (wipe σ vs) (upd H T (.tup [x, y])) fun σ2 H2 => wipe σ2 vs = wipe σ vs ∧
      tt σ2 H2 fun b H3 => if b = true then te σ2 H3 fun y H4 => ∃ acc, H4 D = some (.lst acc) ∧ acc.length < sizeLine ∧ Pv (i + 1) (upd H4 D (.lst (acc ++ [y]))) else Pv (i + 1) H3)
    (hd : ∀ H, Pv n H → Qd H) :
    ∃ W : Nat → Nat → Hp → Prop, (∃ m, W 0 m (upd H1 D (.lst []))) ∧ ∀ i m H, W i m H → (J.stop i H ∧ Qd H) ∨
      (J.go i H ∧ ∃ Nx : Hp → Prop, (∀ H', Nx H' → ∃ m', m' < m ∧ W (i + 1) m' H') ∧ ∀ x H', J.yld i H x H' → g x (wipe σ vs) H' fun σ2 H2 => wipe σ2 vs = wipe σ vs ∧
        tt σ2 H2 fun b H3 => if b = true then te σ2 H3 fun y H4 => ∃ acc, H4 D = some (.lst acc) ∧ acc.length < sizeLine ∧ Nx (upd H4 D (.lst (acc ++ [y]))) else Nx H3) := by
  refine ⟨fun i m H => m + i = n ∧ Pv i H, ⟨n, by simp, h0⟩, ?_⟩
  rintro i m H ⟨em, p⟩
  rcases Nat.lt_or_ge i n with lt | ge
  · refine .inr ⟨goes i H lt p, Pv (i + 1), fun H' p' => ⟨m - 1, by omega, by omega, p'⟩, fun v H' y => ?_⟩
    obtain ⟨T, x, y', rfl, hx, hy, hT, rfl⟩ := gives i H v H' lt p y
    exact hs i x y' T H lt hx hy p hT
  · have e : i = n := by omega
    subst e
    exact .inl ⟨stops H p, hd H p⟩
def IsPr (d : PyData) : Prop := ∃ (n : Int) (e : PyData), d = .tuple [.int n, e] ∧ 0 ≤ n ∧ n ≤ 99 ∧ IsT e
def keyD : PyData → Int
  | .tuple (.int n :: _) => n
  | _ => 0
def adjB (ks : List Int) : Bool := (List.range (ks.length - 1)).all fun j => decide (ks.getD j 0 < ks.getD (j + 1) 0)
def IsBdD (d : PyData) : Prop := ∃ ds : List PyData, d = .tuple ds ∧ (∀ e ∈ ds, IsPr e) ∧ adjB (ds.map keyD) = true
def spIsPr : Sp := fun vs H Q _ => ∃ (b : Addr) (v : V) (d : PyData), vs = [v] ∧ DAt H b v d ∧ okD d ∧ nd d ≤ 1000 ∧ ∀ (r : Bool) (H' : Hp), (r = true ↔ IsPr d) → Same H H' → Q (.bl r) H'
def spIsBd : Sp := fun vs H Q _ => ∃ (b : Addr) (v : V) (d : PyData), vs = [v] ∧ DAt H b v d ∧ okD d ∧ nd d ≤ 1000 ∧ ∀ (r : Bool) (H' : Hp), (r = true ↔ IsBdD d) → Same H H' → Q (.bl r) H'
theorem nd_mem {ds : List PyData} {e : PyData} (h : e ∈ ds) : nd e ≤ nd (.tuple ds) := by
  have := ndAll_mem h
  simp only [nd]; omega
theorem isPr_two {ds : List PyData} (h : ds.length ≠ 2) : ¬ IsPr (.tuple ds) := fun ⟨n, e, z, _⟩ => by
  injection z with z
  subst z
  exact h rfl
theorem isVar_num {d : PyData} : isVar d = true ↔ ∃ n : Int, d = .int n ∧ 0 ≤ n ∧ n ≤ 99 := by
  cases d <;> simp [isVar]
theorem ndAll_le {ds : List PyData} : ds.length ≤ nd (.tuple ds) := by have := ndAll_len ds; simp only [nd]; omega
end Rp

set_option maxHeartbeats 8000000
/-! NAMEs over data of any kind. -/
namespace Rp
open PySem PySem.Spec PyProof.Rows L2 TL RZ
def letters : Str := "abcdefghijklmnopqrstuvwxyz"
structure NameOk (x : Str) : Prop where
  pos : 1 ≤ x.length
  few : x.length ≤ 6
  low : ∀ c ∈ tl x, 97 ≤ c ∧ c ≤ 122
  nif : x ≠ "if"
theorem letters_iff {c : Nat} : c ∈ letters.cps.toList ↔ 97 ≤ c ∧ c ≤ 122 := by
  have e : letters.cps.toList = (List.range 26).map (· + 97) := by decide +kernel
  rw [e, List.mem_map]
  constructor
  · rintro ⟨k, hk, rfl⟩
    have := List.mem_range.mp hk
    omega
  · intro h
    exact ⟨c - 97, List.mem_range.mpr (by omega), by omega⟩
def lowB (x : Str) : Bool := (tl x).all fun c => decide (c ∈ letters.cps.toList)
theorem lowB_iff {x : Str} : lowB x = true ↔ ∀ c ∈ tl x, 97 ≤ c ∧ c ≤ 122 := by
  unfold lowB
  rw [List.all_eq_true]
  exact ⟨fun h c hc => letters_iff.mp (of_decide_eq_true (h c hc)), fun h c hc => decide_eq_true (letters_iff.mpr (h c hc))⟩
def IsNm (d : PyData) : Prop := ∃ x, d = .str x ∧ NameOk x
theorem isNm_str {x : Str} : IsNm (.str x) ↔ NameOk x := ⟨fun ⟨y, e, h⟩ => by injection e with e; subst e; exact h, fun h => ⟨x, rfl, h⟩⟩
def spIsNm : Sp := fun vs H Q _ => ∃ (b : Addr) (v : V) (d : PyData), vs = [v] ∧ DAt H b v d ∧ (∀ x, d = .str x → x.length ≤ 1000) ∧ ∀ (r : Bool) (H' : Hp), (r = true ↔ IsNm d) → Same H H' → Q (.bl r) H'
section
variable {P : Program} {w : World} {K : PySem.W.Frag} {mg : Str → Option Value} {base : Heap}
end
end Rp

set_option maxHeartbeats 8000000
/-! all([pred(x) for x in tuple]) over data; ATOMs over data of any kind. -/
namespace Rp
open PySem PySem.Spec PyProof.Rows L2 TL RZ
theorem wipe_one {σ : L2.St} {n : Nat} {x : Option V} : wipe ((wipe σ [n]).set n x) [n] = wipe σ [n] := by
  show ((σ.set n none).set n x).set n none = σ.set n none
  rw [List.set_set, List.set_set]
theorem lc_pred {K : PySem.W.Frag} {a b D : Addr} {xs : List V} {ds : List PyData} {Pd : PyData → Prop} {sp : Sp} {n : Nat} {σ : L2.St} {H1 : Hp} {Qd : Hp → Prop} (hn : n < σ.length) (hD : H1 D = none) (ha : TupAt H1 a xs) (A : DAtAll H1 b xs ds) (few : xs.length ≤ 1000)
    (call : ∀ (x : V) (e : PyData) (H2 : Hp) (Q : VK), e ∈ ds → DAt H2 b x e → Same H1 H2 → (∀ (r : Bool) (H3 : Hp), (r = true ↔ Pd e) → Same H2 H3 → Q (.bl r) H3) → sp [x] H2 Q E0)
    (go : ∀ (bs : List Bool) (H2 : Hp), H2 D = some (.lst (bs.map V.bl)) → (bs.all id = true ↔ ∀ e ∈ ds, Pd e) → Same H1 H2 → Qd H2) :
    ∃ W : Nat → Nat → Hp → Prop, (∃ m, W 0 m (upd H1 D (.lst []))) ∧ ∀ i m H, W i m H →
      ((Itt K a).stop i H ∧ Qd H) ∨ ((Itt K a).go i H ∧ ∃ Nx : Hp → Prop, (∀ H', Nx H' → ∃ m', m' < m ∧ W (i + 1) m' H') ∧ ∀ x H', (Itt K a).yld i H x H' → gName n x (wipe σ [n]) H' fun σ2 H2 => wipe σ2 [n] = wipe σ [n] ∧ tYes σ2 H2 fun b H3 =>
        if b = true then tCall sp [] E0 (tCons (tVar n) tNil) σ2 H3 fun y H4 => ∃ acc, H4 D = some (.lst acc) ∧ acc.length < sizeLine ∧ Nx (upd H4 D (.lst (acc ++ [y]))) else Nx H3) := by
  have big : (2000 : Nat) ≤ sizeLine := by decide
  have el := A.len
  refine lc_tup (K := K) (a := a) (xs := xs) (fun i H2 => ∃ bs : List Bool, H2 D = some (.lst (bs.map V.bl)) ∧ bs.length = i ∧ (∀ (j : Nat) (r : Bool) (e : PyData), bs[j]? = some r → ds[j]? = some e → (r = true ↔ Pd e)) ∧ Same H1 H2)
    ⟨[], upd_same, rfl, fun j r e z => by simp at z, same_new hD _⟩ (fun i H2 _ ⟨_, _, _, _, s⟩ => .inl (ha.same s)) ?_ ?_
  · rintro i x H2 hi ⟨bs, h2, lb, each, s2⟩
    obtain ⟨e, he, De⟩ := A.get hi
    have em := List.mem_of_getElem? he
    have li : i < ds.length := (List.getElem?_eq_some_iff.mp he).1
    refine ⟨wipe_one, ?_⟩
    refine ⟨x, ?_, call x e H2 _ em (De.same s2) s2 fun r H3 hr3 s3 => ?_⟩
    · rw [List.getElem?_set_self (by rw [wipe_length]; exact hn)]
    refine ⟨_, s3 _ _ h2, by rw [List.length_map]; omega, bs ++ [r], by rw [upd_same, List.map_append]; rfl, by rw [List.length_append, lb]; rfl, fun j r' e' h1 h3 => ?_, fun c o z => by rw [upd_ne (ne_of_none z hD)]; exact s3 _ _ (s2 _ _ z)⟩
    rcases Nat.lt_or_ge j bs.length with h | h
    · rw [List.getElem?_append_left h] at h1; exact each j r' e' h1 h3
    · rw [List.getElem?_append_right h] at h1
      have jl : j = i := by
        have := (List.getElem?_eq_some_iff.mp h1).1
        simp at this; omega
      subst jl
      rw [lb, Nat.sub_self] at h1
      simp at h1
      rw [he] at h3
      cases h3
      rw [← h1]; exact hr3
  · rintro H2 ⟨bs, h2, lb, each, s2⟩
    refine go bs H2 h2 ?_ s2
    rw [List.all_eq_true]
    constructor
    · intro h e he
      obtain ⟨j, hj⟩ := List.mem_iff_getElem?.mp he
      have lj : j < bs.length := by have := (List.getElem?_eq_some_iff.mp hj).1; omega
      exact (each j bs[j] e (List.getElem?_eq_getElem lj) hj).mp (h _ (List.getElem_mem lj))
    · intro h r hr
      obtain ⟨j, hj⟩ := List.mem_iff_getElem?.mp hr
      have lj : j < ds.length := by have := (List.getElem?_eq_some_iff.mp hj).1; omega
      exact (each j r ds[j] hj (List.getElem?_eq_getElem lj)).mpr (h _ (List.getElem_mem lj))
def IsAm (d : PyData) : Prop := ∃ (x : Str) (es : List PyData), d = .tuple (.str x :: es) ∧ NameOk x ∧ 1 ≤ es.length ∧ es.length ≤ 2 ∧ ∀ e ∈ es, IsT e
theorem isAm_cons {d0 : PyData} {es : List PyData} : IsAm (.tuple (d0 :: es)) ↔ IsNm d0 ∧ 1 ≤ es.length ∧ es.length ≤ 2 ∧ ∀ e ∈ es, IsT e :=
  ⟨fun ⟨x, fs, e, h1, h⟩ => by injection e with e; injection e with e1 e2; subst e1 e2; exact ⟨⟨x, rfl, h1⟩, h⟩, fun ⟨⟨x, e, h1⟩, h⟩ => ⟨x, es, by rw [e], h1, h⟩⟩
theorem isAm_len {ds : List PyData} (h : ¬ (2 ≤ ds.length ∧ ds.length ≤ 3)) : ¬ IsAm (.tuple ds) := fun ⟨x, fs, e, _, h1, h2, _⟩ => by
  injection e with e
  subst e
  rw [List.length_cons] at h
  omega
/-- texts among data are not too long -/
def okS (d : PyData) : Prop := okD d ∧ nd d ≤ 1000
def spIsAm : Sp := fun vs H Q _ => ∃ (b : Addr) (v : V) (d : PyData), vs = [v] ∧ DAt H b v d ∧ okD d ∧ nd d ≤ 1000 ∧ (∀ x ds, d = .tuple (.str x :: ds) → x.length ≤ 1000) ∧ ∀ (r : Bool) (H' : Hp), (r = true ↔ IsAm d) → Same H H' → Q (.bl r) H'
section
variable {P : Program} {w : World} {K : PySem.W.Frag} {mg : Str → Option Value} {base : Heap}
end
end Rp

set_option maxHeartbeats 8000000
/-! ATOMs as a type; unlike and SAYINGs over data of any kind. -/
namespace Rp
open PySem PySem.Spec PyProof.Rows L2 TL RZ
def Tm.small (t : Tm) : Prop := ∀ n ∈ t.nums, 0 ≤ n ∧ n ≤ 99
structure At where
  nm : Str
  ts : List Tm
  deriving DecidableEq
structure AtOk (z : Nat) (a : At) : Prop where
  nm : NameOk a.nm
  one : 1 ≤ a.ts.length
  two : a.ts.length ≤ 2
  sm : ∀ t ∈ a.ts, t.small ∧ t.size ≤ z
def AtAt (H : Hp) (v : V) (a : At) : Prop := ∃ (p : Addr) (xs : List V), v = .ref p ∧ H p = some (.tup (.str a.nm :: xs)) ∧ AllAt H xs a.ts
def atD (a : At) : PyData := .tuple (.str a.nm :: a.ts.map tmD)
structure AmOk (a : At) : Prop where
  nm : NameOk a.nm
  one : 1 ≤ a.ts.length
  two : a.ts.length ≤ 2
  sm : ∀ t ∈ a.ts, t.small
theorem tms_of : ∀ {es : List PyData}, (∀ e ∈ es, IsT e) → ∃ ts : List Tm, es = ts.map tmD ∧ ∀ t ∈ ts, t.small
  | [], _ => ⟨[], rfl, by simp⟩
  | e :: es, h => by
    obtain ⟨t, rfl, h1⟩ := h e (by simp)
    obtain ⟨ts, rfl, h2⟩ := tms_of (es := es) fun x hx => h x (by simp [hx])
    exact ⟨t :: ts, rfl, fun u hu => by rcases List.mem_cons.mp hu with rfl | hu; exact h1; exact h2 u hu⟩
theorem isAm_at {d : PyData} : IsAm d ↔ ∃ a, d = atD a ∧ AmOk a := by
  constructor
  · rintro ⟨x, es, rfl, h1, h2, h3, h4⟩
    obtain ⟨ts, rfl, h5⟩ := tms_of h4
    rw [List.length_map] at h2 h3
    exact ⟨⟨x, ts⟩, rfl, ⟨h1, h2, h3, h5⟩⟩
  · rintro ⟨a, rfl, h⟩
    refine ⟨a.nm, _, rfl, h.nm, by rw [List.length_map]; exact h.one, by rw [List.length_map]; exact h.two, fun e he => ?_⟩
    obtain ⟨t, ht, rfl⟩ := List.mem_map.mp he
    exact ⟨t, rfl, h.sm t ht⟩
theorem ats_of : ∀ {ds : List PyData}, (∀ d ∈ ds, IsAm d) → ∃ as : List At, ds = as.map atD ∧ ∀ a ∈ as, AmOk a
  | [], _ => ⟨[], rfl, by simp⟩
  | d :: ds, h => by
    obtain ⟨a, rfl, h1⟩ := isAm_at.mp (h d (by simp))
    obtain ⟨as, rfl, h2⟩ := ats_of (ds := ds) fun x hx => h x (by simp [hx])
    exact ⟨a :: as, rfl, fun u hu => by rcases List.mem_cons.mp hu with rfl | hu; exact h1; exact h2 u hu⟩
theorem eqv_tm : ∀ {a b : Tm}, PyData.eqv (tmD a) (tmD b) = true ↔ a = b := by
  have n0s : ("0" : Str) ≠ "s" := by decide +kernel
  have n0f : ("0" : Str) ≠ "f" := by decide +kernel
  have nsf : ("s" : Str) ≠ "f" := by decide +kernel
  intro a
  induction a with
  | v n => intro b; cases b <;> simp [tmD, PyData.eqv]
  | z => intro b; cases b <;> simp [tmD, PyData.eqv, PyData.eqvAll]
  | s t ih =>
    intro b
    cases b with
    | s t' => simp only [tmD]; rw [eqv_tup, eqvAll_cons, eqvAll_cons, eqvAll_nil]; simp [PyData.eqv, ih]
    | _ => simp [tmD, PyData.eqv, PyData.eqvAll]
  | f l r ih1 ih2 =>
    intro b
    cases b with
    | f l' r' => simp only [tmD]; rw [eqv_tup, eqvAll_cons, eqvAll_cons, eqvAll_cons, eqvAll_nil]; simp [PyData.eqv, ih1, ih2]
    | _ => simp [tmD, PyData.eqv, PyData.eqvAll]
theorem eqv_tms : ∀ {ts us : List Tm}, PyData.eqvAll (ts.map tmD) (us.map tmD) = true ↔ ts = us
  | [], [] => by simp [PyData.eqvAll]
  | [], _ :: _ => by simp [PyData.eqvAll]
  | _ :: _, [] => by simp [PyData.eqvAll]
  | t :: ts, u :: us => by rw [List.map_cons, List.map_cons, eqvAll_cons, Bool.and_eq_true, eqv_tm, eqv_tms]; simp
theorem eqv_at {a b : At} : PyData.eqv (atD a) (atD b) = true ↔ a = b := by
  unfold atD
  rw [eqv_tup, eqvAll_cons, Bool.and_eq_true, eqv_tms]
  cases a; cases b
  simp [PyData.eqv]
theorem in_ats {as : List At} {a : At} : (as.map atD).any (fun z => PyData.eqv z (atD a)) = decide (a ∈ as) := by
  rw [Bool.eq_iff_iff, List.any_eq_true, decide_eq_true_iff]
  constructor
  · rintro ⟨d, hd, e⟩
    obtain ⟨b, hb, rfl⟩ := List.mem_map.mp hd
    rw [eqv_at] at e
    rw [← e]; exact hb
  · intro h
    exact ⟨_, List.mem_map.mpr ⟨a, h, rfl⟩, eqv_at.mpr rfl⟩
/-- of alike ones the first kept -/
def unlG (acc : List At) (as : List At) : List At := as.foldl (fun acc a => if a ∈ acc then acc else acc ++ [a]) acc
def unl (as : List At) : List At := unlG [] as
theorem unlG_le : ∀ {as acc : List At}, (unlG acc as).length ≤ acc.length + as.length
  | [], acc => Nat.le_refl _
  | a :: as, acc => by
    have h := unlG_le (as := as) (acc := if a ∈ acc then acc else acc ++ [a])
    have e : unlG acc (a :: as) = unlG (if a ∈ acc then acc else acc ++ [a]) as := rfl
    rw [e]
    split at h <;> simp at h ⊢ <;> simp [*] <;> omega
theorem unlG_len : ∀ {as acc : List At}, (unlG acc as).length = acc.length + as.length ↔ (∀ a ∈ as, a ∉ acc) ∧ as.Nodup
  | [], acc => by simp [unlG]
  | a :: as, acc => by
    have e : unlG acc (a :: as) = unlG (if a ∈ acc then acc else acc ++ [a]) as := rfl
    rw [e]
    by_cases h : a ∈ acc
    · have l := unlG_le (as := as) (acc := acc)
      rw [if_pos h]
      constructor
      · intro z; simp at z; omega
      · intro z; exact absurd h (z.1 a (by simp))
    · rw [if_neg h]
      have ih := unlG_len (as := as) (acc := acc ++ [a])
      rw [List.length_append, List.length_singleton] at ih
      rw [List.length_cons, show acc.length + (as.length + 1) = acc.length + 1 + as.length by omega, ih, List.nodup_cons]
      constructor
      · intro z
        refine ⟨fun x hx => ?_, fun hm => ?_, z.2⟩
        · rcases List.mem_cons.mp hx with rfl | hx
          · exact h
          · exact fun hm => z.1 x hx (by simp [hm])
        · exact z.1 a hm (by simp)
      · rintro ⟨z1, z2, z3⟩
        refine ⟨fun x hx hm => ?_, z3⟩
        rcases List.mem_append.mp hm with hm | hm
        · exact z1 x (by simp [hx]) hm
        · obtain rfl : x = a := by simpa using hm
          exact z2 hx
theorem unl_len {as : List At} : (unl as).length = as.length ↔ as.Nodup := by
  have := unlG_len (as := as) (acc := [])
  simp at this
  exact this
theorem unl_le {as : List At} : (unl as).length ≤ as.length := by
  have := unlG_le (as := as) (acc := [])
  simp at this
  exact this
theorem unl_snoc {as : List At} {a : At} : unl (as ++ [a]) = if a ∈ unl as then unl as else unl as ++ [a] := by
  unfold unl unlG
  rw [List.foldl_append]
  rfl
theorem mem_unlG : ∀ {as acc : List At} {x : At}, x ∈ unlG acc as → x ∈ acc ∨ x ∈ as
  | [], acc, x, h => .inl h
  | a :: as, acc, x, h => by
    have e : unlG acc (a :: as) = unlG (if a ∈ acc then acc else acc ++ [a]) as := rfl
    rw [e] at h
    rcases mem_unlG h with h | h
    · split at h
      · exact .inl h
      · rcases List.mem_append.mp h with h | h
        · exact .inl h
        · exact .inr (by simp at h; simp [h])
    · exact .inr (by simp [h])
theorem mem_unl {as : List At} {x : At} (h : x ∈ unl as) : x ∈ as := by
  rcases mem_unlG h with h | h
  · simp at h
  · exact h
/-- all of some data that may be laid -/
theorem lay_all {k : Nat} : ∀ {ds : List PyData}, (∀ d ∈ ds, d.canLay0 = true ∧ d.depth ≤ k) → PyData.canLayAll0 ds = true ∧ PyData.depthAll ds ≤ k
  | [], _ => ⟨rfl, Nat.zero_le _⟩
  | d :: ds, h => by
    have ih := lay_all (ds := ds) fun x hx => h x (by simp [hx])
    have z := h d (by simp)
    simp only [PyData.canLayAll0, PyData.depthAll, z.1, ih.1]
    exact ⟨rfl, by omega⟩
theorem lay_list {ds : List PyData} (h : ∀ d ∈ ds, okD d) : SeqAt.shaped (.list ds) = true := by
  have z := lay_all h
  refine shaped_of ?_ ?_
  · show PyData.canLayAll0 _ = true
    exact z.1
  · show PyData.depthAll _ + 1 ≤ 64
    omega
def spUnl : Sp := fun vs H Q _ => ∃ (b q : Addr) (xs : List V) (as : List At), vs = [.ref q] ∧ TupAt H q xs ∧ DAtAll H b xs (as.map atD) ∧ (∀ a ∈ as, okD (atD a)) ∧ as.length ≤ 1000 ∧ ∀ (p : Addr) (ys : List V) (H' : Hp), H' p = some (.tup ys) → DAtAll H' b ys ((unl as).map atD) → Same H H' → Q (.ref p) H'
section
variable {P : Program} {w : World} {K : PySem.W.Frag} {mg : Str → Option Value} {base : Heap}
end
end Rp

/-! a, *b = xs, a list of one item at least. -/
namespace Rp
open PySem PySem.Spec PySem.Calls PyProof.Rows L2 PySem.W
section
variable {prog : Program} {w : World} {A : Around} {E : Value → Shared → Prop} {s : Shared}
theorem unpack_star {l : Addr} {items : Array Value} {n i : Nat} {Q : List Value → Shared → Prop} (isL : s.heap.IsList l items) (calm : A.handled = none) (hi : i < n) (hn : n ≤ items.size + 1) (few : items.size ≤ 16384)
    (go : ∀ (h' : Heap) (tk : Nat), (∀ b o, s.heap.get? b = some o → h'.get? b = some o) → Q (items.toList.take i ++ [.ref h'.objs.size] ++ (items.toList.drop i).drop (items.size + 1 - n))
      { s with heap := h'.push (seqObj "list" ((items.toList.drop i).take (items.size + 1 - n)).toArray 0), toks := tk }) : wpAny (model prog w) A (unpackItems (.ref l) n (some i)) Q E s := by
  have apart : l ≠ s.heap.objs.size := by obtain ⟨o, ho, _⟩ := isL; exact Nat.ne_of_lt (Heap.lt_size ho)
  unfold unpackItems; refine wpAny_bind ?_; unfold notIterableAtAll
  refine wpAny_bind (wpAny_specialOf isL.typeIs slot_list_iter.lookup (wpAny_pure ?_)); simp only [Bool.false_eq_true, if_false]
  refine wpAny_bind (wpAny_holding (wpAny_pyIter_list isL (wpAny_bind (wpAny_holding (kun_draw apart i 0 _ _ ⟨_, Heap.get?_push_size _ rfl, rfl, rfl⟩ (isL.push _) (by omega) fun h₁ it1 sb1 => ?_)))))
  have isL1 : h₁.IsList l items := (isL.push _).extBut sb1.extBut apart
  rw [Nat.zero_add] at it1
  obtain ⟨oi, hoi, _⟩ := id it1
  obtain ⟨ol, hol, _⟩ := id isL1
  rw [List.drop_zero, if_neg (show ¬ ((items.toList.take i).length < i) by rw [List.length_take, Array.length_toList]; omega)]
  refine wpAny_bind (wpAny_holding (kun_collect (s := { s with heap := h₁ }) (T := "list_iterator") (.inr (.inr (.inl rfl))) (Walks.list (A := A.in1) calm s.heap.objs.size l apart items) (fun j u st => st.1.typeIs) (k := i) (by omega) ⟨it1, isL1⟩
    (Heap.lt_size hoi) (Heap.lt_size hol) (fun h₂ tk old => ?_) (by rw [sizeLine_eq]; omega)))
  have rest : (items.toList.drop i).length = items.size - i := by rw [List.length_drop, Array.length_toList]
  show wpAny _ _ (if (items.toList.drop i).length < n - 1 - i then _ else _) _ _ _; rw [if_neg (by rw [rest]; omega)]
  show wpAny _ _ (newList ((items.toList.drop i).take ((items.toList.drop i).length - (n - 1 - i))) >>= fun d => pure (items.toList.take i ++ [d] ++ (items.toList.drop i).drop ((items.toList.drop i).length - (n - 1 - i)))) _ _ _
  rw [show (items.toList.drop i).length - (n - 1 - i) = items.size + 1 - n by rw [rest]; omega]
  refine wpAny_bind (wpAny_newList (wpAny_pure (go h₂ tk fun b o z => old b o (Nat.ne_of_lt (Heap.lt_size z)) (sb1.extBut b o (Nat.ne_of_lt (Heap.lt_size z)) (Heap.get?_push_of_some _ z)))) (by rw [List.length_take, rest, sizeLine_eq]; omega))
end
section
variable {X : Cx} {pos : Pos}
/-- (a, *b) = a list: the first item, a new list of the others -/
def gStar (K : PySem.W.Frag) (t : TGs) : TG := fun v σ H Q => ∃ (a : Addr) (x : V) (xs : List V), v = .ref a ∧ SqL K H a (x :: xs) ∧ xs.length ≤ 16000 ∧ ∀ p, H p = none → t [x, .ref p] σ (upd H p (.lst xs)) Q
theorem pg_star {es : List Expr} {k : Nat} {t : TGs} (calm : X.calm = true) (h : PGs X es t) (hn : (assignEach es X.env).length = 2 := by rfl) (hst : (assignEach es X.env).findIdx? (·.1) = some 1 := by rfl) : PG X (.Tuple es k pos) (gStar X.K t) := by
  refine ⟨fun pins s σ H v u Q I r hw => ?_⟩
  obtain ⟨a, x, xs, rfl, sq, few, go⟩ := hw
  cases r
  obtain ⟨its, rv, isL, _⟩ := I.list sq
  have len := rv.length
  cases rv with
  | @cons _ v0 _ vs r0 rr =>
    have lv := rr.length
    rw [assign_Tuple]
    refine wpAny_bind (wpAny_standAt ?_)
    unfold unpack
    rw [hn, hst]
    refine wpAny_bind (wpAny_holding (unpack_star isL.isList (I.ok.hd calm) (by decide) (by simp) (by simp; omega) fun h' tk old => ?_))
    have J : Inv X pins σ H { s with heap := h', toks := tk } := I.kept old
    have big : (20000 : Nat) ≤ sizeLine := by decide
    have K1 : Inv X pins σ (upd H h'.objs.size (.lst xs)) { s with heap := h'.push (seqObj "list" vs.toArray 0), toks := tk } :=
      J.laid (t' := tk) (fun b o z => Heap.get?_push_of_some _ z) (Nat.le_refl _) ⟨by omega, vs, 0, rr, Heap.get?_push_size _ rfl⟩
    have e1 : ((v0 :: vs).toArray.toList.drop 1).take ((v0 :: vs).toArray.size + 1 - 2) = vs := by simp
    have e2 : (v0 :: vs).toArray.toList.take 1 ++ [Value.ref h'.objs.size] ++ ((v0 :: vs).toArray.toList.drop 1).drop ((v0 :: vs).toArray.size + 1 - 2) = [v0, .ref h'.objs.size] := by simp
    rw [e1, e2]
    exact h.run pins _ σ _ [x, .ref h'.objs.size] _ Q K1 (.cons r0 (.cons rfl .nil)) (go _ (J.hok.fresh (Nat.le_refl _)))
end
end Rp

set_option maxHeartbeats 8000000
/-! is_saying over data of any kind. -/
namespace Rp
open PySem PySem.Spec PyProof.Rows L2 TL RZ StX
mutual
/-- the texts among data are short, its lists and tuples not wide -/
def shS : PyData → Prop
  | .str x => x.length ≤ 1000 | .list ds => ds.length ≤ 60 ∧ shAll ds | .tuple ds => ds.length ≤ 60 ∧ shAll ds | _ => True
def shAll : List PyData → Prop
  | [] => True
  | d :: ds => shS d ∧ shAll ds
end
theorem shAll_iff : ∀ {ds : List PyData}, shAll ds ↔ ∀ d ∈ ds, shS d
  | [] => by simp [shAll]
  | d :: ds => by simp only [shAll, shAll_iff (ds := ds), List.mem_cons, forall_eq_or_imp]
theorem shS.tup {ds : List PyData} (h : shS (.tuple ds)) : ∀ d ∈ ds, shS d := shAll_iff.mp (by unfold shS at h; exact h.2)
theorem shS.wide {ds : List PyData} (h : shS (.tuple ds)) : ds.length ≤ 60 := by unfold shS at h; exact h.1
theorem shS.str {x : Str} (h : shS (.str x)) : x.length ≤ 1000 := by unfold shS at h; exact h
theorem shS.am {d : PyData} (h : shS d) : ∀ x ds, d = .tuple (.str x :: ds) → x.length ≤ 1000 := fun x ds e => by
  subst e
  exact (h.tup _ (by simp)).str
/-- what may be asked of data: not too deep, not too large, with short texts -/
structure DOk (d : PyData) : Prop where
  ok : okD d
  sz : nd d ≤ 1000
  sh : shS d
theorem DOk.tup {ds : List PyData} (h : DOk (.tuple ds)) : ∀ d ∈ ds, DOk d := fun d hd => ⟨h.ok.tup d hd, Nat.le_trans (nd_mem hd) h.sz, h.sh.tup d hd⟩
theorem DOk.few {ds : List PyData} (h : DOk (.tuple ds)) : ds.length ≤ 1000 := Nat.le_trans ndAll_le h.sz
structure SyD (hs : List PyData) (g : PyData) : Prop where
  few : hs.length ≤ 6
  am : ∀ h ∈ hs, IsAm h
  g : IsAm g
  nd : hs.Nodup
def IsSy (d : PyData) : Prop := ∃ hs g, d = .tuple [.tuple hs, g] ∧ SyD hs g
theorem isSy_two {hs : List PyData} {g : PyData} : IsSy (.tuple [.tuple hs, g]) ↔ SyD hs g :=
  ⟨fun ⟨hs', g', e, h⟩ => by injection e with e; injection e with e1 e2; injection e1 with e1; injection e2 with e2; subst e1 e2; exact h, fun h => ⟨hs, g, rfl, h⟩⟩
theorem isSy_len {ds : List PyData} (h : ds.length ≠ 2) : ¬ IsSy (.tuple ds) := fun ⟨hs, g, e, _⟩ => by
  injection e with e
  subst e
  exact h rfl
theorem atD_inj {a b : At} (h : atD a = atD b) : a = b := eqv_at.mp (by rw [h]; exact eqv_at.mpr rfl)
theorem nodup_atD {as : List At} : (as.map atD).Nodup ↔ as.Nodup := by
  induction as with
  | nil => simp
  | cons a as ih =>
    rw [List.map_cons, List.nodup_cons, List.nodup_cons, ih]
    constructor
    · rintro ⟨h1, h2⟩
      exact ⟨fun h => h1 (List.mem_map.mpr ⟨a, h, rfl⟩), h2⟩
    · rintro ⟨h1, h2⟩
      exact ⟨fun h => by obtain ⟨b, hb, e⟩ := List.mem_map.mp h; rw [atD_inj e] at hb; exact h1 hb, h2⟩
def spIsSy : Sp := fun vs H Q _ => ∃ (b : Addr) (v : V) (d : PyData), vs = [v] ∧ DAt H b v d ∧ DOk d ∧ ∀ (r : Bool) (H' : Hp), (r = true ↔ IsSy d) → Same H H' → Q (.bl r) H'
section
variable {P : Program} {w : World} {K : PySem.W.Frag} {mg : Str → Option Value} {base : Heap}
end
end Rp

set_option maxHeartbeats 8000000
/-! The law's own looks at SAYINGs. -/
namespace Rp
open PySem PySem.Spec PyProof.Rows L2 TL RZ StX
theorem unlG_nd : ∀ {as acc : List At}, (∀ a ∈ as, a ∉ acc) → as.Nodup → unlG acc as = acc ++ as
  | [], acc, _, _ => by simp [unlG]
  | a :: as, acc, h1, h2 => by
    have e : unlG acc (a :: as) = unlG (if a ∈ acc then acc else acc ++ [a]) as := rfl
    rw [List.nodup_cons] at h2
    rw [e, if_neg (h1 a (by simp)), unlG_nd (fun x hx hm => ?_) h2.2]
    · simp
    · rcases List.mem_append.mp hm with hm | hm
      · exact h1 x (by simp [hx]) hm
      · obtain rfl : x = a := by simpa using hm
        exact h2.1 hx
theorem unl_id {as : List At} : unl as = as ↔ as.Nodup := by
  constructor
  · intro h
    rw [← unl_len, h]
  · intro h
    have := unlG_nd (as := as) (acc := []) (by simp) h
    show unlG [] as = as
    rw [this]
    rfl
theorem eqv_ats : ∀ {as bs : List At}, PyData.eqvAll (as.map atD) (bs.map atD) = true ↔ as = bs
  | [], [] => by simp [PyData.eqvAll]
  | [], _ :: _ => by simp [PyData.eqvAll]
  | _ :: _, [] => by simp [PyData.eqvAll]
  | t :: ts, u :: us => by rw [List.map_cons, List.map_cons, eqvAll_cons, Bool.and_eq_true, eqv_at, eqv_ats]; simp
theorem lay_tup {k : Nat} {ds : List PyData} (h : ∀ d ∈ ds, okD d) : SeqAt.shaped (.tuple ds) = true := by
  have z := lay_all h
  refine shaped_of ?_ ?_
  · show PyData.canLayAll0 _ = true
    exact z.1
  · show PyData.depthAll _ + 1 ≤ 64
    omega
section
variable {P : Program} {w : World} {K : PySem.W.Frag} {mg : Str → Option Value} {base : Heap}
theorem scUnlikeL : FnScope ["_law_atoms", "_law_found", "_law_atom_here"] ["_law_atoms"] (defScope sUnlikeL) := ⟨rfl, rfl, rfl, by decide +kernel, rfl, by decide +kernel, by decide +kernel⟩
theorem ok_unlW {f : Addr} {fd : FuncData} (F : Fun K "_law_unlike" "_law_unlike" sUnlikeL f fd) (mTuple : mg "tuple" = none) : FnOk P w K mg base CX0 1 f fd ["_law_atoms"] spUnl := by
  refine F.ok scUnlikeL (fun vs H Q E h => ?_) (fun cdv A outer s H vs Q E hr h => ?_)
  · obtain ⟨b, q, xs, as, rfl, _⟩ := h
    rfl
  obtain ⟨b, q, xs, as, rfl, hq, A1, ok, few, fin⟩ := h
  refine ⟨_, pss_cons (ps_set (i := 1) scUnlikeL.nd rfl (Or.inl rfl) (pe_lst pa_nil))
    (pss_cons (ps_for PassesOwn.never rfl (pi_tup (pv 0)) (pg_name (i := 2) scUnlikeL.nd rfl (Or.inl rfl))
      (pss_one (ps_if (pt_cmpR (op_notInD (hu65 hr)) (pv 2) (pv 1) (by rfl)) (pss_one (ps_expr (pe_bm PySem.F.plainAttrs_list PySem.F.slot_list_append PySem.F.type_list_append mt_append (pv 1) (pa_cons (pv 2) pa_nil)))) pss_nil)))
    (pss_one (ps_ret (pe_callTy call_tuple_of (by rfl) mTuple (by decide +kernel) (pa_cons (pv 1) pa_nil))))), ?_⟩
  have big : (10000 : Nat) ≤ sizeLine := by decide
  have xl := A1.len
  rw [List.length_map] at xl
  refine ⟨(by show 0 ≤ sizeLine; decide), fun l hl => ?_⟩
  have s1 := same_new hl (.lst ([] : List V))
  have hq1 := hq.same s1
  refine ⟨_, rfl, q, rfl, ⟨_, .inl hq1⟩, for_tup (K := K) (a := q) (xs := xs) (fun i σ H2 => ∃ (x2 : Option V) (ys : List V), σ = [some (.ref q), some (.ref l), x2] ∧ H2 l = some (.lst ys) ∧ DAtAll H b ys ((unl (as.take i)).map atD) ∧ Same H H2)
    ⟨none, [], rfl, upd_same, DAtAll.nil, s1⟩ (fun i σ H2 _ ⟨_, _, _, _, _, h⟩ => .inl (hq.same h)) ?_ ?_⟩
  · rintro i x σ H2 hi ⟨x2, ys, rfl, h2, Y2, s2⟩
    obtain ⟨d, hd, T⟩ := A1.get hi
    rw [List.getElem?_map] at hd
    obtain ⟨a, ha, rfl⟩ := Option.map_eq_some_iff.mp hd
    have am := List.mem_of_getElem? ha
    have li : i < as.length := (List.getElem?_eq_some_iff.mp ha).1
    have yl := Y2.len
    rw [List.length_map] at yl
    have ul := unl_le (as := as.take i)
    rw [List.length_take] at ul
    have tk : unl (as.take (i + 1)) = if a ∈ unl (as.take i) then unl (as.take i) else unl (as.take i) ++ [a] := by rw [List.take_add_one, ha]; exact unl_snoc
    refine ⟨_, rfl, _, rfl, atD a, (unl (as.take i)).map atD, (T.same s2).dp, .lst (.inl (.inl h2)) (Y2.same s2).dp, shaped_of (ok a am).1 (by have := (ok a am).2; omega), lay_list fun e he => ?_, !decide (a ∈ unl (as.take i)), by rw [in_ats], ?_⟩
    · obtain ⟨c, hc, rfl⟩ := List.mem_map.mp he
      exact ok c (List.mem_of_mem_take (mem_unl hc))
    by_cases hm : a ∈ unl (as.take i)
    · rw [decide_eq_true hm]
      rw [if_pos hm] at tk
      exact iteF ⟨_, ys, rfl, h2, by rw [tk]; exact Y2, s2⟩
    · rw [decide_eq_false hm]
      rw [if_neg hm] at tk
      refine iteT ?_
      refine ⟨_, rfl, .inl ⟨rfl, _, .inl (.inl h2)⟩, _, rfl, l, _, _, rfl, rfl, h2, by omega, ?_⟩
      have s3 : Same H (upd H2 l (.lst (ys ++ [x]))) := fun c o z => by rw [upd_ne (ne_of_none z hl)]; exact s2 _ _ z
      refine ⟨_, ys ++ [x], rfl, upd_same, ?_, s3⟩
      rw [tk, List.map_append]
      exact Y2.append (.cons T .nil)
  · rintro σ H2 ⟨x2, ys, rfl, h2, Y2, s2⟩
    rw [List.take_of_length_le (by omega)] at Y2
    exact ⟨_, rfl, l, _, rfl, .inl ⟨.inl (.inl h2), fun p hp => fin p _ _ upd_same (Y2.same (s2.trans (same_new hp _))) (s2.trans (same_new hp _))⟩⟩
end
end Rp

set_option maxHeartbeats 8000000
/-! How deep, wide and long data may be. -/
namespace Rp
open PySem PySem.Spec PyProof.Rows L2 TL RZ StX
mutual
/-- widths to W, texts to L, of ASCII signs, ints to 1000 + L -/
def shG (W L : Nat) : PyData → Prop
  | .str x => x.length ≤ L ∧ (∀ c ∈ tl x, c < 128) | .int n => -((1000 + L : Nat) : Int) ≤ n ∧ n ≤ ((1000 + L : Nat) : Int) | .list ds => ds.length ≤ W ∧ shGs W L ds | .tuple ds => ds.length ≤ W ∧ shGs W L ds | _ => True
def shGs (W L : Nat) : List PyData → Prop
  | [] => True
  | d :: ds => shG W L d ∧ shGs W L ds
end
theorem shGs_iff {W L : Nat} : ∀ {ds : List PyData}, shGs W L ds ↔ ∀ d ∈ ds, shG W L d
  | [] => by simp [shGs]
  | d :: ds => by simp only [shGs, shGs_iff (ds := ds), List.mem_cons, forall_eq_or_imp]
theorem shG_tup {W L : Nat} {ds : List PyData} : shG W L (.tuple ds) ↔ ds.length ≤ W ∧ ∀ d ∈ ds, shG W L d := by
  rw [← shGs_iff]; simp only [shG]
theorem shG_list {W L : Nat} {ds : List PyData} : shG W L (.list ds) ↔ ds.length ≤ W ∧ ∀ d ∈ ds, shG W L d := by
  rw [← shGs_iff]; simp only [shG]
mutual
theorem shG.more {W L W' L' : Nat} (hW : W ≤ W') (hL : L ≤ L') : ∀ {d : PyData}, shG W L d → shG W' L' d
  | .str x, h => by unfold shG at h ⊢; exact ⟨Nat.le_trans h.1 hL, h.2⟩
  | .int n, h => by unfold shG at h ⊢; omega
  | .list ds, h => by unfold shG at h ⊢; exact ⟨Nat.le_trans h.1 hW, shGs.more hW hL h.2⟩
  | .tuple ds, h => by unfold shG at h ⊢; exact ⟨Nat.le_trans h.1 hW, shGs.more hW hL h.2⟩
  | .none, _ => by unfold shG; trivial
  | .bool _, _ => by unfold shG; trivial
  | .dict _, _ => by unfold shG; trivial
theorem shGs.more {W L W' L' : Nat} (hW : W ≤ W') (hL : L ≤ L') : ∀ {ds : List PyData}, shGs W L ds → shGs W' L' ds
  | [], _ => by unfold shGs; trivial
  | d :: ds, h => by unfold shGs at h ⊢; exact ⟨shG.more hW hL h.1, shGs.more hW hL h.2⟩
end
mutual
theorem shG.sh {W L : Nat} (hW : W ≤ 60) (hL : L ≤ 1000) : ∀ {d : PyData}, shG W L d → shS d
  | .str x, h => by unfold shG at h; unfold shS; exact Nat.le_trans h.1 hL
  | .int n, h => by unfold shS; trivial
  | .list ds, h => by unfold shG at h; unfold shS; exact ⟨by omega, shGs.sh hW hL h.2⟩
  | .tuple ds, h => by unfold shG at h; unfold shS; exact ⟨by omega, shGs.sh hW hL h.2⟩
  | .none, _ => by unfold shS; trivial
  | .bool _, _ => by unfold shS; trivial
  | .dict _, _ => by unfold shS; trivial
theorem shGs.sh {W L : Nat} (hW : W ≤ 60) (hL : L ≤ 1000) : ∀ {ds : List PyData}, shGs W L ds → shAll ds
  | [], _ => by unfold shAll; trivial
  | d :: ds, h => by unfold shGs at h; unfold shAll; exact ⟨shG.sh hW hL h.1, shGs.sh hW hL h.2⟩
end
/-- fine: may be laid, to depth k, width W, texts L -/
structure Fq (k W L : Nat) (d : PyData) : Prop where
  lay : d.canLay0 = true
  dp : d.depth ≤ k
  sh : shG W L d
theorem Fq.more {k W L k' W' L' : Nat} {d : PyData} (h : Fq k W L d) (hk : k ≤ k') (hW : W ≤ W') (hL : L ≤ L') : Fq k' W' L' d := ⟨h.lay, Nat.le_trans h.dp hk, h.sh.more hW hL⟩
theorem Fq.dok {k W L : Nat} {d : PyData} (h : Fq k W L d) (hk : k ≤ 60) (hW : W ≤ 60) (hL : L ≤ 1000) (hn : nd d ≤ 1000) : DOk d := ⟨⟨h.lay, Nat.le_trans h.dp hk⟩, hn, h.sh.sh hW hL⟩
theorem fq_tup {k W L : Nat} {ds : List PyData} : Fq (k + 1) W L (.tuple ds) ↔ ds.length ≤ W ∧ ∀ d ∈ ds, Fq k W L d := by
  constructor
  · rintro ⟨h1, h2, h3⟩
    have h3 := shG_tup.mp h3
    have h1 : PyData.canLayAll0 ds = true := h1
    have h2 : PyData.depthAll ds + 1 ≤ k + 1 := h2
    exact ⟨h3.1, fun d hd => ⟨(okAll h1 k (by omega) d hd).1, (okAll h1 k (by omega) d hd).2, h3.2 d hd⟩⟩
  · rintro ⟨h1, h2⟩
    have z := lay_all (k := k) fun d hd => ⟨(h2 d hd).lay, (h2 d hd).dp⟩
    exact ⟨z.1, (by show PyData.depthAll ds + 1 ≤ k + 1; omega), shG_tup.mpr ⟨h1, fun d hd => (h2 d hd).sh⟩⟩
theorem fq_list {k W L : Nat} {ds : List PyData} : Fq (k + 1) W L (.list ds) ↔ ds.length ≤ W ∧ ∀ d ∈ ds, Fq k W L d := by
  constructor
  · rintro ⟨h1, h2, h3⟩
    have h3 := shG_list.mp h3
    have h1 : PyData.canLayAll0 ds = true := h1
    have h2 : PyData.depthAll ds + 1 ≤ k + 1 := h2
    exact ⟨h3.1, fun d hd => ⟨(okAll h1 k (by omega) d hd).1, (okAll h1 k (by omega) d hd).2, h3.2 d hd⟩⟩
  · rintro ⟨h1, h2⟩
    have z := lay_all (k := k) fun d hd => ⟨(h2 d hd).lay, (h2 d hd).dp⟩
    exact ⟨z.1, (by show PyData.depthAll ds + 1 ≤ k + 1; omega), shG_list.mpr ⟨h1, fun d hd => (h2 d hd).sh⟩⟩
/-- an item put in place of another -/
theorem ndAll_set : ∀ {ds : List PyData} {i : Nat} {e : PyData}, ndAll (ds.set i e) ≤ ndAll ds + nd e
  | [], _, _ => by simp [ndAll]
  | d :: ds, 0, e => by simp only [List.set_cons_zero, ndAll]; omega
  | d :: ds, i + 1, e => by have := ndAll_set (ds := ds) (i := i) (e := e); simp only [List.set_cons_succ, ndAll]; omega
theorem ndAll_erase : ∀ {ds : List PyData} {i : Nat}, ndAll (ds.eraseIdx i) ≤ ndAll ds
  | [], _ => by simp [ndAll]
  | d :: ds, 0 => by simp only [List.eraseIdx_cons_zero, ndAll]; omega
  | d :: ds, i + 1 => by have := ndAll_erase (ds := ds) (i := i); simp only [List.eraseIdx_cons_succ, ndAll]; omega
theorem ndAll_back : ∀ {ds : List PyData}, ndAll ds.reverse = ndAll ds
  | [] => rfl
  | d :: ds => by rw [List.reverse_cons, ndAll_append, ndAll_back]; simp only [ndAll]; omega
theorem ndAll_cut {ds : List PyData} {i : Nat} : ndAll (ds.take i) + ndAll (ds.drop i) = ndAll ds := by
  rw [← ndAll_append, List.take_append_drop]
end Rp

set_option maxHeartbeats 8000000
/-! What a bend makes of a text or an int. -/
namespace Rp
open PySem PySem.Spec PyProof.Rows L2 TL RZ StX
/-- a text of few ASCII signs -/
def Asc (L : Nat) (x : Str) : Prop := x.length ≤ L ∧ ∀ c ∈ tl x, c < 128
theorem Asc.fq {k W L : Nat} {x : Str} (h : Asc L x) : Fq k W L (.str x) := by
  refine ⟨?_, Nat.zero_le _, ?_⟩
  · show x.cps.all (· < 0x110000) = true
    rw [Array.all_eq_true']
    intro c hc
    have := h.2 c (Array.mem_toList_iff.mpr hc)
    exact decide_eq_true (by omega)
  · unfold shG; exact h
theorem Fq.asc {k W L : Nat} {x : Str} (h : Fq k W L (.str x)) : Asc L x := by
  have := h.sh
  unfold shG at this
  exact this
theorem Asc.more {L L' : Nat} {x : Str} (h : Asc L x) (hL : L ≤ L') : Asc L' x := ⟨Nat.le_trans h.1 hL, h.2⟩
theorem asc_upper {L : Nat} {x : Str} (h : Asc L x) : Asc L (Txt.upper x) := by
  rw [upper_ascii h.2]
  refine ⟨?_, fun c hc => ?_⟩
  · show (Array.map up1 x.cps).size ≤ L
    rw [Array.size_map]
    exact h.1
  · have hc : c ∈ (Array.map up1 x.cps).toList := hc
    rw [Array.toList_map] at hc
    obtain ⟨e, he, rfl⟩ := List.mem_map.mp hc
    have := h.2 e he
    unfold up1
    split <;> omega
theorem asc_add {L M : Nat} {x y : Str} (h : Asc L x) (h' : Asc M y) : Asc (L + M) (x ++ y) := by
  refine ⟨?_, fun c hc => ?_⟩
  · show (x.cps ++ y.cps).size ≤ L + M
    rw [Array.size_append]
    have h1 : x.cps.size ≤ L := h.1
    have h2 : y.cps.size ≤ M := h'.1
    omega
  · have hc : c ∈ (x.cps ++ y.cps).toList := hc
    rw [Array.toList_append] at hc
    rcases List.mem_append.mp hc with hc | hc
    · exact h.2 c hc
    · exact h'.2 c hc
theorem asc_cut {L : Nat} {x : Str} {lo hi : Option Int} (h : Asc L x) : Asc L (cutS x lo hi) := by
  have sub : ∀ c ∈ tl (cutS x lo hi), c ∈ tl x := fun c hc => by
    have hc : c ∈ (List.take (HT.sIx x.length x.length hi - HT.sIx x.length 0 lo) (List.drop (HT.sIx x.length 0 lo) x.cps.toList)).toArray.toList := hc
    rw [List.toList_toArray] at hc
    exact List.mem_of_mem_drop (List.mem_of_mem_take hc)
  refine ⟨?_, fun c hc => h.2 c (sub c hc)⟩
  have h1 : x.cps.size ≤ L := h.1
  show (List.take (HT.sIx x.length x.length hi - HT.sIx x.length 0 lo) (List.drop (HT.sIx x.length 0 lo) x.cps.toList)).toArray.size ≤ L
  rw [List.size_toArray, List.length_take, List.length_drop, Array.length_toList]
  omega
theorem fq_int {k W L : Nat} {n : Int} (h : -((1000 + L : Nat) : Int) ≤ n ∧ n ≤ ((1000 + L : Nat) : Int)) : Fq k W L (.int n) := ⟨rfl, Nat.zero_le _, by unfold shG; exact h⟩
theorem Fq.int {k W L : Nat} {n : Int} (h : Fq k W L (.int n)) : -((1000 + L : Nat) : Int) ≤ n ∧ n ≤ ((1000 + L : Nat) : Int) := by
  have := h.sh
  unfold shG at this
  exact this
theorem asc_int {n : Int} (h : -1000000 ≤ n ∧ n ≤ 1000000) : Asc 9 (Str.ofString (toString n)) := by
  refine ⟨?_, ?_⟩
  · rw [PySem.ofString_length]
    exact Nat.le_trans (int_text_length_le10 (a := n) (k := 8) (by decide) (by omega)) (by decide)
  · cases n with
    | ofNat k =>
      intro c hc
      have e : tl (Str.ofString (toString (Int.ofNat k))) = numL k := tl_num k
      rw [e] at hc
      have := numL_digits k c hc
      omega
    | negSucc k =>
      intro c hc
      have e : tl (Str.ofString (toString (Int.negSucc k))) = 45 :: tl (Str.ofString (toString (((k + 1 : Nat) : Int)))) := by
        rw [TL.tl_ofString, TL.tl_ofString]
        show List.map Char.toNat ("-" ++ toString (k + 1)).toList = _
        rw [String.toList_append]
        rfl
      rw [e, tl_num] at hc
      rcases List.mem_cons.mp hc with hc | hc
      · omega
      · have := numL_digits (k + 1) c hc
        omega
end Rp

set_option maxHeartbeats 8000000
/-! Displays of data; the odd things of _law_otherwise. -/
namespace Rp
open PySem PySem.Spec PyProof.Rows L2 TL RZ StX
mutual
inductive Lq where
  | non
  | bl (b : Bool)
  | i (n : Int)
  | m (n : Int)
  | s (x : Str)
  | t (l : Lqs)
  | l (l : Lqs)
inductive Lqs where
  | nil
  | cons (a : Lq) (r : Lqs)
end
mutual
def Lq.te : Lq → TE
  | .non => tC .non
  | .bl b => tC (.bl b)
  | .i n => tC (.int n)
  | .m n => tUn (rU fun i => .int (-i)) (tC (.int n))
  | .s x => tC (.str x)
  | .t l => tTup l.ta
  | .l l => tLst l.ta
def Lqs.ta : Lqs → TA
  | .nil => tNil
  | .cons a r => tCons a.te r.ta
end
mutual
def Lq.d : Lq → PyData
  | .non => .none
  | .bl b => .bool b
  | .i n => .int n
  | .m n => .int (-n)
  | .s x => .str x
  | .t l => .tuple l.ds
  | .l l => .list l.ds
def Lqs.ds : Lqs → List PyData
  | .nil => []
  | .cons a r => a.d :: r.ds
end
def Lqs.len : Lqs → Nat
  | .nil => 0
  | .cons _ r => r.len + 1
mutual
def Lq.ok : Lq → Prop
  | .t l => l.len ≤ 1000 ∧ l.ok
  | .l l => l.len ≤ 1000 ∧ l.ok
  | _ => True
def Lqs.ok : Lqs → Prop
  | .nil => True
  | .cons a r => a.ok ∧ r.ok
end
theorem Lqs.ds_len : ∀ l : Lqs, l.ds.length = l.len
  | .nil => rfl
  | .cons _ r => congrArg (· + 1) r.ds_len
/-- no new list stands at b -/
def Apart (H H' : Hp) (b : Addr) : Prop := H' b = none ∨ ∃ o, H b = some o
theorem Apart.less {H H1 H' : Hp} {b : Addr} (s : Same H1 H') (h : Apart H H' b) : Apart H H1 b := h.imp (fun z => by
  cases e : H1 b with
  | none => rfl
  | some o => rw [s _ _ e] at z; cases z) id
theorem Apart.step {H H1 H' : Hp} {b : Addr} (s : Same H H1) (h : Apart H H' b) : Apart H1 H' b := h.imp id fun ⟨o, e⟩ => ⟨o, s _ _ e⟩
theorem Apart.ne {H H1 : Hp} {b p : Addr} {o : HO} (s : Same H H1) (hp : H1 p = none) (h : Apart H (upd H1 p o) b) : p ≠ b := by
  rintro rfl
  rcases h with h | ⟨u, h⟩
  · rw [upd_same] at h; cases h
  · rw [s _ _ h] at hp; cases hp
mutual
theorem Lq.run {σ : L2.St} : ∀ (L : Lq) {H : Hp} {Q : V → Hp → Prop}, L.ok → (∀ (v : V) (H' : Hp), (∀ b, Apart H H' b → DAt H' b v L.d) → Same H H' → Q v H') → L.te σ H Q
  | .non, H, Q, _, q => q _ H (fun b _ => by unfold Lq.d DAt; rfl) (Same.refl H)
  | .bl c, H, Q, _, q => q _ H (fun b _ => by unfold Lq.d DAt; rfl) (Same.refl H)
  | .i n, H, Q, _, q => q _ H (fun b _ => by unfold Lq.d DAt; rfl) (Same.refl H)
  | .m n, H, Q, _, q => ⟨n, rfl, q _ H (fun b _ => by unfold Lq.d DAt; rfl) (Same.refl H)⟩
  | .s x, H, Q, _, q => q _ H (fun b _ => by unfold Lq.d DAt; rfl) (Same.refl H)
  | .t l, H, Q, ⟨hl, ho⟩, q => Lqs.run l ho fun xs H1 hn hx s1 => by
    have big : (1000 : Nat) ≤ sizeLine := by decide
    refine ⟨by rw [hn]; exact Nat.le_trans hl big, fun p hp => ?_⟩
    have s2 := same_new hp (.tup xs)
    exact q _ _ (fun b hb => by unfold Lq.d DAt; exact ⟨p, xs, rfl, .inl upd_same, (hx b (hb.less s2)).same s2⟩) (s1.trans s2)
  | .l l, H, Q, ⟨hl, ho⟩, q => Lqs.run l ho fun xs H1 hn hx s1 => by
    have big : (1000 : Nat) ≤ sizeLine := by decide
    refine ⟨by rw [hn]; exact Nat.le_trans hl big, fun p hp => ?_⟩
    have s2 := same_new hp (.lst xs)
    exact q _ _ (fun b hb => by unfold Lq.d DAt; exact ⟨p, xs, rfl, hb.ne s1 hp, upd_same, (hx b (hb.less s2)).same s2⟩) (s1.trans s2)
theorem Lqs.run {σ : L2.St} : ∀ (L : Lqs) {H : Hp} {Q : List V → Hp → Prop}, L.ok → (∀ (v : List V) (H' : Hp), v.length = L.len → (∀ b, Apart H H' b → DAtAll H' b v L.ds) → Same H H' → Q v H') → L.ta σ H Q
  | .nil, H, Q, _, q => q _ H rfl (fun b _ => by unfold Lqs.ds; exact DAtAll.nil) (Same.refl H)
  | .cons a r, H, Q, ⟨h1, h2⟩, q => Lq.run a h1 fun v H1 hv s1 => Lqs.run r h2 fun xs H2 hn hx s2 =>
    q _ _ (congrArg (· + 1) hn) (fun b hb => by unfold Lqs.ds; exact DAtAll.cons ((hv b (hb.less s2)).same s2) (hx b (hb.step s1))) (s1.trans s2)
end
theorem Lq.runE {σ : L2.St} (L : Lq) (te : TE) (e : L.te = te) {H : Hp} {Q : V → Hp → Prop} (h : L.ok) (q : ∀ (v : V) (H' : Hp), (∀ b, Apart H H' b → DAt H' b v L.d) → Same H H' → Q v H') : te σ H Q := e ▸ Lq.run L h q
theorem seq_asg {te : TE} {g : TG} {rest : TS} {D : Ends} {σ : L2.St} {H : Hp} (h : te σ H fun v H1 => g v σ H1 fun σ2 H2 => rest D σ2 H2) : tSeq (tAsg te g) rest D σ H := h
def oddL : Lq := .l (.cons (.non) (.cons (.bl true) (.cons (.bl false) (.cons (.m 1) (.cons (.i 100) (.cons (.i 99) (.cons (.i 0) (.cons (.i 1) (.cons (.s "") (.cons (.s "s") (.cons (.s "f") (.cons (.s "0") (.cons (.s "if") (.cons (.s "nat") (.cons (.s "natural") (.cons (.t .nil) (.cons (.l .nil) (.cons (.t (.cons (.s "0") .nil)) (.cons (.l (.cons (.s "0") .nil)) (.nil))))))))))))))))))))
def oddDs : List PyData := match oddL.d with | .list ds => ds | _ => []
theorem odd_len : oddDs.length = 19 := rfl
theorem oddL_ok : oddL.ok := by simp [oddL, Lq.ok, Lqs.ok, Lqs.len]
theorem asc_of {L : Nat} {x : Str} (h : (decide (x.length ≤ L) && (tl x).all (fun c => decide (c < 128))) = true) : Asc L x := by
  rw [Bool.and_eq_true, decide_eq_true_iff, List.all_eq_true] at h
  exact ⟨h.1, fun c hc => of_decide_eq_true (h.2 c hc)⟩
theorem fq_non {k W L : Nat} : Fq k W L .none := ⟨rfl, Nat.zero_le _, by unfold shG; trivial⟩
theorem fq_bl {k W L : Nat} {c : Bool} : Fq k W L (.bool c) := ⟨rfl, Nat.zero_le _, by unfold shG; trivial⟩
theorem odd_fq : ∀ e ∈ oddDs, Fq 1 1 7 e ∧ nd e ≤ 2 := by
  intro e he
  have he : e ∈ [PyData.none, .bool true, .bool false, .int (-1), .int 100, .int 99, .int 0, .int 1, .str "", .str "s", .str "f", .str "0", .str "if", .str "nat", .str "natural", .tuple [], .list [], .tuple [.str "0"], .list [.str "0"]] := he
  have n1 : ∀ x : Str, nd (.str x) ≤ 2 := fun x => by simp [nd]
  have i1 : ∀ n : Int, nd (.int n) ≤ 2 := fun x => by simp [nd]
  have z : Fq 0 1 7 (.str "0") := Asc.fq (asc_of (by decide +kernel))
  simp only [List.mem_cons, List.not_mem_nil, or_false] at he
  rcases he with rfl | rfl | rfl | rfl | rfl | rfl | rfl | rfl | rfl | rfl | rfl | rfl | rfl | rfl | rfl | rfl | rfl | rfl | rfl
  · exact ⟨fq_non, by simp [nd]⟩
  · exact ⟨fq_bl, by simp [nd]⟩
  · exact ⟨fq_bl, by simp [nd]⟩
  · exact ⟨fq_int (by omega), i1 _⟩
  · exact ⟨fq_int (by omega), i1 _⟩
  · exact ⟨fq_int (by omega), i1 _⟩
  · exact ⟨fq_int (by omega), i1 _⟩
  · exact ⟨fq_int (by omega), i1 _⟩
  · exact ⟨Asc.fq (asc_of (by decide +kernel)), n1 _⟩
  · exact ⟨Asc.fq (asc_of (by decide +kernel)), n1 _⟩
  · exact ⟨Asc.fq (asc_of (by decide +kernel)), n1 _⟩
  · exact ⟨Asc.fq (asc_of (by decide +kernel)), n1 _⟩
  · exact ⟨Asc.fq (asc_of (by decide +kernel)), n1 _⟩
  · exact ⟨Asc.fq (asc_of (by decide +kernel)), n1 _⟩
  · exact ⟨Asc.fq (asc_of (by decide +kernel)), n1 _⟩
  · exact ⟨fq_tup.mpr ⟨by simp, by simp⟩, by simp [nd, ndAll]⟩
  · exact ⟨fq_list.mpr ⟨by simp, by simp⟩, by simp [nd, ndAll]⟩
  · exact ⟨fq_tup.mpr ⟨by simp, by simpa using z⟩, by simp [nd, ndAll]⟩
  · exact ⟨fq_list.mpr ⟨by simp, by simpa using z⟩, by simp [nd, ndAll]⟩
end Rp

/-! What k10 takes over: small TERMs, the stack, NAMEs. -/
namespace Rp
open PySem PySem.Spec PyProof.Rows L2 TL
def runs : List Tm → List Tm → List Tm → Prop
  | S, [], S' => S = S'
  | S, k :: r, S' => ∃ S0, S = S0 ++ k.kids ∧ runs (S0 ++ [k]) r S'
theorem runs_post : ∀ (t : Tm) (S r S' : List Tm), runs (S ++ [t]) r S' → runs S (t.rpost.reverse ++ r) S'
  | .v n, S, r, S', h => by simp only [Tm.rpost, List.reverse_singleton, List.singleton_append]; exact ⟨S, by simp [Tm.kids], h⟩
  | .z, S, r, S', h => by simp only [Tm.rpost, List.reverse_singleton, List.singleton_append]; exact ⟨S, by simp [Tm.kids], h⟩
  | .s t, S, r, S', h => by
    simp only [Tm.rpost, List.reverse_cons, List.append_assoc, List.singleton_append]
    exact runs_post t S _ _ ⟨S, by simp [Tm.kids], h⟩
  | .f l r', S, r, S', h => by
    simp only [Tm.rpost, List.reverse_cons, List.reverse_append, List.append_assoc, List.singleton_append]
    refine runs_post l S _ _ (runs_post r' (S ++ [l]) _ _ ⟨S, by simp [Tm.kids], h⟩)
theorem part_of : ∀ {t k : Tm}, k ∈ t.rpost → k.size ≤ t.size ∧ ∀ n ∈ k.nums, n ∈ t.nums
  | .v n, k, h => by simp [Tm.rpost] at h; subst h; exact ⟨Nat.le_refl _, fun n h => h⟩
  | .z, k, h => by simp [Tm.rpost] at h; subst h; exact ⟨Nat.le_refl _, fun n h => h⟩
  | .s t, k, h => by
    simp [Tm.rpost] at h
    rcases h with rfl | h
    · exact ⟨Nat.le_refl _, fun n h => h⟩
    · have := part_of h
      exact ⟨by simp only [Tm.size]; omega, this.2⟩
  | .f l r, k, h => by
    simp [Tm.rpost] at h
    rcases h with rfl | h | h
    · exact ⟨Nat.le_refl _, fun n h => h⟩
    · have := part_of h
      exact ⟨by simp only [Tm.size]; omega, fun n hn => List.mem_append.mpr (.inr (this.2 n hn))⟩
    · have := part_of h
      exact ⟨by simp only [Tm.size]; omega, fun n hn => List.mem_append.mpr (.inl (this.2 n hn))⟩
theorem drop_min {α : Type} (xs : List α) (i : Nat) : xs.drop (min i xs.length) = xs.drop i := by
  rcases Nat.le_total i xs.length with h | h
  · rw [Nat.min_eq_left h]
  · rw [Nat.min_eq_right h, List.drop_length, List.drop_of_length_le h]
theorem cut_from {xs : List V} {i : Nat} {a : Int} (h : a = (i : Nat)) : cutV xs (some a) none = xs.drop i := by
  subst h
  unfold cutV
  rw [HT.sIx_none, HT.sIx_nat, drop_min]
  refine List.take_of_length_le ?_
  rw [List.length_drop]
  omega
end Rp

/-! Tuples that are known to be plain (they bear no dict of their own), made by tuple(list) and by a display; dict(t) of such a tuple of pairs. -/
namespace Rp
open PySem PySem.Spec PyProof.Rows L2
/-- a plain tuple stands at a -/
def PlT (H : Hp) (a : Addr) (xs : List V) : Prop := ∃ o : Obj, o.dict = none ∧ H a = some (.frz o (.tup xs))
theorem PlT.sq {K : PySem.W.Frag} {H : Hp} {a : Addr} {xs : List V} (h : PlT H a xs) : SqT K H a xs := let ⟨o, _, e⟩ := h; .inl (.inr ⟨o, e⟩)
theorem PlT.same {H H' : Hp} {a : Addr} {xs : List V} (e : Same H H') (h : PlT H a xs) : PlT H' a xs := let ⟨o, d, q⟩ := h; ⟨o, d, e _ _ q⟩
theorem PlT.mono {H H' : Hp} {a : Addr} {xs : List V} (e : ∀ o, H a = some (.frz o (.tup xs)) → H' a = some (.frz o (.tup xs))) (h : PlT H a xs) : PlT H' a xs := let ⟨o, d, q⟩ := h; ⟨o, d, e _ q⟩
section
variable {X : Cx}
def rTupF (K : PySem.W.Frag) : List V → Hp → VK → Prop := fun vs H Q => ∃ (p : Addr) (ys : List V), vs = [.ref p] ∧ SqL K H p ys ∧ ∀ (l : Addr) (o : Obj), o.dict = none → H l = none → Q (.ref l) (upd H l (.frz o (.tup ys)))
theorem cr_tupF : CallR X (.type "tuple") (rTupF X.K) := by
  intro pins s σ H vs us Q I r h
  obtain ⟨p, ys, rfl, hq, q⟩ := h
  rw [Vals.ref1 r]
  obtain ⟨its, rv, pl, hz⟩ := I.list hq
  have few := rv.length
  refine call_tuple_list pl.isList (fun g old => ?_) (by simp only [List.size_toArray] <;> omega)
  have J : Inv X pins σ H { s with heap := g } := I.kept (t' := s.toks) old
  have there : (g.push { cls := .type "tuple", data := .seq its.toArray }).get? g.objs.size = some { cls := .type "tuple", data := .seq its.toArray } := Heap.get?_push_size _ rfl
  exact ⟨.ref g.objs.size, _, J.laid (t' := s.toks) (o := .frz { cls := .type "tuple", data := .seq its.toArray } (.tup ys)) (fun b o e => Heap.get?_push_of_some _ e) (Nat.le_refl _) ⟨there, hz, its, rv, IsTup.new _ _⟩, rfl,
    q _ _ rfl (J.hok.fresh (Nat.le_refl _))⟩
/-- (e, ..), told to be plain -/
def tTupF (t : TA) : TE := fun σ H Q => t σ H fun xs H1 => xs.length ≤ sizeLine ∧ ∀ (p : Addr) (o : Obj), o.dict = none → H1 p = none → Q (.ref p) (upd H1 p (.frz o (.tup xs)))
theorem pe_tupF {es : List Expr} {t : TA} {x1 : Nat} {pos : Pos} (h : PA X es t) : PE X (.Tuple es x1 pos) (tTupF t) := by
  refine ⟨fun pins s σ H Q I hq => wpAny_Tuple_spliced (thn (h.run pos pins s σ H _ I hq) fun us s1 ⟨xs, H1, I1, r, z, q⟩ => ⟨by rw [← r.length]; exact z, ?_⟩)⟩
  have at_ : (s1.heap.push { cls := .type "tuple", data := .seq us.toArray }).get? s1.heap.objs.size = some { cls := .type "tuple", data := .seq us.toArray } := Heap.get?_push_size _ rfl
  exact ⟨.ref s1.heap.objs.size, _, I1.laid (t' := s1.toks) (o := .frz { cls := .type "tuple", data := .seq us.toArray } (.tup xs)) (fun b u e => Heap.get?_push_of_some _ e) (Nat.le_refl _) ⟨at_, z, us, r, ⟨_, at_, rfl, _, rfl⟩⟩, rfl,
    q _ _ rfl (I1.hok.fresh (Nat.le_refl _))⟩
theorem raw_pairs {pins : List (Addr × Obj)} {σ : L2.St} {H : Hp} {s : Shared} (I : Inv X pins σ H s) : ∀ {ps : List Addr} {kvs : List (Key × V)}, Paired (fun p (kv : Key × V) => SqT X.K H p [kV kv.1, kv.2]) ps kvs →
    ∃ (prs : List (Key × Value)) (raw : List (Value × Value)), KV kvs prs ∧ raw.length = ps.length ∧ prs.length = ps.length ∧ ∀ j : Nat, j < ps.length → ∃ (b : Addr) (k : Key) (u x : Value), ps[j]? = some b ∧ prs[j]? = some (k, x) ∧ raw[j]? = some (u, x) ∧ IsTup s.heap b #[u, x] ∧ keyIs k u = true
  | _, _, .nil => ⟨[], [], .nil, rfl, rfl, fun j h => absurd h (Nat.not_lt_zero _)⟩
  | _, _, .cons (a := p) (b := kv) h t => by
    obtain ⟨prs, raw, r, l1, l2, each⟩ := raw_pairs I t
    obtain ⟨its, rv, ht, _⟩ := I.tuple h
    obtain ⟨u, y, rfl, ru, ry⟩ := vals2 rv
    refine ⟨(kv.1, y) :: prs, (u, y) :: raw, .cons ⟨rfl, ry⟩ r, congrArg (· + 1) l1, congrArg (· + 1) l2, fun j hj => ?_⟩
    cases j with
    | zero => exact ⟨p, kv.1, u, y, rfl, rfl, rfl, ht, kV_is (P := X.prog) (w := X.w) ru⟩
    | succ j => exact each j (Nat.lt_of_succ_lt_succ hj)
def rDictT (K : PySem.W.Frag) : List V → Hp → VK → Prop := fun vs H Q => ∃ (a : Addr) (ps : List Addr) (kvs : List (Key × V)), vs = [.ref a] ∧ PlT H a (ps.map V.ref) ∧ Paired (fun p (kv : Key × V) => SqT K H p [kV kv.1, kv.2]) ps kvs ∧
  ∀ p, H p = none → Q (.ref p) (upd H p (.dK (mergeK [] kvs)))
theorem cr_dictT (calm : X.calm = true) : CallR X (.type "dict") (rDictT X.K) := by
  intro pins s σ H vs us Q I r told
  obtain ⟨a, ps, kvs, rfl, ⟨o, od, ha⟩, pairs, go⟩ := told
  rw [Vals.ref1 r]
  obtain ⟨ho, hz, its, rv, oo, ho', hc, n, hd⟩ := (show ObjOk X.prog X.w H s.heap a (.frz o (.tup (ps.map V.ref))) from I.hok a _ ha)
  obtain rfl : o = oo := Option.some.inj (ho.symm.trans ho')
  have ei := refs_at rv
  subst ei
  obtain ⟨prs, raw, rel, l1, l2, each⟩ := raw_pairs I pairs
  rw [List.length_map] at hz
  have items : PairItems s.heap (ps.map Value.ref).toArray (fun j => ps.getD j 0) raw := by
    refine ⟨by simp [l1], fun j k v e => ?_⟩
    have lj : j < ps.length := by rw [← l1]; exact (List.getElem?_eq_some_iff.mp e).1
    obtain ⟨b, k', u, x, e1, e2, e3, e4, e5⟩ := each j lj
    obtain ⟨rfl, rfl⟩ : k = u ∧ v = x := by rw [e] at e3; cases e3; exact ⟨rfl, rfl⟩
    have gd : ps.getD j 0 = b := by rw [List.getD_eq_getElem?_getD, e1]; rfl
    refine ⟨by simp [e1, gd], .inl ?_⟩
    show s.heap.IsTuple (ps.getD j 0) #[k, v]
    rw [gd]
    exact e4
  refine PySem.call_dict_pairs (knd := mixKind X.prog X.w) (kvs := prs) (PairArg.tuple a _ _ raw) (I.ok.hd calm) ⟨⟨o, n, ho, hc, od, hd⟩, items⟩ ?_ (by omega) fun g tk now old => ?_
  · refine ⟨by omega, fun j k v e => ?_⟩
    have lj : j < ps.length := by rw [← l1]; exact (List.getElem?_eq_some_iff.mp (show raw[j]? = some (k, v) from e)).1
    obtain ⟨b, k', u, x, e1, e2, e3, e4, e5⟩ := each j lj
    obtain ⟨rfl, rfl⟩ : k = u ∧ v = x := by
      have e : raw[j]? = some (k, v) := e
      rw [e] at e3; cases e3; exact ⟨rfl, rfl⟩
    exact ⟨k', e2, e5⟩
  · have hm : (s.heap.objs.size == sysModules) = false := beq_eq_false_iff_ne.mpr (Nat.ne_of_gt I.big)
    have len : (mergeK [] kvs).length ≤ sizeLine := by
      have q := length_mergeK kvs []
      have z := rel.length
      rw [List.length_nil] at q
      omega
    exact ⟨.ref s.heap.objs.size, _, I.laid (t' := tk) (o := .dK (mergeK [] kvs)) (fun b u e => old b u (by simp) e) (Nat.le_refl _) ⟨len, hm, merged [] prs, KV.merge rel .nil, now⟩, rfl, go _ (I.hok.fresh (Nat.le_refl _))⟩
end
end Rp

/-! A def within a def, handed to another def and called there: what its cells hold is known where that def is called, and stays so while it runs. -/
namespace Rp
open PySem PySem.Spec PyProof.Rows L2 NdefX LamX
/-- what the cells of Fn hold, and that they are no caller's frame -/
def Held1 (cl : List (Str × Addr)) (fr : List Str) (ws : List (Option V)) (outer : List Env) (s : Shared) (H : Hp) : Prop := CellsAt cl fr ws s.heap H ∧ ∀ y c, cl.lookup y = some c → c ∉ frs outer
/-- a def's promise, kept where R is known of the caller's state -/
structure QnOk (P : Program) (w : World) (K : PySem.W.Frag) (mg : Str → Option Value) (base : Heap) (k : Nat) (f : Addr) (fd : FuncData) (ps : List Str) (R : List Env → Shared → Hp → Prop) (sp : Sp) : Prop where
  len : ∀ vs H Q E, sp vs H Q E → vs.length = ps.length
  run : ∀ (A : Around) (outer : List Env) (s : Shared) (H : Hp) (args : Args) (us : List Value) (vs : List V) (Q : VK) (E : XK), R outer s H → Room k A → Env0 P w K mg base A outer s H → BindsTo s fd args (ps.zip us) → Vals vs us → sp vs H Q E →
    codeAny (model P w) A (.call (.ref f) args) (CR CX0 outer P w H s Q E) s
section
variable {P : Program} {w : World} {K : PySem.W.Frag} {mg : Str → Option Value} {base : Heap}
/-- a def by its body, R told of the caller's state -/
theorem qok {x qual : Str} {st : Stmt} {f : Addr} {fd : FuncData} {N ps : List Str} {k : Nat} {R : List Env → Shared → Hp → Prop} {sp : Sp} (F : Fun K x qual st f fd) (S : FnScope N ps (defScope st)) (len : ∀ vs H Q E, sp vs H Q E → vs.length = ps.length)
    (walk : ∀ (cdv : Value) (A : Around) (outer : List Env) (s : Shared) (H : Hp) (vs : List V) (Q : VK) (E : XK), R outer s H → Room k (A.deeper (envOfC qual (defScope st) s.heap.objs.size f cdv)) → sp vs H Q E →
      ∃ t, PSs (cxOf CX0 P w K mg base N qual (defScope st) f cdv A outer s H E).nox (defBody st) t ∧ t { nx := fun _ H' => Q .non H', rt := Q } (start N vs) H) : QnOk P w K mg base (k + 1) f fd ps R sp := by
  obtain ⟨oc, od, kV, doc, pm, an, cdv, ct, osl, rfl, lk, hcd⟩ := F.ex
  refine ⟨len, fun A outer s H args us vs Q E hR hr e0 hb r hsp => ?_⟩
  have K0 : K.In s.heap := e0.mod.kin.keeps fun b o e => (e0.bs b o e).1
  have L0 : s.heap.NoLimit := e0.mod.nolimit.keeps fun b o e => (e0.bs b o e).1
  have each : ∀ y ∈ ps.zip us, (defScope st).names.lookup y.1 = some .local ∨ ((defScope st).names.lookup y.1 = some .cell ∧ ((cellsFrom (s.heap.objs.size + 1) (defScope st).names []).lookup y.1).isSome = true) := by
    rintro ⟨n, v⟩ hy
    exact (S.par n (List.of_mem_zip hy).1).imp id fun q => ⟨q, PySem.W.cellsFrom_some _ _ _ (.inl q)⟩
  refine codeAny_call_function hr.depth (K0 _ _ lk) rfl S.co S.gen rfl (PySem.W.codeRec_of K0 hcd) (hb _ _ _ _ (wpAny_newFunctionEnv_cells S.kind each fun env he s1 z => ?_))
  subst he
  refine ⟨L0.keeps z.toInCall.keep, codeAny_func ?_⟩
  obtain ⟨t, ht, hq⟩ := walk cdv A outer s H vs Q E hR (hr.deeper _) hsp
  have I : L2.Inv (cxOf CX0 P w K mg base N qual (defScope st) f cdv A outer s H E) [] (start N vs) H s1 := inv_start S hr.hd e0 (len _ _ _ _ hsp) r z
  refine wpAny_mono (ht.nox.run [] s1 (start N vs) H _ I hq) (fun fl s' hs => ?_) fun e s' hs => hs
  rcases fl with _ | _ | _ | u
  · obtain ⟨_, H', J, q⟩ := hs
    exact ⟨V.non, H', J.os, J.bare, J.base, J.hok, rfl, q⟩
  · exact hs.choose_spec.choose_spec.2.elim
  · exact hs.choose_spec.choose_spec.2.elim
  · obtain ⟨v, _, H', J, rv, q⟩ := hs
    exact ⟨v, H', J.os, J.bare, J.base, J.hok, rv, q⟩
end
section
variable {X : Cx} {k j i : Nat} {f : Addr} {fd : FuncData} {ps fr : List Str} {E : XK} {x : Str} {p pos : Pos} {e : Expr} {es : List Expr} {t : TA} {cl : List (Str × Addr)} {js : List Nat}
/-- a cell of the running frame is no caller's frame -/
theorem cells_apart {pins : List (Addr × Obj)} {σ : L2.St} {H : Hp} {s : Shared} (I : L2.Inv X pins σ H s) (stk : X.stack = X.env :: X.outer ∧ X.env.frame = some X.env.locals) (fn : ∀ y, X.fn y = true) (low : ∀ b ∈ frs X.outer, b < X.s_0.heap.objs.size) {y : Str} {c : Addr} (hc : X.env.cells.lookup y = some c) : c ∉ frs X.stack := by
  intro hm
  rw [stk.1] at hm
  have hm : c ∈ (X.env :: X.outer).filterMap (·.frame) := hm
  rw [List.filterMap_cons, stk.2] at hm
  rcases List.mem_cons.mp hm with e | hm
  · obtain ⟨m, ⟨o, es, ep, h1, h2, _⟩, _⟩ := I.loc
    obtain ⟨v, o', h1', h2'⟩ := I.cell y c hc
    rw [e, h1] at h1'
    cases h1'
    rw [h2] at h2'
    cases h2'
  · have a := low c hm
    have b := I.ok.cab y c (fn y) hc
    exact absurd a (Nat.not_lt.mpr b)
theorem low_frames {h base : Heap} {l : List Env} (hf : Heap.FunFrames h base l) : ∀ b ∈ frs l, b < h.objs.size := fun b hb => by
  obtain ⟨_, o, ho, _⟩ := hf.mem hb
  exact Heap.lt_size ho
/-- f(e, ..), f a def of the module that wants to know what a handed def's cells hold -/
def tCallQ (sp : Addr → Addr → List (Option V) → Sp) (js : List Nat) (E : XK) (t : TA) : TE := fun σ H Q => t σ H fun vs H1 => ∃ g c', sp g c' (js.map (slotAt σ)) vs H1 Q E
theorem pe_callQ {sp : Addr → Addr → List (Option V) → Sp} (F : ∀ g c' ws, QnOk X.prog X.w X.K X.mg X.base k f fd ps (Held1 cl fr ws) (sp g c' ws)) (cp : X.Ok → Caps X cl fr js) (stk : X.stack = X.env :: X.outer ∧ X.env.frame = some X.env.locals) (fn : ∀ y, X.fn y = true)
    (hr : Room k X.A) (hg : Gl X x) (hm : X.mg x = some (.ref f)) (hk : PySem.W.keepIn X.K (.ref f) = true) (hb : Binds X.K fd ps []) (ha : PA X (e :: es) t)
    (hdb : (x == ("__debug__" : Str)) = false := by decide) (he : starEach (e :: es) X.env = (false, eval e X.env) :: starEach es X.env := by rfl) (hpl : (backTo pos (starEach es X.env)).any (·.1) = false := by rfl) :
    PE X (.Call (.Name x p) (e :: es) [] pos) (tCallQ sp js E0 t) := by
  refine ⟨fun pins s σ H Q I h => wpAny_Call_Name_kw (ld_glob I hg hm ?_ hdb)⟩
  refine PySem.W.callWith_K (h₀ := X.base) I.ok.mod.kin hk (thn (ha.run pos pins s σ H _ I h) fun us s1 ⟨vs, H1, I1, r, g, c', q⟩ => ⟨I1.kIn, ?_⟩) he hpl
  have hl : us.length = ps.length := r.length.symm.trans ((F g c' _).len _ _ _ _ q)
  have hb' := hb s1 us I1.kIn (by rw [List.append_nil]; exact hl)
  rw [List.append_nil] at hb'
  have held : Held1 cl fr (js.map (slotAt σ)) X.stack s1 H1 := ⟨cells_of I1 (cp I1.ok), fun y c hc => cells_apart I1 stk fn (low_frames I1.ok.funs) ((cp I1.ok).sub y c hc)⟩
  refine wpAny_call (codeAny_mono ((F g c' _).run X.A X.stack s1 H1 ⟨us, []⟩ us vs Q E0 held hr I1.env0 hb' r q) fun r' s' hq => ?_)
  rcases r' with e' | fl
  · exact hq.elim
  · rcases fl with _ | _ | _ | u
    · exact hq.elim
    · exact hq.elim
    · exact hq.elim
    · exact I1.after hq
/-- f(e, ..), f a local name that holds a handed def; what its cells hold was known at this def's own start -/
def tCallV (i : Nat) (g : Addr) (Fn : NF) (ws : List (Option V)) (sp : List (Option V) → Sp) (E : XK) (t : TA) : TE := fun σ H Q => σ[i]? = some (some (.ref g)) ∧ H g = some (FnO g Fn) ∧ t σ H fun vs H1 => H1 g = some (FnO g Fn) ∧ H1 Fn.c = some (CodeO Fn.c Fn.qual) ∧ sp ws vs H1 Q E
theorem pe_callV {Fn : NF} {g : Addr} {ws : List (Option V)} {sp : List (Option V) → Sp} (N : NOk X.prog X.w X.K X.mg X.base CX0 k g Fn ps fr sp) (held : Held1 Fn.cl fr ws X.outer X.s_0 X.H_0) (exn : X.ex = []) (hr : Room k X.A) (hN : X.N[i]? = some x) (hv : Vis X.env.scope x) (ha : PA X (e :: es) t)
    (hd : (x == ("__debug__" : Str)) = false := by decide) (hcd : (x == ("__classdict__" : Str)) = false := by decide)
    (he : starEach (e :: es) X.env = (false, eval e X.env) :: starEach es X.env := by rfl) (hpl : (backTo pos (starEach es X.env)).any (·.1) = false := by rfl) : PE X (.Call (.Name x p) (e :: es) [] pos) (tCallV i g Fn ws sp E0 t) := by
  refine ⟨fun pins s σ H Q I h => ?_⟩
  obtain ⟨hs, hf, ht⟩ := h
  refine wpAny_Call_Name_kw (thn ((pe_var (pos := p) hN hv hd hcd).run pins s σ H (fun v H1 => v = .ref g ∧ H1 = H) I ⟨.ref g, hs, rfl, rfl⟩) fun u s1 ⟨v, H1, I1, rel, ev, eH⟩ => ?_)
  subst ev
  rw [eH] at I1
  obtain rfl : u = Value.ref g := rel
  refine PySem.W.callWith_F (first := []) (fnAt_of I1 hf) (thn (ha.run pos pins s1 σ H _ I1 ht) fun us s2 ⟨vs, H2, I2, r, h1, h2, q⟩ => ⟨fnAt_of I2 h1, ?_⟩) he hpl
  show wpAny _ _ (call (.ref g) us) _ _ _
  have C : CellsAt Fn.cl fr ws s2.heap H2 := held.1.later held.2 (fun y c _ => by rw [exn]; simp) I2
  refine wpAny_call (codeAny_mono (N.run X.A X.stack s2 H2 us vs ws Q E0 hr I2.env0 h1 h2 C r q) fun r' s' hq => ?_)
  rcases r' with e' | fl
  · exact hq.elim
  · rcases fl with _ | _ | _ | u
    · exact hq.elim
    · exact hq.elim
    · exact hq.elim
    · exact I2.after hq
end
end Rp

/-! put: a dict of the BINDING, a def within the def that knows it, folded. -/
namespace Rp
open PySem PySem.Spec PyProof.Rows L2 TL NdefX LamX StX
abbrev Bd := List (Int × Tm)
namespace Tm
def put (b : Bd) : Tm → Tm
  | v n => (b.lookup n).getD (v n)
  | z => z
  | s t => s (t.put b)
  | f l r => f (l.put b) (r.put b)
end Tm
/-- what a dict of a BINDING tells -/
def DbAt (H : Hp) (kvs : List (Key × V)) (bd : Bd) : Prop := ∀ n : Int, (∃ v t, valV kvs (Sum.inl n) = some v ∧ bd.lookup n = some t ∧ TmAt H v t) ∨ (valV kvs (Sum.inl n) = none ∧ bd.lookup n = none)
theorem DbAt.mono {H H' : Hp} {kvs : List (Key × V)} {bd : Bd} (e : ∀ a xs, H a = some (.tup xs) → H' a = some (.tup xs)) (D : DbAt H kvs bd) : DbAt H' kvs bd :=
  fun n => (D n).imp (fun ⟨v, t, a, b, c⟩ => ⟨v, t, a, b, c.mono e⟩) id
/-- pairs of a variable and a TERM -/
def PrAt (H : Hp) (p : Addr) (kv : Int × Tm) : Prop := ∃ x, H p = some (.tup [.int kv.1, x]) ∧ TmAt H x kv.2
theorem PrAt.mono {H H' : Hp} {p : Addr} {kv : Int × Tm} (e : ∀ a xs, H a = some (.tup xs) → H' a = some (.tup xs)) : PrAt H p kv → PrAt H' p kv := fun ⟨x, h, t⟩ => ⟨x, e _ _ h, t.mono e⟩
/-- a BINDING: a plain tuple of pairs, its variables unlike -/
def BdAt (H : Hp) (a : Addr) (bd : Bd) : Prop := ∃ ps : List Addr, PlT H a (ps.map V.ref) ∧ Paired (PrAt H) ps bd ∧ (bd.map (·.1)).Nodup ∧ bd.length ≤ 1000
/-- all tuples stay, plain ones too -/
def Tups (H H' : Hp) : Prop := (∀ a xs, H a = some (.tup xs) → H' a = some (.tup xs)) ∧ ∀ a o xs, H a = some (.frz o (.tup xs)) → H' a = some (.frz o (.tup xs))
theorem Tups.same {H H' : Hp} (e : Same H H') : Tups H H' := ⟨fun _ _ h => e _ _ h, fun _ _ _ h => e _ _ h⟩
theorem Tups.ext {H H' : Hp} (e : ExtN H H') : Tups H H' := ⟨fun _ _ h => e _ _ h (fun _ z => by cases z), fun _ _ _ h => e _ _ h (fun _ z => by cases z)⟩
theorem Tups.but {H H' : Hp} {b : Addr} {ys : List V} (e : But b H H') (hb : H b = some (.lst ys)) : Tups H H' :=
  ⟨fun _ _ h => e _ _ h (ne_of h hb (by intro z; cases z)), fun _ _ _ h => e _ _ h (ne_of h hb (by intro z; cases z))⟩
theorem Tups.trans {H H1 H2 : Hp} (a : Tups H H1) (b : Tups H1 H2) : Tups H H2 := ⟨fun _ _ h => b.1 _ _ (a.1 _ _ h), fun _ _ _ h => b.2 _ _ _ (a.2 _ _ _ h)⟩
theorem BdAt.mono {H H' : Hp} {a : Addr} {bd : Bd} (e : Tups H H') : BdAt H a bd → BdAt H' a bd :=
  fun ⟨ps, h, p, nd, z⟩ => ⟨ps, h.mono fun o => e.2 _ _ _, L2.Paired.mapP p fun _ _ q => q.mono e.1, nd, z⟩
abbrev qEx : Str := ("put" : Str) ++ ".<locals>." ++ "exchanged"
abbrev nmEx : Nat → Nat → Str := fun _ _ => qEx
abbrev NEx : List Str := ["part", "below", "found"]
def spEx (ws : List (Option V)) : Sp := fun vs H Q _ => ∃ (x : V) (k : Tm) (l D : Addr) (ks : List V) (bd : Bd) (kvs : List (Key × V)), vs = [x, .ref l] ∧ ws = [some (.ref D)] ∧ TmAt H x k ∧ H l = some (.lst ks) ∧ AllAt H ks (k.kids.map (Tm.put bd)) ∧
  H D = some (.dK kvs) ∧ DbAt H kvs bd ∧ ∀ (v : V) (H' : Hp), TmAt H' v (k.put bd) → Same H H' → Q v H'
section
variable {P : Program} {w : World} {K : PySem.W.Frag} {mg : Str → Option Value} {base : Heap}
end
end Rp

/-! put: fold with the inner def, put itself. -/
namespace Rp
open PySem PySem.Spec PyProof.Rows L2 TL NdefX LamX StX
theorem AllAt.split {H : Hp} {xs : List V} {a b : List Tm} (h : AllAt H xs (a ++ b)) : ∃ ys zs, xs = ys ++ zs ∧ AllAt H ys a ∧ AllAt H zs b := by
  have l := h.len
  rw [List.length_append] at l
  refine ⟨xs.take a.length, xs.drop a.length, (List.take_append_drop _ _).symm, ?_⟩
  rw [← List.take_append_drop a.length xs] at h
  obtain ⟨t1, t2, e, h1, h2⟩ := h.parted
  have l1 := h1.len
  rw [List.length_take] at l1
  obtain ⟨rfl, rfl⟩ := List.append_inj e (by omega)
  exact ⟨h1, h2⟩
theorem put_kids (bd : Bd) {t : Tm} (no : ∀ n, t ≠ .v n) : (t.put bd).kids = t.kids.map (Tm.put bd) := by
  cases t with
  | v n => exact absurd rfl (no n)
  | z => rfl
  | s t => rfl
  | f l r => rfl
abbrev slEx (D : Addr) : List (Option V) := [some (.ref D)]
section
variable {P : Program} {w : World} {K : PySem.W.Frag} {mg : Str → Option Value} {base : Heap}
theorem scFold : FnScope ["term", "made_of", "made", "part", "first"] ["term", "made_of"] (defScope sFold) := ⟨rfl, rfl, rfl, by decide +kernel, rfl, by decide +kernel, by decide +kernel⟩
end
end Rp

/-! put itself; all but the tables stays. -/
namespace Rp
open PySem PySem.Spec PyProof.Rows L2 TL NdefX LamX StX
/-- all but the tables stays, the tables are tables still -/
structure Ext (T : List NTab) (H H' : Hp) : Prop where
  ext : ExtN H H'
  tab : TabsN T H'
  nn : ∀ b, H' b = none → H b = none
theorem same_none {H H' : Hp} (e : Same H H') (b : Addr) (h : H' b = none) : H b = none := by
  cases q : H b with
  | none => rfl
  | some u => have := e _ _ q; rw [h] at this; cases this
theorem Ext.same {T : List NTab} {H H' : Hp} (t : TabsN T H) (e : Same H H') : Ext T H H' := ⟨ExtN.of e, t.ext e, same_none e⟩
theorem Ext.trans {T : List NTab} {H H1 H2 : Hp} (a : Ext T H H1) (b : Ext T H1 H2) : Ext T H H2 := ⟨a.ext.trans b.ext, b.tab, fun x h => a.nn _ (b.nn _ h)⟩
theorem Ext.lst {T : List NTab} {H H' : Hp} (e : Ext T H H') {a : Addr} {xs : List V} (h : H a = some (.lst xs)) : H' a = some (.lst xs) := e.ext _ _ h fun _ z => by cases z
theorem Ext.tups {T : List NTab} {H H' : Hp} (e : Ext T H H') : Tups H H' := Tups.ext e.ext
theorem pairs_of {K : PySem.W.Frag} {H : Hp} : ∀ {ps : List Addr} {bd : Bd}, Paired (PrAt H) ps bd → ∃ kvs : List (Key × V), Paired (fun p (kv : Key × V) => SqT K H p [kV kv.1, kv.2]) ps kvs ∧ Paired (fun (kv : Key × V) (q : Int × Tm) => kv.1 = Sum.inl q.1 ∧ TmAt H kv.2 q.2) kvs bd
  | _, _, .nil => ⟨[], .nil, .nil⟩
  | _, _, .cons (b := q) h t => by
    obtain ⟨x, hx, tx⟩ := h
    obtain ⟨kvs, h1, h2⟩ := pairs_of (K := K) t
    exact ⟨(Sum.inl q.1, x) :: kvs, .cons (.inl (.inl hx)) h1, .cons ⟨rfl, tx⟩ h2⟩
theorem merged_tells {H : Hp} : ∀ {kvs : List (Key × V)} {bd : Bd}, Paired (fun (kv : Key × V) (q : Int × Tm) => kv.1 = Sum.inl q.1 ∧ TmAt H kv.2 q.2) kvs bd → (bd.map (·.1)).Nodup → ∀ (acc : List (Key × V)) (n : Int),
    (bd.lookup n = none → valV (mergeK acc kvs) (Sum.inl n) = valV acc (Sum.inl n)) ∧ (∀ t, bd.lookup n = some t → ∃ v, valV (mergeK acc kvs) (Sum.inl n) = some v ∧ TmAt H v t)
  | _, _, .nil, _, acc, n => ⟨fun _ => rfl, fun t h => by cases h⟩
  | _, _, .cons (a := kv) (l₁ := kvs) (b := q) (l₂ := bd) h t, nd, acc, n => by
    obtain ⟨k, y⟩ := kv
    obtain ⟨m, tm⟩ := q
    obtain ⟨e, T⟩ := h
    have e : k = Sum.inl m := e
    subst e
    have T : TmAt H y tm := T
    rw [List.map_cons, List.nodup_cons] at nd
    have ih := merged_tells t nd.2 (putK acc (Sum.inl m) y) n
    have step : mergeK acc ((Sum.inl m, y) :: kvs) = mergeK (putK acc (Sum.inl m) y) kvs := rfl
    rw [step]
    by_cases hn : n = m
    · subst hn
      have no : bd.lookup n = none := by
        rw [List.lookup_eq_none_iff]
        intro p hp
        have : n ≠ p.1 := fun z => nd.1 (List.mem_map.mpr ⟨p, hp, z.symm⟩)
        simpa using this
      have hl : ((n, tm) :: bd).lookup n = some tm := by simp [List.lookup]
      refine ⟨fun z => ?_, fun t' z => ?_⟩
      · rw [hl] at z; cases z
      · rw [hl] at z; cases z
        refine ⟨y, ?_, T⟩
        rw [ih.1 no, valV_put, if_pos rfl]
    · have hl : ((m, tm) :: bd).lookup n = bd.lookup n := by
        rw [List.lookup_cons, beq_eq_false_iff_ne.mpr hn]
      rw [hl]
      refine ⟨fun z => ?_, ih.2⟩
      rw [ih.1 z, valV_put, if_neg (fun z => hn (Sum.inl.inj z))]
theorem dict_of {H : Hp} {kvs : List (Key × V)} {bd : Bd} (h : Paired (fun (kv : Key × V) (q : Int × Tm) => kv.1 = Sum.inl q.1 ∧ TmAt H kv.2 q.2) kvs bd) (nd : (bd.map (·.1)).Nodup) : DbAt H (mergeK [] kvs) bd := fun n => by
  obtain ⟨h1, h2⟩ := merged_tells h nd [] n
  cases e : bd.lookup n with
  | none => exact .inr ⟨h1 e, rfl⟩
  | some t =>
    obtain ⟨v, a, b⟩ := h2 t e
    exact .inl ⟨v, t, a, rfl, b⟩
def spPut (T : List NTab) : Sp := fun vs H Q _ => ∃ (v : V) (t : Tm) (a : Addr) (bd : Bd), vs = [v, .ref a] ∧ TmAt H v t ∧ t.size ≤ 1000 ∧ BdAt H a bd ∧ TabsN T H ∧ ∀ (v' : V) (H' : Hp), TmAt H' v' (t.put bd) → Ext T H H' → Q v' H'
section
variable {P : Program} {w : World} {K : PySem.W.Frag} {mg : Str → Option Value} {base : Heap}
/-- a def by its body, its code object told -/
theorem okC {x qual : Str} {st : Stmt} {f c : Addr} {fd : FuncData} {N ps : List Str} {k : Nat} {sp : Sp} (F : Fun K x qual st f fd) (hc : fd.code = .ref c) (S : FnScope N ps (defScope st)) (len : ∀ vs H Q E, sp vs H Q E → vs.length = ps.length)
    (walk : ∀ (A : Around) (outer : List Env) (s : Shared) (H : Hp) (vs : List V) (Q : VK) (E : XK), Room k (A.deeper (envOfC qual (defScope st) s.heap.objs.size f (.ref c))) → sp vs H Q E →
      ∃ t, PSs (cxOf CX0 P w K mg base N qual (defScope st) f (.ref c) A outer s H E).nox (defBody st) t ∧ t { nx := fun _ H' => Q .non H', rt := Q } (start N vs) H) : FnOk P w K mg base CX0 (k + 1) f fd ps sp := by
  obtain ⟨oc, od, kV, doc, pm, an, cdv, ct, osl, rfl, lk, hcd⟩ := F.ex
  obtain rfl : cdv = .ref c := hc
  refine fn_of lk hcd S len fun A outer s H vs Q E hr hsp => ?_
  obtain ⟨t, h, q⟩ := walk A outer s H vs Q E hr hsp
  exact ⟨t, h.nox, q⟩
abbrev NPut : List Str := ["term", "binding", "found", "exchanged"]
end
end Rp

/-! A set of ints made by a comprehension of two fors. -/
namespace Rp
open PySem PySem.Spec PyProof.Rows L2 PpSet
/-- {elt for ta in ia if fa for tb in ib if fb} -/
abbrev scx (elt ta ia : Expr) (fa : List Expr) (tb ib : Expr) (fb : List Expr) (sc : Scope) (at_ : Pos) : Expr := .SetComp elt [⟨ta, ia, fa, 0⟩, ⟨tb, ib, fb, 0⟩] sc at_
theorem scx_turnA (elt ta ia : Expr) (fa : List Expr) (tb ib : Expr) (fb : List Expr) (sc : Scope) (at_ : Pos) (cur box : Value) (en : Env) :
    compTurn (scx elt ta ia fa tb ib fb sc at_) 0 cur box en = (do
      standAt ia.pos
      match ← pyNext cur with
      | none => pure (.done .next)
      | some got =>
        letOwnedTupleGo ta cur got
        assign ta en got
        let mut fine := true
        for c in fa do
          if fine then fine ← isTrue c en (eval c en)
        if fine then
          let y ← eval ib en
          standAt ib.pos
          let y ← foldedSetIterable ib en y
          let _ ← runOwn (.compStart (scx elt ta ia fa tb ib fb sc at_) 1 (← holding [y] (pyIter y)) box en) en
        again (.compLoop (scx elt ta ia fa tb ib fb sc at_) 0 cur box en)) := by rfl
theorem scx_turnB (elt ta ia : Expr) (fa : List Expr) (tb ib : Expr) (fb : List Expr) (sc : Scope) (at_ : Pos) (cur box : Value) (en : Env) :
    compTurn (scx elt ta ia fa tb ib fb sc at_) 1 cur box en = (do
      standAt ib.pos
      match ← pyNext cur with
      | none => pure (.done .next)
      | some got =>
        letOwnedTupleGo tb cur got
        assign tb en got
        let mut fine := true
        for c in fb do
          if fine then fine ← isTrue c en (eval c en)
        if fine then
          (do let y ← eval elt en; standAt elt.pos; let _ ← call (.builtin "set.add") [box, y])
        again (.compLoop (scx elt ta ia fa tb ib fb sc at_) 1 cur box en)) := by rfl
section
variable {pr : Program} {w : World} {A : Around} {R : Result → Shared → Prop} {s : Shared} {elt ta ia tb ib : Expr} {fa fb : List Expr} {sc : Scope} {at_ : Pos} {cur box : Value} {en : Env}
/-- a clause's tests -/
abbrev testsOf (fs : List Expr) (en : Env) : Sem Bool := forIn fs true fun c r => if r = true then do let fine ← isTrue c en (eval c en); pure (ForInStep.yield fine) else pure (ForInStep.yield r)
/-- an error on the way is noted -/
abbrev noteE (pr : Program) (w : World) (A : Around) (R : Result → Shared → Prop) (en : Env) : Value → Shared → Prop := notedBy (model pr w) A en fun e s' => R (.error e) s'
theorem scx_loopA (plain : ∀ y, foldedSetIterable ib en y = pure y) (J : Nat → Shared → Prop)
    (each : ∀ n s, J n s → wpAny (model pr w) A (pyNext cur) (fun r s1 => match r with
      | none => R (.ok .next) s1
      | some got => wpAny (model pr w) A (letOwnedTupleGo ta cur got) (fun _ s2 => wpAny (model pr w) A (assign ta en got) (fun _ s3 => wpAny (model pr w) A (testsOf fa en) (fun fine s4 =>
            if fine = true then wpAny (model pr w) A (eval ib en) (fun y s5 => wpAny (model pr w) A (pyIter y) (fun cur1 s6 =>
              codeAny (model pr w) A (.compStart (scx elt ta ia fa tb ib fb sc at_) 1 cur1 box en) (fun r s' => match r with
                | .ok _ => ∃ m, m < n ∧ J m s'
                | .error _ => False) s6) (noteE pr w A R en) s5) (noteE pr w A R en) s4
            else ∃ m, m < n ∧ J m s4) (noteE pr w A R en) s3) (noteE pr w A R en) s2) (noteE pr w A R en) s1) (noteE pr w A R en) s)
    (n : Nat) (h0 : J n s) : codeAny (model pr w) A (.compLoop (scx elt ta ia fa tb ib fb sc at_) 0 cur box en) R s := by
  refine codeAny_loop rfl J (fun n s hJ => ?_) n h0
  show wpAny _ A ((compTurn (scx elt ta ia fa tb ib fb sc at_) 0 cur box en).onRaise (fun z => do noteFrame z en; theTreesLotGoes z)) _ _ s
  refine wpAny_noted ?_
  rw [scx_turnA]
  refine wpAny_bind (wpAny_standAt (wpAny_bind (wpAny_mono (each n s hJ) (fun r s1 q1 => ?_) fun _ _ z => z)))
  rcases r with _ | got
  · exact wpAny_pure q1
  · refine wpAny_bind (wpAny_mono q1 (fun _ s2 q2 => wpAny_bind (wpAny_mono q2 (fun _ s3 q3 => wpAny_bind (wpAny_mono q3 (fun fine s4 q4 => ?_) fun _ _ z => z)) fun _ _ z => z)) fun _ _ z => z)
    cases fine with
    | false => exact wpAny_pure ⟨rfl, q4⟩
    | true =>
      refine wpAny_bind (wpAny_mono q4 (fun y s5 q5 => wpAny_bind (wpAny_standAt (wpAny_bind (wpAny_of_eq (plain y) (wpAny_bind (wpAny_holding (wpAny_mono q5 (fun cur1 s6 q6 => ?_) fun _ _ z => z))))))) fun _ _ z => z)
      refine wpAny_bind (wpAny_runOwn ?_)
      rw [Around.mark_none]
      refine codeAny_mono q6 fun r s' hr => ?_
      rcases r with e | fl
      · exact hr.elim
      · first
          | exact wpAny_pure ⟨rfl, hr⟩
          | exact wpAny_bind (wpAny_pure (wpAny_pure ⟨rfl, hr⟩))
theorem scx_loopB (J : Nat → Shared → Prop)
    (each : ∀ n s, J n s → wpAny (model pr w) A (pyNext cur) (fun r s1 => match r with
      | none => R (.ok .next) s1
      | some got => wpAny (model pr w) A (letOwnedTupleGo tb cur got) (fun _ s2 => wpAny (model pr w) A (assign tb en got) (fun _ s3 => wpAny (model pr w) A (testsOf fb en) (fun fine s4 =>
            if fine = true then wpAny (model pr w) A (eval elt en) (fun y s5 => wpAny (model pr w) A (call (.builtin "set.add") [box, y]) (fun _ s6 => ∃ m, m < n ∧ J m s6) (noteE pr w A R en) s5) (noteE pr w A R en) s4
            else ∃ m, m < n ∧ J m s4) (noteE pr w A R en) s3) (noteE pr w A R en) s2) (noteE pr w A R en) s1) (noteE pr w A R en) s)
    (n : Nat) (h0 : J n s) : codeAny (model pr w) A (.compLoop (scx elt ta ia fa tb ib fb sc at_) 1 cur box en) R s := by
  refine codeAny_loop rfl J (fun n s hJ => ?_) n h0
  show wpAny _ A ((compTurn (scx elt ta ia fa tb ib fb sc at_) 1 cur box en).onRaise (fun z => do noteFrame z en; theTreesLotGoes z)) _ _ s
  refine wpAny_noted ?_
  rw [scx_turnB]
  refine wpAny_bind (wpAny_standAt (wpAny_bind (wpAny_mono (each n s hJ) (fun r s1 q1 => ?_) fun _ _ z => z)))
  rcases r with _ | got
  · exact wpAny_pure q1
  · refine wpAny_bind (wpAny_mono q1 (fun _ s2 q2 => wpAny_bind (wpAny_mono q2 (fun _ s3 q3 => wpAny_bind (wpAny_mono q3 (fun fine s4 q4 => ?_) fun _ _ z => z)) fun _ _ z => z)) fun _ _ z => z)
    cases fine with
    | false => exact wpAny_pure ⟨rfl, q4⟩
    | true => exact wpAny_bind (wpAny_bind (wpAny_mono q4 (fun y s5 q5 => wpAny_bind (wpAny_standAt (wpAny_bind (wpAny_mono q5 (fun _ s6 q6 => wpAny_pure (wpAny_pure ⟨rfl, q6⟩)) fun _ _ z => z)))) fun _ _ z => z))
theorem scx_startB (go : codeAny (model pr w) A (.compLoop (scx elt ta ia fa tb ib fb sc at_) 1 cur box en) R s)
    (own : wpAny (model pr w) A (pyIter cur) (fun c' s' => codeAny (model pr w) A (.compLoop (scx elt ta ia fa tb ib fb sc at_) 1 c' box en) R s') (noteE pr w A R en) s) :
    codeAny (model pr w) A (.compStart (scx elt ta ia fa tb ib fb sc at_) 1 cur box en) R s := by
  refine codeAny_of_tree ?_
  show wpAny _ _ ((compStart (scx elt ta ia fa tb ib fb sc at_) 1 cur box en).onRaise (fun z => do noteFrame z en; standAt theWindowsPlace)) _ _ s
  refine wpAny_notedAt ?_
  unfold compStart
  show wpAny _ _ (ask >>= _) _ _ s
  refine wpAny_bind (wpAny_askSetting (wpAny_ite ?_))
  split
  · first
      | exact wpAny_bind (wpAny_pure (wpAny_pure (And.intro rfl go)))
      | exact wpAny_pure (And.intro rfl go)
  · first
      | exact wpAny_bind (wpAny_rule (wpAny_bind (wpAny_standAt (wpAny_bind (wpAny_mono own (fun c' s' q => wpAny_pure (And.intro rfl q)) fun _ _ z => z)))))
      | (refine wpAny_bind (wpAny_rule ?_); show wpAny _ _ (standAt ib.pos >>= _) _ _ s; exact wpAny_bind (wpAny_standAt (wpAny_bind (wpAny_mono own (fun c' s' q => wpAny_pure (And.intro rfl q)) fun _ _ z => z))))
end
section
variable {X : Cx}
/-- what such a comprehension asks: the outer walk's turns (W, Nx), behind each one the inner walk's (W', Nx') -/
def tScI2 (w : World) (wi : TI) (g : TG) (tt : TT) (wi' : TI) (g' : TG) (tt' : TT) (te : TE) (vs vs' : List Nat) : TE := fun σ H Q => wi σ H fun J H1 => ∀ D, H1 D = none →
  ∃ W : Nat → Nat → Hp → Prop, (∃ m, W 0 m (upd H1 D (SetO w D (fun _ => false) 0))) ∧ ∀ i m H, W i m H → (J.stop i H ∧ Q (.ref D) H) ∨
    (J.go i H ∧ ∃ Nx : Hp → Prop, (∀ H', Nx H' → ∃ m', m' < m ∧ W (i + 1) m' H') ∧ ∀ x H', J.yld i H x H' → g x (wipe σ vs) H' fun σ2 H2 => wipe σ2 vs = wipe σ vs ∧
      tt σ2 H2 fun b H3 => if b = true then wi' σ2 H3 fun J' H4 => ∃ W' : Nat → Nat → Hp → Prop, (∃ m, W' 0 m H4) ∧ ∀ j k H, W' j k H → (J'.stop j H ∧ Nx H) ∨
        (J'.go j H ∧ ∃ Nx' : Hp → Prop, (∀ H', Nx' H' → ∃ k', k' < k ∧ W' (j + 1) k' H') ∧ ∀ x H', J'.yld j H x H' → g' x (wipe σ2 vs') H' fun σ3 H5 => wipe σ3 vs' = wipe σ2 vs' ∧
          tt' σ3 H5 fun b H6 => if b = true then te σ3 H6 fun y H7 => ∃ (n : Int) (S : Int → Bool) (c : Nat), y = .int n ∧ H7 D = some (SetO w D S c) ∧ c + 1 < scanBound ∧
            Nx' (upd H7 D (SetO w D (fun j => S j || decide (j = n)) (if S n = true then c else c + 1))) else Nx' H6)
      else Nx H3)
theorem pe_scI2 {elt ta ia tb ib : Expr} {fa fb : List Expr} {sc : Scope} {own : List (PySem.Str × Nat)} {vs' : List Nat} {at_ : Pos} {wi wi' : TI} {g g' : TG} {tt tt' : TT} {te : TE}
    (calm : X.calm = true) (nd : X.N.Nodup) (hi : PI X ta ia wi) (ok : BlkOk X.N X.env.scope sc own) (inn : ∀ i ∈ vs', i ∈ own.map (·.2))
    (hg : ∀ (s : Shared) (H : Hp) (C : Addr) (cl : List (PySem.Str × Addr)) (fp : List Addr), PG (X.blk s H sc (compEnvC sc cl C X.env) fp) ta g)
    (ht : ∀ (s : Shared) (H : Hp) (C : Addr) (cl : List (PySem.Str × Addr)) (fp : List Addr), PTs (X.blk s H sc (compEnvC sc cl C X.env) fp) fa tt)
    (hi' : ∀ (s : Shared) (H : Hp) (C : Addr) (cl : List (PySem.Str × Addr)) (fp : List Addr), PI (X.blk s H sc (compEnvC sc cl C X.env) fp) tb ib wi')
    (hg' : ∀ (s : Shared) (H : Hp) (C : Addr) (cl : List (PySem.Str × Addr)) (fp : List Addr), PG (X.blk s H sc (compEnvC sc cl C X.env) fp) tb g')
    (ht' : ∀ (s : Shared) (H : Hp) (C : Addr) (cl : List (PySem.Str × Addr)) (fp : List Addr), PTs (X.blk s H sc (compEnvC sc cl C X.env) fp) fb tt')
    (he : ∀ (s : Shared) (H : Hp) (C : Addr) (cl : List (PySem.Str × Addr)) (fp : List Addr), PE (X.blk s H sc (compEnvC sc cl C X.env) fp) elt te)
    (plain : ∀ y, foldedSetIterable ia X.env y = pure y := by intro _; rfl) (plain' : ∀ en y, foldedSetIterable ib en y = pure y := by intro _ _; rfl) :
    PE X (scx elt ta ia fa tb ib fb sc at_) (tScI2 X.w wi g tt wi' g' tt' te (own.map (·.2)) vs') := by
  refine ⟨fun pins s σ H Q I h => ?_⟩
  rw [eval_SetComp]
  have caught : ∀ y ∈ sc.names, y.2 = .free → ∃ c, X.env.cells.lookup y.1 = some c := fun y hy e =>
    (ok.free y hy e).elim (fun k => I.ok.has _ (.inl k)) fun k => I.ok.has _ (.inr k)
  refine wpAny_comprehension_free (use := none) rfl plain (closure_ok caught) ok.kind (fun y hy e => (ok.uniq y hy).trans (by rw [e])) (thn (hi.run pins s σ H _ I h) fun xv s1 hx => thn hx fun itv s2 h2 => ?_)
  obtain ⟨it, fp, tn, J, H2, rfl, I2, T, st2, f2, q⟩ := h2
  refine newSet_ok (newEnv_comp ?_)
  obtain ⟨D, hD⟩ : ∃ D, s2.heap.objs.size = D := ⟨_, rfl⟩
  rw [hD]
  obtain ⟨W, ⟨m0, w0⟩, turn⟩ := q D (I2.hok.fresh (Nat.le_of_eq hD))
  obtain ⟨s3, hs3⟩ : ∃ s3 : Shared, { s2 with heap := s2.heap.push (emptySet X.w) } = s3 := ⟨_, rfl⟩
  have h3 : s3.heap = s2.heap.push (emptySet X.w) := by rw [← hs3]
  have I3 : Inv X pins σ (upd H2 D (SetO X.w D (fun _ => false) 0)) s3 := by
    have z := I2.laid (a := D) (o := SetO X.w D (fun _ => false) 0) (t' := s2.toks) (h' := s2.heap.push (emptySet X.w)) (fun b o e => Heap.get?_push_of_some _ e) (Nat.le_of_eq hD) (by rw [← hD]; exact setO_new (setR_fresh X.w))
    exact hs3 ▸ z
  have low : ∀ b ∈ fp, b < s2.heap.objs.size := fun b hb => let ⟨o, e, _⟩ := T.obj _ _ st2 b hb; Heap.lt_size e
  have f3 : ∀ b ∈ fp, FpOk X pins (upd H2 D (SetO X.w D (fun _ => false) 0)) b ∧ b < s3.heap.objs.size := fun b hb =>
    ⟨⟨(upd_ne (by rw [← hD]; exact Nat.ne_of_lt (low b hb))).trans (f2 b hb).1, (f2 b hb).2⟩, by rw [h3, Heap.size_push]; exact Nat.lt_succ_of_lt (low b hb)⟩
  have st3 : tn 0 s3.heap := T.keep _ _ _ st2 fun b _ o e => h3 ▸ Heap.get?_push_of_some _ e
  have I4 := block_start I3 ok nd f3
  obtain ⟨H3, hH3⟩ : ∃ H3, upd H2 D (SetO X.w D (fun _ => false) 0) = H3 := ⟨_, rfl⟩
  rw [hH3] at I3 f3 I4 w0
  obtain ⟨C, hC⟩ : ∃ C, s3.heap.objs.size = C := ⟨_, rfl⟩
  rw [hC] at I4
  have pg := hg s3 H3 C (cellsFrom (C + 1) sc.names (cloFrom X.env.cells sc.names [])) fp
  have pt := ht s3 H3 C (cellsFrom (C + 1) sc.names (cloFrom X.env.cells sc.names [])) fp
  have pi' := hi' s3 H3 C (cellsFrom (C + 1) sc.names (cloFrom X.env.cells sc.names [])) fp
  have pg' := hg' s3 H3 C (cellsFrom (C + 1) sc.names (cloFrom X.env.cells sc.names [])) fp
  have pt' := ht' s3 H3 C (cellsFrom (C + 1) sc.names (cloFrom X.env.cells sc.names [])) fp
  have pe := he s3 H3 C (cellsFrom (C + 1) sc.names (cloFrom X.env.cells sc.names [])) fp
  subst hs3
  have hC' : (s2.heap.push (emptySet X.w)).objs.size = C := hC
  show codeAny _ _ (.compStart (scx elt ta ia fa tb ib fb sc at_) 0 (.ref it) (.ref D) (compEnvC sc (cellsFrom ((s2.heap.push (emptySet X.w)).objs.size + 1) sc.names (cloFrom X.env.cells sc.names [])) (s2.heap.push (emptySet X.w)).objs.size X.env))
    (compPost (model X.prog X.w) X.A X.xe none (EP X pins σ Q) (.ref D) (s2.heap.push (emptySet X.w)).objs.size) { s2 with heap := pushCells ((s2.heap.push (emptySet X.w)).push { cls := .type "dict", data := .dict #[] }) sc.names }
  rw [hC']
  obtain ⟨ce, hce⟩ : ∃ ce, compEnvC sc (cellsFrom (C + 1) sc.names (cloFrom X.env.cells sc.names [])) C X.env = ce := ⟨_, rfl⟩
  rw [hce] at I4 pg pt pi' pg' pt' pe ⊢
  have cL : ce.locals = C := by subst hce; rfl
  obtain ⟨s4, hs4⟩ : ∃ s4 : Shared, { s2 with heap := pushCells ((s2.heap.push (emptySet X.w)).push { cls := .type "dict", data := .dict #[] }) sc.names } = s4 := ⟨_, rfl⟩
  obtain ⟨Y, hY⟩ : ∃ Y, X.blk { s2 with heap := s2.heap.push (emptySet X.w) } H3 sc ce fp = Y := ⟨_, rfl⟩
  have I4 : Inv Y [] (wipe σ (own.map (·.2))) H3 s4 := hY ▸ hs4 ▸ I4
  rw [hs4]
  have st4 : tn 0 s4.heap := T.keep _ _ _ st3 fun b _ o e => by rw [← hs4]; exact pushCells_keeps _ _ _ _ (Heap.get?_push_of_some _ e)
  have rest : ∀ {σ' : L2.St} {H' : Hp} {s' : Shared}, Inv Y [] σ' H' s' → (∀ b ∈ fp, H' b = none) → ∀ b ∈ fp, FpOk Y [] H' b := by
    subst hY
    intro σ' H' s' I' hn b hb
    exact ⟨hn b hb, (I'.ok.exf b hb).1, I'.ok.exfs b hb, .inl hb, fun x c e => (I'.ok.exf b hb).2 x c e, fun p hp => absurd (show p ∈ ([] : List (Addr × Obj)) ++ [] from hp) (by simp)⟩
  obtain ⟨Go, hGo⟩ : ∃ Go : Nat → Shared → Prop, Go = fun n s' => ∃ i H', Inv Y [] (wipe σ (own.map (·.2))) H' s' ∧ tn i s'.heap ∧ (∀ b ∈ fp, H' b = none) ∧ W i n H' := ⟨_, rfl⟩
  have round : codeAny (model X.prog X.w) X.A (.compLoop (scx elt ta ia fa tb ib fb sc at_) 0 (.ref it) (.ref D) ce) (compPost (model X.prog X.w) X.A X.xe none (EP X pins σ Q) (.ref D) C) s4 := by
    refine scx_loopA (plain' ce) Go ?_ m0 (by rw [hGo]; exact ⟨0, H3, I4, st4, fun b hb => (f3 b hb).1.1, w0⟩)
    intro n s5 g5
    rw [hGo] at g5
    obtain ⟨i, H5, I5, st5, n5, w5⟩ := g5
    rcases turn i n H5 w5 with ⟨over, last⟩ | ⟨more, Nx, hNx, step⟩
    · subst hY
      refine thnF (T.done (X.blk _ H3 sc ce fp) rfl rfl rfl calm i [] s5 _ H5 (fun _ _ => False) I5 (rest I5 n5) st5 over) fun r s6 ⟨hr, I6⟩ => ?_
      subst hr
      have I7 : Inv X pins σ H5 s6 := I3.call' (ch := fp) I6.os I6.base I6.hok I6.bare fun b hb => ⟨(f3 b hb).1.2.2.2.1, (f3 b hb).1.2.1, (f3 b hb).1.2.2.2.2.1, (f3 b hb).1.2.2.2.2.2⟩
      have nC : H5 C = none := cL ▸ (show H5 ce.locals = none from I6.free)
      obtain ⟨m, hn, _⟩ := I6.loc
      have hn : s6.heap.Ns C m := cL ▸ (show s6.heap.Ns ce.locals m from hn)
      refine ⟨m, hn, fun h'' sb => ?_⟩
      obtain ⟨g0, g1, g2, g3, g4, g5⟩ := I3.fpOk (Nat.le_of_eq hC) nC
      exact ⟨.ref D, H5, I7.turned (t' := s6.toks) (fun b o hb e => (sb.2 b hb).trans e) g0 g1 g3 g4 g5, rfl, last⟩
    · have item := T.item Y (by subst hY; rfl) (by subst hY; rfl) (by subst hY; rfl) (by subst hY; exact calm) i [] s5 _ H5 (fun _ _ => False) I5 (rest I5 n5) st5 more
      rw [hY] at pg pt pi' pg' pt' pe
      have yA : Y.A = X.A := by subst hY; rfl
      have yP : Y.prog = X.prog := by subst hY; rfl
      have yw : Y.w = X.w := by subst hY; rfl
      subst hY
      refine thnF item fun r s6 ⟨u, hr, h6⟩ => ?_
      subst hr
      refine thnF h6 fun _ s7 ⟨x, H7, I7, r7, y7, st7, n7⟩ => ?_
      refine thnF (pg.run _ s7 _ H7 x u _ (I7.pinned (rest I7 n7) (T.obj _ _ st7)) r7 (step x H7 y7)) fun _ s8 ⟨σ8, H8, I8, hw8, q8⟩ => ?_
      refine thnF (pt.run _ s8 σ8 H8 _ I8 q8) fun b s9 ⟨H9, I9, q9⟩ => ?_
      -- back at the outer walk
      have back : ∀ {σ' : L2.St} {s' : Shared} {H' : Hp}, Inv (X.blk { s2 with heap := s2.heap.push (emptySet X.w) } H3 sc ce fp) ([] ++ pinsAt fp s7.heap) σ' H' s' → σ'.length = σ8.length → (∀ (j : Nat) v, (wipe σ8 (own.map (·.2)))[j]? = some (some v) → σ'[j]? = some (some v)) → Nx H' → ∃ m, m < n ∧ Go m s' := by
        intro σ' s' H' I' len same nx
        obtain ⟨m', hm, w'⟩ := hNx H' nx
        have pin : ∀ b ∈ fp, ∀ o, s7.heap.get? b = some o → s'.heap.get? b = some o ∧ H' b = none := fun b hb o e =>
          let z := I'.pin (b, o) (List.mem_append_right _ (List.mem_append_right _ (mem_pinsAt hb e))); ⟨z.1, z.2.1⟩
        refine ⟨m', hm, ?_⟩
        rw [hGo]
        refine ⟨i + 1, H', (I'.unpinned (pins := [])).weak (by rw [← hw8, wipe_length, len]) (fun j v e => same j v (by rw [hw8]; exact e)), T.keep _ _ _ st7 fun b hb o e => (pin b hb o e).1, fun b hb => ?_, w'⟩
        obtain ⟨o, e, _⟩ := T.obj _ _ st7 b hb
        exact (pin b hb o e).2
      cases b with
      | false =>
        simp only [Bool.false_eq_true, if_false] at q9 ⊢
        exact back I9 rfl (fun j v e => (wipe_some e).1) q9
      | true =>
        simp only [if_true] at q9 ⊢
        refine thnF (pi'.run _ s9 σ8 H9 _ I9 q9) fun yv s10 hx => thnF hx fun itv s11 h11 => ?_
        obtain ⟨it', fp', tn', J', H11, rfl, I11, T', st11, f11, W', ⟨m1, w1⟩, turn'⟩ := h11
        have rest' : ∀ {H' : Hp}, (∀ b ∈ fp', H' b = none) → ∀ b ∈ fp', FpOk (X.blk { s2 with heap := s2.heap.push (emptySet X.w) } H3 sc ce fp) ([] ++ pinsAt fp s7.heap) H' b := fun hn b hb => ⟨hn b hb, (f11 b hb).2⟩
        obtain ⟨Go', hGo'⟩ : ∃ Go' : Nat → Shared → Prop, Go' = fun k s' => ∃ j H', Inv (X.blk { s2 with heap := s2.heap.push (emptySet X.w) } H3 sc ce fp) ([] ++ pinsAt fp s7.heap) (wipe σ8 vs') H' s' ∧ tn' j s'.heap ∧ (∀ b ∈ fp', H' b = none) ∧ W' j k H' := ⟨_, rfl⟩
        have inner : codeAny (model X.prog X.w) X.A (.compLoop (scx elt ta ia fa tb ib fb sc at_) 1 (.ref it') (.ref D) ce)
            (fun r s' => match r with
              | .ok _ => ∃ m, m < n ∧ Go m s'
              | .error _ => False) s11 := by
          refine scx_loopB Go' ?_ m1 (by rw [hGo']; exact ⟨0, H11, I11.weak (wipe_length _ _) (fun j v e => (wipe_some e).1), st11, fun b hb => (f11 b hb).1, w1⟩)
          intro k s12 g12
          rw [hGo'] at g12
          obtain ⟨j, H12, I12, st12, n12, w12⟩ := g12
          rcases turn' j k H12 w12 with ⟨over', nx⟩ | ⟨more', Nx', hNx', step'⟩
          · refine thnF (T'.done (X.blk { s2 with heap := s2.heap.push (emptySet X.w) } H3 sc ce fp) rfl rfl rfl calm j _ s12 (wipe σ8 vs') H12 (fun _ _ => False) I12 (rest' n12) st12 over') fun r s13 ⟨hr, I13⟩ => ?_
            subst hr
            refine back I13 (wipe_length σ8 vs') (fun l v e => ?_) nx
            obtain ⟨e1, e2⟩ := wipe_some e
            rw [wipe_out fun z => e2 (inn l z)]
            exact e1
          · refine thnF (T'.item (X.blk { s2 with heap := s2.heap.push (emptySet X.w) } H3 sc ce fp) rfl rfl rfl calm j _ s12 (wipe σ8 vs') H12 (fun _ _ => False) I12 (rest' n12) st12 more') fun r s13 ⟨u', hr, h13⟩ => ?_
            subst hr
            refine thnF h13 fun _ s14 ⟨x', H14, I14, r14, y14, st14, n14⟩ => ?_
            refine thnF (pg'.run _ s14 (wipe σ8 vs') H14 x' u' _ (I14.pinned (rest' n14) (T'.obj _ _ st14)) r14 (step' x' H14 y14)) fun _ s15 ⟨σ15, H15, I15, hw15, q15⟩ => ?_
            refine thnF (pt'.run _ s15 σ15 H15 _ I15 q15) fun b' s16 ⟨H16, I16, q16⟩ => ?_
            have back' : ∀ {s' : Shared} {H' : Hp}, Inv (X.blk { s2 with heap := s2.heap.push (emptySet X.w) } H3 sc ce fp) (([] ++ pinsAt fp s7.heap) ++ pinsAt fp' s14.heap) σ15 H' s' → Nx' H' → ∃ m, m < k ∧ Go' m s' := by
              intro s' H' I' nx
              obtain ⟨m', hm, w'⟩ := hNx' H' nx
              have pin : ∀ b ∈ fp', ∀ o, s14.heap.get? b = some o → s'.heap.get? b = some o ∧ H' b = none := fun b hb o e =>
                let z := I'.pin (b, o) (List.mem_append_right _ (List.mem_append_right _ (mem_pinsAt hb e))); ⟨z.1, z.2.1⟩
              refine ⟨m', hm, ?_⟩
              rw [hGo']
              refine ⟨j + 1, H', I'.unpinned.weak (by rw [← hw15, wipe_length]) (fun l v e => by rw [← hw15] at e; exact (wipe_some e).1), T'.keep _ _ _ st14 fun b hb o e => (pin b hb o e).1, fun b hb => ?_, w'⟩
              obtain ⟨o, e, _⟩ := T'.obj _ _ st14 b hb
              exact (pin b hb o e).2
            cases b' with
            | false => simp only [Bool.false_eq_true, if_false] at q16 ⊢; exact back' I16 q16
            | true =>
              simp only [if_true] at q16 ⊢
              refine thnF (pe.run _ s16 σ15 H16 _ I16 q16) fun z s17 ⟨yv, H17, I17, r17, num, S0, c0, ey, hD17, few, nx⟩ => ?_
              subst ey
              obtain ⟨t, rfl⟩ := r17
              exact putInt (X := X.blk _ H3 sc ce fp) I17 hD17 few fun s18 I18 => back' I18 nx
        exact scx_startB inner (T'.self X.A 0 _ _ _ st11 inner)
  exact codeAny_compStart_set round (T.self X.A 0 _ _ _ st4 round)
end
end Rp

/-! ATOMs: their variables, a BINDING put into them. -/
namespace Rp
open PySem PySem.Spec PyProof.Rows L2 TL NdefX LamX StX PpSet
theorem walk_tup {K : PySem.W.Frag} {a : Addr} {xs : List V} {B : V → Hp → (Hp → Prop) → Prop} {H1 : Hp} {Done : Hp → Prop} (Pv : Nat → Hp → Prop) (h0 : Pv 0 H1) (hl : ∀ i H, i ≤ xs.length → Pv i H → SqT K H a xs)
    (hs : ∀ i x H, xs[i]? = some x → Pv i H → B x H (Pv (i + 1))) (hd : ∀ H, Pv xs.length H → Done H) :
    ∃ W : Nat → Nat → Hp → Prop, (∃ m, W 0 m H1) ∧ ∀ i m H, W i m H →
      ((Itt K a).stop i H ∧ Done H) ∨ ((Itt K a).go i H ∧ ∃ Nx : Hp → Prop, (∀ H', Nx H' → ∃ m', m' < m ∧ W (i + 1) m' H') ∧ ∀ x H', (Itt K a).yld i H x H' → B x H' Nx) := by
  refine ⟨fun i m H => m = xs.length - i ∧ i ≤ xs.length ∧ Pv i H, ⟨xs.length, by simp, Nat.zero_le _, h0⟩, ?_⟩
  rintro i m H ⟨rfl, hi, p⟩
  have q := hl i H hi p
  by_cases hlt : i < xs.length
  · refine .inr ⟨⟨xs, xs[i], q, by simp [hlt]⟩, Pv (i + 1), fun H' p' => ⟨xs.length - (i + 1), by omega, rfl, hlt, p'⟩, fun x H' y => ?_⟩
    obtain ⟨e, y⟩ := y
    subst e
    exact hs i x _ (y xs q) p
  · have e : i = xs.length := by omega
    subst e
    exact .inl ⟨⟨xs, q, Nat.le_refl _⟩, hd H p⟩
theorem walk_lst {K : PySem.W.Frag} {a : Addr} {xs : List V} {B : V → Hp → (Hp → Prop) → Prop} {H1 : Hp} {Done : Hp → Prop} (Pv : Nat → Hp → Prop) (h0 : Pv 0 H1) (hl : ∀ i H, i ≤ xs.length → Pv i H → SqL K H a xs)
    (hs : ∀ i x H, xs[i]? = some x → Pv i H → B x H (Pv (i + 1))) (hd : ∀ H, Pv xs.length H → Done H) :
    ∃ W : Nat → Nat → Hp → Prop, (∃ m, W 0 m H1) ∧ ∀ i m H, W i m H →
      ((Itl K a).stop i H ∧ Done H) ∨ ((Itl K a).go i H ∧ ∃ Nx : Hp → Prop, (∀ H', Nx H' → ∃ m', m' < m ∧ W (i + 1) m' H') ∧ ∀ x H', (Itl K a).yld i H x H' → B x H' Nx) := by
  refine ⟨fun i m H => m = xs.length - i ∧ i ≤ xs.length ∧ Pv i H, ⟨xs.length, by simp, Nat.zero_le _, h0⟩, ?_⟩
  rintro i m H ⟨rfl, hi, p⟩
  have q := hl i H hi p
  by_cases hlt : i < xs.length
  · refine .inr ⟨⟨xs, xs[i], q, by simp [hlt]⟩, Pv (i + 1), fun H' p' => ⟨xs.length - (i + 1), by omega, rfl, hlt, p'⟩, fun x H' y => ?_⟩
    obtain ⟨e, y⟩ := y
    subst e
    exact hs i x _ (y xs q) p
  · have e : i = xs.length := by omega
    subst e
    exact .inl ⟨⟨xs, q, Nat.le_refl _⟩, hd H p⟩
/-- an ATOM stands as the value v -/
def AmAt (H : Hp) (v : V) (p : Str) (ts : List Tm) : Prop := ∃ (a : Addr) (xs : List V), v = .ref a ∧ H a = some (.tup (.str p :: xs)) ∧ AllAt H xs ts
theorem AmAt.mono {H H' : Hp} {v : V} {p : Str} {ts : List Tm} (e : ∀ a xs, H a = some (.tup xs) → H' a = some (.tup xs)) : AmAt H v p ts → AmAt H' v p ts := fun ⟨a, xs, h1, h2, h3⟩ => ⟨a, xs, h1, e _ _ h2, h3.mono e⟩
/-- all but D and the tables stays -/
structure ExtB (T : List NTab) (D : Addr) (H H' : Hp) : Prop where
  ext : ∀ c o, H c = some o → c ≠ D → (∀ ps, o ≠ .tbl ps) → H' c = some o
  tab : TabsN T H'
theorem code_lst {c : Addr} {q : Str} {xs : List V} : CodeO c q ≠ .lst xs := fun z => by unfold CodeO at z; cases z
theorem tabs_but {T : List NTab} {H H' : Hp} {D : Addr} {xs : List V} (t : TabsN T H) (hD : H D = some (.lst xs)) (o : But D H H') : TabsN T H' := fun p hp => by
  obtain ⟨ps, h1, h2, h3⟩ := t p hp
  refine ⟨ps, o _ _ h1 (ne_of h1 hD (by intro z; cases z)), h2, fun pos cv hc => ?_⟩
  obtain ⟨c, e1, e2⟩ := h3 pos cv hc
  exact ⟨c, e1, o _ _ e2 (ne_of e2 hD code_lst)⟩
theorem ExtB.refl {T : List NTab} {D : Addr} {H : Hp} (t : TabsN T H) : ExtB T D H H := ⟨fun _ _ h _ _ => h, t⟩
theorem ExtB.trans {T : List NTab} {D : Addr} {H H1 H2 : Hp} (a : ExtB T D H H1) (b : ExtB T D H1 H2) : ExtB T D H H2 := ⟨fun c o h n m => b.ext c o (a.ext c o h n m) n m, b.tab⟩
theorem Ext.toB {T : List NTab} {D : Addr} {H H' : Hp} (e : Ext T H H') : ExtB T D H H' := ⟨fun c o h _ m => e.ext c o h m, e.tab⟩
theorem ExtB.but {T : List NTab} {D : Addr} {xs : List V} {H H' : Hp} (t : TabsN T H) (hD : H D = some (.lst xs)) (o : But D H H') : ExtB T D H H' := ⟨fun c u h n _ => o c u h n, tabs_but t hD o⟩
theorem ExtB.same {T : List NTab} {D : Addr} {H H' : Hp} (t : TabsN T H) (s : Same H H') : ExtB T D H H' := ⟨fun c u h _ _ => s c u h, t.ext s⟩
theorem ExtB.tups {T : List NTab} {D : Addr} {xs : List V} {H H' : Hp} (e : ExtB T D H H') (hD : H D = some (.lst xs)) : Tups H H' :=
  ⟨fun _ _ h => e.ext _ _ h (ne_of h hD (by intro z; cases z)) (fun _ z => by cases z), fun _ _ _ h => e.ext _ _ h (ne_of h hD (by intro z; cases z)) (fun _ z => by cases z)⟩
theorem ExtB.lst {T : List NTab} {D : Addr} {H H' : Hp} (e : ExtB T D H H') {a : Addr} {xs : List V} (h : H a = some (.lst xs)) (n : a ≠ D) : H' a = some (.lst xs) := e.ext _ _ h n fun _ z => by cases z
theorem nums_half : ∀ t : Tm, 2 * t.nums.length ≤ t.size + 1
  | .v n => by simp [Tm.nums, Tm.size]
  | .z => by simp [Tm.nums, Tm.size]
  | .s t => by have := nums_half t; simp only [Tm.nums, Tm.size]; omega
  | .f l r => by have := nums_half l; have := nums_half r; simp only [Tm.nums, Tm.size, List.length_append]; omega
theorem rising_few {ns ms : List Int} (h : ns.Pairwise (· < ·)) (sub : ∀ k ∈ ns, k ∈ ms) : ns.length ≤ ms.length := by
  induction ns generalizing ms with
  | nil => exact Nat.zero_le _
  | cons n r ih =>
    obtain ⟨h1, h2⟩ := List.pairwise_cons.mp h
    have hn := sub n (by simp)
    have := ih (ms := ms.erase n) h2 fun k hk => (List.mem_erase_of_ne (by have := h1 k hk; omega)).mpr (sub k (by simp [hk]))
    rw [List.length_erase_of_mem hn] at this
    have : 0 < ms.length := List.length_pos_of_mem hn
    simp only [List.length_cons]
    omega
def spAVars : Sp := fun vs H Q _ => ∃ (v : V) (p : Str) (ts : List Tm), vs = [v] ∧ AmAt H v p ts ∧ ts.length ≤ 2 ∧ (∀ t ∈ ts, t.size ≤ 40) ∧ ∀ (g : Addr) (ns : List Int) (H' : Hp), H g = none → H' g = some (.lst (ns.map V.int)) → ns.Pairwise (· < ·) → (∀ k, k ∈ ns ↔ k ∈ ts.flatMap Tm.nums) → Same H H' → Q (.ref g) H'
def spAPut (T : List NTab) : Sp := fun vs H Q _ => ∃ (v : V) (p : Str) (ts : List Tm) (a : Addr) (bd : Bd), vs = [v, .ref a] ∧ AmAt H v p ts ∧ ts.length ≤ 2 ∧ (∀ t ∈ ts, t.size ≤ 1000) ∧ BdAt H a bd ∧ TabsN T H ∧
  ∀ (v' : V) (H' : Hp), AmAt H' v' p (ts.map (Tm.put bd)) → Ext T H H' → Q v' H'
abbrev NAV : List Str := ["atom", "term", "variable"]
abbrev NAP : List Str := ["atom", "binding", "term"]
section
variable {P : Program} {w : World} {K : PySem.W.Frag} {mg : Str → Option Value} {base : Heap}
def teVars : TE := fun σ H Q => tCons (tVar 1) tNil σ H fun vs H1 => spVars vs H1 Q E0
def tePut (K : PySem.W.Frag) (T : List NTab) : TE := fun σ H Q => tCons (tVar 2) (tCons (tVar 1) tNil) σ H fun vs H1 => spPut T vs H1 Q E0
end
end Rp

/-! t + u of tuples, t maybe empty: then u itself. -/
namespace Rp
open PySem PySem.Spec PyProof.Rows L2 HT
def rCatE (K : PySem.W.Frag) : R2 := fun x y H Q => ∃ (a b : Addr) (xs ys : List V), x = .ref a ∧ y = .ref b ∧ SqT K H a xs ∧ SqT K H b ys ∧ xs.length + ys.length ≤ sizeLine ∧
  (xs = [] → Q (.ref b) H) ∧ (xs ≠ [] → ys = [] → Q (.ref a) H) ∧ (xs ≠ [] → ys ≠ [] → ∀ p, H p = none → Q (.ref p) (upd H p (.tup (xs ++ ys))))
theorem op_catE {X : Cx} : OpR X (binaryOp .Add) (rCatE X.K) := by
  intro pins s σ H x y v u Q I rx ry h
  obtain ⟨a, b, xs, ys, ex, ey, ha, hb, hz, q0, q1, q2⟩ := h
  by_cases he : xs = []
  · subst ex ey
    cases rx
    cases ry
    obtain ⟨its, r1, p1, _⟩ := I.tuple ha
    obtain ⟨its2, r2, p2, _⟩ := I.tuple hb
    subst he
    cases r1
    obtain ⟨⟨c1, d1, t1, s1⟩, g1, e1, n1, k1⟩ := id p1
    obtain ⟨⟨c2, d2, t2, s2⟩, g2, e2, n2, k2⟩ := id p2
    simp only at e1 k1 e2 k2
    subst e1 k1 e2 k2
    exact concat_meets ⟨_, g1, rfl⟩ ⟨_, g2, rfl⟩ noFill_tuple_add seq_tuple_add PySem.F.slot_tuple_add PySem.F.entry_tuple_add (PySem.F.args_tuple_add_2 _ _)
      (tuple_addW0 a b _ its2.toArray n1 n2 d1 d2 s1 s2 (by simp)) ⟨g1, g2, ⟨.ref b, H, I, rfl, q0 rfl⟩⟩
  · exact op_catT pins s σ H x y v u Q I rx ry ⟨a, b, xs, ys, ex, ey, ha, hb, he, hz, q1 he, q2 he⟩
end Rp

/-! a, *b = t, a tuple of one item at least. -/
namespace Rp
open PySem PySem.Spec PySem.Calls PyProof.Rows L2 PySem.W
section
variable {prog : Program} {w : World} {A : Around} {E : Value → Shared → Prop} {s : Shared}
theorem unpack_starT {l : Addr} {items : Array Value} {n i : Nat} {Q : List Value → Shared → Prop} (isT : IsTup s.heap l items) (calm : A.handled = none) (hi : i < n) (hn : n ≤ items.size + 1) (few : items.size ≤ 16384)
    (go : ∀ (h' : Heap) (tk : Nat), (∀ b o, s.heap.get? b = some o → h'.get? b = some o) → Q (items.toList.take i ++ [.ref h'.objs.size] ++ (items.toList.drop i).drop (items.size + 1 - n))
      { s with heap := h'.push (seqObj "list" ((items.toList.drop i).take (items.size + 1 - n)).toArray 0), toks := tk }) : wpAny (model prog w) A (unpackItems (.ref l) n (some i)) Q E s := by
  have apart : l ≠ s.heap.objs.size := by obtain ⟨o, ho, _⟩ := isT; exact Nat.ne_of_lt (Heap.lt_size ho)
  unfold unpackItems; refine wpAny_bind ?_; unfold notIterableAtAll
  refine wpAny_bind (wpAny_specialOf isT.typeIs slot_tuple_iter.lookup (wpAny_pure ?_)); simp only [Bool.false_eq_true, if_false]
  refine wpAny_bind (wpAny_holding (iter_tuple isT (wpAny_bind (wpAny_holding (draw_tuple apart i 0 _ _ ⟨_, Heap.get?_push_size _ rfl, rfl, rfl⟩ (isT.push _) (by omega) fun h₁ it1 sb1 => ?_)))))
  have isT1 : IsTup h₁ l items := (isT.push _).extBut sb1.extBut apart
  rw [Nat.zero_add] at it1
  obtain ⟨oi, hoi, _⟩ := id it1
  obtain ⟨ol, hol, _⟩ := id isT1
  rw [List.drop_zero, if_neg (show ¬ ((items.toList.take i).length < i) by rw [List.length_take, Array.length_toList]; omega)]
  refine wpAny_bind (wpAny_holding (kun_collect (s := { s with heap := h₁ }) (T := "tuple_iterator") (.inr (.inr (.inr rfl))) (Walks.tuple (A := A.in1) calm s.heap.objs.size l apart items) (fun j u st => st.1.typeIs) (k := i) (by omega) ⟨it1, isT1⟩
    (Heap.lt_size hoi) (Heap.lt_size hol) (fun h₂ tk old => ?_) (by rw [sizeLine_eq]; omega)))
  have rest : (items.toList.drop i).length = items.size - i := by rw [List.length_drop, Array.length_toList]
  show wpAny _ _ (if (items.toList.drop i).length < n - 1 - i then _ else _) _ _ _; rw [if_neg (by rw [rest]; omega)]
  show wpAny _ _ (newList ((items.toList.drop i).take ((items.toList.drop i).length - (n - 1 - i))) >>= fun d => pure (items.toList.take i ++ [d] ++ (items.toList.drop i).drop ((items.toList.drop i).length - (n - 1 - i)))) _ _ _
  rw [show (items.toList.drop i).length - (n - 1 - i) = items.size + 1 - n by rw [rest]; omega]
  refine wpAny_bind (wpAny_newList (wpAny_pure (go h₂ tk fun b o z => old b o (Nat.ne_of_lt (Heap.lt_size z)) (sb1.extBut b o (Nat.ne_of_lt (Heap.lt_size z)) (Heap.get?_push_of_some _ z)))) (by rw [List.length_take, rest, sizeLine_eq]; omega))
end
section
variable {X : Cx} {pos : Pos}
/-- (a, *b) = a tuple: the first item, a new list of the others -/
def gStarT (K : PySem.W.Frag) (t : TGs) : TG := fun v σ H Q => ∃ (a : Addr) (x : V) (xs : List V), v = .ref a ∧ SqT K H a (x :: xs) ∧ xs.length ≤ 16000 ∧ ∀ p, H p = none → t [x, .ref p] σ (upd H p (.lst xs)) Q
theorem pg_starT {es : List Expr} {k : Nat} {t : TGs} (calm : X.calm = true) (h : PGs X es t) (hn : (assignEach es X.env).length = 2 := by rfl) (hst : (assignEach es X.env).findIdx? (·.1) = some 1 := by rfl) : PG X (.Tuple es k pos) (gStarT X.K t) := by
  refine ⟨fun pins s σ H v u Q I r hw => ?_⟩
  obtain ⟨a, x, xs, rfl, sq, few, go⟩ := hw
  cases r
  obtain ⟨its, rv, isT, _⟩ := I.tuple sq
  cases rv with
  | @cons _ v0 _ vs r0 rr =>
    have lv := rr.length
    rw [assign_Tuple]
    refine wpAny_bind (wpAny_standAt ?_)
    unfold unpack
    rw [hn, hst]
    refine wpAny_bind (wpAny_holding (unpack_starT isT (I.ok.hd calm) (by decide) (by simp) (by simp; omega) fun h' tk old => ?_))
    have J : Inv X pins σ H { s with heap := h', toks := tk } := I.kept old
    have big : (20000 : Nat) ≤ sizeLine := by decide
    have K1 : Inv X pins σ (upd H h'.objs.size (.lst xs)) { s with heap := h'.push (seqObj "list" vs.toArray 0), toks := tk } :=
      J.laid (t' := tk) (fun b o z => Heap.get?_push_of_some _ z) (Nat.le_refl _) ⟨by omega, vs, 0, rr, Heap.get?_push_size _ rfl⟩
    have e1 : ((v0 :: vs).toArray.toList.drop 1).take ((v0 :: vs).toArray.size + 1 - 2) = vs := by simp
    have e2 : (v0 :: vs).toArray.toList.take 1 ++ [Value.ref h'.objs.size] ++ ((v0 :: vs).toArray.toList.drop 1).drop ((v0 :: vs).toArray.size + 1 - 2) = [v0, .ref h'.objs.size] := by simp
    rw [e1, e2]
    exact h.run pins _ σ _ [x, .ref h'.objs.size] _ Q K1 (.cons r0 (.cons rfl .nil)) (go _ (J.hok.fresh (Nat.le_refl _)))
end
end Rp

set_option maxHeartbeats 16000000
/-! ATOMs, SAYINGs where they stand; the law's names. -/
namespace Rp
open PySem PySem.Spec PyProof.Rows L2 TL StX
theorem join1 (a x : Str) : Txt.join a [x] = x := by rw [TL.join_eq]; simp [Str.join]
theorem join2 (a x y : Str) : Txt.join a [x, y] = x ++ a ++ y := by rw [TL.join_eq]; simp [Str.join]
theorem slen (a b : Str) : (a ++ b).length = a.length + b.length := Str.length_append a b
theorem tm_ok : ∀ t : Tm, (tmD t).canLay0 = true ∧ (tmD t).depth ≤ t.deep + 1 ∧ nd (tmD t) ≤ 2 * t.size
  | .v n => ⟨rfl, by simp [tmD, PyData.depth], by simp [tmD, nd, Tm.size]⟩
  | .z => ⟨by decide +kernel, by simp [tmD, PyData.depth, PyData.depthAll], by simp [tmD, nd, ndAll, Tm.size]⟩
  | .s t => by
    have ih := tm_ok t
    have a : PyData.canLay0 (.str "s") = true := by decide +kernel
    refine ⟨?_, ?_, ?_⟩
    · simp only [tmD, PyData.canLay0, PyData.canLayAll0, Bool.and_true, Bool.and_eq_true]; exact ⟨by simpa [PyData.canLay0] using a, ih.1⟩
    · simp only [tmD, PyData.depth, PyData.depthAll, Tm.deep]; omega
    · simp only [tmD, nd, ndAll, Tm.size]; omega
  | .f l r => by
    have ih := tm_ok l
    have ih2 := tm_ok r
    have a : PyData.canLay0 (.str "f") = true := by decide +kernel
    refine ⟨?_, ?_, ?_⟩
    · simp only [tmD, PyData.canLay0, PyData.canLayAll0, Bool.and_true, Bool.and_eq_true]; exact ⟨by simpa [PyData.canLay0] using a, ih.1, ih2.1⟩
    · simp only [tmD, PyData.depth, PyData.depthAll, Tm.deep]; omega
    · simp only [tmD, nd, ndAll, Tm.size]; omega
theorem atAt_same {H H' : Hp} {v : V} {a : At} (h : AtAt H v a) (s : Same H H') : AtAt H' v a := by
  obtain ⟨p, xs, e, h1, h2⟩ := h
  exact ⟨p, xs, e, s _ _ h1, h2.mono fun b zs z => s _ _ z⟩
def AtsAt (H : Hp) : List V → List At → Prop
  | [], [] => True
  | v :: xs, a :: as => AtAt H v a ∧ AtsAt H xs as
  | _, _ => False
theorem AtsAt.len {H : Hp} : ∀ {xs : List V} {as : List At}, AtsAt H xs as → xs.length = as.length
  | [], [], _ => rfl
  | _ :: _, _ :: _, h => congrArg (· + 1) (AtsAt.len h.2)
theorem AtsAt.same {H H' : Hp} (s : Same H H') : ∀ {xs : List V} {as : List At}, AtsAt H xs as → AtsAt H' xs as
  | [], [], _ => trivial
  | _ :: _, _ :: _, h => ⟨atAt_same h.1 s, AtsAt.same s h.2⟩
theorem AtsAt.get {H : Hp} : ∀ {xs : List V} {as : List At} {i : Nat} {x : V}, AtsAt H xs as → xs[i]? = some x → ∃ a, as[i]? = some a ∧ AtAt H x a
  | v :: xs, a :: as, 0, x, h, e => ⟨a, rfl, by have : v = x := by simpa using e
                                                subst this; exact h.1⟩
  | _ :: xs, _ :: as, i + 1, x, h, e => by simpa using AtsAt.get h.2 (by simpa using e)
theorem AtsAt.append {H : Hp} : ∀ {xs ys : List V} {as bs : List At}, AtsAt H xs as → AtsAt H ys bs → AtsAt H (xs ++ ys) (as ++ bs)
  | [], _, [], _, _, h => h
  | _ :: xs, _, _ :: as, _, h, h' => ⟨h.1, AtsAt.append h.2 h'⟩
structure AtsOk (as : List At) : Prop where
  few : as.length ≤ 6
  ok : ∀ a ∈ as, AtOk 50 a
theorem atAt_mono {H H' : Hp} (e : ∀ a xs, H a = some (.tup xs) → H' a = some (.tup xs)) {v : V} {a : At} (h : AtAt H v a) : AtAt H' v a := by
  obtain ⟨p, xs, r, h1, h2⟩ := h
  exact ⟨p, xs, r, e _ _ h1, h2.mono e⟩
theorem AtsAt.mono {H H' : Hp} (e : ∀ a xs, H a = some (.tup xs) → H' a = some (.tup xs)) : ∀ {xs : List V} {as : List At}, AtsAt H xs as → AtsAt H' xs as
  | [], [], _ => trivial
  | _ :: _, _ :: _, h => ⟨atAt_mono e h.1, AtsAt.mono e h.2⟩
theorem all_dp {K : PySem.W.Frag} {H : Hp} : ∀ {xs : List V} {ts : List Tm}, AllAt H xs ts → DpAll K H xs (ts.map tmD)
  | [], [], _ => .nil
  | _ :: _, _ :: _, h => .cons (h.1.dat (b := (0 : Nat))).dp (all_dp h.2)
theorem at_dp {K : PySem.W.Frag} {H : Hp} {v : V} {a : At} (h : AtAt H v a) : Dp K H v (atD a) := by
  obtain ⟨p, xs, rfl, h1, h2⟩ := h
  exact .tup (.inl (.inl h1)) (.cons (.str _) (all_dp h2))
theorem ats_dp {K : PySem.W.Frag} {H : Hp} : ∀ {xs : List V} {as : List At}, AtsAt H xs as → DpAll K H xs (as.map atD)
  | [], [], _ => .nil
  | _ :: _, _ :: _, h => .cons (at_dp h.1) (ats_dp h.2)
theorem name_lay {x : Str} (h : NameOk x) : PyData.canLay0 (.str x) = true := by
  show x.cps.all (· < 0x110000) = true
  rw [Array.all_eq_true']
  intro c hc
  have := h.low c (Array.mem_toList_iff.mpr hc)
  exact decide_eq_true (by omega)
theorem tms_lay : ∀ {ts : List Tm}, (∀ t ∈ ts, t.size ≤ 50) → PyData.canLayAll0 (ts.map tmD) = true ∧ PyData.depthAll (ts.map tmD) ≤ 51
  | [], _ => ⟨rfl, by decide⟩
  | t :: ts, h => by
    have ih := tms_lay (ts := ts) fun u hu => h u (by simp [hu])
    have d1 := Tm.deep_lt t
    have z := h t (by simp)
    obtain ⟨c1, c2, _⟩ : (tmD t).canLay0 = true ∧ (tmD t).depth ≤ t.deep + 1 ∧ nd (tmD t) ≤ 2 * t.size := tm_ok t
    simp only [List.map_cons, PyData.canLayAll0, PyData.depthAll, c1, ih.1]
    exact ⟨rfl, by omega⟩
theorem at_lay {a : At} (ok : AtOk 50 a) : (atD a).canLay0 = true ∧ (atD a).depth ≤ 52 := by
  have h := tms_lay (ts := a.ts) fun t ht => (ok.sm t ht).2
  refine ⟨?_, ?_⟩
  · show PyData.canLayAll0 (.str a.nm :: a.ts.map tmD) = true
    simp only [PyData.canLayAll0, name_lay ok.nm, h.1]
    rfl
  · show PyData.depthAll (.str a.nm :: a.ts.map tmD) + 1 ≤ 52
    simp only [PyData.depthAll, PyData.depth]
    omega
theorem ats_lay : ∀ {as : List At}, (∀ a ∈ as, AtOk 50 a) → PyData.canLayAll0 (as.map atD) = true ∧ PyData.depthAll (as.map atD) ≤ 52
  | [], _ => ⟨rfl, by decide⟩
  | a :: as, h => by
    have ih := ats_lay (as := as) fun b hb => h b (by simp [hb])
    have z := at_lay (h a (by simp))
    simp only [List.map_cons, PyData.canLayAll0, PyData.depthAll, z.1, ih.1]
    exact ⟨rfl, by omega⟩
theorem ats_shaped {as : List At} (h : ∀ a ∈ as, AtOk 50 a) : SeqAt.shaped (.list (as.map atD)) = true := by
  have z := ats_lay h
  refine shaped_of ?_ ?_
  · show PyData.canLayAll0 _ = true
    exact z.1
  · show PyData.depthAll _ + 1 ≤ 64
    omega
theorem at_shaped {a : At} (h : AtOk 50 a) : SeqAt.shaped (atD a) = true := shaped_of (at_lay h).1 (by have := (at_lay h).2; omega)
theorem notin_ats {as : List At} {a : At} (h : a ∉ as) : (as.map atD).any (fun z => PyData.eqv z (atD a)) = false := by rw [in_ats, decide_eq_false h]
theorem AtOk.more {z y : Nat} {a : At} (h : AtOk z a) (le : z ≤ y) : AtOk y a := ⟨h.nm, h.one, h.two, fun t ht => ⟨(h.sm t ht).1, Nat.le_trans (h.sm t ht).2 le⟩⟩
theorem unl_nd (as : List At) : (unl as).Nodup := by
  have all : ∀ (as acc : List At), acc.Nodup → (unlG acc as).Nodup := by
    intro as
    induction as with
    | nil => intro acc h; exact h
    | cons a as ih =>
      intro acc h
      have e : unlG acc (a :: as) = unlG (if a ∈ acc then acc else acc ++ [a]) as := rfl
      rw [e]
      by_cases m : a ∈ acc
      · rw [if_pos m]; exact ih _ h
      · rw [if_neg m]
        refine ih _ (List.nodup_append.mpr ⟨h, by simp, fun x hx y hy e' => ?_⟩)
        obtain rfl : y = a := by simpa using hy
        exact m (e' ▸ hx)
  exact all as [] (by simp)
structure Sy where
  hs : List At
  gl : At
def SyAt (H : Hp) (v : V) (s : Sy) : Prop := ∃ (p q : Addr) (vg : V) (xs : List V), v = .ref p ∧ H p = some (.tup [.ref q, vg]) ∧ H q = some (.tup xs) ∧ AtsAt H xs s.hs ∧ AtAt H vg s.gl
structure SyOk (s : Sy) : Prop where
  hs : AtsOk s.hs
  nd : s.hs.Nodup
  gl : AtOk 50 s.gl
theorem syAt_mono {H H' : Hp} (e : ∀ a xs, H a = some (.tup xs) → H' a = some (.tup xs)) {v : V} {s : Sy} (h : SyAt H v s) : SyAt H' v s := by
  obtain ⟨p, q, vg, xs, rfl, h1, h2, h3, h4⟩ := h
  exact ⟨p, q, vg, xs, rfl, e _ _ h1, e _ _ h2, h3.mono e, atAt_mono e h4⟩
theorem SyAt.same {H H' : Hp} {v : V} {s : Sy} (h : SyAt H v s) (e : Same H H') : SyAt H' v s := syAt_mono (fun a xs z => e _ _ z) h
theorem cut_to {xs : List V} (n : Nat) : cutV xs none (some (n : Int)) = xs.take n := by
  unfold cutV
  rw [HT.sIx_none, HT.sIx_nat, List.drop_zero, Nat.sub_zero]
  rcases Nat.le_total n xs.length with h | h
  · rw [Nat.min_eq_left h]
  · rw [Nat.min_eq_right h, List.take_length, List.take_of_length_le h]
theorem cut_mid {xs : List V} (n m : Nat) : ∃ a b, cutV xs (some (n : Int)) (some (m : Int)) = (xs.drop (min n xs.length)).take b ∧ a = b := ⟨_, _, by unfold cutV; rw [HT.sIx_nat, HT.sIx_nat], rfl⟩
theorem eqv_lnil {ds : List PyData} : PyData.eqv (.list ds) (.list []) = ds.isEmpty := by
  cases ds <;> simp [PyData.eqv, PyData.eqvAll]
theorem ixN_int {n : Nat} {i : Int} (h : 0 ≤ i ∧ i < n) : ixN n i = some i.toNat := by unfold ixN; rw [if_pos h.1, if_pos h.2]
theorem but_none {H H' : Hp} {b : Addr} {j : Nat} (o : But b H H') (B : BoxAt H' b j) {D : Addr} (h : H' D = none) : H D = none := by
  cases e : H D with
  | none => rfl
  | some u =>
    have nb : D ≠ b := by
      rintro rfl
      obtain ⟨ys, hb⟩ := B.some
      rw [hb] at h; cases h
    have := o _ _ e nb
    rw [h] at this; cases this
theorem BoxAt.upd {H : Hp} {b D : Addr} {j : Nat} (B : BoxAt H b j) (n : D ≠ b) (o : HO) : BoxAt (L2.upd H D o) b j := by
  obtain ⟨x, y, z, h, r⟩ := B.ex
  exact ⟨x, y, z, by rw [upd_ne n.symm]; exact h, r⟩
def Low (x : Str) : Prop := ∀ c ∈ tl x, 97 ≤ c ∧ c ≤ 122
theorem low_cut {z : Str} (h : Low z) (lo hi : Option Int) : Low (cutS z lo hi) := by
  intro c hc
  have hc : c ∈ (z.cps.toList.drop (HT.sIx z.length 0 lo)).take (HT.sIx z.length z.length hi - HT.sIx z.length 0 lo) := hc
  exact h c (List.mem_of_mem_drop (List.mem_of_mem_take hc))
theorem cutS_parts {z : Str} {k : Nat} (h : k ≤ z.length) : (cutS z none (some (k : Int))).length = k ∧ (cutS z (some (k : Int)) none).length = z.length - k := by
  have e : z.cps.toList.length = z.length := Array.length_toList
  constructor
  · show (((z.cps.toList.drop (HT.sIx z.length 0 none)).take (HT.sIx z.length z.length (some (k : Int)) - HT.sIx z.length 0 none)).toArray).size = k
    rw [List.size_toArray, HT.sIx_none, HT.sIx_nat, List.length_take, List.length_drop, e]
    omega
  · show (((z.cps.toList.drop (HT.sIx z.length 0 (some (k : Int)))).take (HT.sIx z.length z.length none - HT.sIx z.length 0 (some (k : Int)))).toArray).size = _
    rw [List.size_toArray, HT.sIx_none, HT.sIx_nat, List.length_take, List.length_drop, e]
    omega
theorem low_append {a b : Str} (ha : Low a) (hb : Low b) : Low (a ++ b) := by
  intro c hc
  rw [tl_append] at hc
  rcases List.mem_append.mp hc with hc | hc
  · exact ha c hc
  · exact hb c hc
theorem low_one {c : Nat} (h : 97 ≤ c ∧ c ≤ 122) : Low ⟨#[c]⟩ := by
  intro d hd
  have hd : d ∈ [c] := hd
  simp at hd
  omega
theorem low_join : ∀ ys : List Str, (∀ y ∈ ys, y.length = 1 ∧ Low y) → (Txt.join "" ys).length = ys.length ∧ Low (Txt.join "" ys)
  | [], _ => ⟨by decide +kernel, fun c hc => by have : tl (Txt.join "" []) = [] := by decide +kernel
                                                rw [this] at hc; simp at hc⟩
  | [x], h => by rw [join1]; exact h x (by simp)
  | x :: y :: l, h => by
    have ih := low_join (y :: l) fun z hz => h z (by simp at hz ⊢; exact .inr hz)
    have hx := h x (by simp)
    rw [TL.join_eq] at ih ⊢
    have e0 : ("" : Str).length = 0 := by decide +kernel
    have le : Low ("" : Str) := fun c hc => by have : tl ("" : Str) = [] := by decide +kernel
                                               rw [this] at hc; simp at hc
    refine ⟨?_, low_append (low_append hx.2 le) ih.2⟩
    show (x ++ "" ++ Str.join "" (y :: l)).length = _
    rw [slen, slen, e0, hx.1, ih.1]
    simp only [List.length_cons]
    omega
theorem letter_at {i : Int} (h : 0 ≤ i ∧ i < 26) : ∃ c, atI letters.cps.toList i = some c ∧ (97 ≤ c ∧ c ≤ 122) ∧ (c : Int) = 97 + i := by
  have all : ∀ k : Fin 26, atI letters.cps.toList (k.val : Int) = some (97 + k.val) := by decide +kernel
  obtain ⟨k, rfl⟩ := Int.eq_ofNat_of_zero_le h.1
  exact ⟨_, all ⟨k, by omega⟩, ⟨by show 97 ≤ 97 + k; omega, by show 97 + k ≤ 122; omega⟩, by show ((97 + k : Nat) : Int) = _; omega⟩
/-- words alike but for one sign -/
def Named (pre post : Str) (r d : Int) (ws : List Str) : Prop := ∀ (x : Str) (k : Nat), ws[k]? = some x → ∃ c : Nat, x = pre ++ ⟨#[c]⟩ ++ post ∧ (c : Int) = 97 + (r + d * (k : Int)) % 26
theorem Named.snoc {pre post : Str} {r d : Int} {ws : List Str} (h : Named pre post r d ws) {y : Str} (hy : ∃ c : Nat, y = pre ++ ⟨#[c]⟩ ++ post ∧ (c : Int) = 97 + (r + d * (ws.length : Int)) % 26) : Named pre post r d (ws ++ [y]) := by
  intro x k hx
  by_cases hk : k < ws.length
  · rw [List.getElem?_append_left hk] at hx
    exact h x k hx
  · rw [List.getElem?_append_right (by omega)] at hx
    by_cases e : k = ws.length
    · subst e
      simp at hx
      subst hx
      exact hy
    · rw [List.getElem?_eq_none (by simp; omega)] at hx
      cases hx
theorem Named.len {pre post : Str} {r d : Int} {ws : List Str} (h : Named pre post r d ws) : ∀ x ∈ ws, x.length = pre.length + 1 + post.length := by
  intro x hx
  obtain ⟨k, hk, rfl⟩ := List.getElem_of_mem hx
  obtain ⟨c, e, _⟩ := h _ k (List.getElem?_eq_getElem hk)
  rw [e, slen, slen]
  rfl
theorem Named.nodup {pre post : Str} {r d : Int} {ws : List Str} (h : Named pre post r d ws) (w4 : ws.length ≤ 4) (hd : d = 1 ∨ d = 3 ∨ d = 7 ∨ d = 25) : ws.Nodup := by
  refine List.pairwise_iff_getElem.mpr fun i j hi hj lt e => ?_
  obtain ⟨c, e1, c1⟩ := h _ i (List.getElem?_eq_getElem hi)
  obtain ⟨c', e2, c2⟩ := h _ j (List.getElem?_eq_getElem hj)
  rw [e1, e2] at e
  have e := congrArg tl e
  simp only [tl_append, List.append_assoc] at e
  have e := List.append_cancel_left e
  have cc : c = c' := by
    have t1 : tl (⟨#[c]⟩ : Str) = [c] := rfl
    have t2 : tl (⟨#[c']⟩ : Str) = [c'] := rfl
    rw [t1, t2] at e
    simpa using e
  subst cc
  rw [c1] at c2
  have j4 : j = 1 ∨ j = 2 ∨ j = 3 := by omega
  have i4 : i = 0 ∨ i = 1 ∨ i = 2 := by omega
  rcases hd with rfl | rfl | rfl | rfl <;> omega
theorem iff_nodup {ws : List Str} (h : ws.Nodup) (l : ∀ x ∈ ws, ∀ y ∈ ws, x.length = y.length) : (ws.map fun x : Str => if x = ("if" : Str) then ("iff" : Str) else x).Nodup := by
  refine List.pairwise_map.mpr ?_
  refine List.Pairwise.imp_of_mem (R := (· ≠ ·)) (fun {a b} ha hb ne e => ?_) h
  have l2 : ("if" : Str).length = 2 := by decide +kernel
  have l3 : ("iff" : Str).length = 3 := by decide +kernel
  have lab := l a ha b hb
  by_cases h1 : a = ("if" : Str)
  · by_cases h2 : b = ("if" : Str)
    · exact ne (h1.trans h2.symm)
    · simp only [if_pos h1, if_neg h2] at e
      rw [← e, h1] at lab
      omega
  · by_cases h2 : b = ("if" : Str)
    · simp only [if_neg h1, if_pos h2] at e
      rw [e, h2] at lab
      omega
    · simp only [if_neg h1, if_neg h2] at e
      exact ne e
def spWords : Sp := fun vs H Q _ => ∃ (b : Addr) (j n : Nat), vs = [.ref b, .int (n : Nat)] ∧ 1 ≤ n ∧ n ≤ 4 ∧ BoxAt H b j ∧ j + 10 ≤ 1000000 ∧
  ∀ (p : Addr) (ws : List Str) (H' : Hp), H p = none → H' p = some (.lst (ws.map V.str)) → ws.length = n → (∀ x ∈ ws, NameOk x) → ws.Nodup → BoxAt H' b (j + 10) → But b H H' → Q (.ref p) H'
def rMod : R2 := rI (fun _ j => 0 < j) fun i j => .int (i % j)
def rMulI : R2 := rI CMul fun i j => .int (i * j)
def rAddI : R2 := rI0 fun i j => .int (i + j)
def rAddS : R2 := fun x y H Q => ∃ i j, x = .str i ∧ y = .str j ∧ i.length + j.length ≤ sizeLine ∧ Q (.str (i ++ j)) H
theorem op_modP {X : Cx} : OpR X (binaryOp .Mod) rMod := op_mod
theorem op_mulI {X : Cx} : OpR X (binaryOp .Mult) rMulI := op_mul
theorem op_addI {X : Cx} : OpR X (binaryOp .Add) rAddI := op_add
theorem op_addS {X : Cx} : OpR X (binaryOp .Add) rAddS := op_add_str
def teLetter : TE := tOp rIxS (tVar 2) (tCall spTake [] E0 (tCons (tVar 0) (tCons (tC (.int 26)) tNil)))
def teName : TE := tOp rAddS (tOp rAddS (tSl rSlS (tVar 5) tNoPart (tPart (tVar 6))) (tOp rIxS (tVar 2) (tOp rMod (tOp rAddI (tVar 3) (tOp rMulI (tVar 4) (tVar 8))) (tC (.int 26))))) (tSl rSlS (tVar 5) (tPart (tVar 6)) tNoPart)
def teIff : TE := tIf (tTest (tOp rEq (tVar 9) (tC (.str "if")))) (tC (.str "iff")) (tVar 9)
theorem TmAt.box {H H' : Hp} {b : Addr} {v : V} {t : Tm} {j : Nat} (T : TmAt H v t) (o : But b H H') (B : BoxAt H b j) : TmAt H' v t := by
  obtain ⟨ys, hb⟩ := B.some
  exact T.mono fun a xs z => o _ _ z (ne_of z hb (by intro e; cases e))
theorem AtAt.box {H H' : Hp} {b : Addr} {v : V} {a : At} {j : Nat} (T : AtAt H v a) (o : But b H H') (B : BoxAt H b j) : AtAt H' v a := by
  obtain ⟨ys, hb⟩ := B.some
  exact atAt_mono (fun a xs z => o _ _ z (ne_of z hb (by intro e; cases e))) T
theorem AtsAt.box {H H' : Hp} {b : Addr} {xs : List V} {as : List At} {j : Nat} (T : AtsAt H xs as) (o : But b H H') (B : BoxAt H b j) : AtsAt H' xs as := by
  obtain ⟨ys, hb⟩ := B.some
  exact T.mono fun a xs z => o _ _ z (ne_of z hb (by intro e; cases e))
section
variable {P : Program} {w : World} {K : PySem.W.Frag} {mg : Str → Option Value} {base : Heap}
abbrev NW : List Str := ["_law_box_here", "_law_count", "_law_letters", "_law_begun", "_law_by", "_law_tail", "_law_at", "_law_found", "_law_k", "_law_name"]
theorem scWords : FnScope NW ["_law_box_here", "_law_count"] (defScope sNames) := ⟨rfl, rfl, rfl, by decide +kernel, rfl, by decide +kernel, by decide +kernel⟩
theorem ok_words {f fT : Addr} {fd fdT : FuncData} (F : Fun K "_law_names" "_law_names" sNames f fd) (FT : Fun K "_law_take" "_law_take" sTake fT fdT) (bT : Binds K fdT ["_law_box_here", "_law_reach"] []) (mT : mg "_law_take" = some (.ref fT))
    (mRange : mg "range" = none) (mLen : mg "len" = none) : FnOk P w K mg base CX0 2 f fd ["_law_box_here", "_law_count"] spWords := by
  have GT : FnOk P w K mg base CX0 1 fT fdT ["_law_box_here", "_law_reach"] spTake := ok_take FT
  refine F.ok scWords (fun vs H Q E h => ?_) (fun cdv A outer s H vs Q E hr h => ?_)
  · obtain ⟨b, j, n, rfl, _⟩ := h
    rfl
  obtain ⟨b, j, n, rfl, n1, n4, B, hj, q⟩ := h
  refine ⟨_, pss_cons (ps_asg (pe_tup (pa_cons pe_str (pa_cons (pe_call GT hr (by rfl) mT FT.kp bT .nil pass0 (pa_cons (pv 0) (pa_cons pe_int pa_nil))) (pa_cons (pe_ix ix_list (pe_lst (pa_cons pe_int (pa_cons pe_int (pa_cons pe_int (pa_cons pe_int pa_nil))))) (pe_call GT hr (by rfl) mT FT.kp bT .nil pass0 (pa_cons (pv 0) (pa_cons pe_int pa_nil))) (fun _ _ => rfl)) pa_nil))))
      (pg_tup (by rfl) (pgs_cons (pg_name (i := 2) scWords.nd rfl (Or.inr rfl)) (pgs_cons (pg_name (i := 3) scWords.nd rfl (Or.inr rfl)) (pgs_cons (pg_name (i := 4) scWords.nd rfl (Or.inr rfl)) pgs_nil)))))
    (pss_cons (ps_set (i := 5) scWords.nd rfl (Or.inr rfl) (pe_bm PySem.F.plainAttrs_str PySem.F.slot_str_join PySem.F.type_str_join mt_join pe_str (pa_cons
      (pe_lc (own := [("_law_k", 8)]) (g := gName 8) (tt := tYes) (te := teLetter) rfl scWords.nd (pi_range1 (by rfl) mRange (pa_cons (pe_call GT hr (by rfl) mT FT.kp bT .nil pass0 (pa_cons (pv 0) (pa_cons pe_int pa_nil))) pa_nil))
        (blkOk_by (N := NW) (sc := defScope sNames) (by decide +kernel)) (fun _ _ _ _ _ => pg_name (i := 8) scWords.nd rfl (Or.inl rfl)) (fun _ _ _ _ _ => pts_nil)
        (fun _ _ _ _ _ => pe_ix ix_str (pv 2) (pe_call GT hr (by rfl) mT FT.kp bT .nil pass0 (pa_cons (pv 0) (pa_cons pe_int pa_nil))) (fun _ _ => rfl))) pa_nil)))
    (pss_cons (ps_set (i := 6) scWords.nd rfl (Or.inr rfl) (pe_call GT hr (by rfl) mT FT.kp bT .nil pass0 (pa_cons (pv 0) (pa_cons (pe_op op_addI (pe_callB call_len_str (by rfl) mLen PySem.boot_len (pa_cons (pv 5) pa_nil)) pe_int) pa_nil))))
    (pss_cons (ps_setLc (i := 7) (own := [("_law_k", 8)]) (g := gName 8) (tt := tYes) (te := teName) rfl scWords.nd rfl rfl (by rfl) (pi_range1 (by rfl) mRange (pa_cons (pv 1) pa_nil))
        (blkOk_by (N := NW) (sc := defScope sNames) (by decide +kernel)) (fun _ _ _ _ _ => pg_name (i := 8) scWords.nd rfl (Or.inl rfl)) (fun _ _ _ _ _ => pts_nil)
        (fun _ _ _ _ _ => pe_op op_addS (pe_op op_addS (pe_slice sl_str (pv 5) po_none (po_some (pv 6))) (pe_ix ix_str (pv 2) (pe_op op_modP (pe_op op_addI (pv 3) (pe_op op_mulI (pv 4) (pv 8))) pe_int) (fun _ _ => rfl))) (pe_slice sl_str (pv 5) (po_some (pv 6)) po_none)))
    (pss_one (ps_ret (pe_lc (own := [("_law_name", 9)]) (g := gName 9) (tt := tYes) (te := teIff) rfl scWords.nd (pi_list (pv 7))
        (blkOk_by (N := NW) (sc := defScope sNames) (by decide +kernel)) (fun _ _ _ _ _ => pg_name (i := 9) scWords.nd rfl (Or.inl rfl)) (fun _ _ _ _ _ => pts_nil)
        (fun _ _ _ _ _ => pe_ifExp (pt_cmpR op_eq (pv 9) pe_str (nomark _)) pe_str (pv 9)))))))), ?_⟩
  have big : (10000 : Nat) ≤ sizeLine := by decide
  have l0 : ("" : Str).length = 0 := by decide +kernel
  have ll : letters.length = 26 := by decide +kernel
  refine ⟨_, rfl, b, _, j, rfl, B, by omega, by decide, by decide, fun r1 H1 a0 a1 B1 o1 => ?_⟩
  refine ⟨(by show 4 ≤ sizeLine; decide), fun d hd => ?_⟩
  have s2 := same_new hd (.lst [V.int 1, V.int 3, V.int 7, V.int 25])
  refine ⟨_, rfl, b, _, _, rfl, B1.same s2, by omega, by decide, by decide, fun r2 H3 b0 b1 B3 o3 => ?_⟩
  obtain ⟨y1, hb1⟩ := B1.some
  have db : d ≠ b := (ne_of_none hb1 hd).symm
  have hd3 := o3 _ _ upd_same db
  obtain ⟨by_, hat, hby⟩ : ∃ n : Int, atI [V.int 1, V.int 3, V.int 7, V.int 25] r2 = some (.int n) ∧ (n = 1 ∨ n = 3 ∨ n = 7 ∨ n = 25) := by
    rcases (by omega : r2 = 0 ∨ r2 = 1 ∨ r2 = 2 ∨ r2 = 3) with e | e | e | e <;> subst e
    · exact ⟨_, at_of (j := 0) rfl rfl, by omega⟩
    · exact ⟨_, at_of (j := 1) rfl rfl, by omega⟩
    · exact ⟨_, at_of (j := 2) rfl rfl, by omega⟩
    · exact ⟨_, at_of (j := 3) rfl rfl, by omega⟩
  refine ⟨d, _, _, _, rfl, rfl, .inl (.inl hd3), hat, (by show 3 ≤ sizeLine; decide), fun t ht => ?_⟩
  have s4 := same_new ht (.tup [V.str letters, V.int r1, V.int by_])
  refine ⟨t, _, rfl, .inl (.inl upd_same), rfl, _, _, rfl, _, _, rfl, _, _, rfl, rfl, ?_⟩
  have B4 := B3.same s4
  refine ⟨rfl, _, rfl, b, _, _, rfl, B4, by omega, by decide, by decide, fun m3 H6 c0 c1 B6 o6 => ?_⟩
  have o06 : But b H H6 := o1.trans ((but_of s2).trans (o3.trans ((but_of s4).trans o6)))
  refine ⟨_, rfl, by omega, by omega, fun D hD => lc_range (lo := 0) (fun i H7 => ∃ ys : List Str, H7 D = some (.lst (ys.map V.str)) ∧ ys.length = i ∧ (∀ y ∈ ys, y.length = 1 ∧ Low y) ∧ BoxAt H7 b (j + 3 + i) ∧ But b H H7)
    ⟨[], upd_same, rfl, by simp, (B6.same (same_new hD _)).more (by omega), o06.trans (but_of (same_new hD _))⟩ ?_ ?_⟩
  · rintro i H7 hi ⟨ys, h7, yl, yo, B7, o7⟩
    have Db : D ≠ b := by
      obtain ⟨y6, hb6⟩ := B6.some
      exact (ne_of_none hb6 hD).symm
    refine ⟨rfl, ?_⟩
    unfold teLetter
    refine ⟨_, rfl, _, rfl, b, _, _, rfl, B7, by omega, by decide, by decide, fun r H8 d0 d1 B8 o8 => ?_⟩
    obtain ⟨c, hc, cl, _⟩ := letter_at ⟨d0, d1⟩
    refine ⟨letters, _, c, rfl, rfl, by omega, hc, ys.map V.str, o8 _ _ h7 Db, by rw [List.length_map]; omega, ys ++ [⟨#[c]⟩], ?_, by simp [yl], ?_, (B8.upd Db _).more (by omega), ?_⟩
    · rw [upd_same, List.map_append]; rfl
    · intro y hy
      rcases List.mem_append.mp hy with hy | hy
      · exact yo y hy
      · obtain rfl : y = ⟨#[c]⟩ := by simpa using hy
        exact ⟨rfl, low_one cl⟩
    · intro x o z nb
      have xD : x ≠ D := ne_of_none z (but_none o06 B6 hD)
      rw [upd_ne xD]
      exact o8 _ _ (o7 _ _ z nb) nb
  · rintro H7 ⟨ys, h7, yl, yo, B7, o7⟩
    obtain ⟨jl, jw⟩ := low_join ys yo
    have sum1 : ∀ zs : List Str, (∀ y ∈ zs, y.length = 1 ∧ Low y) → (zs.map (·.length)).sum = zs.length := by
      intro zs
      induction zs with
      | nil => intro _; rfl
      | cons z zs ih =>
        intro h
        rw [List.map_cons, List.sum_cons, ih fun y hy => h y (by simp [hy]), (h z (by simp)).1, List.length_cons]
        omega
    refine ⟨"", D, ys, rfl, rfl, .inl (.inl (.inl h7)), by rw [l0, sum1 ys yo]; omega, ?_⟩
    generalize Txt.join "" ys = tail at jl jw
    have tl5 : tail.length ≤ 5 := by omega
    refine ⟨_, rfl, _, rfl, tail, rfl, by omega, _, _, rfl, rfl, b, _, _, rfl, B7, by omega, by omega, by omega, fun r8 H8 e0 e1 B8 o8 => ?_⟩
    obtain ⟨k, rfl⟩ := Int.eq_ofNat_of_zero_le e0
    obtain ⟨p1, p2⟩ := cutS_parts (z := tail) (k := k) (by omega)
    have w1 := low_cut jw none (some (k : Int))
    have w2 := low_cut jw (some (k : Int)) none
    have o08 := o7.trans o8
    refine ⟨_, rfl, _, rfl, by omega, by omega, fun D2 hD2 => lc_range (lo := 0) (fun i H9 => ∃ ws : List Str, H9 D2 = some (.lst (ws.map V.str)) ∧ ws.length = i ∧ (∀ x ∈ ws, 1 ≤ x.length ∧ x.length ≤ 6 ∧ Low x) ∧ Named (cutS tail none (some (k : Int))) (cutS tail (some (k : Int)) none) r1 by_ ws ∧ Same H8 H9) ⟨[], upd_same, rfl, by simp, fun x i h => by simp at h, same_new hD2 _⟩ ?_ ?_⟩
    · rintro i H9 hi ⟨ws, h9, wl, wo, wn, s9⟩
      refine ⟨rfl, ?_⟩
      unfold teName
      have i4 : i < 4 := by omega
      obtain ⟨c, hc, cl, ce⟩ := letter_at (i := (r1 + by_ * (0 + (i : Int))) % 26) (by omega)
      have one : (⟨#[c]⟩ : Str).length = 1 := rfl
      refine ⟨_, rfl, _, rfl, (k : Int), rfl, tail, rfl, by omega, ?_⟩
      refine ⟨_, rfl, _, rfl, _, rfl, _, rfl, _, _, rfl, rfl, .inl ⟨by omega, by omega⟩, _, _, rfl, rfl, _, _, rfl, rfl, (by show (0 : Int) < 26; decide), letters, _, c, rfl, rfl, by omega, hc, ?_⟩
      refine ⟨_, _, rfl, rfl, by rw [p1, one]; omega, ?_⟩
      refine ⟨_, rfl, _, rfl, (k : Int), rfl, tail, rfl, by omega, ?_⟩
      refine ⟨_, _, rfl, rfl, by rw [slen, p1, p2, one]; omega, ?_⟩
      refine ⟨ws.map V.str, h9, by rw [List.length_map]; omega, ws ++ [cutS tail none (some (k : Int)) ++ ⟨#[c]⟩ ++ cutS tail (some (k : Int)) none], by rw [upd_same, List.map_append]; rfl, by simp [wl], ?_, wn.snoc ⟨c, rfl, by rw [ce, wl]; simp⟩, ?_⟩
      · intro x hx
        rcases List.mem_append.mp hx with hx | hx
        · exact wo x hx
        · obtain rfl : x = _ := List.mem_singleton.mp hx
          refine ⟨?_, ?_, low_append (low_append w1 (low_one cl)) w2⟩
          · rw [slen, slen, p1, p2, one]; omega
          · rw [slen, slen, p1, p2, one]; omega
      · intro x o z
        rw [upd_ne (ne_of_none z hD2)]
        exact s9 _ _ z
    · rintro H9 ⟨ws, h9, wl, wo, wn, s9⟩
      have wl4 : ws.length = n := by rw [wl]; omega
      refine ⟨_, rfl, D2, rfl, ⟨_, .inl (.inl h9)⟩, fun D3 hD3 => lc_list (K := K) (a := D2) (xs := ws.map V.str) (fun i H10 => H10 D3 = some (.lst (((ws.take i).map fun x : Str => if x = ("if" : Str) then ("iff" : Str) else x).map V.str)) ∧ Same H9 H10) ⟨upd_same, same_new hD3 _⟩ (fun i H10 _ h => .inl (.inl (h.2 _ _ h9))) ?_ ?_⟩
      · rintro i x H10 hi ⟨h10, s10⟩
        rw [List.getElem?_map] at hi
        obtain ⟨y, hy, rfl⟩ : ∃ y, ws[i]? = some y ∧ x = .str y := by
          cases hq : ws[i]? with
          | none => rw [hq] at hi; cases hi
          | some p => rw [hq] at hi; exact ⟨p, rfl, by simpa using hi.symm⟩
        have tk : ws.take (i + 1) = ws.take i ++ [y] := by rw [List.take_add_one, hy]; rfl
        refine ⟨rfl, ?_⟩
        unfold teIff
        have fin : ∀ z : Str, z = (if y = ("if" : Str) then ("iff" : Str) else y) → ∃ acc, H10 D3 = some (.lst acc) ∧ acc.length < sizeLine ∧ (upd H10 D3 (.lst (acc ++ [V.str z]))) D3 = some (.lst (((ws.take (i + 1)).map fun x : Str => if x = ("if" : Str) then ("iff" : Str) else x).map V.str)) ∧ Same H9 (upd H10 D3 (.lst (acc ++ [V.str z]))) := by
          rintro z rfl
          refine ⟨_, h10, ?_, ?_, ?_⟩
          · rw [List.length_map, List.length_map, List.length_take]; omega
          · rw [upd_same, tk, List.map_append, List.map_append]; rfl
          · intro x o z
            rw [upd_ne (ne_of_none z hD3)]
            exact s10 _ _ z
        by_cases hif : y = ("if" : Str)
        · exact ⟨_, rfl, rfl, true, congrArg V.bl (decide_eq_true (by rw [hif])), iteT (fin _ (if_pos hif).symm)⟩
        · exact ⟨_, rfl, rfl, false, congrArg V.bl (decide_eq_false fun z => hif (V.str.inj z)), iteF ⟨_, rfl, fin _ (if_neg hif).symm⟩⟩
      · rintro H10 ⟨h10, s10⟩
        rw [List.length_map, List.take_length] at h10
        have o09 : But b H H9 := o08.trans (but_of s9)
        refine q D3 _ H10 (but_none o09 (B8.same s9) hD3) h10 (by rw [List.length_map, wl4]) ?_ (iff_nodup (wn.nodup (by omega) hby) fun x hx y hy => by rw [wn.len x hx, wn.len y hy]) (((B8.same s9).same s10).more (by omega)) (o09.trans (but_of s10))
        intro x hx
        obtain ⟨y, hy, rfl⟩ := List.mem_map.mp hx
        by_cases hif : y = ("if" : Str)
        · rw [if_pos hif]
          exact ⟨by decide +kernel, by decide +kernel, by decide +kernel, by decide +kernel⟩
        · rw [if_neg hif]
          obtain ⟨g1, g2, g3⟩ := wo y hy
          exact ⟨g1, g2, g3, hif⟩
end
end Rp

set_option maxHeartbeats 16000000
/-! The law's terms; atoms without copies. -/
namespace Rp
open PySem PySem.Spec PyProof.Rows L2 TL StX
theorem dp_ints {K : PySem.W.Frag} {H : Hp} : ∀ l : List Int, DpAll K H (l.map V.int) (l.map PyData.int)
  | [] => .nil
  | n :: l => .cons (.int n) (dp_ints l)
theorem ints_shaped (l : List Int) : SeqAt.shaped (.list (l.map PyData.int)) = true := by
  have c : PyData.canLayAll0 (l.map PyData.int) = true := by
    induction l with
    | nil => rfl
    | cons a l ih => show (true && PyData.canLayAll0 (l.map PyData.int)) = true; rw [ih]; rfl
  have d : PyData.depthAll (l.map PyData.int) ≤ 1 := by
    induction l with
    | nil => decide
    | cons a l ih =>
      have := ih (by
        have c' : (true && PyData.canLayAll0 (l.map PyData.int)) = true := c
        simpa using c')
      simp only [List.map_cons, PyData.depthAll, PyData.depth]; omega
  refine shaped_of c ?_
  show PyData.depthAll _ + 1 ≤ 64
  omega
/-- its variables are of the pool -/
def Sm (ks : List Int) (t : Tm) : Prop := ∀ n ∈ t.nums, n ∈ ks ∧ (0 ≤ n ∧ n ≤ 99)
theorem Sm.small {ks : List Int} {t : Tm} (h : Sm ks t) : t.small := fun n hn => (h n hn).2
def spLTerm (n : Nat) : Sp := fun vs H Q _ => ∃ (b p : Addr) (ks : List Int) (j d : Nat), vs = [.ref b, .ref p, .int d] ∧ BoxAt H b j ∧ H p = some (.lst (ks.map V.int)) ∧ (∀ k ∈ ks, 0 ≤ k ∧ k ≤ 99) ∧ ks.length ≤ 200 ∧ p ≠ b ∧ d < n ∧ d ≤ 2 ∧ j + (4 * 2 ^ d - 1) ≤ 1000000 ∧
  ∀ (v : V) (t : Tm) (H' : Hp), TmAt H' v t → Sm ks t → t.size + 1 ≤ 2 ^ (d + 1) → BoxAt H' b (j + (4 * 2 ^ d - 1)) → But b H H' → Q v H'
def spUnlikeL : Sp := fun vs H Q _ => ∃ (q : Addr) (xs : List V) (as : List At), vs = [.ref q] ∧ H q = some (.lst xs) ∧ AtsAt H xs as ∧ AtsOk as ∧
  ∀ (p : Addr) (ys : List V) (H' : Hp), H' p = some (.tup ys) → AtsAt H' ys (unl as) → Same H H' → Q (.ref p) H'
def teLeaf (K : PySem.W.Frag) : TE := tIf (tAnd (tTest (tOp (rNeD K) (tVar 1) (tLst tNil))) (tTest (tOp (rI0 fun i j => .bl (decide (j < i))) (tCall spTake [] E0 (tCons (tVar 0) (tCons (tC (.int 3)) tNil))) (tC (.int 0)))))
  (tCall spPick [] E0 (tCons (tVar 0) (tCons (tVar 1) tNil))) (tTup (tCons (tC (.str "0")) tNil))
theorem leaf_ok {K : PySem.W.Frag} {H : Hp} {b p : Addr} {ks : List Int} {j : Nat} {r : List (Option V)} {Q : V → Hp → Prop} (B : BoxAt H b j) (hp : H p = some (.lst (ks.map V.int))) (pk : ∀ k ∈ ks, 0 ≤ k ∧ k ≤ 99) (pl : ks.length ≤ 200) (pb : p ≠ b) (hj : j + 2 ≤ 1000000)
    (q : ∀ (v : V) (t : Tm) (H' : Hp), TmAt H' v t → Sm ks t → t.size = 1 → BoxAt H' b (j + 2) → But b H H' → Q v H') : teLeaf K (some (.ref b) :: some (.ref p) :: r) H Q := by
  unfold teLeaf
  refine ⟨_, rfl, (by show 0 ≤ sizeLine; decide), fun l hl => ?_⟩
  have s1 := same_new hl (.lst ([] : List V))
  have B1 := B.same s1
  have hp1 := s1 _ _ hp
  refine ⟨.list (ks.map .int), .list [], .lst (.inl (.inl hp1)) (dp_ints ks), .lst (.inl (.inl upd_same)) .nil, ints_shaped _, ints_shaped [], !(ks.map PyData.int).isEmpty, congrArg (fun z => V.bl (!z)) eqv_lnil, ?_⟩
  generalize upd H l (.lst ([] : List V)) = H1 at s1 B1 hp1 ⊢
  have zero : ∀ (H2 : Hp) (j2 : Nat), BoxAt H2 b j2 → j2 ≤ j + 2 → But b H1 H2 → ∀ c, H2 c = none → Q (.ref c) (upd H2 c (.tup [V.str "0"])) := fun H2 j2 B2 le o2 c hc => by
    have s3 := same_new hc (.tup [V.str "0"])
    exact q (.ref c) .z _ (.z upd_same) (fun k hk => by simp [Tm.nums] at hk) rfl ((B2.same s3).more le) ((but_of s1).trans (o2.trans (but_of s3)))
  cases ks with
  | nil => exact iteF (iteF ⟨(by show 1 ≤ sizeLine; decide), fun c hc => zero H1 j B1 (by omega) (But.refl _ _) c hc⟩)
  | cons k0 ks =>
    refine iteT ?_
    refine ⟨_, rfl, b, _, j, rfl, B1, by omega, by decide, by decide, fun r3 H2 c0 c1 B2 o2 => ?_⟩
    have hp2 := o2 _ _ hp1 pb
    refine ⟨_, _, rfl, rfl, decide ((0 : Int) < r3), rfl, ?_⟩
    by_cases h3 : (0 : Int) < r3
    · rw [decide_eq_true h3]
      refine iteT ⟨_, rfl, _, rfl, b, p, _, _, rfl, B2, by omega, hp2, pb, by simp, by rw [List.length_map]; omega, fun v H3 hv B3 o3 => ?_⟩
      obtain ⟨m, hm, rfl⟩ := List.mem_map.mp hv
      have m9 := pk m hm
      exact q _ (.v m) H3 (.v m) (fun k hk => by simp [Tm.nums] at hk; subst hk; exact ⟨hm, m9⟩) rfl (B3.more (by omega)) ((but_of s1).trans (o2.trans o3))
    · rw [decide_eq_false h3]
      exact iteF ⟨(by show 1 ≤ sizeLine; decide), fun c hc => zero H2 _ B2 (by omega) o2 c hc⟩
section
variable {P : Program} {w : World} {K : PySem.W.Frag} {mg : Str → Option Value} {base : Heap}
abbrev NT : List Str := ["_law_box_here", "_law_pool", "_law_deep", "_law_way", "_law_one"]
theorem scLTerm : FnScope NT ["_law_box_here", "_law_pool", "_law_deep"] (defScope sTermL) := ⟨rfl, rfl, rfl, by decide +kernel, rfl, by decide +kernel, by decide +kernel⟩
theorem ok_lterm {n : Nat} {f fT fP : Addr} {fd fdT dP : FuncData} (F : Fun K "_law_term" "_law_term" sTermL f fd) (b2 : Binds K fd ["_law_box_here", "_law_pool", "_law_deep"] []) (mF : mg "_law_term" = some (.ref f))
    (G : FnOk P w K mg base CX0 (n + 2) f fd ["_law_box_here", "_law_pool", "_law_deep"] (spLTerm n))
    (GT : FnOk P w K mg base CX0 1 fT fdT ["_law_box_here", "_law_reach"] spTake) (kT : PySem.W.keepIn K (.ref fT) = true) (bT : Binds K fdT ["_law_box_here", "_law_reach"] []) (mT : mg "_law_take" = some (.ref fT))
    (GP : FnOk P w K mg base CX0 2 fP dP ["_law_box_here", "_law_things"] spPick) (kP : PySem.W.keepIn K (.ref fP) = true) (bP : Binds K dP ["_law_box_here", "_law_things"] []) (mP : mg "_law_pick" = some (.ref fP)) :
    FnOk P w K mg base CX0 (n + 3) f fd ["_law_box_here", "_law_pool", "_law_deep"] (spLTerm (n + 1)) := by
  refine F.ok scLTerm (fun vs H Q E h => ?_) (fun cdv A outer s H vs Q E hr h => ?_)
  · obtain ⟨b, p, ks, j, d, rfl, _⟩ := h
    rfl
  obtain ⟨b, p, ks, j, d, rfl, B, hp, pk, pl, pb, dn, d4, hj, q⟩ := h
  have r1 : Room 1 _ := hr.mono (by omega)
  have r2 : Room 2 _ := hr.mono (by omega)
  refine ⟨_, pss_cons (ps_set (i := 3) scLTerm.nd rfl (Or.inl rfl) (pe_call GT r1 rfl mT kT bT .nil pass0 (pa_cons (pv 0) (pa_cons pe_int pa_nil))))
    (pss_cons (ps_if (PW.pt (pw_or (pt_cmpR op_eq (pv 2) pe_int (nomark _)) (pw_or1 (pt_cmpR op_lt (pv 3) pe_int (nomark _))))) (pss_one (ps_ret (pe_ifExp (PW.pt (pw_and (pt_cmpR (op_neD hr.units) (pv 1) (pe_lst pa_nil) (nomark _))
        (pw_and1 (pt_cmpR op_gt (pe_call GT r1 rfl mT kT bT .nil pass0 (pa_cons (pv 0) (pa_cons pe_int pa_nil))) pe_int (nomark _)))))
        (pe_call GP r2 rfl mP kP bP .nil pass0 (pa_cons (pv 0) (pa_cons (pv 1) pa_nil))) (pe_tup (pa_cons pe_str pa_nil))))) pss_nil)
    (pss_cons (ps_if (pt_cmpR op_lt (pv 3) pe_int (nomark _)) (pss_one (ps_ret (pe_tup (pa_cons pe_str (pa_cons (pe_call G hr rfl mF F.kp b2 .nil pass0 (pa_cons (pv 0) (pa_cons (pv 1) (pa_cons (pe_op op_sub (pv 2) pe_int) pa_nil)))) pa_nil))))) pss_nil)
    (pss_cons (ps_set (i := 4) scLTerm.nd rfl (Or.inl rfl) (pe_call G hr rfl mF F.kp b2 .nil pass0 (pa_cons (pv 0) (pa_cons (pv 1) (pa_cons (pe_op op_sub (pv 2) pe_int) pa_nil)))))
    (pss_one (ps_ret (pe_tup (pa_cons pe_str (pa_cons (pv 4) (pa_cons (pe_call G hr rfl mF F.kp b2 .nil pass0 (pa_cons (pv 0) (pa_cons (pv 1) (pa_cons (pe_op op_sub (pv 2) pe_int) pa_nil)))) pa_nil))))))))), ?_⟩
  have p1 : 1 ≤ 2 ^ d := Nat.one_le_two_pow
  have p2 : 2 ^ (d + 1) = 2 * 2 ^ d := by rw [Nat.pow_succ]; omega
  refine ⟨_, rfl, b, _, j, rfl, B, by omega, by decide, by decide, fun way H1 w0 w5 B1 o1 => ?_⟩
  have hp1 := o1 _ _ hp pb
  by_cases h0 : d = 0
  · refine ⟨_, rfl, rfl, true, congrArg V.bl (decide_eq_true (by rw [h0]; rfl)), iteT ?_⟩
    exact leaf_ok B1 hp1 pk pl pb (by omega) fun v t H2 T sm sz B2 o2 => q v t H2 T sm (by omega) (B2.more (by omega)) (o1.trans o2)
  · refine ⟨_, rfl, rfl, false, congrArg V.bl (decide_eq_false (fun z => h0 (by injection z with z; omega))), iteF ?_⟩
    refine ⟨_, rfl, _, _, rfl, rfl, decide (way < 2), rfl, ?_⟩
    by_cases h2 : way < 2
    · rw [decide_eq_true h2]
      refine iteT ?_
      exact leaf_ok B1 hp1 pk pl pb (by omega) fun v t H2 T sm sz B2 o2 => q v t H2 T sm (by omega) (B2.more (by omega)) (o1.trans o2)
    · rw [decide_eq_false h2]
      refine iteF ?_
      obtain ⟨e, rfl⟩ : ∃ e, d = e + 1 := ⟨d - 1, by omega⟩
      have e1 : ([V.ref b, V.ref p, V.int (((e + 1 : Nat) : Int) - 1)] : List V) = [V.ref b, V.ref p, V.int (e : Nat)] := by rw [show (((e + 1 : Nat) : Int) - 1) = (e : Nat) by omega]
      have p0 : 1 ≤ 2 ^ e := Nat.one_le_two_pow
      have p3 : 2 ^ (e + 1) = 2 * 2 ^ e := by rw [Nat.pow_succ]; omega
      refine ⟨_, rfl, _, _, rfl, rfl, decide (way < 4), rfl, ?_⟩
      by_cases h3 : way < 4
      · rw [decide_eq_true h3]
        refine iteT ⟨_, rfl, _, rfl, _, rfl, _, _, rfl, rfl, b, p, ks, _, e, e1, B1, hp1, pk, pl, pb, by omega, by omega, by omega, fun v t H2 T sm sz B2 o2 => ?_⟩
        refine ⟨(by show 2 ≤ sizeLine; decide), fun c hc => ?_⟩
        have s3 := same_new hc (.tup [V.str "s", v])
        exact q (.ref c) (.s t) _ (.s upd_same (T.same s3)) sm (by rw [p2]; simp only [Tm.size]; omega) ((B2.same s3).more (by omega)) (o1.trans (o2.trans (but_of s3)))
      · rw [decide_eq_false h3]
        refine iteF ⟨_, rfl, _, rfl, _, rfl, _, _, rfl, rfl, b, p, ks, _, e, e1, B1, hp1, pk, pl, pb, by omega, by omega, by omega, fun v t H2 T sm sz B2 o2 => ?_⟩
        have hp2 := o2 _ _ hp1 pb
        refine ⟨_, rfl, _, rfl, _, rfl, _, rfl, _, _, rfl, rfl, b, p, ks, _, e, e1, B2, hp2, pk, pl, pb, by omega, by omega, by omega, fun v' t' H3 T' sm' sz' B3 o3 => ?_⟩
        refine ⟨(by show 3 ≤ sizeLine; decide), fun c hc => ?_⟩
        have s4 := same_new hc (.tup [V.str "f", v, v'])
        exact q (.ref c) (.f t t') _ (.f upd_same ((T.box o3 B2).same s4) (T'.same s4)) (fun k hk => by
            rcases List.mem_append.mp hk with hk | hk
            · exact sm k hk
            · exact sm' k hk) (by rw [p2]; simp only [Tm.size]; omega) ((B3.same s4).more (by omega)) (o1.trans (o2.trans (o3.trans (but_of s4))))
theorem lterm_ok {f fT fP : Addr} {fd fdT dP : FuncData} (F : Fun K "_law_term" "_law_term" sTermL f fd) (b2 : Binds K fd ["_law_box_here", "_law_pool", "_law_deep"] []) (mF : mg "_law_term" = some (.ref f))
    (GT : FnOk P w K mg base CX0 1 fT fdT ["_law_box_here", "_law_reach"] spTake) (kT : PySem.W.keepIn K (.ref fT) = true) (bT : Binds K fdT ["_law_box_here", "_law_reach"] []) (mT : mg "_law_take" = some (.ref fT))
    (GP : FnOk P w K mg base CX0 2 fP dP ["_law_box_here", "_law_things"] spPick) (kP : PySem.W.keepIn K (.ref fP) = true) (bP : Binds K dP ["_law_box_here", "_law_things"] []) (mP : mg "_law_pick" = some (.ref fP)) :
    ∀ n : Nat, FnOk P w K mg base CX0 (n + 2) f fd ["_law_box_here", "_law_pool", "_law_deep"] (spLTerm n)
  | 0 => none_left fun vs H Q E h => by
    obtain ⟨b, p, ks, j, d, _, _, _, _, _, _, h, _⟩ := h
    omega
  | n + 1 => ok_lterm F b2 mF (lterm_ok F b2 mF GT kT bT mT GP kP bP mP n) GT kT bT mT GP kP bP mP
theorem scUnlikeL2 : FnScope ["_law_atoms", "_law_found", "_law_atom_here"] ["_law_atoms"] (defScope sUnlikeL) := ⟨rfl, rfl, rfl, by decide +kernel, rfl, by decide +kernel, by decide +kernel⟩
theorem ok_unlikel {f : Addr} {fd : FuncData} (F : Fun K "_law_unlike" "_law_unlike" sUnlikeL f fd) (mTuple : mg "tuple" = none) : FnOk P w K mg base CX0 1 f fd ["_law_atoms"] spUnlikeL := by
  refine F.ok scUnlikeL2 (fun vs H Q E h => ?_) (fun cdv A outer s H vs Q E hr h => ?_)
  · obtain ⟨q, xs, as, rfl, _⟩ := h
    rfl
  obtain ⟨q, xs, as, rfl, hq, A1, ok, fin⟩ := h
  refine ⟨_, pss_cons (ps_set (i := 1) scUnlikeL2.nd rfl (Or.inl rfl) (pe_lst pa_nil))
    (pss_cons (ps_for PassesOwn.never rfl (pi_list (pv 0)) (pg_name (i := 2) scUnlikeL2.nd rfl (Or.inl rfl))
      (pss_one (ps_if (pt_cmpR (op_notInD (hu65 hr)) (pv 2) (pv 1) (by rfl)) (pss_one (ps_expr (pe_bm PySem.F.plainAttrs_list PySem.F.slot_list_append PySem.F.type_list_append mt_append (pv 1) (pa_cons (pv 2) pa_nil)))) pss_nil)))
    (pss_one (ps_ret (pe_callTy call_tuple_of (by rfl) mTuple (by decide +kernel) (pa_cons (pv 1) pa_nil))))), ?_⟩
  have big : (10000 : Nat) ≤ sizeLine := by decide
  have xl := A1.len
  have o6 := ok.few
  refine ⟨(by show 0 ≤ sizeLine; decide), fun l hl => ?_⟩
  have s1 := same_new hl (.lst ([] : List V))
  have hq1 := s1 _ _ hq
  have lq : q ≠ l := ne_of_none hq hl
  refine ⟨_, rfl, q, rfl, ⟨_, .inl (.inl hq1)⟩, for_list (K := K) (a := q) (xs := xs) (fun i σ H2 => ∃ (x2 : Option V) (ys : List V), σ = [some (.ref q), some (.ref l), x2] ∧ H2 l = some (.lst ys) ∧ AtsAt H2 ys (unl (as.take i)) ∧ Same H H2)
    ⟨none, [], rfl, upd_same, trivial, s1⟩ (fun i σ H2 _ ⟨_, _, _, _, _, h⟩ => .inl (.inl (h _ _ hq))) ?_ ?_⟩
  · rintro i x σ H2 hi ⟨x2, ys, rfl, h2, A2, s2⟩
    obtain ⟨a, ha, T⟩ := A1.get hi
    have am := List.mem_of_getElem? ha
    have li : i < as.length := (List.getElem?_eq_some_iff.mp ha).1
    have yl := A2.len
    have ul := unl_le (as := as.take i)
    rw [List.length_take] at ul
    have tk : as.take (i + 1) = as.take i ++ [a] := by rw [List.take_add_one, ha]; rfl
    have T2 := atAt_same T s2
    refine ⟨_, rfl, _, rfl, atD a, (unl (as.take i)).map atD, at_dp T2, .lst (.inl (.inl h2)) (ats_dp A2), at_shaped (ok.ok a am), ats_shaped fun b hb => ok.ok b (List.mem_of_mem_take (mem_unl hb)), ?_⟩
    by_cases nin : a ∈ unl (as.take i)
    · refine ⟨false, by rw [in_ats, decide_eq_true nin]; rfl, iteF ?_⟩
      exact ⟨_, ys, rfl, h2, by rw [tk, unl_snoc, if_pos nin]; exact A2, s2⟩
    · refine ⟨true, by rw [notin_ats nin]; rfl, iteT ?_⟩
      refine ⟨_, rfl, .inl ⟨rfl, _, .inl (.inl h2)⟩, _, rfl, l, _, _, rfl, rfl, h2, by omega, ?_⟩
      have keep : ∀ b zs, H2 b = some (.tup zs) → (upd H2 l (.lst (ys ++ [x]))) b = some (.tup zs) := fun b zs z => by rw [upd_ne (ne_of z h2 (by intro e; cases e))]; exact z
      refine ⟨_, ys ++ [x], rfl, upd_same, by rw [tk, unl_snoc, if_neg nin]; exact (A2.mono keep).append ⟨atAt_mono keep T2, trivial⟩, ?_⟩
      intro c o z
      rw [upd_ne (ne_of_none z hl)]
      exact s2 _ _ z
  · rintro σ H2 ⟨x2, ys, rfl, h2, A2, s2⟩
    rw [xl, List.take_length] at A2
    exact ⟨_, rfl, l, _, rfl, .inl ⟨.inl (.inl h2), fun p hp => fin p ys _ upd_same (A2.same (same_new hp _)) (s2.trans (same_new hp _))⟩⟩
end
end Rp

set_option maxHeartbeats 16000000
/-! The law's shapes, atoms, sayings. -/
namespace Rp
open PySem PySem.Spec PyProof.Rows L2 TL StX
abbrev KVs := List (L2.Key × V)
def ShE (v : V) : Prop := ∃ m : Nat, v = .int (m : Nat) ∧ 1 ≤ m ∧ m ≤ 2
def ShOk (ws : List Str) (kvs : KVs) : Prop := ∀ x ∈ ws, ∃ v, valV kvs (.inr x) = some v ∧ ShE v
theorem merge_has : ∀ {more acc : KVs} {k : L2.Key}, (∀ kv ∈ more, ShE kv.2) → ((∃ v, valV acc k = some v ∧ ShE v) ∨ k ∈ more.map (·.1)) → ∃ v, valV (mergeK acc more) k = some v ∧ ShE v
  | [], acc, k, _, h => by
    rcases h with h | h
    · exact h
    · simp at h
  | kv :: more, acc, k, e, h => by
    have e1 : mergeK acc (kv :: more) = mergeK (putK acc kv.1 kv.2) more := rfl
    rw [e1]
    refine merge_has (fun z hz => e z (by simp [hz])) ?_
    by_cases z : k = kv.1
    · exact .inl ⟨kv.2, by rw [valV_put, if_pos z], e kv (by simp)⟩
    · rcases h with ⟨v, h1, h2⟩ | h
      · exact .inl ⟨v, by rw [valV_put, if_neg z]; exact h1, h2⟩
      · simp only [List.map_cons, List.mem_cons] at h
        exact .inr (h.resolve_left z)
def PairsAt (H : Hp) : List Addr → KVs → Prop
  | [], [] => True
  | p :: ps, kv :: kvs => H p = some (.tup [kV kv.1, kv.2]) ∧ PairsAt H ps kvs
  | _, _ => False
theorem PairsAt.mono {H H' : Hp} (e : ∀ a xs, H a = some (.tup xs) → H' a = some (.tup xs)) : ∀ {ps : List Addr} {kvs : KVs}, PairsAt H ps kvs → PairsAt H' ps kvs
  | [], [], _ => trivial
  | _ :: _, _ :: _, h => ⟨e _ _ h.1, PairsAt.mono e h.2⟩
theorem PairsAt.len {H : Hp} : ∀ {ps : List Addr} {kvs : KVs}, PairsAt H ps kvs → ps.length = kvs.length
  | [], [], _ => rfl
  | _ :: _, _ :: _, h => congrArg (· + 1) (PairsAt.len h.2)
theorem PairsAt.snoc {H : Hp} {p : Addr} {kv : L2.Key × V} (hp : H p = some (.tup [kV kv.1, kv.2])) : ∀ {ps : List Addr} {kvs : KVs}, PairsAt H ps kvs → PairsAt H (ps ++ [p]) (kvs ++ [kv])
  | [], [], _ => ⟨hp, trivial⟩
  | _ :: _, _ :: _, h => ⟨h.1, PairsAt.snoc hp h.2⟩
theorem PairsAt.paired {K : PySem.W.Frag} {H : Hp} : ∀ {ps : List Addr} {kvs : KVs}, PairsAt H ps kvs → Paired (fun p (kv : L2.Key × V) => SqT K H p [kV kv.1, kv.2]) ps kvs
  | [], [], _ => .nil
  | _ :: _, _ :: _, h => .cons (.inl (.inl h.1)) (PairsAt.paired h.2)
theorem ne_box {H : Hp} {a b : Addr} {j : Nat} (B : BoxAt H b j) (h : H a = none) : a ≠ b := by
  obtain ⟨y, hb⟩ := B.some
  exact (ne_of_none hb h).symm
theorem ne_boxT {H : Hp} {a b : Addr} {j : Nat} {o : HO} (B : BoxAt H b j) (h : H a = some o) (n : ∀ xs, o ≠ .lst xs) : a ≠ b := by
  obtain ⟨y, hb⟩ := B.some
  rintro rfl
  rw [hb] at h
  exact n _ (Option.some.inj h).symm
/-- tuples stay, a list taken anew -/
theorem keepU {H : Hp} {D : Addr} {xs : List V} {o : HO} (h : H D = some (.lst xs)) : ∀ q zs, H q = some (.tup zs) → (upd H D o) q = some (.tup zs) := fun q zs z => by
  rw [upd_ne (ne_of z h (by intro e; cases e))]; exact z
theorem keepB {H H' : Hp} {b : Addr} {j : Nat} (B : BoxAt H b j) (o : But b H H') : ∀ q zs, H q = some (.tup zs) → H' q = some (.tup zs) := fun q zs z => o _ _ z (ne_boxT B z (by intro xs e; cases e))
theorem but_new {H : Hp} {b D : Addr} {H0 H1 : Hp} {o : HO} (hD : H D = none) (h : But b H H0) (h' : ∀ x u, H0 x = some u → x ≠ b → H1 x = some u) : But b H (upd H1 D o) := by
  intro x u z nb
  rw [upd_ne (ne_of_none z hD)]
  exact h' _ _ (h _ _ z nb) nb
def spShapes : Sp := fun vs H Q _ => ∃ (b p : Addr) (ws : List Str) (j : Nat), vs = [.ref b, .ref p] ∧ BoxAt H b j ∧ H p = some (.lst (ws.map V.str)) ∧ p ≠ b ∧ ws.length ≤ 4 ∧ j + 4 ≤ 1000000 ∧
  ∀ (d : Addr) (kvs : KVs) (H' : Hp), H d = none → H' d = some (.dK kvs) → ShOk ws kvs → BoxAt H' b (j + 4) → But b H H' → Q (.ref d) H'
structure Wrd (H : Hp) (b d p pp : Addr) (ws : List Str) (ks : List Int) (kvs : KVs) : Prop where
  hd : H d = some (.dK kvs)
  sh : ShOk ws kvs
  hp : H p = some (.lst (ws.map V.str))
  hq : H pp = some (.lst (ks.map V.int))
  pk : ∀ k ∈ ks, 0 ≤ k ∧ k ≤ 99
  pl : ks.length ≤ 200
  pb : p ≠ b
  qb : pp ≠ b
  nm : ∀ x ∈ ws, NameOk x
  one : 1 ≤ ws.length
  four : ws.length ≤ 4
theorem Wrd.db {H : Hp} {b d p pp : Addr} {ws : List Str} {ks : List Int} {kvs : KVs} {j : Nat} (W : Wrd H b d p pp ws ks kvs) (B : BoxAt H b j) : d ≠ b := ne_boxT B W.hd (by intro xs e; cases e)
theorem Wrd.but {H H' : Hp} {b d p pp : Addr} {ws : List Str} {ks : List Int} {kvs : KVs} {j : Nat} (W : Wrd H b d p pp ws ks kvs) (B : BoxAt H b j) (o : But b H H') : Wrd H' b d p pp ws ks kvs :=
  ⟨o _ _ W.hd (W.db B), W.sh, o _ _ W.hp W.pb, o _ _ W.hq W.qb, W.pk, W.pl, W.pb, W.qb, W.nm, W.one, W.four⟩
theorem Wrd.same {H H' : Hp} {b d p pp : Addr} {ws : List Str} {ks : List Int} {kvs : KVs} (W : Wrd H b d p pp ws ks kvs) (o : Same H H') : Wrd H' b d p pp ws ks kvs :=
  ⟨o _ _ W.hd, W.sh, o _ _ W.hp, o _ _ W.hq, W.pk, W.pl, W.pb, W.qb, W.nm, W.one, W.four⟩
/-- an atom of the pool's variables, of its name's shape -/
structure AtW (ks : List Int) (kvs : KVs) (a : At) : Prop where
  ok : AtOk 7 a
  vs : ∀ t ∈ a.ts, ∀ n ∈ t.nums, n ∈ ks
  sh : valV kvs (Sum.inr a.nm) = some (V.int ((a.ts.length : Nat) : Int))
  sz : ∀ t ∈ a.ts, t.size ≤ 3
def spAtomL : Sp := fun vs H Q _ => ∃ (b d p pp : Addr) (ws : List Str) (ks : List Int) (kvs : KVs) (j m : Nat), vs = [.ref b, .ref d, .ref p, .ref pp, .int m] ∧ BoxAt H b j ∧ Wrd H b d p pp ws ks kvs ∧ m ≤ 1 ∧ j + 31 ≤ 1000000 ∧
  ∀ (v : V) (a : At) (H' : Hp), AtAt H' v a → AtW ks kvs a → BoxAt H' b (j + 31) → But b H H' → Q v H'
def spSayingL : Sp := fun vs H Q _ => ∃ (b d p pp : Addr) (ws : List Str) (ks : List Int) (kvs : KVs) (j m : Nat), vs = [.ref b, .ref d, .ref p, .ref pp, .int m] ∧ BoxAt H b j ∧ Wrd H b d p pp ws ks kvs ∧ m ≤ 6 ∧ j + 300 ≤ 1000000 ∧
  ∀ (v : V) (s : Sy) (H' : Hp), SyAt H' v s → SyOk s → s.hs.length ≤ m → (∀ a ∈ s.hs, AtW ks kvs a) → AtW ks kvs s.gl → BoxAt H' b (j + 300) → But b H H' → Q v H'
section
variable {P : Program} {w : World} {K : PySem.W.Frag} {mg : Str → Option Value} {base : Heap}
theorem scShapes : FnScope ["_law_box_here", "_law_names_here", "_law_name"] ["_law_box_here", "_law_names_here"] (defScope sShapes) := ⟨rfl, rfl, rfl, by decide +kernel, rfl, by decide +kernel, by decide +kernel⟩
def tePair (K : PySem.W.Frag) : TE := tTup (tCons (tVar 2) (tCons (tOp (rIxL K) (tLst (tCons (tC (.int 1)) (tCons (tC (.int 1)) (tCons (tC (.int 1)) (tCons (tC (.int 2)) tNil))))) (tCall spTake [] E0 (tCons (tVar 0) (tCons (tC (.int 4)) tNil)))) tNil))
theorem ok_shapes {f fT : Addr} {fd fdT : FuncData} (F : Fun K "_law_shapes" "_law_shapes" sShapes f fd)
    (GT : FnOk P w K mg base CX0 1 fT fdT ["_law_box_here", "_law_reach"] spTake) (kT : PySem.W.keepIn K (.ref fT) = true) (bT : Binds K fdT ["_law_box_here", "_law_reach"] []) (mT : mg "_law_take" = some (.ref fT))
    (mDict : mg "dict" = none) : FnOk P w K mg base CX0 2 f fd ["_law_box_here", "_law_names_here"] spShapes := by
  refine F.ok scShapes (fun vs H Q E h => ?_) (fun cdv A outer s H vs Q E hr h => ?_)
  · obtain ⟨b, p, ws, j, rfl, _⟩ := h
    rfl
  obtain ⟨b, p, ws, j, rfl, B, hp, pb, w4, hj, q⟩ := h
  refine ⟨_, pss_one (ps_ret (pe_callTy (call_dictP rfl) (by rfl) mDict (by decide +kernel) (pa_cons (pe_lc (own := [("_law_name", 2)]) (g := gName 2) (tt := tYes) (te := tePair K) rfl scShapes.nd (pi_list (pv 1))
        (blkOk_by (N := ["_law_box_here", "_law_names_here", "_law_name"]) (sc := defScope sShapes) (by decide +kernel)) (fun _ _ _ _ _ => pg_name (i := 2) scShapes.nd rfl (Or.inl rfl)) (fun _ _ _ _ _ => pts_nil)
        (fun _ _ _ _ _ => pe_tup (pa_cons (pv 2) (pa_cons (pe_ix ix_list (pe_lst (pa_cons pe_int (pa_cons pe_int (pa_cons pe_int (pa_cons pe_int pa_nil))))) (pe_call GT hr (by rfl) mT kT bT .nil pass0 (pa_cons (pv 0) (pa_cons pe_int pa_nil))) (fun _ _ => rfl)) pa_nil)))) pa_nil))), ?_⟩
  have big : (10000 : Nat) ≤ sizeLine := by decide
  refine ⟨_, rfl, p, rfl, ⟨_, .inl (.inl hp)⟩, fun D hD => lc_list (K := K) (a := p) (xs := ws.map V.str) (fun i H2 => ∃ (ps : List Addr) (kvs : KVs), H2 D = some (.lst (ps.map V.ref)) ∧ PairsAt H2 ps kvs ∧ kvs.map (·.1) = (ws.take i).map Sum.inr ∧ (∀ kv ∈ kvs, ShE kv.2) ∧ BoxAt H2 b (j + i) ∧ H2 p = some (.lst (ws.map V.str)) ∧ But b H H2)
    ⟨[], [], upd_same, trivial, rfl, by simp, (B.same (same_new hD _)).more (by omega), same_new hD _ _ _ hp, but_of (same_new hD _)⟩ (fun i H2 _ ⟨_, _, _, _, _, _, _, h, _⟩ => .inl (.inl h)) ?_ ?_⟩
  · rintro i x H2 hi ⟨ps, kvs, h2, A2, kl, ke, B2, hp2, o2⟩
    rw [List.getElem?_map] at hi
    obtain ⟨y, hy, rfl⟩ : ∃ y, ws[i]? = some y ∧ x = .str y := by
      cases hq : ws[i]? with
      | none => rw [hq] at hi; cases hi
      | some p => rw [hq] at hi; exact ⟨p, rfl, by simpa using hi.symm⟩
    have li : i < ws.length := (List.getElem?_eq_some_iff.mp hy).1
    have Db : D ≠ b := ne_box B hD
    have Dp : D ≠ p := (ne_of_none hp hD).symm
    have pl := A2.len
    have kl2 : kvs.length ≤ 4 := by
      have := congrArg List.length kl
      rw [List.length_map, List.length_map, List.length_take] at this
      omega
    refine ⟨rfl, ?_⟩
    unfold tePair
    refine ⟨_, rfl, (by show 4 ≤ sizeLine; decide), fun c hc => ?_⟩
    have s3 := same_new hc (.lst [V.int 1, V.int 1, V.int 1, V.int 2])
    have B3 := B2.same s3
    have cb : c ≠ b := ne_box B2 hc
    refine ⟨_, rfl, b, _, _, rfl, B3, by omega, by decide, by decide, fun r H4 r0 r4 B4 o4 => ?_⟩
    have hc4 := o4 _ _ upd_same cb
    obtain ⟨m, hat, hm⟩ : ∃ m : Nat, atI [V.int 1, V.int 1, V.int 1, V.int 2] r = some (.int (m : Nat)) ∧ 1 ≤ m ∧ m ≤ 2 := by
      rcases (by omega : r = 0 ∨ r = 1 ∨ r = 2 ∨ r = 3) with e | e | e | e <;> subst e
      · exact ⟨1, at_of (j := 0) rfl rfl, by omega, by omega⟩
      · exact ⟨1, at_of (j := 1) rfl rfl, by omega, by omega⟩
      · exact ⟨1, at_of (j := 2) rfl rfl, by omega, by omega⟩
      · exact ⟨2, at_of (j := 3) rfl rfl, by omega, by omega⟩
    refine ⟨c, _, _, _, rfl, rfl, .inl (.inl hc4), hat, (by show 2 ≤ sizeLine; decide), fun t ht => ?_⟩
    have s4 := same_new ht (.tup [V.str y, V.int (m : Nat)])
    have hD4 := s4 _ _ (o4 _ _ (s3 _ _ h2) Db)
    have keep : ∀ a zs, H2 a = some (.tup zs) → (upd (upd H4 t (.tup [V.str y, V.int (m : Nat)])) D (.lst (ps.map V.ref ++ [.ref t]))) a = some (.tup zs) := fun a zs z =>
      keepU hD4 _ _ (s4 _ _ (keepB B3 o4 _ _ (s3 _ _ z)))
    have tD : t ≠ D := (ne_of_none (o4 _ _ (s3 _ _ h2) Db) ht).symm
    refine ⟨_, hD4, by rw [List.length_map]; omega, ps ++ [t], kvs ++ [(.inr y, .int (m : Nat))], by rw [upd_same, List.map_append]; rfl, PairsAt.snoc (by rw [upd_ne tD, upd_same]; rfl) (A2.mono keep), ?_, ?_, ((B4.same s4).upd Db _).more (by omega), ?_, ?_⟩
    · have tk : ws.take (i + 1) = ws.take i ++ [y] := by rw [List.take_add_one, hy]; rfl
      rw [tk, List.map_append, List.map_append, kl]; rfl
    · intro kv hkv
      rcases List.mem_append.mp hkv with hkv | hkv
      · exact ke kv hkv
      · obtain rfl : kv = (.inr y, .int (m : Nat)) := by simpa using hkv
        exact ⟨m, rfl, hm.1, hm.2⟩
    · rw [upd_ne Dp.symm]
      exact s4 _ _ (o4 _ _ (s3 _ _ hp2) pb)
    · exact but_new hD o2 fun a o z nb => s4 _ _ (o4 _ _ (s3 _ _ z) nb)
  · rintro H2 ⟨ps, kvs, h2, A2, kl, ke, B2, hp2, o2⟩
    rw [List.length_map] at B2
    rw [List.length_map, List.take_length] at kl
    refine ⟨D, ps, kvs, rfl, .inl (.inl h2), A2.paired, fun d hd => ?_⟩
    have s3 := same_new hd (.dK (mergeK [] kvs))
    have hd0 : H d = none := but_none o2 B2 hd
    exact q d _ _ hd0 upd_same (fun x hx => merge_has ke (.inr (by rw [kl]; exact List.mem_map.mpr ⟨x, hx, rfl⟩))) ((B2.same s3).more (by omega)) (o2.trans (but_of s3))
abbrev NA : List Str := ["_law_box_here", "_law_shapes_here", "_law_names_here", "_law_pool", "_law_deep", "_law_word", "_law_part"]
theorem scAtomL : FnScope NA ["_law_box_here", "_law_shapes_here", "_law_names_here", "_law_pool", "_law_deep"] (defScope sAtomL) := ⟨rfl, rfl, rfl, by decide +kernel, rfl, by decide +kernel, by decide +kernel⟩
def teTm : TE := tCall (spLTerm 3) [] E0 (tCons (tVar 0) (tCons (tVar 3) (tCons (tVar 4) tNil)))
theorem ok_atoml {f fP fTm : Addr} {fd dP dTm : FuncData} (F : Fun K "_law_atom" "_law_atom" sAtomL f fd)
    (GP : FnOk P w K mg base CX0 2 fP dP ["_law_box_here", "_law_things"] spPick) (kP : PySem.W.keepIn K (.ref fP) = true) (bP : Binds K dP ["_law_box_here", "_law_things"] []) (mP : mg "_law_pick" = some (.ref fP))
    (GTm : FnOk P w K mg base CX0 5 fTm dTm ["_law_box_here", "_law_pool", "_law_deep"] (spLTerm 3)) (kTm : PySem.W.keepIn K (.ref fTm) = true) (bTm : Binds K dTm ["_law_box_here", "_law_pool", "_law_deep"] []) (mTm : mg "_law_term" = some (.ref fTm))
    (mRange : mg "range" = none) (mTuple : mg "tuple" = none) : FnOk P w K mg base CX0 6 f fd ["_law_box_here", "_law_shapes_here", "_law_names_here", "_law_pool", "_law_deep"] spAtomL := by
  refine F.ok scAtomL (fun vs H Q E h => ?_) (fun cdv A outer s H vs Q E hr h => ?_)
  · obtain ⟨b, d, p, pp, ws, ks, kvs, j, m, rfl, _⟩ := h
    rfl
  obtain ⟨b, d, p, pp, ws, ks, kvs, j, m, rfl, B, W, m2, hj, q⟩ := h
  have r2 : Room 2 _ := hr.mono (by decide)
  refine ⟨_, pss_cons (ps_set (i := 5) scAtomL.nd rfl (Or.inl rfl) (pe_call GP r2 rfl mP kP bP .nil pass0 (pa_cons (pv 0) (pa_cons (pv 2) pa_nil))))
    (pss_one (ps_ret (pe_op op_catT (pe_tup (pa_cons (pv 5) pa_nil)) (pe_callTy call_tuple_of (by rfl) mTuple (by decide +kernel) (pa_cons
      (pe_lc (own := [("_law_part", 6)]) (g := gName 6) (tt := tYes) (te := teTm) rfl scAtomL.nd (pi_range1 (by rfl) mRange (pa_cons (pe_dget (hu_of hr) (pv 1) (pv 5) (fun _ _ => rfl)) pa_nil)) (blkOk_by (N := NA) (sc := defScope sAtomL) (by decide +kernel))
        (fun _ _ _ _ _ => pg_name (i := 6) scAtomL.nd rfl (Or.inl rfl)) (fun _ _ _ _ _ => pts_nil) (fun _ _ _ _ _ => pe_call GTm hr (by rfl) mTm kTm bTm .nil pass0 (pa_cons (pv 0) (pa_cons (pv 3) (pa_cons (pv 4) pa_nil))))) pa_nil))))), ?_⟩
  have big : (10000 : Nat) ≤ sizeLine := by decide
  have pw1 : 2 ^ m ≤ 2 ^ 2 := Nat.pow_le_pow_right (by decide) (by omega)
  have pw2 : 2 ^ (m + 1) ≤ 2 ^ 2 := Nat.pow_le_pow_right (by decide) (by omega)
  have w4 := W.four
  have w1 := W.one
  refine ⟨_, rfl, _, rfl, b, p, _, j, rfl, B, by omega, W.hp, W.pb, by rw [List.length_map]; omega, by rw [List.length_map]; omega, fun v H1 hv B1 o1 => ?_⟩
  obtain ⟨x, hx, rfl⟩ := List.mem_map.mp hv
  have W1 := W.but B o1
  obtain ⟨_, hval, mm, rfl, mm1, mm2⟩ := W1.sh x hx
  refine ⟨_, rfl, (by show 1 ≤ sizeLine; decide), fun t ht => ?_⟩
  have s2 := same_new ht (.tup [V.str x])
  have W2 := W1.same s2
  have B2 := B1.same s2
  refine ⟨_, rfl, _, rfl, d, _, rfl, by rw [← hval]; exact DGet.k (k := Sum.inr x) W2.hd, _, rfl, by omega, by omega, fun D hD => lc_range (lo := 0) (fun e H3 => ∃ (xs : List V) (ts : List Tm), H3 D = some (.lst xs) ∧ AllAt H3 xs ts ∧ ts.length = e ∧ (∀ u ∈ ts, Sm ks u ∧ u.size ≤ 3) ∧ BoxAt H3 b (j + 1 + 15 * e) ∧ But b (upd H1 t (.tup [V.str x])) H3)
    ⟨[], [], upd_same, trivial, rfl, by simp, (B2.same (same_new hD _)).more (by omega), but_of (same_new hD _)⟩ ?_ ?_⟩
  · rintro e H3 he ⟨xs, ts, h3, A3, tl, tk, B3, o3⟩
    have Db : D ≠ b := ne_box B2 hD
    have xl := A3.len
    have W3 := W2.but B2 o3
    refine ⟨rfl, ?_⟩
    unfold teTm
    refine ⟨_, rfl, _, rfl, _, rfl, b, pp, ks, _, m, rfl, B3, W3.hq, W3.pk, W3.pl, W3.qb, by omega, by omega, by omega, fun v u H4 T sm sz B4 o4 => ?_⟩
    have h4 := o4 _ _ h3 Db
    refine ⟨xs, h4, by omega, xs ++ [v], ts ++ [u], upd_same, (A3.mono fun q zs z => keepU h4 _ _ (keepB B3 o4 _ _ z)).append ⟨T.mono (keepU h4), trivial⟩, by simp [tl], fun y hy => ?_, (B4.upd Db _).more (by omega), ?_⟩
    · rcases List.mem_append.mp hy with hy | hy
      · exact tk y hy
      · obtain rfl : y = u := by simpa using hy
        exact ⟨sm, by omega⟩
    · exact but_new hD o3 o4
  · rintro H3 ⟨xs, ts, h3, A3, tl, tk, B3, o3⟩
    have tl2 : ts.length = mm := by rw [tl]; omega
    have xl := A3.len
    refine ⟨D, xs, rfl, .inl ⟨.inl (.inl h3), fun g hg => ?_⟩⟩
    have s4 := same_new hg (.tup xs)
    have ht3 := keepB B2 o3 _ _ (upd_same : (upd H1 t (.tup [V.str x])) t = _)
    refine ⟨t, g, [V.str x], xs, rfl, rfl, .inl (.inl (s4 _ _ ht3)), .inl (.inl upd_same), by simp, by simp; omega, fun e => ?_, fun _ t2 ht2 => ?_⟩
    · rw [e] at xl; simp at xl; omega
    · have s5 := same_new ht2 (.tup ([V.str x] ++ xs))
      exact q _ ⟨x, ts⟩ _ ⟨t2, xs, rfl, upd_same, A3.mono fun q zs z => s5 _ _ (s4 _ _ z)⟩ ⟨⟨W.nm x hx, by show 1 ≤ ts.length; omega, by show ts.length ≤ 2; omega, fun u hu => ⟨(tk u hu).1.small, by have := (tk u hu).2; omega⟩⟩, fun u hu n hn => ((tk u hu).1 n hn).1, by show valV kvs (Sum.inr x) = some (V.int ((ts.length : Nat) : Int)); rw [tl2]; exact hval, fun u hu => (tk u hu).2⟩ (((B3.same s4).same s5).more (by omega))
        (o1.trans ((but_of s2).trans (o3.trans ((but_of s4).trans (but_of s5)))))
abbrev NSy : List Str := ["_law_box_here", "_law_shapes_here", "_law_names_here", "_law_pool", "_law_count", "_law_hyps", "_law_turn"]
theorem scSayingL : FnScope NSy ["_law_box_here", "_law_shapes_here", "_law_names_here", "_law_pool", "_law_count"] (defScope sSayingL) := ⟨rfl, rfl, rfl, by decide +kernel, rfl, by decide +kernel, by decide +kernel⟩
def teAtom : TE := tCall spAtomL [] E0 (tCons (tVar 0) (tCons (tVar 1) (tCons (tVar 2) (tCons (tVar 3) (tCons (tCall spTake [] E0 (tCons (tVar 0) (tCons (tC (.int 2)) tNil))) tNil)))))
theorem ok_sayingl {f fT fA fU : Addr} {fd dT dA dU : FuncData} (F : Fun K "_law_saying" "_law_saying" sSayingL f fd)
    (GT : FnOk P w K mg base CX0 1 fT dT ["_law_box_here", "_law_reach"] spTake) (kT : PySem.W.keepIn K (.ref fT) = true) (bT : Binds K dT ["_law_box_here", "_law_reach"] []) (mT : mg "_law_take" = some (.ref fT))
    (GA : FnOk P w K mg base CX0 6 fA dA ["_law_box_here", "_law_shapes_here", "_law_names_here", "_law_pool", "_law_deep"] spAtomL) (kA : PySem.W.keepIn K (.ref fA) = true) (bA : Binds K dA ["_law_box_here", "_law_shapes_here", "_law_names_here", "_law_pool", "_law_deep"] []) (mA : mg "_law_atom" = some (.ref fA))
    (GU : FnOk P w K mg base CX0 1 fU dU ["_law_atoms"] spUnlikeL) (kU : PySem.W.keepIn K (.ref fU) = true) (bU : Binds K dU ["_law_atoms"] []) (mU : mg "_law_unlike" = some (.ref fU))
    (mRange : mg "range" = none) : FnOk P w K mg base CX0 7 f fd ["_law_box_here", "_law_shapes_here", "_law_names_here", "_law_pool", "_law_count"] spSayingL := by
  refine F.ok scSayingL (fun vs H Q E h => ?_) (fun cdv A outer s H vs Q E hr h => ?_)
  · obtain ⟨b, d, p, pp, ws, ks, kvs, j, m, rfl, _⟩ := h
    rfl
  obtain ⟨b, d, p, pp, ws, ks, kvs, j, m, rfl, B, W, m3, hj, q⟩ := h
  have r1 : Room 1 _ := hr.mono (by decide)
  refine ⟨_, pss_cons (ps_setLc (i := 5) (own := [("_law_turn", 6)]) (g := gName 6) (tt := tYes) (te := teAtom) rfl scSayingL.nd rfl rfl (by rfl) (pi_range1 (by rfl) mRange (pa_cons (pe_call GT r1 (by rfl) mT kT bT .nil pass0 (pa_cons (pv 0) (pa_cons (pe_op op_addI (pv 4) pe_int) pa_nil))) pa_nil))
        (blkOk_by (N := NSy) (sc := defScope sSayingL) (by decide +kernel)) (fun _ _ _ _ _ => pg_name (i := 6) scSayingL.nd rfl (Or.inl rfl)) (fun _ _ _ _ _ => pts_nil)
        (fun _ _ _ _ _ => pe_call GA hr (by rfl) mA kA bA .nil pass0 (pa_cons (pv 0) (pa_cons (pv 1) (pa_cons (pv 2) (pa_cons (pv 3) (pa_cons (pe_call GT r1 (by rfl) mT kT bT .nil pass0 (pa_cons (pv 0) (pa_cons pe_int pa_nil))) pa_nil)))))))
    (pss_one (ps_ret (pe_tup (pa_cons (pe_call GU r1 (by rfl) mU kU bU .nil pass0 (pa_cons (pv 5) pa_nil)) (pa_cons (pe_call GA hr (by rfl) mA kA bA .nil pass0 (pa_cons (pv 0) (pa_cons (pv 1) (pa_cons (pv 2) (pa_cons (pv 3) (pa_cons (pe_call GT r1 (by rfl) mT kT bT .nil pass0 (pa_cons (pv 0) (pa_cons pe_int pa_nil))) pa_nil)))))) pa_nil))))), ?_⟩
  have big : (10000 : Nat) ≤ sizeLine := by decide
  refine ⟨_, rfl, _, rfl, _, _, rfl, rfl, b, _, j, rfl, B, by omega, by omega, by omega, fun c H1 c0 c1 B1 o1 => ?_⟩
  have W1 := W.but B o1
  refine ⟨_, rfl, by omega, by omega, fun D hD => lc_range (lo := 0) (fun e H3 => ∃ (xs : List V) (as : List At), H3 D = some (.lst xs) ∧ AtsAt H3 xs as ∧ as.length = e ∧ (∀ a ∈ as, AtW ks kvs a) ∧ BoxAt H3 b (j + 1 + 32 * e) ∧ But b H1 H3)
    ⟨[], [], upd_same, trivial, rfl, by simp, (B1.same (same_new hD _)).more (by omega), but_of (same_new hD _)⟩ ?_ ?_⟩
  · rintro e H3 he ⟨xs, as, h3, A3, al, ao, B3, o3⟩
    have Db : D ≠ b := ne_box B1 hD
    have xl := A3.len
    have W3 := W1.but B1 o3
    refine ⟨rfl, ?_⟩
    unfold teAtom
    refine ⟨_, rfl, _, rfl, _, rfl, _, rfl, _, rfl, b, _, _, rfl, B3, by omega, by decide, by decide, fun z H4 z0 z1 B4 o4 => ?_⟩
    obtain ⟨mz, rfl⟩ := Int.eq_ofNat_of_zero_le z0
    have W4 := W3.but B3 o4
    refine ⟨b, d, p, pp, ws, ks, kvs, _, mz, rfl, B4, W4, by omega, by omega, fun v a H5 A5 ok5 B5 o5 => ?_⟩
    have h5 := o5 _ _ (o4 _ _ h3 Db) Db
    refine ⟨xs, h5, by omega, xs ++ [v], as ++ [a], upd_same, (A3.mono fun q zs z => keepU h5 _ _ (keepB B4 o5 _ _ (keepB B3 o4 _ _ z))).append ⟨atAt_mono (keepU h5) A5, trivial⟩, by simp [al], fun y hy => ?_, (B5.upd Db _).more (by omega), ?_⟩
    · rcases List.mem_append.mp hy with hy | hy
      · exact ao y hy
      · obtain rfl : y = a := by simpa using hy
        exact ok5
    · exact but_new hD o3 (o4.trans o5)
  · rintro H3 ⟨xs, as, h3, A3, al, ao, B3, o3⟩
    have al3 : as.length ≤ m := by omega
    have W3 := W1.but B1 o3
    refine ⟨_, rfl, D, xs, as, rfl, h3, A3, AtsOk.mk (by omega) (fun a ha => (ao a ha).ok.more (by decide)), fun g ys H4 hg A4 s4 => ?_⟩
    have B4 := B3.same s4
    have W4 := W3.same s4
    refine ⟨_, rfl, _, rfl, _, rfl, _, rfl, _, rfl, b, _, _, rfl, B4, by omega, by decide, by decide, fun z H5 z0 z1 B5 o5 => ?_⟩
    obtain ⟨mz, rfl⟩ := Int.eq_ofNat_of_zero_le z0
    have W5 := W4.but B4 o5
    refine ⟨b, d, p, pp, ws, ks, kvs, _, mz, rfl, B5, W5, by omega, by omega, fun v a H6 A6 ok6 B6 o6 => ⟨(by show 2 ≤ sizeLine; decide), fun t ht => ?_⟩⟩
    have s7 := same_new ht (.tup [V.ref g, v])
    exact q _ ⟨unl as, a⟩ _ ⟨t, g, v, ys, rfl, upd_same, s7 _ _ (keepB B5 o6 _ _ (keepB B4 o5 _ _ hg)), A4.mono fun q zs z => s7 _ _ (keepB B5 o6 _ _ (keepB B4 o5 _ _ z)), atAt_same A6 s7⟩ ⟨AtsOk.mk (by have := unl_le (as := as); show (unl as).length ≤ 6; omega) (fun a ha => (ao a (mem_unl ha)).ok.more (by decide)), unl_nd as, ok6.ok.more (by decide)⟩ (Nat.le_trans unl_le al3) (fun a ha => ao a (mem_unl ha)) ok6 ((B6.same s7).more (by omega))
      (o1.trans (o3.trans ((but_of s4).trans (o5.trans (o6.trans (but_of s7))))))
end
end Rp

/-! A tuple times one: the tuple itself; a tuple times one or two. -/
namespace Rp
open PySem PySem.Spec PyProof.Rows L2
theorem once_meets (p : Addr) (its : Array Value) (m : Nat) (od : Option Addr) (ss : Array (Option Value)) (u : Tok) : Meets (Builtin.«tuple.__mul__» ⟨[.ref p, .int 1 u], []⟩)
    (fun _ R s => s.heap.get? p = some ⟨.type "tuple", od, .seq its m, ss⟩ ∧ R (.ok (.ret (.ref p))) s) :=
  .of_wp fun pr w A R s h => by
    obtain ⟨hp, g, d, tk, os⟩ := s
    obtain ⟨hl, h⟩ := h
    have f1 := AutoSeq1.idx_int
    have one : (its.isEmpty || (1 : Int) == 1) = true := by simp
    wp_walk using wpAny_loadPart' hl
    repeat (first
      | (refine wpAny_ite_false (by decide) ?_; wp_walk using wpAny_loadPart' hl)
      | (refine wpAny_ite_true (decide_eq_true one) ?_; wp_walk using wpAny_loadPart' hl))
    all_goals first | exact ⟨_, rfl, h⟩ | exact h | trivial
def rRepO (K : PySem.W.Frag) : R2 := fun x y H Q => ∃ (l : Addr) (k : Int) (xs : List V), x = .ref l ∧ y = .int k ∧ SqT K H l xs ∧ xs ≠ [] ∧ 1 ≤ k ∧ k ≤ 1000 ∧ xs.length ≤ 1000 ∧ (k = 1 → Q (.ref l) H) ∧
  (2 ≤ k → ∀ p, H p = none → Q (.ref p) (upd H p (.tup (List.replicate k.toNat xs).flatten)))
theorem op_repO {X : Cx} : OpR X (binaryOp .Mult) (rRepO X.K) := by
  intro pins s σ H x y v u Q I rx ry h
  obtain ⟨l, k, xs, ex, ey, ht, ne, k1, k2, sz, qs, qn⟩ := h
  by_cases two : 2 ≤ k
  · exact op_repT pins s σ H x y v u Q I rx ry ⟨l, k, xs, ex, ey, ht, ne, two, k2, sz, qn two⟩
  · obtain rfl : k = 1 := by omega
    subst ex ey
    cases rx
    obtain ⟨t, rfl⟩ := ry
    obtain ⟨its, r, q1, q2⟩ := I.tuple ht
    obtain ⟨⟨c1, d1, t1, s1⟩, g1, e1, n1, f1⟩ := id q1
    simp only at e1 f1
    subst e1 f1
    exact wpAny_binaryOp_repeat_ref (T := "tuple") (U := "int") (by decide) ⟨_, g1, rfl⟩ (fun s' => typeIs_int s' 1 t) noFill_tuple_mul F.fills_int_mul F.slot_int_rmul repeat_tuple F.slot_int_index.lookup
      (call_meets F.slot_int_rmul (typeIs_int s 1 t) F.entry_int_rmul (F.args_int_rmul_2 _ _) (int_rmul_tuple 1 t l its.toArray n1 d1 s1)
        ⟨g1, rfl, ⟨_, g1, rfl⟩, call_meets F.slot_tuple_mul ⟨_, g1, rfl⟩ F.entry_tuple_mul (F.args_tuple_mul_2 _ _) (once_meets l its.toArray n1 d1 s1 t) ⟨g1, ⟨.ref l, H, I, rfl, qs rfl⟩⟩⟩)
end Rp

set_option maxHeartbeats 16000000
/-! The law's rules, that it lets go; its beginning. -/
namespace Rp
open PySem PySem.Spec PyProof.Rows L2 TL StX
/-- the shapes and the words stand -/
structure Wsh (H : Hp) (b d p : Addr) (ws : List Str) (kvs : KVs) : Prop where
  hd : H d = some (.dK kvs)
  sh : ShOk ws kvs
  hp : H p = some (.lst (ws.map V.str))
  pb : p ≠ b
  one : 1 ≤ ws.length
  four : ws.length ≤ 4
theorem Wsh.db {H : Hp} {b d p : Addr} {ws : List Str} {kvs : KVs} {j : Nat} (W : Wsh H b d p ws kvs) (B : BoxAt H b j) : d ≠ b := ne_boxT B W.hd (by intro xs e; cases e)
theorem Wsh.but {H H' : Hp} {b d p : Addr} {ws : List Str} {kvs : KVs} {j : Nat} (W : Wsh H b d p ws kvs) (B : BoxAt H b j) (o : But b H H') : Wsh H' b d p ws kvs :=
  ⟨o _ _ W.hd (W.db B), W.sh, o _ _ W.hp W.pb, W.pb, W.one, W.four⟩
def spRuleL : Sp := fun vs H Q _ => ∃ (b d p : Addr) (ws : List Str) (kvs : KVs) (j : Nat), vs = [.ref b, .ref d, .ref p] ∧ BoxAt H b j ∧ Wsh H b d p ws kvs ∧ j + 30 ≤ 1000000 ∧
  ∀ (v : V) (H' : Hp), BoxAt H' b (j + 30) → But b H H' → Q v H'
theorem Same.gen {H H' : Hp} (s : Same H H') : ∃ H2, H' = H2 ∧ Same H H2 := ⟨_, rfl, s⟩
def teCnt (K : PySem.W.Frag) : TE := tIf (tTest (tOp (rI0 fun i j => .bl (decide (j < i))) (tVar 5) (tC (.int 0)))) (tOp (rIxL K) (tLst (tCons (tC (.int 0)) (tCons (tC (.int 1)) (tCons (tC (.int 1)) (tCons (tC (.int 2)) (tCons (tC (.int 1)) (tCons (tC (.int 3)) tNil))))))) (tCall spTake [] E0 (tCons (tVar 0) (tCons (tC (.int 6)) tNil)))) (tC (.int 0))
theorem cnt_ok {K : PySem.W.Frag} {σ : L2.St} {H : Hp} {Q : V → Hp → Prop} {b : Addr} {j fr : Nat} (e0 : σ[0]? = some (some (.ref b))) (e5 : σ[5]? = some (some (.int (fr : Nat)))) (B : BoxAt H b j) (hj : j + 1 ≤ 1000000)
    (q : ∀ (n : Nat) (H' : Hp), n ≤ 3 → (0 < n → 0 < fr) → BoxAt H' b (j + 1) → But b H H' → Q (.int (n : Nat)) H') : teCnt K σ H Q := by
  refine ⟨_, e5, _, _, rfl, rfl, decide ((0 : Int) < (fr : Nat)), rfl, ?_⟩
  by_cases h : (0 : Int) < (fr : Nat)
  · rw [decide_eq_true h]
    refine iteT ⟨(by show 6 ≤ sizeLine; decide), fun a ha => ?_⟩
    have s1 := same_new ha (.lst [V.int 0, V.int 1, V.int 1, V.int 2, V.int 1, V.int 3])
    refine ⟨_, e0, b, _, _, rfl, B.same s1, by omega, by decide, by decide, fun r H2 c0 c1 B2 o2 => ?_⟩
    obtain ⟨k, rfl⟩ := Int.eq_ofNat_of_zero_le c0
    have k6 : k < 6 := by omega
    obtain ⟨z, hz, z3⟩ : ∃ z : Nat, [V.int 0, V.int 1, V.int 1, V.int 2, V.int 1, V.int 3][k]? = some (.int (z : Nat)) ∧ z ≤ 3 := by
      match k, k6 with
      | 0, _ => exact ⟨0, rfl, by omega⟩
      | 1, _ => exact ⟨1, rfl, by omega⟩
      | 2, _ => exact ⟨1, rfl, by omega⟩
      | 3, _ => exact ⟨2, rfl, by omega⟩
      | 4, _ => exact ⟨1, rfl, by omega⟩
      | 5, _ => exact ⟨3, rfl, by omega⟩
    exact ⟨a, _, _, _, rfl, rfl, .inl (.inl (o2 _ _ upd_same (ne_box B ha))), at_of (j := k) rfl hz, q z H2 z3 (fun _ => by omega) B2 ((but_of s1).trans o2)⟩
  · rw [decide_eq_false h]
    exact iteF (q 0 H (by omega) (fun h => nomatch h) (B.more (by omega)) (But.refl b H))
def teArgR : TE := tCall spTake [] E0 (tCons (tVar 0) (tCons (tVar 5) tNil))
section
variable {P : Program} {w : World} {K : PySem.W.Frag} {mg : Str → Option Value} {base : Heap}
abbrev NRl : List Str := ["_law_box_here", "_law_shapes_here", "_law_names_here", "_law_word", "_law_terms", "_law_fresh", "_law_turn", "_law_way", "_law_body", "_law_own", "_law_part"]
theorem scRuleL : FnScope NRl ["_law_box_here", "_law_shapes_here", "_law_names_here"] (defScope sRuleL) := ⟨rfl, rfl, rfl, by decide +kernel, rfl, by decide +kernel, by decide +kernel⟩
theorem ok_rulel {f fT fP : Addr} {fd fdT dP : FuncData} (F : Fun K "_law_rule" "_law_rule" sRuleL f fd)
    (GT : FnOk P w K mg base CX0 1 fT fdT ["_law_box_here", "_law_reach"] spTake) (kT : PySem.W.keepIn K (.ref fT) = true) (bT : Binds K fdT ["_law_box_here", "_law_reach"] []) (mT : mg "_law_take" = some (.ref fT))
    (GP : FnOk P w K mg base CX0 2 fP dP ["_law_box_here", "_law_things"] spPick) (kP : PySem.W.keepIn K (.ref fP) = true) (bP : Binds K dP ["_law_box_here", "_law_things"] []) (mP : mg "_law_pick" = some (.ref fP))
    (mRange : mg "range" = none) (mTuple : mg "tuple" = none) : FnOk P w K mg base CX0 3 f fd ["_law_box_here", "_law_shapes_here", "_law_names_here"] spRuleL := by
  refine F.ok scRuleL (fun vs H Q E h => ?_) (fun cdv A outer s H vs Q E hr h => ?_)
  · obtain ⟨b, d, p, ws, kvs, j, rfl, _⟩ := h
    rfl
  obtain ⟨b, d, p, ws, kvs, j, rfl, B, W, hj, q⟩ := h
  have r1 : Room 1 _ := hr.mono (by decide)
  refine ⟨_, pss_cons (ps_asg (pe_tup (pa_cons (pe_call GP hr rfl mP kP bP .nil pass0 (pa_cons (pv 0) (pa_cons (pv 2) pa_nil))) (pa_cons (pe_lst pa_nil) (pa_cons pe_int pa_nil))))
      (pg_tup (by rfl) (pgs_cons (pg_name (i := 3) scRuleL.nd rfl (Or.inl rfl)) (pgs_cons (pg_name (i := 4) scRuleL.nd rfl (Or.inl rfl)) (pgs_cons (pg_name (i := 5) scRuleL.nd rfl (Or.inr rfl)) pgs_nil)))))
    (pss_cons (ps_for PassesOwn.never rfl (pi_range1 (by rfl) mRange (pa_cons (pe_dget (hu_of hr) (pv 1) (pv 3) (fun _ _ => rfl)) pa_nil)) (pg_name (i := 6) scRuleL.nd rfl (Or.inl rfl))
      (pss_cons (ps_set (i := 7) scRuleL.nd rfl (Or.inl rfl) (pe_call GT r1 rfl mT kT bT .nil pass0 (pa_cons (pv 0) (pa_cons pe_int pa_nil))))
      (pss_cons (ps_expr (pe_bm PySem.F.plainAttrs_list PySem.F.slot_list_append PySem.F.type_list_append mt_append (pv 4) (pa_cons (pe_ix ix_list (pe_lst (pa_cons (pe_tup (pa_cons pe_str pa_nil)) (pa_cons (pv 5) (pa_cons (pe_tup (pa_cons pe_str (pa_cons (pv 5) pa_nil))) (pa_cons (pe_tup (pa_cons pe_str (pa_cons (pv 5) pa_nil))) (pa_cons (pe_tup (pa_cons pe_str (pa_cons (pv 5) pa_nil)))
          (pa_cons (pe_tup (pa_cons pe_str (pa_cons (pv 5) (pa_cons (pe_op op_add (pv 5) pe_int) pa_nil)))) pa_nil))))))) (pv 7) (fun _ _ => rfl)) pa_nil)))
      (pss_one (ps_set (i := 5) scRuleL.nd rfl (Or.inr rfl) (pe_op op_add (pv 5) (pe_ix ix_list (pe_lst (pa_cons pe_int (pa_cons pe_int (pa_cons pe_int (pa_cons pe_int (pa_cons pe_int (pa_cons pe_int pa_nil))))))) (pv 7) (fun _ _ => rfl))))))))
    (pss_cons (ps_set (i := 8) scRuleL.nd rfl (Or.inl rfl) (pe_lst pa_nil))
    (pss_cons (ps_for PassesOwn.never rfl (pi_range1 (by rfl) mRange (pa_cons (pe_ifExp (pt_cmpR op_gt (pv 5) pe_int (nomark _)) (pe_ix ix_list (pe_lst (pa_cons pe_int (pa_cons pe_int (pa_cons pe_int (pa_cons pe_int (pa_cons pe_int (pa_cons pe_int pa_nil))))))) (pe_call GT r1 rfl mT kT bT .nil pass0 (pa_cons (pv 0) (pa_cons pe_int pa_nil))) (fun _ _ => rfl)) pe_int) pa_nil)) (pg_name (i := 6) scRuleL.nd rfl (Or.inl rfl))
      (pss_cons (ps_set (i := 9) scRuleL.nd rfl (Or.inl rfl) (pe_call GP hr rfl mP kP bP .nil pass0 (pa_cons (pv 0) (pa_cons (pv 2) pa_nil))))
      (pss_one (ps_expr (pe_bm PySem.F.plainAttrs_list PySem.F.slot_list_append PySem.F.type_list_append mt_append (pv 8) (pa_cons (pe_op op_catT (pe_tup (pa_cons (pv 9) pa_nil)) (pe_callTy call_tuple_of (by rfl) mTuple (by decide +kernel) (pa_cons
        (pe_lc (own := [("_law_part", 10)]) (g := gName 10) (tt := tYes) (te := teArgR) rfl scRuleL.nd (pi_range1 (by rfl) mRange (pa_cons (pe_dget (hu_of hr) (pv 1) (pv 9) (fun _ _ => rfl)) pa_nil)) (blkOk_by (N := NRl) (sc := defScope sRuleL) (by decide +kernel))
          (fun _ _ _ _ _ => pg_name (i := 10) scRuleL.nd rfl (Or.inl rfl)) (fun _ _ _ _ _ => pts_nil) (fun _ _ _ _ _ => pe_call GT r1 (by rfl) mT kT bT .nil pass0 (pa_cons (pv 0) (pa_cons (pv 5) pa_nil)))) pa_nil))) pa_nil))))))
    (pss_one (ps_ret (pe_tup (pa_cons (pe_op op_catT (pe_tup (pa_cons (pv 3) pa_nil)) (pe_callTy call_tuple_of (by rfl) mTuple (by decide +kernel) (pa_cons (pv 4) pa_nil))) (pa_cons (pe_callTy call_tuple_of (by rfl) mTuple (by decide +kernel) (pa_cons (pv 8) pa_nil)) pa_nil)))))))), ?_⟩
  have big : (10000 : Nat) ≤ sizeLine := by decide
  have w4 := W.four
  have w1 := W.one
  have pick : ∀ {H1 : Hp} {j1 : Nat}, BoxAt H1 b j1 → Wsh H1 b d p ws kvs → j1 + 1 ≤ 1000000 → True := fun _ _ _ => trivial
  refine ⟨_, rfl, _, rfl, b, p, _, j, rfl, B, by omega, W.hp, W.pb, by rw [List.length_map]; omega, by rw [List.length_map]; omega, fun v H1 hv B1 o1 => ?_⟩
  obtain ⟨x, hx, rfl⟩ := List.mem_map.mp hv
  have W1 := W.but B o1
  refine ⟨(by show 0 ≤ sizeLine; decide), fun l hl => ⟨(by show 3 ≤ sizeLine; decide), fun t ht => ?_⟩⟩
  have s2 := same_new hl (.lst ([] : List V))
  have s3 := same_new ht (.tup [V.str x, V.ref l, V.int 0])
  have lb : l ≠ b := ne_box B1 hl
  have hl0 : H l = none := but_none o1 B1 hl
  refine ⟨t, _, rfl, .inl (.inl upd_same), rfl, _, _, rfl, _, _, rfl, _, _, rfl, rfl, ?_⟩
  have o3 : But b H _ := o1.trans (but_of (s2.trans s3))
  have B3 := (B1.same s2).same s3
  have hl3 := s3 _ _ (upd_same : (upd H1 l (.lst ([] : List V))) l = _)
  generalize upd (upd H1 l (.lst ([] : List V))) t (.tup [V.str x, V.ref l, V.int 0]) = H3 at o3 B3 hl3 ⊢
  have W3 := W.but B o3
  obtain ⟨_, hval, mm, rfl, mm1, mm2⟩ := W3.sh x hx
  refine ⟨_, rfl, _, rfl, d, _, rfl, by rw [← hval]; exact DGet.k (k := Sum.inr x) W3.hd, _, rfl, by omega, by omega, for_range (lo := 0) (n := ((mm : Nat) : Int).toNat) (fun i σ H6 => ∃ (xs : List V) (fr : Nat) (x6 x7 : Option V), σ = [some (.ref b), some (.ref d), some (.ref p), some (.str x), some (.ref l), some (.int (fr : Nat)), x6, x7, none, none, none] ∧
      H6 l = some (.lst xs) ∧ xs.length = i ∧ fr ≤ 2 * i ∧ BoxAt H6 b (j + 1 + i) ∧ But b H H6)
    ⟨[], 0, none, none, rfl, hl3, rfl, by omega, B3, o3⟩ ?_ ?_⟩
  · rintro i σ H6 hi ⟨xs, fr, x6, x7, rfl, h6l, xl, fl, B6, o6⟩
    refine ⟨_, rfl, b, _, _, rfl, B6, by omega, by decide, by decide, fun way H7 y0 y6 B7 o7 => ?_⟩
    have h7l := o7 _ _ h6l lb
    obtain ⟨k, rfl⟩ := Int.eq_ofNat_of_zero_le y0
    have k6 : k < 6 := by omega
    refine ⟨_, rfl, .inl ⟨rfl, _, .inl (.inl h7l)⟩, (by show 1 ≤ sizeLine; decide), fun a1 ha1 => ⟨_, rfl, ⟨_, rfl, (by show 2 ≤ sizeLine; decide), fun a2 ha2 => ⟨_, rfl, (by show 2 ≤ sizeLine; decide), fun a3 ha3 => ⟨_, rfl, (by show 2 ≤ sizeLine; decide), fun a4 ha4 => ⟨_, rfl, _, rfl, _, _, rfl, rfl, (by show 3 ≤ sizeLine; decide), fun a5 ha5 => ⟨(by show 6 ≤ sizeLine; decide), fun a6 ha6 => ?_⟩⟩⟩⟩⟩⟩⟩
    have q1 := same_new ha1 (.tup [V.str "0"])
    have q2 := same_new ha2 (.tup [V.str "s", V.int (fr : Nat)])
    have q3 := same_new ha3 (.tup [V.str "s", V.int (fr : Nat)])
    have q4 := same_new ha4 (.tup [V.str "s", V.int (fr : Nat)])
    have q5 := same_new ha5 (.tup [V.str "f", V.int (fr : Nat), V.int ((fr : Nat) + 1)])
    have q6 := same_new ha6 (.lst [V.ref a1, V.int (fr : Nat), V.ref a2, V.ref a3, V.ref a4, V.ref a5])
    have sA := q1.trans (q2.trans (q3.trans (q4.trans (q5.trans q6))))
    obtain ⟨y, hy⟩ : ∃ y, [V.ref a1, V.int (fr : Nat), V.ref a2, V.ref a3, V.ref a4, V.ref a5][k]? = some y := ⟨_, List.getElem?_eq_getElem (by simpa using k6)⟩
    obtain ⟨H8, e8, sA⟩ := Same.gen sA
    have e6 : H8 a6 = some (.lst [V.ref a1, V.int (fr : Nat), V.ref a2, V.ref a3, V.ref a4, V.ref a5]) := by rw [← e8]; exact upd_same
    have h8l := sA _ _ h7l
    have B8 := B7.same sA
    refine ⟨_, rfl, a6, _, _, y, rfl, rfl, .inl (.inl upd_same), at_of (j := k) rfl hy, ?_⟩
    rw [e8]
    refine ⟨l, _, _, rfl, rfl, h8l, by omega, ?_⟩
    have o8 := but_new hl0 (o6.trans o7) (o := .lst (xs ++ [y])) fun z u hz nb => sA _ _ hz
    have B9 := B8.upd lb (.lst (xs ++ [y]))
    have h9l : (upd H8 l (.lst (xs ++ [y]))) l = some (.lst (xs ++ [y])) := upd_same
    generalize upd H8 l (.lst (xs ++ [y])) = H9 at o8 B9 h9l ⊢
    refine ⟨_, rfl, (by show 6 ≤ sizeLine; decide), fun a7 ha7 => ?_⟩
    have q7 := same_new ha7 (.lst [V.int 0, V.int 1, V.int 1, V.int 1, V.int 1, V.int 2])
    obtain ⟨z, hz, z2⟩ : ∃ z : Nat, [V.int 0, V.int 1, V.int 1, V.int 1, V.int 1, V.int 2][k]? = some (.int (z : Nat)) ∧ z ≤ 2 := by
      match k, k6 with
      | 0, _ => exact ⟨0, rfl, by omega⟩
      | 1, _ => exact ⟨1, rfl, by omega⟩
      | 2, _ => exact ⟨1, rfl, by omega⟩
      | 3, _ => exact ⟨1, rfl, by omega⟩
      | 4, _ => exact ⟨1, rfl, by omega⟩
      | 5, _ => exact ⟨2, rfl, by omega⟩
    refine ⟨_, rfl, a7, _, _, _, rfl, rfl, .inl (.inl upd_same), at_of (j := k) rfl hz, _, _, rfl, rfl, ?_⟩
    exact ⟨xs ++ [y], fr + z, _, _, rfl, q7 _ _ h9l, by simp [xl], by omega, (B9.same q7).more (by omega), o8.trans (but_of q7)⟩
  · rintro σ H6 ⟨xs, fr, x6, x7, rfl, h6l, xl, fl, B6, o6⟩
    have xl2 : xs.length ≤ 2 := by omega
    refine ⟨(by show 0 ≤ sizeLine; decide), fun l2 hl2 => ?_⟩
    have s7 := same_new hl2 (.lst ([] : List V))
    have l2b : l2 ≠ b := ne_box B6 hl2
    have hl20 : H l2 = none := but_none o6 B6 hl2
    have ll : l ≠ l2 := ne_of_none h6l hl2
    have h7l := s7 _ _ h6l
    have B7 := (B6.same s7).more (k := j + 4) (by omega)
    have o7 := o6.trans (but_of s7)
    have h7 : (upd H6 l2 (.lst ([] : List V))) l2 = some (.lst []) := upd_same
    generalize upd H6 l2 (.lst ([] : List V)) = H7 at h7l B7 o7 h7 ⊢
    refine cnt_ok (H := H7) rfl rfl B7 (by omega) fun n H8 n3 nf B8 o8' => ?_
    have h8l := o8' _ _ h7l lb
    have h82 := o8' _ _ h7 l2b
    have o8 := o7.trans o8'
    refine ⟨_, rfl, by omega, by omega, for_range (lo := 0) (n := ((n : Nat) : Int).toNat) (fun i σ H9 => ∃ (ys : List V) (x6 x9 : Option V), σ = [some (.ref b), some (.ref d), some (.ref p), some (.str x), some (.ref l), some (.int (fr : Nat)), x6, x7, some (.ref l2), x9, none] ∧
      H9 l2 = some (.lst ys) ∧ ys.length = i ∧ H9 l = some (.lst xs) ∧ BoxAt H9 b (j + 5 + 5 * i) ∧ But b H H9)
      ⟨[], _, none, rfl, h82, rfl, h8l, B8, o8⟩ ?_ ?_⟩
    · rintro i σ H9 hi ⟨ys, x6', x9, rfl, h9, yl, h9l, B9, o9⟩
      have fp : 0 < fr := nf (by omega)
      have W9 := W.but B o9
      refine ⟨_, rfl, _, rfl, b, p, _, _, rfl, B9, by omega, W9.hp, W.pb, by rw [List.length_map]; omega, by rw [List.length_map]; omega, fun v H10 hv B10 o10 => ?_⟩
      obtain ⟨x2, hx2, rfl⟩ := List.mem_map.mp hv
      have h10 := o10 _ _ h9 l2b
      refine ⟨_, rfl, .inl ⟨rfl, _, .inl (.inl h10)⟩, _, rfl, (by show 1 ≤ sizeLine; decide), fun t1 ht1 => ?_⟩
      have s11 := same_new ht1 (.tup [V.str x2])
      have t1b : t1 ≠ b := ne_box B10 ht1
      have et1 : (upd H10 t1 (.tup [V.str x2])) t1 = some (.tup [V.str x2]) := upd_same
      have B11 := B10.same s11
      have o11 := (o9.trans o10).trans (but_of s11)
      have h11 := s11 _ _ h10
      have h11l := s11 _ _ (o10 _ _ h9l lb)
      generalize upd H10 t1 (.tup [V.str x2]) = H11 at et1 B11 o11 h11 h11l ⊢
      have W11 := W.but B o11
      obtain ⟨_, hval2, m2, rfl, m21, m22⟩ := W11.sh x2 hx2
      refine ⟨_, rfl, _, rfl, d, _, rfl, by rw [← hval2]; exact DGet.k (k := Sum.inr x2) W11.hd, _, rfl, by omega, by omega, fun D hD => lc_range (lo := 0) (fun r H12 => ∃ zs : List V, H12 D = some (.lst zs) ∧ zs.length = r ∧ BoxAt H12 b (j + 5 + 5 * i + 1 + r) ∧ But b H11 H12)
        ⟨[], upd_same, rfl, (B11.same (same_new hD _)).more (by omega), but_of (same_new hD _)⟩ ?_ ?_⟩
      · rintro r H12 hr' ⟨zs, h12, zl, B12, o12⟩
        have Db : D ≠ b := ne_box B11 hD
        refine ⟨rfl, ?_⟩
        unfold teArgR
        refine ⟨_, rfl, _, rfl, b, _, _, rfl, B12, by omega, by omega, by omega, fun z H13 z0 z1 B13 o13 => ?_⟩
        exact ⟨zs, o13 _ _ h12 Db, by omega, zs ++ [.int z], upd_same, by simp [zl], (B13.upd Db _).more (by omega), but_new hD o12 o13⟩
      · rintro H12 ⟨zs, h12, zl, B12, o12⟩
        have zl2 : zs.length ≤ 2 := by omega
        refine ⟨D, zs, rfl, .inl ⟨.inl (.inl h12), fun g hg => ?_⟩⟩
        have s13 := same_new hg (.tup zs)
        have fin2 : ∀ (v : V) (H14 : Hp), Same H12 H14 → ∃ l0 xs0 y0, V.ref l2 = V.ref l0 ∧ [v] = [y0] ∧ H14 l0 = some (.lst xs0) ∧ xs0.length < sizeLine ∧
            (∃ (ys : List V) (x6 x9 : Option V), ([some (.ref b), some (.ref d), some (.ref p), some (.str x), some (.ref l), some (.int (fr : Nat)), some (.int (0 + (i : Int))), x7, some (.ref l2), some (.str x2), none] : L2.St) = [some (.ref b), some (.ref d), some (.ref p), some (.str x), some (.ref l), some (.int (fr : Nat)), x6, x7, some (.ref l2), x9, none] ∧
              (upd H14 l0 (.lst (xs0 ++ [y0]))) l2 = some (.lst ys) ∧ ys.length = i + 1 ∧ (upd H14 l0 (.lst (xs0 ++ [y0]))) l = some (.lst xs) ∧ BoxAt (upd H14 l0 (.lst (xs0 ++ [y0]))) b (j + 5 + 5 * (i + 1)) ∧ But b H (upd H14 l0 (.lst (xs0 ++ [y0])))) := by
          intro v H14 s14
          have h14 := s14 _ _ (o12 _ _ h11 l2b)
          refine ⟨l2, ys, v, rfl, rfl, h14, by omega, ys ++ [v], _, _, rfl, upd_same, by simp [yl], ?_, ((B12.same s14).upd l2b _).more (by omega), but_new hl20 (o11.trans o12) fun z u hz _ => s14 _ _ hz⟩
          rw [upd_ne ll]
          exact s14 _ _ (o12 _ _ h11l lb)
        refine ⟨t1, g, [V.str x2], zs, rfl, rfl, .inl (.inl (s13 _ _ (o12 _ _ et1 t1b))), .inl (.inl upd_same), by simp, by simp; omega, fun _ => fin2 _ _ s13, fun _ t2 ht2 => fin2 _ _ (s13.trans (same_new ht2 _))⟩
    · rintro σ H9 ⟨ys, x6', x9, rfl, h9, yl, h9l, B9, o9⟩
      have yl3 : ys.length ≤ 3 := by omega
      refine ⟨_, rfl, (by show 1 ≤ sizeLine; decide), fun t1 ht1 => ?_⟩
      have s10 := same_new ht1 (.tup [V.str x])
      refine ⟨_, rfl, l, xs, rfl, .inl ⟨.inl (.inl (s10 _ _ h9l)), fun g hg => ?_⟩⟩
      have s11 := same_new hg (.tup xs)
      have fin3 : ∀ (H14 : Hp), Same H9 H14 → ∀ v : V, ∃ v0, ([some (.ref b), some (.ref d), some (.ref p), some (.str x), some (.ref l), some (.int (fr : Nat)), x6', x7, some (.ref l2), x9, none] : L2.St)[8]? = some (some v0) ∧ ∃ p0 ys0, [v0] = [V.ref p0] ∧
          ((SqL K H14 p0 ys0 ∧ ∀ l0, H14 l0 = none → 2 ≤ sizeLine ∧ ∀ c, (upd H14 l0 (.tup ys0)) c = none → Q (.ref c) (upd (upd H14 l0 (.tup ys0)) c (.tup [v, .ref l0]))) ∨ (SqT K H14 p0 ys0 ∧ 2 ≤ sizeLine ∧ ∀ c, H14 c = none → Q (.ref c) (upd H14 c (.tup [v, .ref p0])))) := by
        intro H14 s14 v
        refine ⟨_, rfl, l2, ys, rfl, .inl ⟨.inl (.inl (s14 _ _ h9)), fun l0 hl0 => ⟨by decide, fun c hc => ?_⟩⟩⟩
        have s15 := same_new hl0 (.tup ys)
        have s16 := same_new hc (.tup [v, .ref l0])
        have sB := s14.trans (s15.trans s16)
        exact q _ _ ((B9.same sB).more (by omega)) (o9.trans (but_of sB))
      exact ⟨t1, g, [V.str x], xs, rfl, rfl, .inl (.inl (s11 _ _ upd_same)), .inl (.inl upd_same), by simp, by simp; omega, fun _ => fin3 _ (s10.trans s11) _, fun _ t2 ht2 => fin3 _ (s10.trans (s11.trans (same_new ht2 _))) _⟩
end
end Rp

set_option maxHeartbeats 16000000
namespace Rp
open PySem PySem.Spec PyProof.Rows L2 TL StX
def spBaseL : Sp := fun vs H Q _ => ∃ (d : Addr) (kvs : KVs) (x : Str) (m : Nat), vs = [.ref d, .str x] ∧ H d = some (.dK kvs) ∧ valV kvs (.inr x) = some (.int (m : Nat)) ∧ 1 ≤ m ∧ m ≤ 2 ∧ ∀ (v : V) (H' : Hp), Same H H' → Q v H'
def spRulesL : Sp := fun vs H Q _ => ∃ (b d p : Addr) (ws : List Str) (kvs : KVs) (j n : Nat), vs = [.ref b, .ref d, .ref p, .int (n : Nat)] ∧ 1 ≤ n ∧ n ≤ 8 ∧ BoxAt H b j ∧ Wsh H b d p ws kvs ∧ j + 250 ≤ 1000000 ∧
  ∀ (v : V) (H' : Hp), BoxAt H' b (j + 250) → But b H H' → Q v H'
def spBegin : Sp := fun vs H Q _ => ∃ (b : Addr) (j n : Nat), vs = [.ref b, .int (n : Nat)] ∧ 1 ≤ n ∧ n ≤ 8 ∧ BoxAt H b j ∧ j + 270 ≤ 1000000 ∧
  ∀ (t d p : Addr) (r : V) (ws : List Str) (kvs : KVs) (H' : Hp), H' t = some (.tup [.ref p, .ref d, r]) → Wsh H' b d p ws kvs → (∀ x ∈ ws, NameOk x) → BoxAt H' b (j + 270) → But b H H' → Q (.ref t) H'
def teBaseL : TE := tCall spBaseL [] E0 (tCons (tVar 1) (tCons (tVar 6) tNil))
def ttBaseL : TT := tTest (tOp (rI0 fun i j => .bl (decide (j < i))) (tCall spTake [] E0 (tCons (tVar 0) (tCons (tC (.int 3)) tNil))) (tC (.int 0)))
theorem Wsh.same {H H' : Hp} {b d p : Addr} {ws : List Str} {kvs : KVs} (W : Wsh H b d p ws kvs) (o : Same H H') : Wsh H' b d p ws kvs := ⟨o _ _ W.hd, W.sh, o _ _ W.hp, W.pb, W.one, W.four⟩
section
variable {P : Program} {w : World} {K : PySem.W.Frag} {mg : Str → Option Value} {base : Heap}
theorem scBaseL : FnScope ["_law_shapes_here", "_law_word"] ["_law_shapes_here", "_law_word"] (defScope sBaseL) := ⟨rfl, rfl, rfl, by decide +kernel, rfl, by decide +kernel, by decide +kernel⟩
theorem ok_basel {f : Addr} {fd : FuncData} (F : Fun K "_law_base" "_law_base" sBaseL f fd) : FnOk P w K mg base CX0 1 f fd ["_law_shapes_here", "_law_word"] spBaseL := by
  refine F.ok scBaseL (fun vs H Q E h => ?_) (fun cdv A outer s H vs Q E hr h => ?_)
  · obtain ⟨d, kvs, x, m, rfl, _⟩ := h
    rfl
  obtain ⟨d, kvs, x, m, rfl, hd, hv, m1, m2, q⟩ := h
  refine ⟨_, pss_one (ps_ret (pe_tup (pa_cons (pe_op op_catT (pe_tup (pa_cons (pv 1) pa_nil)) (pe_op op_repO (pe_tup (pa_cons (pe_tup (pa_cons pe_str pa_nil)) pa_nil)) (pe_dget (hu_of hr) (pv 0) (pv 1) (fun _ _ => rfl)))) (pa_cons (pe_tup pa_nil) pa_nil)))), ?_⟩
  have big : (10 : Nat) ≤ sizeLine := by decide
  refine ⟨_, rfl, (by show 1 ≤ sizeLine; decide), fun t1 h1 => ?_⟩
  have s1 := same_new h1 (.tup [V.str x])
  refine ⟨(by show 1 ≤ sizeLine; decide), fun t2 h2 => ⟨(by show 1 ≤ sizeLine; decide), fun t3 h3 => ?_⟩⟩
  have s2 := same_new h2 (.tup [V.str "0"])
  have s3 := same_new h3 (.tup [V.ref t2])
  have sA := s1.trans (s2.trans s3)
  refine ⟨_, rfl, _, rfl, d, _, rfl, by rw [← hv]; exact DGet.k (k := Sum.inr x) (sA _ _ hd), t3, _, _, rfl, rfl, .inl (.inl upd_same), by simp, by omega, by omega, by simp, fun _ => ?_, fun _ t4 h4 => ?_⟩
  · refine ⟨t1, t3, _, _, rfl, rfl, .inl (.inl (s3 _ _ (s2 _ _ upd_same))), .inl (.inl upd_same), by simp, by rw [List.length_singleton, List.length_singleton]; omega, fun e => by simp at e, fun _ t5 h5 => ⟨(by show 0 ≤ sizeLine; decide), fun t6 h6 => ⟨(by show 2 ≤ sizeLine; decide), fun t7 h7 => ?_⟩⟩⟩
    exact q _ _ (sA.trans ((same_new h5 _).trans ((same_new h6 _).trans (same_new h7 _))))
  · have s4 := same_new h4 (.tup (List.replicate (m : Int).toNat [V.ref t2]).flatten)
    have ln : (List.replicate (m : Int).toNat [V.ref t2]).flatten.length = m := by simp
    refine ⟨t1, t4, _, _, rfl, rfl, .inl (.inl (s4 _ _ (s3 _ _ (s2 _ _ upd_same)))), .inl (.inl upd_same), by simp, by rw [ln, List.length_singleton]; omega, fun e => by rw [e] at ln; simp at ln; omega, fun _ t5 h5 => ⟨(by show 0 ≤ sizeLine; decide), fun t6 h6 => ⟨(by show 2 ≤ sizeLine; decide), fun t7 h7 => ?_⟩⟩⟩
    exact q _ _ (sA.trans (s4.trans ((same_new h5 _).trans ((same_new h6 _).trans (same_new h7 _)))))
abbrev NRs : List Str := ["_law_box_here", "_law_shapes_here", "_law_names_here", "_law_count", "_law_found", "_law_turn", "_law_word"]
theorem scRulesL : FnScope NRs ["_law_box_here", "_law_shapes_here", "_law_names_here", "_law_count"] (defScope sRulesL) := ⟨rfl, rfl, rfl, by decide +kernel, rfl, by decide +kernel, by decide +kernel⟩
theorem ok_rulesl {f fT fB fR : Addr} {fd fdT dB dR : FuncData} (F : Fun K "_law_rules" "_law_rules" sRulesL f fd)
    (GT : FnOk P w K mg base CX0 1 fT fdT ["_law_box_here", "_law_reach"] spTake) (kT : PySem.W.keepIn K (.ref fT) = true) (bT : Binds K fdT ["_law_box_here", "_law_reach"] []) (mT : mg "_law_take" = some (.ref fT))
    (GB : FnOk P w K mg base CX0 1 fB dB ["_law_shapes_here", "_law_word"] spBaseL) (kB : PySem.W.keepIn K (.ref fB) = true) (bB : Binds K dB ["_law_shapes_here", "_law_word"] []) (mB : mg "_law_base" = some (.ref fB))
    (GR : FnOk P w K mg base CX0 3 fR dR ["_law_box_here", "_law_shapes_here", "_law_names_here"] spRuleL) (kR : PySem.W.keepIn K (.ref fR) = true) (bR : Binds K dR ["_law_box_here", "_law_shapes_here", "_law_names_here"] []) (mR : mg "_law_rule" = some (.ref fR))
    (mRange : mg "range" = none) : FnOk P w K mg base CX0 4 f fd ["_law_box_here", "_law_shapes_here", "_law_names_here", "_law_count"] spRulesL := by
  refine F.ok scRulesL (fun vs H Q E h => ?_) (fun cdv A outer s H vs Q E hr h => ?_)
  · obtain ⟨b, d, p, ws, kvs, j, n, rfl, _⟩ := h
    rfl
  obtain ⟨b, d, p, ws, kvs, j, n, rfl, n1, n8, B, W, hj, q⟩ := h
  have r1 : Room 1 _ := hr.mono (by decide)
  refine ⟨_, pss_cons (ps_setLc (i := 4) (own := [("_law_word", 6)]) (g := gName 6) (tt := ttBaseL) (te := teBaseL) rfl scRulesL.nd rfl rfl (by rfl) (pi_list (pv 2))
        (blkOk_by (N := NRs) (sc := defScope sRulesL) (by decide +kernel)) (fun _ _ _ _ _ => pg_name (i := 6) scRulesL.nd rfl (Or.inl rfl)) (fun _ _ _ _ _ => pts_one (pt_cmpR op_gt (pe_call GT r1 (by rfl) mT kT bT .nil pass0 (pa_cons (pv 0) (pa_cons pe_int pa_nil))) pe_int (nomark _)))
        (fun _ _ _ _ _ => pe_call GB r1 (by rfl) mB kB bB .nil pass0 (pa_cons (pv 1) (pa_cons (pv 6) pa_nil))))
    (pss_cons (ps_for PassesOwn.never rfl (pi_range1 (by rfl) mRange (pa_cons (pe_op op_add pe_int (pe_call GT r1 rfl mT kT bT .nil pass0 (pa_cons (pv 0) (pa_cons (pv 3) pa_nil)))) pa_nil)) (pg_name (i := 5) scRulesL.nd rfl (Or.inl rfl))
      (pss_one (ps_expr (pe_bm PySem.F.plainAttrs_list PySem.F.slot_list_append PySem.F.type_list_append mt_append (pv 4) (pa_cons (pe_call GR hr rfl mR kR bR .nil pass0 (pa_cons (pv 0) (pa_cons (pv 1) (pa_cons (pv 2) pa_nil)))) pa_nil)))))
    (pss_one (ps_ret (pe_slice sl_list (pv 4) po_none (po_some (pv 3)))))), ?_⟩
  have big : (10000 : Nat) ≤ sizeLine := by decide
  have w4 := W.four
  refine ⟨_, rfl, p, rfl, ⟨_, .inl (.inl W.hp)⟩, fun D hD => lc_list (K := K) (a := p) (xs := ws.map V.str) (fun i H2 => ∃ xs : List V, H2 D = some (.lst xs) ∧ xs.length ≤ i ∧ BoxAt H2 b (j + i) ∧ But b H H2)
    ⟨[], upd_same, Nat.le_refl _, (B.same (same_new hD _)).more (by omega), but_of (same_new hD _)⟩ (fun i H2 _ ⟨_, _, _, _, o⟩ => .inl (.inl (o _ _ W.hp W.pb))) ?_ ?_⟩
  · rintro i x H2 hi ⟨xs, h2, xl, B2, o2⟩
    have Db : D ≠ b := ne_box B hD
    have i4 : i < ws.length := by
      have := (List.getElem?_eq_some_iff.mp hi).1
      rw [List.length_map] at this
      exact this
    obtain ⟨y, hy, rfl⟩ := List.mem_map.mp (List.mem_of_getElem? hi)
    refine ⟨rfl, ?_⟩
    unfold ttBaseL teBaseL
    refine ⟨_, rfl, b, _, _, rfl, B2, by omega, by decide, by decide, fun r H3 c0 c1 B3 o3 => ?_⟩
    refine ⟨_, _, rfl, rfl, decide ((0 : Int) < r), rfl, ?_⟩
    have h3 := o3 _ _ h2 Db
    have o23 := o2.trans o3
    by_cases hr0 : (0 : Int) < r
    · rw [decide_eq_true hr0]
      have W3 := W.but B o23
      obtain ⟨_, hval, m, rfl, m1, m2⟩ := W3.sh y hy
      refine iteT ⟨_, rfl, _, rfl, d, kvs, y, m, rfl, W3.hd, hval, m1, m2, fun v H4 s4 => ?_⟩
      exact ⟨xs, s4 _ _ h3, by omega, xs ++ [v], upd_same, by simp; omega, ((B3.same s4).upd Db _).more (by omega), but_new hD o2 fun z u hz nb => s4 _ _ (o3 _ _ hz nb)⟩
    · rw [decide_eq_false hr0]
      exact iteF ⟨xs, h3, by omega, B3.more (by omega), o23⟩
  · rintro H2 ⟨xs, h2, xl, B2, o2⟩
    rw [List.length_map] at xl B2
    have Db : D ≠ b := ne_box B hD
    refine ⟨_, rfl, _, rfl, b, _, _, rfl, B2, by omega, by omega, by omega, fun r H3 c0 c1 B3 o3 => ?_⟩
    obtain ⟨k, rfl⟩ := Int.eq_ofNat_of_zero_le c0
    refine ⟨_, _, rfl, rfl, _, rfl, by omega, by omega, for_range (lo := 0) (n := ((1 : Int) + (k : Nat)).toNat) (fun i σ H6 => ∃ (ys : List V) (x5 x6 : Option V), σ = [some (.ref b), some (.ref d), some (.ref p), some (.int (n : Nat)), some (.ref D), x5, x6] ∧
      H6 D = some (.lst ys) ∧ ys.length = xs.length + i ∧ BoxAt H6 b (j + 5 + 30 * i) ∧ But b H H6)
      ⟨xs, _, _, rfl, o3 _ _ h2 Db, rfl, B3.more (by omega), o2.trans o3⟩ ?_ ?_⟩
    · rintro i σ H6 hi ⟨ys, x5, x6, rfl, h6, yl, B6, o6⟩
      have W6 := W.but B o6
      refine ⟨_, rfl, .inl ⟨rfl, _, .inl (.inl h6)⟩, _, rfl, _, rfl, _, rfl, b, d, p, ws, kvs, _, rfl, B6, W6, by omega, fun v H7 B7 o7 => ?_⟩
      have h7 := o7 _ _ h6 Db
      exact ⟨D, ys, v, rfl, rfl, h7, by omega, ys ++ [v], _, _, rfl, upd_same, by simp [yl]; omega, (B7.upd Db _).more (by omega), but_new hD o6 o7⟩
    · rintro σ H6 ⟨ys, x5, x6, rfl, h6, yl, B6, o6⟩
      refine ⟨_, rfl, _, rfl, (n : Int), rfl, D, ys, rfl, .inl (.inl h6), fun g hg => ?_⟩
      have s7 := same_new hg (.lst (cutV ys none (some (n : Int))))
      exact q _ _ ((B6.same s7).more (by omega)) (o6.trans (but_of s7))
theorem scBegin : FnScope ["_law_box_here", "_law_count", "_law_words", "_law_shapes_here"] ["_law_box_here", "_law_count"] (defScope sBegin) := ⟨rfl, rfl, rfl, by decide +kernel, rfl, by decide +kernel, by decide +kernel⟩
theorem ok_begin {f fT fN fS fR : Addr} {fd fdT dN dS dR : FuncData} (F : Fun K "_law_begin" "_law_begin" sBegin f fd)
    (GT : FnOk P w K mg base CX0 1 fT fdT ["_law_box_here", "_law_reach"] spTake) (kT : PySem.W.keepIn K (.ref fT) = true) (bT : Binds K fdT ["_law_box_here", "_law_reach"] []) (mT : mg "_law_take" = some (.ref fT))
    (GN : FnOk P w K mg base CX0 2 fN dN ["_law_box_here", "_law_count"] spWords) (kN : PySem.W.keepIn K (.ref fN) = true) (bN : Binds K dN ["_law_box_here", "_law_count"] []) (mN : mg "_law_names" = some (.ref fN))
    (GS : FnOk P w K mg base CX0 2 fS dS ["_law_box_here", "_law_names_here"] spShapes) (kS : PySem.W.keepIn K (.ref fS) = true) (bS : Binds K dS ["_law_box_here", "_law_names_here"] []) (mS : mg "_law_shapes" = some (.ref fS))
    (GR : FnOk P w K mg base CX0 4 fR dR ["_law_box_here", "_law_shapes_here", "_law_names_here", "_law_count"] spRulesL) (kR : PySem.W.keepIn K (.ref fR) = true) (bR : Binds K dR ["_law_box_here", "_law_shapes_here", "_law_names_here", "_law_count"] []) (mR : mg "_law_rules" = some (.ref fR)) : FnOk P w K mg base CX0 5 f fd ["_law_box_here", "_law_count"] spBegin := by
  refine F.ok scBegin (fun vs H Q E h => ?_) (fun cdv A outer s H vs Q E hr h => ?_)
  · obtain ⟨b, j, n, rfl, _⟩ := h
    rfl
  obtain ⟨b, j, n, rfl, n1, n8, B, hj, q⟩ := h
  have r1 : Room 1 _ := hr.mono (by decide)
  have r2 : Room 2 _ := hr.mono (by decide)
  refine ⟨_, pss_cons (ps_set (i := 2) scBegin.nd rfl (Or.inl rfl) (pe_call GN r2 rfl mN kN bN .nil pass0 (pa_cons (pv 0) (pa_cons (pe_op op_add pe_int (pe_call GT r1 rfl mT kT bT .nil pass0 (pa_cons (pv 0) (pa_cons pe_int pa_nil)))) pa_nil))))
    (pss_cons (ps_set (i := 3) scBegin.nd rfl (Or.inl rfl) (pe_call GS r2 rfl mS kS bS .nil pass0 (pa_cons (pv 0) (pa_cons (pv 2) pa_nil))))
    (pss_one (ps_ret (pe_tup (pa_cons (pv 2) (pa_cons (pv 3) (pa_cons (pe_call GR hr rfl mR kR bR .nil pass0 (pa_cons (pv 0) (pa_cons (pv 3) (pa_cons (pv 2) (pa_cons (pv 1) pa_nil))))) pa_nil))))))), ?_⟩
  refine ⟨_, rfl, _, rfl, b, _, _, rfl, B, by omega, by decide, by decide, fun r H1 c0 c1 B1 o1 => ?_⟩
  obtain ⟨k, rfl⟩ := Int.eq_ofNat_of_zero_le c0
  refine ⟨_, _, rfl, rfl, b, _, 1 + k, rfl, by omega, by omega, B1, by omega, fun p ws H2 hp0 hp wl wo wn B2 o2 => ?_⟩
  have pb : p ≠ b := ne_box B1 hp0
  refine ⟨_, rfl, _, rfl, b, p, ws, _, rfl, B2, hp, pb, by omega, by omega, fun d kvs H3 hd0 hd sh B3 o3 => ?_⟩
  have W3 : Wsh H3 b d p ws kvs := ⟨hd, sh, o3 _ _ hp pb, pb, by omega, by omega⟩
  refine ⟨_, rfl, _, rfl, _, rfl, _, rfl, _, rfl, _, rfl, b, d, p, ws, kvs, _, n, rfl, n1, n8, B3, W3, by omega, fun v H4 B4 o4 => ⟨(by show 3 ≤ sizeLine; decide), fun t ht => ?_⟩⟩
  have s5 := same_new ht (.tup [V.ref p, V.ref d, v])
  exact q t d p v ws kvs _ upd_same ((W3.but B3 o4).same s5) wo ((B4.same s5).more (by omega)) (o1.trans (o2.trans (o3.trans (o4.trans (but_of s5)))))
end
end Rp

set_option maxHeartbeats 8000000
/-! ATOMs, SAYINGs, BINDINGs as data: how large; what is shown of data. -/
namespace Rp
open PySem PySem.Spec PyProof.Rows L2 TL RZ StX
theorem dat_tup {H : Hp} {b c : Addr} {xs : List V} {ds : List PyData} (h : H c = some (.tup xs)) (A : DAtAll H b xs ds) : DAt H b (.ref c) (.tuple ds) := by unfold DAt; exact ⟨c, xs, rfl, .inl h, A⟩
theorem dat_str {H : Hp} {b : Addr} {x : Str} : DAt H b (.str x) (.str x) := by unfold DAt; rfl
theorem dat_int {H : Hp} {b : Addr} {n : Int} : DAt H b (.int n) (.int n) := by unfold DAt; rfl
theorem AllAt.dat {H : Hp} {b : Addr} : ∀ {xs : List V} {ts : List Tm}, AllAt H xs ts → DAtAll H b xs (ts.map tmD)
  | [], [], _ => .nil
  | _ :: _, _ :: _, h => .cons h.1.dat (AllAt.dat h.2)
theorem AtAt.dat {H : Hp} {b : Addr} {v : V} {a : At} (h : AtAt H v a) : DAt H b v (atD a) := by
  obtain ⟨p, xs, rfl, hp, A⟩ := h
  exact dat_tup hp (.cons dat_str A.dat)
theorem AtsAt.dat {H : Hp} {b : Addr} : ∀ {xs : List V} {as : List At}, AtsAt H xs as → DAtAll H b xs (as.map atD)
  | [], [], _ => .nil
  | _ :: _, _ :: _, h => .cons h.1.dat (AtsAt.dat h.2)
def syD (s : Sy) : PyData := .tuple [.tuple (s.hs.map atD), atD s.gl]
theorem SyAt.dat {H : Hp} {b : Addr} {v : V} {s : Sy} (h : SyAt H v s) : DAt H b v (syD s) := by
  obtain ⟨p, q, vg, xs, rfl, hp, hq, A, G⟩ := h
  exact dat_tup hp (.cons (dat_tup hq A.dat) (.cons G.dat .nil))
/-! how large -/
theorem low_asc {x : Str} {L : Nat} (h : NameOk x) (hL : 6 ≤ L) : Asc L x := ⟨Nat.le_trans h.few hL, fun c hc => by have := h.low c hc; omega⟩
theorem fq_tm {L : Nat} (hL : 1 ≤ L) : ∀ {t : Tm}, t.small → Fq (t.deep + 1) 6 L (tmD t)
  | .v n, h => (fq_int (k := 0) (by have := h n (by simp [Tm.nums]); omega)).more (by omega) (Nat.le_refl _) (Nat.le_refl _)
  | .z, _ => fq_tup.mpr ⟨by simp, fun d hd => by
      obtain rfl : d = .str "0" := by simpa using hd
      exact Asc.fq ((asc_of (L := 1) (by decide +kernel)).more hL)⟩
  | .s t, h => fq_tup.mpr ⟨by simp, fun d hd => by
      simp only [List.mem_cons, List.not_mem_nil, or_false] at hd
      rcases hd with rfl | rfl
      · exact Asc.fq ((asc_of (L := 1) (by decide +kernel)).more hL)
      · exact fq_tm hL (t := t) fun n hn => h n hn⟩
  | .f l r, h => fq_tup.mpr ⟨by simp, fun d hd => by
      simp only [List.mem_cons, List.not_mem_nil, or_false] at hd
      rcases hd with rfl | rfl | rfl
      · exact Asc.fq ((asc_of (L := 1) (by decide +kernel)).more hL)
      · exact (fq_tm hL (t := l) fun n hn => h n (by simp [Tm.nums, hn])).more (by simp only [Tm.deep]; omega) (Nat.le_refl _) (Nat.le_refl _)
      · exact (fq_tm hL (t := r) fun n hn => h n (by simp [Tm.nums, hn])).more (by simp only [Tm.deep]; omega) (Nat.le_refl _) (Nat.le_refl _)⟩
theorem fq_tm7 {t : Tm} (h : t.small) (z : t.size ≤ 7) : Fq 7 6 7 (tmD t) ∧ nd (tmD t) ≤ 14 := by
  have dl := Tm.deep_lt t
  have n := (tm_ok t).2.2
  exact ⟨(fq_tm (by decide) h).more (by omega) (Nat.le_refl _) (Nat.le_refl _), by omega⟩
theorem ndAll_le_mul {n : Nat} : ∀ {ds : List PyData}, (∀ d ∈ ds, nd d ≤ n) → ndAll ds ≤ n * ds.length
  | [], _ => by simp [ndAll]
  | d :: ds, h => by
    have h1 := h d (by simp)
    have h2 := ndAll_le_mul (ds := ds) fun e he => h e (by simp [he])
    simp only [ndAll, List.length_cons, Nat.mul_add]
    omega
theorem fq_at7 {a : At} (ok : AtOk 7 a) : Fq 8 6 7 (atD a) ∧ nd (atD a) ≤ 30 ∧ IsAm (atD a) := by
  have o1 := ok.one
  have o2 := ok.two
  refine ⟨fq_tup.mpr ⟨by simp; omega, fun d hd => ?_⟩, ?_, isAm_at.mpr ⟨a, rfl, ⟨ok.nm, ok.one, ok.two, fun t ht => (ok.sm t ht).1⟩⟩⟩
  · rcases List.mem_cons.mp hd with rfl | hd
    · exact (Asc.fq (k := 0) (low_asc ok.nm (by decide))).more (by omega) (Nat.le_refl _) (Nat.le_refl _)
    · obtain ⟨t, ht, rfl⟩ := List.mem_map.mp hd
      exact (fq_tm7 (ok.sm t ht).1 (ok.sm t ht).2).1
  · have z := ndAll_le_mul (n := 14) (ds := a.ts.map tmD) fun d hd => by
      obtain ⟨t, ht, rfl⟩ := List.mem_map.mp hd
      exact (fq_tm7 (ok.sm t ht).1 (ok.sm t ht).2).2
    rw [List.length_map] at z
    have y : 14 * a.ts.length ≤ 28 := by omega
    show nd (.tuple (.str a.nm :: a.ts.map tmD)) ≤ 30
    simp only [nd, ndAll]
    omega
theorem fq_sy {s : Sy} (ok : SyOk s) (h7 : ∀ a ∈ s.hs, AtOk 7 a) (g7 : AtOk 7 s.gl) : Fq 10 6 7 (syD s) ∧ nd (syD s) ≤ 212 ∧ IsSy (syD s) := by
  have h6 := ok.hs.few
  have each : ∀ d ∈ s.hs.map atD, Fq 8 6 7 d ∧ nd d ≤ 30 ∧ IsAm d := fun d hd => by
    obtain ⟨a, ha, rfl⟩ := List.mem_map.mp hd
    exact fq_at7 (h7 a ha)
  obtain ⟨g1, g2, g3⟩ := fq_at7 g7
  refine ⟨fq_tup.mpr ⟨by simp, fun d hd => ?_⟩, ?_, ⟨_, _, rfl, ⟨by rw [List.length_map]; omega, fun d hd => (each d hd).2.2, g3, nodup_atD.mpr ok.nd⟩⟩⟩
  · simp only [List.mem_cons, List.not_mem_nil, or_false] at hd
    rcases hd with rfl | rfl
    · exact fq_tup.mpr ⟨by rw [List.length_map]; omega, fun d hd => (each d hd).1⟩
    · exact g1.more (by omega) (Nat.le_refl _) (Nat.le_refl _)
  · have z := ndAll_le_mul (n := 30) (ds := s.hs.map atD) fun d hd => (each d hd).2.1
    rw [List.length_map] at z
    have y : 30 * s.hs.length ≤ 180 := by omega
    show nd (.tuple [.tuple (s.hs.map atD), atD s.gl]) ≤ 212
    simp only [nd, ndAll]
    omega
/-! what is shown -/
mutual
theorem sh_shown {W L : Nat} (hL : L ≤ 900) : ∀ {d : PyData}, shG W L d → d.hasDict = false → d.showable = true ∧ d.intsShort 13 = true ∧ d.weight + 1 ≤ 1000 * nd d
  | .none, _, _ => ⟨rfl, rfl, by decide⟩
  | .bool b, _, _ => ⟨rfl, rfl, by simp [PyData.weight, nd]⟩
  | .int i, h, _ => by
    unfold shG at h
    have a : i.natAbs ≤ 2000 := by omega
    have b : i.natAbs.log2 ≤ 11 := by
      by_cases h0 : i.natAbs = 0
      · rw [h0]; decide
      · exact Nat.le_of_lt_succ ((Nat.log2_lt h0).mpr (by omega))
    refine ⟨?_, ?_, ?_⟩
    · simp only [PyData.showable, decide_eq_true_eq]; omega
    · simp only [PyData.intsShort, decide_eq_true_eq]; exact PyData.shown_int_le (by omega)
    · simp only [PyData.weight, nd]; split <;> omega
  | .str x, h, _ => by
    unfold shG at h
    have : x.cps.size ≤ L := h.1
    refine ⟨rfl, rfl, ?_⟩
    simp only [PyData.weight, nd]
    omega
  | .list ds, h, n => by
    unfold shG at h
    have z := shs_shown hL h.2 (by simpa [PyData.hasDict] using n)
    simp only [PyData.showable, PyData.intsShort, PyData.weight, nd]
    exact ⟨z.1, z.2.1, by omega⟩
  | .tuple ds, h, n => by
    unfold shG at h
    have z := shs_shown hL h.2 (by simpa [PyData.hasDict] using n)
    simp only [PyData.showable, PyData.intsShort, PyData.weight, nd]
    exact ⟨z.1, z.2.1, by omega⟩
  | .dict _, _, n => by simp [PyData.hasDict] at n
theorem shs_shown {W L : Nat} (hL : L ≤ 900) : ∀ {ds : List PyData}, shGs W L ds → PyData.hasDictAll ds = false → PyData.showableAll ds = true ∧ PyData.intsShortAll 13 ds = true ∧ PyData.weightAll ds ≤ 1000 * ndAll ds
  | [], _, _ => ⟨rfl, rfl, by decide⟩
  | d :: ds, h, n => by
    unfold shGs at h
    rw [PyData.hasDictAll, Bool.or_eq_false_iff] at n
    have a := sh_shown hL h.1 n.1
    have b := shs_shown hL h.2 n.2
    simp only [PyData.showableAll, PyData.intsShortAll, PyData.weightAll, ndAll, Bool.and_eq_true]
    exact ⟨⟨a.1, b.1⟩, ⟨a.2.1, b.2.1⟩, by omega⟩
end
mutual
theorem DAt.nodict {H : Hp} {b : Addr} : ∀ {d : PyData} {v : V}, DAt H b v d → d.hasDict = false
  | .none, _, _ => rfl
  | .bool _, _, _ => rfl
  | .int _, _, _ => rfl
  | .str _, _, _ => rfl
  | .list ds, _, h => by
    unfold DAt at h
    obtain ⟨a, xs, _, _, _, h⟩ := h
    exact DAtAll.nodict h
  | .tuple ds, _, h => by
    unfold DAt at h
    obtain ⟨a, xs, _, _, h⟩ := h
    exact DAtAll.nodict h
  | .dict _, _, h => by unfold DAt at h; exact h.elim
theorem DAtAll.nodict {H : Hp} {b : Addr} : ∀ {ds : List PyData} {xs : List V}, DAtAll H b xs ds → PyData.hasDictAll ds = false
  | [], _, _ => rfl
  | d :: ds, _, h => by
    unfold DAtAll at h
    obtain ⟨x, r, _, h1, h2⟩ := h
    rw [PyData.hasDictAll, DAt.nodict h1, DAtAll.nodict h2]
    rfl
end
theorem fq_shown {H : Hp} {b : Addr} {v : V} {k W L : Nat} {d : PyData} (h : Fq k W L d) (D : DAt H b v d) (hk : k ≤ 60) (hL : L ≤ 900) (hn : nd d ≤ 1000) : d.showable = true ∧ d.hasDict = false ∧ d.depth ≤ 64 ∧ d.shown.length ≤ sizeLine := by
  obtain ⟨h2, h3, h5⟩ := sh_shown hL h.sh D.nodict
  have dp := h.dp
  have big : (15728653 : Nat) ≤ sizeLine := by decide
  refine ⟨h2, D.nodict, by omega, Nat.le_trans (shown_le13 ?_ h3) big⟩
  unfold PyData.layable0
  rw [h.lay, decide_eq_true (by omega : d.depth ≤ 64), decide_eq_true (by omega : d.weight ≤ 2 ^ 20)]
  rfl
end Rp

set_option maxHeartbeats 8000000
/-! A SAYING's variables, a BINDING put into it. -/
namespace Rp
open PySem PySem.Spec PyProof.Rows L2 TL NdefX LamX StX PpSet
def atPut (bd : Bd) (a : At) : At := ⟨a.nm, a.ts.map (Tm.put bd)⟩
def atNums (a : At) : List Int := a.ts.flatMap Tm.nums
def syPut (bd : Bd) (s : Sy) : Sy := ⟨unl (s.hs.map (atPut bd)), atPut bd s.gl⟩
def syNums (s : Sy) : List Int := (s.hs ++ [s.gl]).flatMap atNums
theorem AtAt.tups {H H' : Hp} (u : Tups H H') {v : V} {a : At} (h : AtAt H v a) : AtAt H' v a := atAt_mono u.1 h
theorem AtsAt.tups {H H' : Hp} (u : Tups H H') {v : List V} {a : List At} (h : AtsAt H v a) : AtsAt H' v a := h.mono u.1
theorem AtsAt.take {H : Hp} : ∀ {xs : List V} {as : List At} (n : Nat), AtsAt H xs as → AtsAt H (xs.take n) (as.take n)
  | _, _, 0, _ => trivial
  | [], [], n + 1, _ => trivial
  | _ :: _, _ :: _, n + 1, h => ⟨h.1, AtsAt.take n h.2⟩
/-- how large an ATOM is that may be asked for its variables -/
def Few7 (a : At) : Prop := a.ts.length ≤ 2 ∧ ∀ t ∈ a.ts, t.size ≤ 7
def spSyVars : Sp := fun vs H Q _ => ∃ (v : V) (s : Sy), vs = [v] ∧ SyAt H v s ∧ s.hs.length ≤ 6 ∧ (∀ a ∈ s.hs, Few7 a) ∧ Few7 s.gl ∧ ∀ (g : Addr) (ns : List Int) (H' : Hp), H g = none → H' g = some (.lst (ns.map V.int)) → ns.Pairwise (· < ·) → (∀ k, k ∈ ns ↔ k ∈ syNums s) → Same H H' → Q (.ref g) H'
def spSyPut (T : List NTab) : Sp := fun vs H Q _ => ∃ (v : V) (s : Sy) (a : Addr) (bd : Bd), vs = [v, .ref a] ∧ SyAt H v s ∧ s.hs.length ≤ 6 ∧ (∀ a ∈ s.hs, Few7 a ∧ AtOk 50 (atPut bd a)) ∧ Few7 s.gl ∧ BdAt H a bd ∧ TabsN T H ∧
  ∀ (v' : V) (H' : Hp), SyAt H' v' (syPut bd s) → Ext T H H' → Q v' H'
abbrev NSV : List Str := ["saying", "hyps", "goal", "atom", "variable"]
abbrev NSP : List Str := ["saying", "binding", "hyps", "goal", "hyp"]
theorem few_nums {a : At} (h : Few7 a) {ns : List Int} (up : ns.Pairwise (· < ·)) (mem : ∀ k, k ∈ ns ↔ k ∈ atNums a) : ns.length ≤ 8 := by
  have f := rising_few up fun k hk => (mem k).1 hk
  have each : ∀ ts : List Tm, (∀ t ∈ ts, t.size ≤ 7) → (ts.flatMap Tm.nums).length ≤ 4 * ts.length := by
    intro ts
    induction ts with
    | nil => intro _; simp
    | cons t ts ih =>
      intro h
      have h1 := h t (by simp)
      have h2 := ih fun u hu => h u (by simp [hu])
      have h3 := nums_half t
      rw [List.flatMap_cons, List.length_append, List.length_cons, Nat.mul_add]
      omega
  have := each a.ts h.2
  have h2 := h.1
  have e : (atNums a).length = (a.ts.flatMap Tm.nums).length := rfl
  have : 4 * a.ts.length ≤ 8 := by omega
  omega
section
variable {P : Program} {w : World} {K : PySem.W.Frag} {mg : Str → Option Value} {base : Heap}
def teAV : TE := fun σ H Q => tCons (tVar 3) tNil σ H fun vs H1 => spAVars vs H1 Q E0
def teAP (T : List NTab) : TE := fun σ H Q => tCons (tVar 4) (tCons (tVar 1) tNil) σ H fun vs H1 => spAPut T vs H1 Q E0
end
end Rp

set_option maxHeartbeats 8000000
/-! The law's own exchange, its own spots. -/
namespace Rp
open PySem PySem.Spec PyProof.Rows L2 TL NdefX LamX StX PpSet
/-- t[:1] and t + u of plain tuples -/
theorem slP_ok {K : PySem.W.Frag} {a : Addr} {xs : List V} {lo hi : Option Int} {H : Hp} {Q : VK} (h : H a = some (.tup xs)) (go : ∀ (p : Addr) (H' : Hp), H' p = some (.tup (cutV xs lo hi)) → Same H H' → Q (.ref p) H') : rSlA K (.ref a) lo hi H Q := by
  refine ⟨a, xs, rfl, .inl (.inl h), fun hw => ?_, fun _ p hp => go p _ upd_same (same_new hp _)⟩
  refine go a H ?_ (Same.refl H)
  have : cutV xs lo hi = xs := by
    unfold cutV
    rw [hw.1, hw.2, List.drop_zero, Nat.sub_zero, List.take_length]
  rw [this]; exact h
theorem catP_ok {K : PySem.W.Frag} {a b : Addr} {xs ys : List V} {H : Hp} {Q : VK} (ha : H a = some (.tup xs)) (hb : H b = some (.tup ys)) (few : xs.length + ys.length ≤ sizeLine) (go : ∀ (p : Addr) (H' : Hp), H' p = some (.tup (xs ++ ys)) → Same H H' → Q (.ref p) H') : rCatA K (.ref a) (.ref b) H Q := by
  refine ⟨a, b, xs, ys, rfl, rfl, .inl (.inl ha), .inl (.inl hb), few, fun e => ?_, fun _ e => ?_, fun _ _ p hp => go p _ upd_same (same_new hp _)⟩
  · subst e; exact go b H hb (Same.refl H)
  · subst e; exact go a H (by rw [List.append_nil]; exact ha) (Same.refl H)
theorem cut_first (x : V) (ks : List V) : cutV (x :: ks) none (some 1) = [x] := by
  have e : (1 : Int) = ((1 : Nat) : Int) := rfl
  unfold cutV
  rw [HT.sIx_none, e, HT.sIx_nat, List.drop_zero, Nat.sub_zero]
  simp
theorem kids_two (t : Tm) : t.kids.length ≤ 2 := by cases t <;> simp [Tm.kids]
theorem tm_made {H : Hp} {p : Addr} {bd : Bd} {t : Tm} {ys : List V} (no : ∀ n, t ≠ .v n) (hp : H p = some (.tup (V.str (signHead t) :: ys))) (A : AllAt H ys (t.kids.map (Tm.put bd))) : TmAt H (.ref p) (t.put bd) := by
  cases t with
  | v n => exact absurd rfl (no n)
  | z =>
    match ys, A with
    | [], _ => exact .z hp
  | s t =>
    match ys, A with
    | [y], A => exact .s hp A.1
  | f l r =>
    match ys, A with
    | [y, z], A => exact .f hp A.1 A.2.1
theorem all_take {H : Hp} : ∀ {xs : List V} {ts : List Tm} {i : Nat} {x : V}, AllAt H xs ts → xs[i]? = some x → ∃ t, ts[i]? = some t ∧ TmAt H x t
  | x :: _, t :: _, 0, _, h, e => ⟨t, rfl, by simp at e; subst e; exact h.1⟩
  | _ :: _, _ :: _, i + 1, _, h, e => by simpa using all_take h.2 (by simpa using e)
def spLPutD (n : Nat) : Sp := fun vs H Q _ => ∃ (v : V) (D : Addr) (bd : Bd) (kvs : List (Key × V)), vs = [v, .ref D] ∧ H D = some (.dK kvs) ∧ DbAt H kvs bd ∧
  ((∃ t : Tm, TmAt H v t ∧ t.deep < n ∧ ∀ (v' : V) (H' : Hp), TmAt H' v' (t.put bd) → Same H H' → Q v' H') ∨
    (∃ a : At, 0 < n ∧ AtAt H v a ∧ a.ts.length ≤ 2 ∧ (∀ t ∈ a.ts, t.deep + 1 < n) ∧ ∀ (v' : V) (H' : Hp), AtAt H' v' (atPut bd a) → Same H H' → Q v' H'))
def tePD (n : Nat) : TE := tCall (spLPutD n) [] E0 (tCons (tVar 2) (tCons (tVar 1) tNil))
mutual
/-- the ints in data, of ints, texts, tuples alone -/
def dNums : PyData → List Int
  | .int n => [n] | .tuple ds => dNumsA ds | _ => []
def dNumsA : List PyData → List Int
  | [] => []
  | d :: ds => dNums d ++ dNumsA ds
end
mutual
def okSp : PyData → Prop
  | .int _ => True | .str _ => True | .tuple ds => okSps ds | _ => False
def okSps : List PyData → Prop
  | [] => True
  | d :: ds => okSp d ∧ okSps ds
end
theorem okSps_iff : ∀ {ds : List PyData}, okSps ds ↔ ∀ d ∈ ds, okSp d
  | [] => by simp [okSps]
  | d :: ds => by simp only [okSps, okSps_iff (ds := ds), List.mem_cons, forall_eq_or_imp]
theorem dNumsA_eq : ∀ {ds : List PyData}, dNumsA ds = ds.flatMap dNums
  | [] => rfl
  | d :: ds => by simp only [dNumsA, dNumsA_eq (ds := ds), List.flatMap_cons]
theorem dNums_tm : ∀ t : Tm, okSp (tmD t) ∧ dNums (tmD t) = t.nums
  | .v n => ⟨by unfold tmD okSp; trivial, by unfold tmD dNums; rfl⟩
  | .z => ⟨by simp [tmD, okSp, okSps], by simp [tmD, dNums, dNumsA, Tm.nums]⟩
  | .s t => by
    obtain ⟨h1, h2⟩ := dNums_tm t
    exact ⟨by simp [tmD, okSp, okSps, h1], by simp [tmD, dNums, dNumsA, Tm.nums, h2]⟩
  | .f l r => by
    obtain ⟨h1, h2⟩ := dNums_tm l
    obtain ⟨h3, h4⟩ := dNums_tm r
    exact ⟨by simp [tmD, okSp, okSps, h1, h3], by simp [tmD, dNums, dNumsA, Tm.nums, h2, h4]⟩
theorem dNums_at (a : At) : okSp (atD a) ∧ dNums (atD a) = atNums a := by
  constructor
  · unfold atD okSp
    refine okSps_iff.mpr fun d hd => ?_
    rcases List.mem_cons.mp hd with rfl | hd
    · unfold okSp; trivial
    · obtain ⟨t, _, rfl⟩ := List.mem_map.mp hd
      exact (dNums_tm t).1
  · unfold atD dNums
    rw [dNumsA_eq, List.flatMap_cons, List.flatMap_map]
    have e : (fun t => dNums (tmD t)) = Tm.nums := funext fun t => (dNums_tm t).2
    rw [e]
    show dNums (.str a.nm) ++ _ = _
    unfold dNums
    rfl
theorem dNums_sy (s : Sy) : okSp (syD s) ∧ dNums (syD s) = syNums s := by
  have e : (fun a => dNums (atD a)) = atNums := funext fun a => (dNums_at a).2
  constructor
  · unfold syD okSp
    refine okSps_iff.mpr fun d hd => ?_
    simp only [List.mem_cons, List.not_mem_nil, or_false] at hd
    rcases hd with rfl | rfl
    · unfold okSp
      refine okSps_iff.mpr fun d hd => ?_
      obtain ⟨a, _, rfl⟩ := List.mem_map.mp hd
      exact (dNums_at a).1
    · exact (dNums_at _).1
  · unfold syD dNums
    simp only [dNumsA, dNums, dNumsA_eq, List.flatMap_map, e, List.append_nil, (dNums_at s.gl).2]
    unfold syNums
    rw [List.flatMap_append]
    simp
def spSpots (n : Nat) : Sp := fun vs H Q _ => ∃ (b : Addr) (v : V) (d : PyData), vs = [v] ∧ DAt H b v d ∧ okSp d ∧ d.depth < n ∧ (dNums d).length < 64 ∧ nd d ≤ 1000 ∧
  ∀ (p : Addr) (ns : List Int) (H' : Hp), H p = none → H' p = some (.lst (ns.map V.int)) → ns.Pairwise (· < ·) → (∀ k, k ∈ ns ↔ k ∈ dNums d) → Same H H' → Q (.ref p) H'
abbrev NSpo : List Str := ["_law_thing", "_law_found", "_law_part"]
abbrev NPD : List Str := ["_law_thing", "_law_puts", "_law_part"]
section
variable {P : Program} {w : World} {K : PySem.W.Frag} {mg : Str → Option Value} {base : Heap}
theorem scPD : FnScope NPD ["_law_thing", "_law_puts"] (defScope sPutL) := ⟨rfl, rfl, rfl, by decide +kernel, rfl, by decide +kernel, by decide +kernel⟩
theorem ok_lputd {n : Nat} {f : Addr} {fd : FuncData} (F : Fun K "_law_put" "_law_put" sPutL f fd) (b2 : Binds K fd ["_law_thing", "_law_puts"] []) (mF : mg "_law_put" = some (.ref f)) (G : FnOk P w K mg base CX0 n f fd ["_law_thing", "_law_puts"] (spLPutD n))
    (mIsi : mg "isinstance" = none) (mInt : mg "int" = none) (mTuple : mg "tuple" = none) : FnOk P w K mg base CX0 (n + 1) f fd ["_law_thing", "_law_puts"] (spLPutD (n + 1)) := by
  refine F.ok scPD (fun vs H Q E h => ?_) (fun cdv A outer s H vs Q E hr h => ?_)
  · obtain ⟨v, D, bd, kvs, rfl, _⟩ := h
    rfl
  obtain ⟨v, D, bd, kvs, rfl, hD, DB, q⟩ := h
  have hu := hu_of hr
  refine ⟨_, pss_cons (ps_if (pt_val (pe_callB (id := "isinstance") call_isi (by rfl) mIsi (by decide +kernel) (pa_cons (pv 0) (pa_cons (pe_bltn (v := .ty "int") (by rfl) mInt (by decide +kernel) rfl) pa_nil))))
      (pss_one (ps_ret (pe_dget2 hu (pv 1) (pv 0) (pv 0) ⟨rfl, rfl, rfl, rfl⟩))) pss_nil)
    (pss_one (ps_ret (pe_op op_catA (pe_slice sl_tupA (pv 0) po_none (po_some pe_int)) (pe_callTy call_tuple_of (by rfl) mTuple (by decide +kernel) (pa_cons
      (pe_lc (own := [("_law_part", 2)]) (g := gName 2) (tt := tYes) (te := tePD n) rfl scPD.nd (pi_tup (pe_slice sl_tup (pv 0) (po_some pe_int) po_none)) (blkOk_by (N := NPD) (sc := defScope sPutL) (by decide +kernel))
        (fun _ _ _ _ _ => pg_name (i := 2) scPD.nd rfl (Or.inl rfl)) (fun _ _ _ _ _ => pts_nil) (fun _ _ _ _ _ => pe_call G hr (by rfl) mF F.kp b2 .nil pass0 (pa_cons (pv 2) (pa_cons (pv 1) pa_nil)))) pa_nil))))), ?_⟩
  have big : (2000 : Nat) ≤ sizeLine := by decide
  -- a tuple with a sign or a name, and parts
  have tupled : ∀ (a : Addr) (x : Str) (ks : List V) (ts : List Tm), v = .ref a → H a = some (.tup (V.str x :: ks)) → AllAt H ks ts → ts.length ≤ 2 → (∀ t ∈ ts, t.deep < n) →
      (∀ (p : Addr) (ys : List V) (H' : Hp), H' p = some (.tup (V.str x :: ys)) → AllAt H' ys (ts.map (Tm.put bd)) → Same H H' → Q (.ref p) H') →
      (tOp (rCatA K) (tSl (rSlA K) (tVar 0) tNoPart (tPart (tC (.int 1)))) (tCB (fun xs H Q => ∃ p ys, xs = [.ref p] ∧ ((SqL K H p ys ∧ ∀ l, H l = none → Q (.ref l) (upd H l (.tup ys))) ∨ (SqT K H p ys ∧ Q (.ref p) H))) (tCons (tLc (iTup K (tSl (rSlT K) (tVar 0) (tPart (tC (.int 1))) tNoPart)) (gName 2) tYes (tePD n) [2]) tNil)))
        (start NPD [v, .ref D]) H Q := by
    intro a x ks ts ev ha A t2 td go
    subst ev
    refine ⟨_, rfl, 1, rfl, slP_ok ha fun p1 H1 h1 s1 => ?_⟩
    rw [cut_first] at h1
    refine ⟨_, rfl, 1, rfl, a, _, rfl, .inl (.inl (s1 _ _ ha)), cut_part _ _, fun g hg => ?_⟩
    rw [cut_tail]
    have s2 := same_new hg (.tup ks)
    have hgg : (upd H1 g (.tup ks)) g = some (.tup ks) := upd_same
    have xl := A.len
    refine ⟨g, rfl, ⟨_, .inl (.inl hgg)⟩, fun DD hDD => lc_tup (K := K) (a := g) (xs := ks) (fun i H3 => ∃ ys : List V, H3 DD = some (.lst ys) ∧ AllAt H3 ys ((ts.take i).map (Tm.put bd)) ∧ ys.length = i ∧ Same (upd H1 g (.tup ks)) H3)
      ⟨[], upd_same, trivial, rfl, same_new hDD _⟩ (fun i H3 _ ⟨_, _, _, _, s⟩ => .inl (.inl (s _ _ hgg))) ?_ ?_⟩
    · rintro i y H3 hi ⟨ys, h3, A3, yl, s3⟩
      obtain ⟨t, ht, T⟩ := all_take A hi
      have sH : Same H H3 := (s1.trans s2).trans s3
      have li : i < ks.length := (List.getElem?_eq_some_iff.mp hi).1
      refine ⟨rfl, ?_⟩
      unfold tePD
      refine ⟨_, rfl, _, rfl, y, D, bd, kvs, rfl, sH _ _ hD, DB.mono (Tups.same sH).1, .inl ⟨t, T.same sH, td t (List.mem_of_getElem? ht), fun v' H4 T4 s4 => ?_⟩⟩
      have h4 := s4 _ _ h3
      have u6 : Tups H4 (upd H4 DD (.lst (ys ++ [v']))) := Tups.but (but_upd _) h4
      have tk : ts.take (i + 1) = ts.take i ++ [t] := by rw [List.take_add_one, ht]; rfl
      refine ⟨ys, h4, by omega, ys ++ [v'], upd_same, ?_, by rw [List.length_append, yl]; rfl, fun c o z => by rw [upd_ne (ne_of_none z hDD)]; exact s4 _ _ (s3 _ _ z)⟩
      rw [tk, List.map_append]
      exact ((A3.mono (Tups.same s4).1).mono u6.1).append ⟨T4.mono u6.1, trivial⟩
    · rintro H3 ⟨ys, h3, A3, yl, s3⟩
      rw [xl, List.take_length] at A3
      refine ⟨DD, ys, rfl, .inl ⟨.inl (.inl h3), fun l hl => ?_⟩⟩
      have s4 := same_new hl (.tup ys)
      have A4 := A3.mono (Tups.same s4).1
      refine catP_ok (s4 _ _ (s3 _ _ (s2 _ _ h1))) upd_same (by rw [List.length_singleton, yl]; omega) fun p H5 h5 s5 => ?_
      exact go p ys H5 h5 (A4.mono (Tups.same s5).1) (s1.trans (s2.trans (s3.trans (s4.trans s5))))
  rcases q with ⟨t, T, td, q⟩ | ⟨a, _, ⟨p, xs, rfl, hp, A⟩, a2, ad, q⟩
  · rcases T.ty (K := K) with ⟨m, rfl, rfl⟩ | ⟨a, xs, rfl, ha, ty, no⟩
    · refine ⟨_, rfl, _, _, _, _, true, rfl, .ty "int", .base (.int m), kit_ii, true, rfl, iteT ?_⟩
      refine ⟨_, rfl, D, rfl, .inl ⟨_, .inl hD⟩, _, rfl, _, rfl, ?_⟩
      rcases DB m with ⟨v, t, e1, e2, T'⟩ | ⟨e1, e2⟩
      · refine ⟨some v, .inl ⟨_, Sum.inl m, .inl hD, rfl, e1.symm⟩, q v _ ?_ (Same.refl H)⟩
        show TmAt _ v ((bd.lookup m).getD (.v m))
        rw [e2]
        exact T'
      · refine ⟨none, .inl ⟨_, Sum.inl m, .inl hD, rfl, e1.symm⟩, q _ _ ?_ (Same.refl H)⟩
        show TmAt _ (.int m) ((bd.lookup m).getD (.v m))
        rw [e2]
        exact .v m
    · obtain ⟨a', ks, e, ha', hk, hks⟩ := T.tupled no
      cases e
      refine ⟨_, rfl, _, _, _, _, false, rfl, .ty "int", ty, kit_ti, false, rfl, iteF ?_⟩
      refine tupled a _ ks t.kids rfl ha' (AllAt.of hk hks) (kids_two t) (fun k hk => by have := kid_deep hk; omega) fun p ys H' hp A' s' => q _ _ (tm_made no hp A') s'
  · have ty : TyX K H (.ref p) (.type "tuple") := (AtAt.dat (b := (0 : Nat)) (a := a) ⟨p, xs, rfl, hp, A⟩).tyx
    refine ⟨_, rfl, _, _, _, _, false, rfl, .ty "int", ty, kit_ti, false, rfl, iteF ?_⟩
    exact tupled p _ xs a.ts rfl hp A a2 (fun t ht => by have := ad t ht; omega) fun p' ys H' hp' A' s' => q _ _ ⟨p', ys, rfl, hp', A'⟩ s'
theorem lputd_ok {f : Addr} {fd : FuncData} (F : Fun K "_law_put" "_law_put" sPutL f fd) (b2 : Binds K fd ["_law_thing", "_law_puts"] []) (mF : mg "_law_put" = some (.ref f)) (mIsi : mg "isinstance" = none) (mInt : mg "int" = none) (mTuple : mg "tuple" = none) :
    ∀ n : Nat, FnOk P w K mg base CX0 n f fd ["_law_thing", "_law_puts"] (spLPutD n)
  | 0 => none_left fun vs H Q E h => by
    obtain ⟨v, D, bd, kvs, _, _, _, h⟩ := h
    rcases h with ⟨t, _, h, _⟩ | ⟨a, h, _⟩ <;> omega
  | n + 1 => ok_lputd F b2 mF (lputd_ok F b2 mF mIsi mInt mTuple n) mIsi mInt mTuple
theorem scSpo : FnScope NSpo ["_law_thing"] (defScope sSpots) := ⟨rfl, rfl, rfl, by decide +kernel, rfl, by decide +kernel, by decide +kernel⟩
theorem kit_is {K : PySem.W.Frag} {a : String} {p r : Bool} (h1 : kitB a "int" = some p) (h2 : kitB a "str" = some r) : PySem.W.kitAny K (.type a) [.type "int", .type "str"] = some (p || r) := by
  refine kitAny_cons (kitB_of h1) (fun e => ?_) (fun e => by rw [e]; rfl)
  refine kitAny_cons (kitB_of h2) (fun e2 => by rw [e, e2]; exact kitAny_nil) (fun e2 => by rw [e, e2]; rfl)
theorem dNums_item : ∀ {ds : List PyData} {i : Nat} {d : PyData}, ds[i]? = some d → dNumsA (ds.take (i + 1)) = dNumsA (ds.take i) ++ dNums d
  | d' :: ds, 0, d, h => by simp at h; subst h; simp [dNumsA]
  | d' :: ds, i + 1, d, h => by
    have := dNums_item (ds := ds) (i := i) (d := d) (by simpa using h)
    simp only [List.take_succ_cons, dNumsA, this, List.append_assoc]
theorem dNums_le : ∀ {ds : List PyData} {i : Nat}, (dNumsA (ds.take i)).length ≤ (dNumsA ds).length
  | [], i => by simp [dNumsA]
  | d :: ds, 0 => by simp [dNumsA]
  | d :: ds, i + 1 => by have := dNums_le (ds := ds) (i := i); simp only [List.take_succ_cons, dNumsA, List.length_append]; omega
theorem dNums_mem : ∀ {ds : List PyData} {d : PyData}, d ∈ ds → (dNums d).length ≤ (dNumsA ds).length
  | d' :: ds, d, h => by
    simp only [dNumsA, List.length_append]
    rcases List.mem_cons.mp h with rfl | h
    · omega
    · have := dNums_mem h; omega
theorem ok_spots {n : Nat} {f : Addr} {fd : FuncData} (F : Fun K "_law_spots" "_law_spots" sSpots f fd) (b1 : Binds K fd ["_law_thing"] []) (mF : mg "_law_spots" = some (.ref f)) (G : FnOk P w K mg base CX0 n f fd ["_law_thing"] (spSpots n)) (M : SameG mg) (mSorted : mg "sorted" = none) (mSet : mg "set" = none) :
    FnOk P w K mg base CX0 (n + 1) f fd ["_law_thing"] (spSpots (n + 1)) := by
  refine F.ok scSpo (fun vs H Q E h => ?_) (fun cdv A outer s H vs Q E hr h => ?_)
  · obtain ⟨b, v, d, rfl, _⟩ := h
    rfl
  obtain ⟨b, v, d, rfl, D, od, dp, few, nn, q⟩ := h
  refine ⟨_, pss_cons (ps_if (pt_val (pe_callB (id := "isinstance") call_isiT (by rfl) M.isi (by decide +kernel) (pa_cons (pv 0) (pa_cons (pe_tup (pa_cons (pe_bltn (v := .ty "int") (by rfl) M.int (by decide +kernel) rfl) (pa_cons (pe_bltn (v := .ty "str") (by rfl) M.str (by decide +kernel) rfl) pa_nil))) pa_nil))))
      (pss_one (ps_ret (pe_op op_rep (pe_lst (pa_cons (pv 0) pa_nil)) (pe_callTy call_int1 (by rfl) M.int (by decide +kernel) (pa_cons (pe_callB (id := "isinstance") call_isi (by rfl) M.isi (by decide +kernel) (pa_cons (pv 0) (pa_cons (pe_bltn (v := .ty "int") (by rfl) M.int (by decide +kernel) rfl) pa_nil))) pa_nil))))) pss_nil)
    (pss_cons (ps_set (i := 1) scSpo.nd rfl (Or.inl rfl) (pe_lst pa_nil))
    (pss_cons (ps_for PassesOwn.never rfl (pi_tup (pv 0)) (pg_name (i := 2) scSpo.nd rfl (Or.inl rfl))
      (pss_one (ps_set (i := 1) scSpo.nd rfl (Or.inl rfl) (pe_op op_cat (pv 1) (pe_call G hr rfl mF F.kp b1 .nil pass0 (pa_cons (pv 2) pa_nil))))))
    (pss_one (ps_ret (pe_callB (cr_sortedSet rfl) (by rfl) mSorted (by decide +kernel) (pa_cons (pe_callTy (cr_setI rfl) (by rfl) mSet (by decide +kernel) (pa_cons (pv 1) pa_nil)) pa_nil)))))), ?_⟩
  have big : (10000 : Nat) ≤ sizeLine := by decide
  refine ⟨_, rfl, (by show 2 ≤ sizeLine; decide), fun p0 hp0 => ?_⟩
  have s1 := same_new hp0 (.tup [V.ty "int", V.ty "str"])
  refine ⟨_, p0, _, _, [.type "int", .type "str"], isI d || isS d, rfl, upd_same, .cons (.ty _) (.cons (.ty _) .nil), (D.same s1).tyx, kit_is (kitI (K := K) d) (kitS (K := K) d), _, rfl, ?_⟩
  have D1 := D.same s1
  generalize upd H p0 (.tup [V.ty "int", V.ty "str"]) = H1 at s1 D1 ⊢
  cases d with
  | int n =>
    cases D1.int_of
    refine iteT ⟨_, rfl, (by show 1 ≤ sizeLine; decide), fun l hl => ?_⟩
    have s2 := same_new hl (.lst [V.int n])
    refine ⟨_, rfl, _, _, _, _, true, rfl, .ty "int", (D1.same s2).tyx, kitI _, .inr ⟨true, rfl, ?_⟩⟩
    refine ⟨l, _, [V.int n], rfl, rfl, upd_same, by decide, by decide, by simp; omega, fun p hp => ?_⟩
    have s3 := same_new hp (.lst [V.int n])
    refine q p [n] _ (same_none (s1.trans s2) _ hp) ?_ (by simp) (fun k => by simp [dNums]) (s1.trans (s2.trans s3))
    rw [upd_same]
    rfl
  | str x =>
    cases D1.str_of
    refine iteT ⟨_, rfl, (by show 1 ≤ sizeLine; decide), fun l hl => ?_⟩
    have s2 := same_new hl (.lst [V.str x])
    refine ⟨_, rfl, _, _, _, _, false, rfl, .ty "int", (D1.same s2).tyx, kitI _, .inr ⟨false, rfl, ?_⟩⟩
    refine ⟨l, _, [V.str x], rfl, rfl, upd_same, by decide, by decide, by simp, fun p hp => ?_⟩
    have s3 := same_new hp (.lst ([] : List V))
    refine q p [] _ (same_none (s1.trans s2) _ hp) ?_ (by simp) (fun k => by simp [dNums]) (s1.trans (s2.trans s3))
    rw [upd_same]
    rfl
  | tuple ds =>
    obtain ⟨a, xs, rfl, ha, A⟩ := D1.tup_of
    have el := A.len
    have nl := ndAll_len ds
    have nd1 : ndAll ds + 1 ≤ 1000 := by simpa [nd] using nn
    have few : (dNumsA ds).length < 64 := by simpa [dNums] using few
    have ods := okSps_iff.mp (show okSps ds from od)
    have dps : PyData.depthAll ds + 1 < n + 1 := dp
    refine iteF ⟨(by show 0 ≤ sizeLine; decide), fun l hl => ?_⟩
    have s2 := same_new hl (.lst ([] : List V))
    refine ⟨_, rfl, a, rfl, ⟨_, .inl (ha.same s2)⟩, for_tup (K := K) (a := a) (xs := xs) (fun i σ H2 => ∃ (x2 : Option V) (m : Addr) (ns : List Int), σ = [some (.ref a), some (.ref m), x2] ∧ H2 m = some (.lst (ns.map V.int)) ∧ ns.length ≤ (dNumsA (ds.take i)).length ∧ (∀ k, k ∈ ns ↔ k ∈ dNumsA (ds.take i)) ∧ Same H1 H2)
      ⟨none, l, [], rfl, upd_same, by simp, fun k => by simp [dNumsA], s2⟩ (fun i σ H2 _ ⟨_, _, _, _, _, _, _, s⟩ => .inl (ha.same s)) ?_ ?_⟩
    · rintro i x σ H2 hi ⟨x2, m, ns, rfl, hm, nl2, mem, s3⟩
      obtain ⟨e, he, De⟩ := A.get hi
      have em := List.mem_of_getElem? he
      have de := depthAll_iff.mp (Nat.le_refl _) e em
      have le1 := dNums_mem em
      have le2 := dNums_le (ds := ds) (i := i)
      have tk := dNums_item he
      refine ⟨_, rfl, _, rfl, b, x, e, rfl, De.same s3, ods e em, by omega, by omega, by have := ndAll_mem em; omega, fun p ms H3 hp0 hp up mm s4 => ?_⟩
      have ml := rising_few up fun k hk => (mm k).1 hk
      refine ⟨m, p, _, _, rfl, rfl, s4 _ _ hm, hp, by rw [List.length_map, List.length_map]; omega, fun g hg => ?_⟩
      have s5 := same_new hg (.lst (ns.map V.int ++ ms.map V.int))
      refine ⟨_, g, ns ++ ms, rfl, by rw [upd_same, List.map_append], by rw [tk, List.length_append, List.length_append]; omega, fun k => by rw [tk, List.mem_append, List.mem_append, mem k, mm k], s3.trans (s4.trans s5)⟩
    · rintro σ H2 ⟨x2, m, ns, rfl, hm, nl2, mem, s3⟩
      rw [el, List.take_length] at nl2 mem
      refine ⟨_, rfl, m, ns, rfl, .inl (.inl hm), by omega, fun p c hp hc => ?_⟩
      have s4 := same_new hp (SetO w p (fun j => decide (j ∈ ns)) c)
      refine ⟨p, _, c, rfl, upd_same, by omega, fun zs p2 up mz len hp2 => ?_⟩
      have s5 := same_new hp2 (.lst (zs.map V.int))
      refine q p2 zs _ (same_none (s1.trans (s3.trans s4)) _ hp2) upd_same up (fun k => ?_) (s1.trans (s3.trans (s4.trans s5)))
      rw [mz k, decide_eq_true_iff, mem k]
      show _ ↔ k ∈ dNums (.tuple ds)
      unfold dNums
      exact Iff.rfl
  | _ => exact od.elim
theorem spots_ok {f : Addr} {fd : FuncData} (F : Fun K "_law_spots" "_law_spots" sSpots f fd) (b1 : Binds K fd ["_law_thing"] []) (mF : mg "_law_spots" = some (.ref f)) (M : SameG mg) (mSorted : mg "sorted" = none) (mSet : mg "set" = none) :
    ∀ n : Nat, FnOk P w K mg base CX0 n f fd ["_law_thing"] (spSpots n)
  | 0 => none_left fun vs H Q E h => by
    obtain ⟨b, v, d, _, _, _, h, _⟩ := h
    omega
  | n + 1 => ok_spots F b1 mF (spots_ok F b1 mF M mSorted mSet n) M mSorted mSet
end
end Rp

set_option maxHeartbeats 8000000
/-! The law's BINDINGs; a BINDING put rightly. -/
namespace Rp
open PySem PySem.Spec PyProof.Rows L2 TL NdefX LamX StX PpSet
theorem alike_plain {H : Hp} {n : Nat} {x : V} (p : Plain x) : Alike H n x x := by
  cases n with
  | zero => unfold Alike; exact ⟨p, rfl⟩
  | succ n => unfold Alike; exact .inl ⟨p, rfl⟩
theorem alike_tm {H : Hp} : ∀ {t : Tm} {n : Nat} {x y : V}, TmAt H x t → TmAt H y t → t.deep < n → Alike H n x y
  | .v m, n, _, _, .v _, .v _, _ => alike_plain trivial
  | .z, n + 1, _, _, .z h, .z h', _ => by
    unfold Alike
    refine .inr ⟨_, _, _, _, rfl, rfl, .inr ⟨h, h'⟩, rfl, by simp, fun i u v h1 h2 => ?_⟩
    obtain rfl : u = v := Option.some.inj (h1.symm.trans h2)
    match i with
    | 0 => simp at h1; subst h1; exact alike_plain trivial
    | i + 1 => simp at h1
  | .s t, n + 1, _, _, .s h q, .s h' q', hd => by
    unfold Alike
    refine .inr ⟨_, _, _, _, rfl, rfl, .inr ⟨h, h'⟩, rfl, by simp, fun i u v h1 h2 => ?_⟩
    match i with
    | 0 => simp at h1 h2; subst h1 h2; exact alike_plain trivial
    | 1 => simp at h1 h2; subst h1 h2; exact alike_tm q q' (by simp only [Tm.deep] at hd; omega)
    | i + 2 => simp at h1
  | .f l r, n + 1, _, _, .f h q1 q2, .f h' q1' q2', hd => by
    unfold Alike
    simp only [Tm.deep] at hd
    refine .inr ⟨_, _, _, _, rfl, rfl, .inr ⟨h, h'⟩, rfl, by simp, fun i u v h1 h2 => ?_⟩
    match i with
    | 0 => simp at h1 h2; subst h1 h2; exact alike_plain trivial
    | 1 => simp at h1 h2; subst h1 h2; exact alike_tm q1 q1' (by omega)
    | 2 => simp at h1 h2; subst h1 h2; exact alike_tm q2 q2' (by omega)
    | i + 3 => simp at h1
theorem alike_all {H : Hp} {n : Nat} : ∀ {ts : List Tm} {xs ys : List V}, AllAt H xs ts → AllAt H ys ts → (∀ t ∈ ts, t.deep < n) → ∀ (i : Nat) (u v : V), xs[i]? = some u → ys[i]? = some v → Alike H n u v
  | [], [], [], _, _, _, i, u, v, h, _ => by simp at h
  | t :: ts, x :: xs, y :: ys, A, B, hd, 0, u, v, h, h' => by
    obtain rfl : x = u := by simpa using h
    obtain rfl : y = v := by simpa using h'
    exact alike_tm A.1 B.1 (hd t (by simp))
  | t :: ts, x :: xs, y :: ys, A, B, hd, i + 1, u, v, h, h' => alike_all A.2 B.2 (fun s hs => hd s (by simp [hs])) i u v (by simpa using h) (by simpa using h')
theorem alike_at {H : Hp} {a : At} (ok : AtOk 50 a) {x y : V} (hx : AtAt H x a) (hy : AtAt H y a) : Alike H 52 x y := by
  obtain ⟨p, xs, rfl, hp, A⟩ := hx
  obtain ⟨q, ys, rfl, hq, B⟩ := hy
  have lx := A.len
  have ly := B.len
  have two := ok.two
  unfold Alike
  refine .inr ⟨p, q, _, _, rfl, rfl, .inr ⟨hp, hq⟩, by simp [lx, ly], by simp; omega, fun i u v h1 h2 => ?_⟩
  match i with
  | 0 =>
    simp at h1 h2; subst h1 h2; exact alike_plain trivial
  | i + 1 => exact alike_all A B (fun t ht => by have := Tm.deep_lt t; have := (ok.sm t ht).2; show t.deep < 51; omega) i u v (by simpa using h1) (by simpa using h2)
theorem alike_ats {H : Hp} : ∀ {as : List At} {xs ys : List V}, (∀ a ∈ as, AtOk 50 a) → AtsAt H xs as → AtsAt H ys as → ∀ (i : Nat) (u v : V), xs[i]? = some u → ys[i]? = some v → Alike H 52 u v
  | [], [], [], _, _, _, i, u, v, h, _ => by simp at h
  | a :: as, x :: xs, y :: ys, ok, A, B, 0, u, v, h, h' => by
    obtain rfl : x = u := by simpa using h
    obtain rfl : y = v := by simpa using h'
    exact alike_at (ok a (by simp)) A.1 B.1
  | a :: as, x :: xs, y :: ys, ok, A, B, i + 1, u, v, h, h' => alike_ats (fun b hb => ok b (by simp [hb])) A.2 B.2 i u v (by simpa using h) (by simpa using h')
theorem Alike.up {H : Hp} : ∀ {n : Nat} {x y : V}, Alike H n x y → Alike H (n + 1) x y
  | 0, x, y, h => by unfold Alike at h ⊢; exact .inl h
  | n + 1, x, y, h => by
    unfold Alike at h ⊢
    rcases h with h | ⟨a, b, xs, ys, h1, h2, h3, h4, h5, h6⟩
    · exact .inl h
    · exact .inr ⟨a, b, xs, ys, h1, h2, h3, h4, h5, fun i u v p q => Alike.up (h6 i u v p q)⟩
theorem Alike.ups {H : Hp} {x y : V} {n m : Nat} (h : Alike H n x y) (le : n ≤ m) : Alike H m x y := by
  obtain ⟨k, rfl⟩ := Nat.exists_eq_add_of_le le
  clear le
  induction k with
  | zero => exact h
  | succ k ih => exact ih.up
theorem at0 {P : V → V → Prop} : ∀ (i : Nat) (u v : V), ([] : List V)[i]? = some u → ([] : List V)[i]? = some v → P u v := by
  intro i u v e1; simp at e1
theorem atC {P : V → V → Prop} {a c : V} {xs ys : List V} (h1 : P a c) (h2 : ∀ (i : Nat) (u v : V), xs[i]? = some u → ys[i]? = some v → P u v) : ∀ (i : Nat) (u v : V), (a :: xs)[i]? = some u → (c :: ys)[i]? = some v → P u v := by
  intro i u v e1 e2
  match i with
  | 0 => simp at e1 e2; subst e1 e2; exact h1
  | i + 1 => exact h2 i u v (by simpa using e1) (by simpa using e2)
theorem alike_t {H : Hp} {n : Nat} {p q : Addr} {xs ys : List V} (hp : H p = some (.tup xs)) (hq : H q = some (.tup ys)) (l : xs.length = ys.length) (few : xs.length ≤ 40) (h : ∀ (i : Nat) (u v : V), xs[i]? = some u → ys[i]? = some v → Alike H n u v) : Alike H (n + 1) (.ref p) (.ref q) := by
  unfold Alike
  exact .inr ⟨p, q, _, _, rfl, rfl, .inr ⟨hp, hq⟩, l, by omega, h⟩
theorem alike_sy {H : Hp} {s : Sy} (ok : SyOk s) {x y : V} (hx : SyAt H x s) (hy : SyAt H y s) : Alike H 54 x y := by
  obtain ⟨p, q, vg, xs, rfl, h1, h2, h3, h4⟩ := hx
  obtain ⟨p', q', vg', ys, rfl, g1, g2, g3, g4⟩ := hy
  have lx := h3.len
  have ly := g3.len
  have f := ok.hs.few
  exact alike_t h1 g1 rfl (by simp) (atC (alike_t h2 g2 (by omega) (by omega) (alike_ats ok.hs.ok h3 g3)) (atC (alike_at ok.gl h4 g4).up at0))
theorem Paired.snoc2 {α β : Type} {R : α → β → Prop} : ∀ {l : List α} {m : List β} {a : α} {b : β}, Paired R l m → R a b → Paired R (l ++ [a]) (m ++ [b])
  | _, _, _, _, .nil, g => .cons g .nil
  | _, _, _, _, .cons h t, g => .cons h (Paired.snoc2 t g)
theorem paired_len {α β : Type} {R : α → β → Prop} : ∀ {l : List α} {m : List β}, Paired R l m → l.length = m.length
  | _, _, .nil => rfl
  | _, _, .cons _ t => congrArg (· + 1) (paired_len t)
structure BdF (bd : Bd) : Prop where
  sm : ∀ p ∈ bd, p.2.small ∧ p.2.size ≤ 8
theorem look_mem {bd : Bd} {n : Int} {t : Tm} (h : bd.lookup n = some t) : (n, t) ∈ bd := by
  induction bd with
  | nil => cases h
  | cons p bd ih =>
    obtain ⟨m, u⟩ := p
    rw [List.lookup_cons] at h
    by_cases e : n = m
    · subst e
      simp at h
      subst h
      simp
    · rw [beq_eq_false_iff_ne.mpr e] at h
      exact List.mem_cons_of_mem _ (ih h)
theorem put_few {bd : Bd} (ok : BdF bd) : ∀ t : Tm, t.small → (t.put bd).small ∧ (t.put bd).size ≤ 7 * t.nums.length + t.size
  | .v n, h => by
    show ((bd.lookup n).getD (.v n)).small ∧ ((bd.lookup n).getD (.v n)).size ≤ 7 * 1 + 1
    cases e : bd.lookup n with
    | none => exact ⟨h, by show 1 ≤ 8; decide⟩
    | some t => exact ok.sm _ (look_mem e)
  | .z, h => ⟨h, by show 1 ≤ 7 * 0 + 1; decide⟩
  | .s t, h => by
    have ih := put_few ok t fun n hn => h n hn
    exact ⟨ih.1, by show (t.put bd).size + 1 ≤ 7 * t.nums.length + (t.size + 1); omega⟩
  | .f l r, h => by
    have h1 := put_few ok l fun n hn => h n (by simp [Tm.nums, hn])
    have h2 := put_few ok r fun n hn => h n (by simp [Tm.nums, hn])
    refine ⟨fun n hn => ?_, by show (l.put bd).size + (r.put bd).size + 1 ≤ 7 * (l.nums ++ r.nums).length + (l.size + r.size + 1); rw [List.length_append]; omega⟩
    rcases List.mem_append.mp hn with hn | hn
    · exact h1.1 n hn
    · exact h2.1 n hn
theorem atPut_ok {bd : Bd} (ok : BdF bd) {a : At} (h : AtOk 7 a) : AtOk 50 (atPut bd a) := by
  refine ⟨h.nm, by show 1 ≤ (a.ts.map _).length; rw [List.length_map]; exact h.one, by show (a.ts.map _).length ≤ 2; rw [List.length_map]; exact h.two, fun t ht => ?_⟩
  obtain ⟨u, hu, rfl⟩ := List.mem_map.mp (show t ∈ a.ts.map (Tm.put bd) from ht)
  have z := h.sm u hu
  have p := put_few ok u z.1
  have n := nums_half u
  exact ⟨p.1, by omega⟩
theorem put_nil : ∀ t : Tm, t.put [] = t
  | .v _ => rfl
  | .z => rfl
  | .s t => congrArg Tm.s (put_nil t)
  | .f l r => by show Tm.f (l.put []) (r.put []) = _; rw [put_nil l, put_nil r]
theorem atPut_nil (a : At) : atPut [] a = a := by
  unfold atPut
  have : a.ts.map (Tm.put []) = a.ts := by
    rw [show Tm.put [] = id from funext put_nil, List.map_id]
  rw [this]
theorem syPut_nil {s : Sy} (nd : s.hs.Nodup) : syPut [] s = s := by
  unfold syPut
  rw [atPut_nil, show atPut [] = id from funext atPut_nil, List.map_id, unl_id.mpr nd]
theorem syPut_ok {bd : Bd} (ok : BdF bd) {s : Sy} (so : SyOk s) (h7 : ∀ a ∈ s.hs, AtOk 7 a) (g7 : AtOk 7 s.gl) : SyOk (syPut bd s) := by
  refine ⟨AtsOk.mk ?_ (fun a ha => ?_), unl_nd _, atPut_ok ok g7⟩
  · have := unl_le (as := s.hs.map (atPut bd))
    rw [List.length_map] at this
    exact Nat.le_trans this so.hs.few
  · obtain ⟨c, hc, rfl⟩ := List.mem_map.mp (mem_unl ha)
    exact atPut_ok ok (h7 c hc)
theorem few7 {a : At} (h : AtOk 7 a) : Few7 a := ⟨h.two, fun t ht => (h.sm t ht).2⟩
theorem nums8 {a : At} (h : AtOk 7 a) : (atNums a).length ≤ 8 := by
  have each : ∀ ts : List Tm, (∀ t ∈ ts, t.size ≤ 7) → (ts.flatMap Tm.nums).length ≤ 4 * ts.length := by
    intro ts
    induction ts with
    | nil => intro _; simp
    | cons t ts ih =>
      intro h
      have h1 := h t (by simp)
      have h2 := ih fun u hu => h u (by simp [hu])
      have h3 := nums_half t
      rw [List.flatMap_cons, List.length_append, List.length_cons, Nat.mul_add]
      omega
  have z := each a.ts fun t ht => (h.sm t ht).2
  have := h.two
  have e : (atNums a).length = (a.ts.flatMap Tm.nums).length := rfl
  omega
theorem syNums_few {s : Sy} (so : SyOk s) (h7 : ∀ a ∈ s.hs, AtOk 7 a) (g7 : AtOk 7 s.gl) : (syNums s).length ≤ 56 := by
  have each : ∀ as : List At, (∀ a ∈ as, AtOk 7 a) → (as.flatMap atNums).length ≤ 8 * as.length := by
    intro as
    induction as with
    | nil => intro _; simp
    | cons a as ih =>
      intro h
      have h1 := nums8 (h a (by simp))
      have h2 := ih fun u hu => h u (by simp [hu])
      rw [List.flatMap_cons, List.length_append, List.length_cons, Nat.mul_add]
      omega
  have z := each (s.hs ++ [s.gl]) fun a ha => by
    rcases List.mem_append.mp ha with ha | ha
    · exact h7 a ha
    · rw [show a = s.gl by simpa using ha]; exact g7
  have f := so.hs.few
  rw [List.length_append, List.length_singleton] at z
  have e : (syNums s).length = ((s.hs ++ [s.gl]).flatMap atNums).length := rfl
  omega
theorem SyAt.tups {H H' : Hp} (u : Tups H H') {v : V} {s : Sy} (h : SyAt H v s) : SyAt H' v s := syAt_mono u.1 h
def spPutsB : Sp := fun vs H Q _ => ∃ (b sp pp : Addr) (ss ks : List Int) (j : Nat), vs = [.ref b, .ref sp, .ref pp] ∧ BoxAt H b j ∧ H sp = some (.lst (ss.map V.int)) ∧ H pp = some (.lst (ks.map V.int)) ∧ (∀ k ∈ ks, 0 ≤ k ∧ k ≤ 99) ∧ ks.length ≤ 200 ∧ sp ≠ b ∧ pp ≠ b ∧ ss.Nodup ∧ ss.length ≤ 60 ∧ j + 1200 ≤ 1000000 ∧
  ∀ (a : Addr) (bd : Bd) (H' : Hp), BdAt H' a bd → BdF bd → (bd.map (·.1)).Sublist ss → BoxAt H' b (j + 1200) → But b H H' → Q (.ref a) H'
def spPutRight (T : List NTab) : Sp := fun vs H Q _ => ∃ (v0 v : V) (s : Sy) (a : Addr) (bd : Bd), vs = [v0, v, .ref a] ∧ SyAt H v s ∧ SyOk s ∧ (∀ a ∈ s.hs, AtOk 7 a) ∧ AtOk 7 s.gl ∧ BdAt H a bd ∧ BdF bd ∧ TabsN T H ∧ ∀ H', Ext T H H' → Q (.bl true) H'
def tePutB : TE := tTup (tCons (tVar 3) (tCons (tCall (spLTerm 3) [] E0 (tCons (tVar 0) (tCons (tVar 2) (tCons (tCall spTake [] E0 (tCons (tVar 0) (tCons (tC (.int 3)) tNil))) tNil)))) tNil))
def ttPutB : TT := tTest (tOp (rI0 fun i j => .bl (decide (j < i))) (tCall spTake [] E0 (tCons (tVar 0) (tCons (tC (.int 4)) tNil))) (tC (.int 0)))
def tePR : TE := tCall (spLPutD 9) [] E0 (tCons (tVar 7) (tCons (tVar 3) tNil))
abbrev NPu : List Str := ["_law_box_here", "_law_spots_here", "_law_pool", "_law_one"]
section
variable {P : Program} {w : World} {K : PySem.W.Frag} {mg : Str → Option Value} {base : Heap}
abbrev NPR : List Str := ["_law_box_here", "_law_saying_here", "_law_binding", "_law_puts", "_law_due", "_law_found", "_law_spots_here", "_law_hyp"]
end
end Rp

/-! Plain tuples cut and put together: plain again. -/
namespace Rp
open PySem PySem.Spec PyProof.Rows L2
section
variable {X : Cx}
def rCatF (K : PySem.W.Frag) : R2 := fun x y H Q => ∃ (a b : Addr) (xs ys : List V), x = .ref a ∧ y = .ref b ∧ PlT H a xs ∧ PlT H b ys ∧ xs.length + ys.length ≤ sizeLine ∧ ∀ (p : Addr) (H' : Hp), PlT H' p (xs ++ ys) → Same H H' → Q (.ref p) H'
theorem pl_new {H : Hp} {p : Addr} {o : Obj} {xs : List V} (od : o.dict = none) (h : H p = none) : PlT (upd H p (.frz o (.tup xs))) p xs ∧ Same H (upd H p (.frz o (.tup xs))) := ⟨⟨o, od, upd_same⟩, fun b u q => by rw [upd_ne (ne_of_none q h)]; exact q⟩
theorem op_catF : OpR X (binaryOp .Add) (rCatF X.K) := by
  intro pins s σ H x y v u Q I rx ry h
  obtain ⟨a, b, xs, ys, rfl, rfl, ha, hb, hz, go⟩ := h
  by_cases hx : xs = []
  · subst hx
    cases rx
    cases ry
    obtain ⟨its, r1, p1, _⟩ := I.tuple (ha.sq (K := X.K))
    obtain ⟨its2, r2, p2, _⟩ := I.tuple (hb.sq (K := X.K))
    cases r1
    exact cat_tup0 p1 p2 ⟨.ref b, H, I, rfl, go b H hb fun _ _ q => q⟩
  · cases rx
    cases ry
    obtain ⟨its, r1, p1, _⟩ := I.tuple (ha.sq (K := X.K))
    obtain ⟨its2, r2, p2, _⟩ := I.tuple (hb.sq (K := X.K))
    refine HT.cat_tup p1 p2 (fun z => hx (r1.nil_iff.mp z)) (fun z => ⟨.ref a, H, I, rfl, go a H (by rw [r2.nil_iff.mp z, List.append_nil]; exact ha) fun _ _ q => q⟩) (fun z => ?_) (by rw [← r1.length, ← r2.length]; exact hz)
    have fr := I.hok.fresh (Nat.le_refl s.heap.objs.size)
    have new := pl_new (o := { cls := .type "tuple", data := .seq (its ++ its2).toArray }) (xs := xs ++ ys) rfl fr
    refine ⟨.ref s.heap.objs.size, _, I.laid (t' := s.toks) (o := .frz { cls := .type "tuple", data := .seq (its ++ its2).toArray } (.tup (xs ++ ys))) (fun b ob q => Heap.get?_push_of_some _ q) (Nat.le_refl _) ?_, rfl, go _ _ new.1 new.2⟩
    exact ⟨Heap.get?_push_size _ rfl, by rw [List.length_append]; exact hz, _, r1.append r2, IsTup.new _ _⟩
def rSlF (K : PySem.W.Frag) : V → Option Int → Option Int → Hp → VK → Prop := fun x lo hi H Q => ∃ (a : Addr) (xs : List V), x = .ref a ∧ PlT H a xs ∧ ∀ (p : Addr) (H' : Hp), PlT H' p (cutV xs lo hi) → Same H H' → Q (.ref p) H'
theorem sl_tupF : SlR X (rSlF X.K) := by
  intro pins s σ H x v vl vu lo hi sl Q I rx hs pl pu h
  obtain ⟨a, xs, rfl, hx, go⟩ := h
  cases rx
  obtain ⟨its, r, ht, hz⟩ := I.tuple (hx.sq (K := X.K))
  have hlen : its.toArray.size = xs.length := by rw [List.size_toArray]; exact r.length.symm
  refine ⟨"tuple", _, PyProof.Rows.slot_tuple_getitem.lookup, ht.typeIs, ?_⟩
  by_cases hw : HT.sIx xs.length 0 lo = 0 ∧ HT.sIx xs.length xs.length hi = xs.length
  · have e : cutV xs lo hi = xs := by
      unfold cutV
      rw [hw.1, hw.2, List.drop_zero, Nat.sub_zero, List.take_length]
    exact getItem_tuple_whole ht hs pl pu (by rw [hlen]; exact hw) ⟨.ref a, H, I, rfl, go a H (by rw [e]; exact hx) fun _ _ q => q⟩
  · refine HT.getItem_tuple_cut ht hs pl pu (by rw [hlen]; exact hw) ?_ (by rw [hlen]; exact hz)
    rw [hlen]
    have fr := I.hok.fresh (Nat.le_refl s.heap.objs.size)
    refine ⟨.ref s.heap.objs.size, _, I.laid (t' := s.toks) (o := .frz _ (.tup (cutV xs lo hi))) (fun b ob q => Heap.get?_push_of_some _ q) (Nat.le_refl _) ⟨Heap.get?_push_size _ rfl, Nat.le_trans (cutV_length xs lo hi) hz, _, (r.drop (HT.sIx xs.length 0 lo)).take (HT.sIx xs.length xs.length hi - HT.sIx xs.length 0 lo), IsTup.new _ _⟩, rfl, go _ _ (pl_new rfl fr).1 (pl_new rfl fr).2⟩
end
end Rp

set_option maxHeartbeats 8000000
/-! comes_of; the law's own look; a saying's own BINDING. -/
namespace Rp
open PySem PySem.Spec PyProof.Rows L2 TL NdefX LamX StX PpSet
def Comes (s o : Sy) (bd : Bd) : Prop := (bd.map (·.1)).Pairwise (· < ·) ∧ (∀ k, k ∈ bd.map (·.1) ↔ k ∈ syNums o) ∧ atPut bd o.gl = s.gl ∧ ∀ h ∈ o.hs, atPut bd h ∈ s.hs
theorem eqv_intsA : ∀ {a b : List Int}, PyData.eqvAll (a.map PyData.int) (b.map PyData.int) = decide (a = b)
  | [], [] => by simp only [List.map_nil, PyData.eqvAll]; rfl
  | [], b :: bs => by simp only [List.map_nil, List.map_cons, PyData.eqvAll]; rfl
  | a :: as, [] => by simp only [List.map_nil, List.map_cons, PyData.eqvAll]; rfl
  | a :: as, b :: bs => by
    rw [List.map_cons, List.map_cons, eqvAll_cons, eqv_int, eqv_intsA]
    by_cases h : a = b
    · subst h; simp
    · simp [h]
theorem eqv_ints {a b : List Int} : PyData.eqv (.list (a.map PyData.int)) (.list (b.map PyData.int)) = decide (a = b) := by
  rw [← eqv_intsA]; simp only [PyData.eqv]
theorem eqv_atD {a b : At} : PyData.eqv (atD a) (atD b) = decide (a = b) := by
  rw [Bool.eq_iff_iff, eqv_at, decide_eq_true_iff]
theorem ats_shapedT {as : List At} (h : ∀ a ∈ as, AtOk 50 a) : SeqAt.shaped (.tuple (as.map atD)) = true := by
  have z := ats_lay h
  refine shaped_of ?_ ?_
  · show PyData.canLayAll0 _ = true
    exact z.1
  · show PyData.depthAll _ + 1 ≤ 64
    omega
theorem paired_get {α β : Type} {R : α → β → Prop} : ∀ {l : List α} {m : List β} {i : Nat} {x : α}, Paired R l m → l[i]? = some x → ∃ y, m[i]? = some y ∧ R x y
  | _, _, i, x, .nil, h => by simp at h
  | _, _, 0, x, .cons (b := b) h _, e => ⟨b, rfl, by simp at e; subst e; exact h⟩
  | _, _, i + 1, x, .cons _ t, e => by simpa using paired_get t (by simpa using e)
theorem unlG_mem : ∀ {as acc : List At} {x : At}, x ∈ acc ∨ x ∈ as → x ∈ unlG acc as
  | [], acc, x, h => by rcases h with h | h; exact h; simp at h
  | a :: as, acc, x, h => by
    have e : unlG acc (a :: as) = unlG (if a ∈ acc then acc else acc ++ [a]) as := rfl
    rw [e]
    refine unlG_mem ?_
    rcases h with h | h
    · left; split
      · exact h
      · exact List.mem_append_left _ h
    · rcases List.mem_cons.mp h with rfl | h
      · left; split
        · assumption
        · simp
      · exact .inr h
theorem unl_mem {as : List At} {x : At} : x ∈ unl as ↔ x ∈ as := ⟨mem_unl, fun h => unlG_mem (.inr h)⟩
/-- a BINDING's pairs, in the heap -/
theorem bd_pair {H : Hp} {ps : List Addr} {bd : Bd} (P : Paired (PrAt H) ps bd) {i : Nat} {x : V} (h : (ps.map V.ref)[i]? = some x) : ∃ (p : Addr) (n : Int) (t : Tm) (y : V), x = .ref p ∧ bd[i]? = some (n, t) ∧ H p = some (.tup [.int n, y]) ∧ TmAt H y t := by
  rw [List.getElem?_map] at h
  cases e : ps[i]? with
  | none => rw [e] at h; cases h
  | some p =>
    rw [e] at h
    obtain ⟨⟨n, t⟩, e2, y, h1, h2⟩ := paired_get P e
    exact ⟨p, n, t, y, by simpa using h.symm, e2, h1, h2⟩
def spComes (T : List NTab) : Sp := fun vs H Q _ => ∃ (v vo : V) (a : Addr) (s o : Sy) (bd : Bd), vs = [v, vo, .ref a] ∧ SyAt H v s ∧ SyOk s ∧ SyAt H vo o ∧ SyOk o ∧ (∀ a ∈ o.hs, AtOk 7 a) ∧ AtOk 7 o.gl ∧ BdAt H a bd ∧ BdF bd ∧ TabsN T H ∧
  ∀ (r : Bool) (H' : Hp), (r = true ↔ Comes s o bd) → Ext T H H' → Q (.bl r) H'
def spLComes : Sp := fun vs H Q _ => ∃ (v vo : V) (a : Addr) (s o : Sy) (bd : Bd), vs = [v, vo, .ref a] ∧ SyAt H v s ∧ SyOk s ∧ SyAt H vo o ∧ SyOk o ∧ (∀ a ∈ o.hs, AtOk 7 a) ∧ AtOk 7 o.gl ∧ BdAt H a bd ∧ BdF bd ∧
  ∀ (r : Bool) (H' : Hp), (r = true ↔ Comes s o bd) → Same H H' → Q (.bl r) H'
abbrev NCo : List Str := ["saying", "other", "binding", "put_hyps", "put_goal", "hyps", "goal", "variable", "_", "hyp"]
abbrev NLC : List Str := ["_law_saying_here", "_law_other", "_law_binding", "_law_puts", "_law_pair", "_law_hyp"]
def teIn (K : PySem.W.Frag) : TE := tOp (rInT K) (tVar 9) (tVar 5)
def teInL (K : PySem.W.Frag) : TE := tOp (rInT K) (tCall (spLPutD 9) [] E0 (tCons (tVar 5) (tCons (tVar 3) tNil))) (tOp (rIxT K) (tVar 0) (tC (.int 0)))
section
variable {P : Program} {w : World} {K : PySem.W.Frag} {mg : Str → Option Value} {base : Heap}
end
end Rp

/-! Texts of TERMs, and the fold that makes them. -/
namespace Rp
open PySem PySem.Spec PyProof.Rows L2
namespace Tm
/-- a sign with the texts of its parts -/
def put1 : Tm → List Str → Str
  | v n, _ => "x" ++ (Str.ofString (toString n))
  | z, _ => "0"
  | s _, ys => "s" ++ "(" ++ Txt.join "," ys ++ ")"
  | f _ _, ys => "f" ++ "(" ++ Txt.join "," ys ++ ")"
def txt : Tm → Str
  | v n => put1 (v n) []
  | z => put1 z []
  | s t => put1 (s t) [t.txt]
  | f l r => put1 (f l r) [l.txt, r.txt]
theorem txt_kids (t : Tm) : t.txt = t.put1 (t.kids.map txt) := by cases t <;> rfl
end Tm
theorem num_len {n : Int} (h : 0 ≤ n ∧ n ≤ 99) : (Str.ofString (toString n)).length ≤ 3 := by
  rw [PySem.ofString_length]
  exact int_text_length_le10 (k := 2) (by decide) (by omega)
theorem txt_len : ∀ t : Tm, t.small → t.txt.length ≤ 4 * t.size
  | .v n, h => by
    have := num_len (h n (by simp [Tm.nums]))
    show (("x" : Str) ++ (Str.ofString (toString n))).length ≤ 4
    rw [slen]
    have : ("x" : Str).length = 1 := by decide +kernel
    omega
  | .z, _ => by decide +kernel
  | .s t, h => by
    have := txt_len t h
    show (("s" : Str) ++ "(" ++ Txt.join "," [t.txt] ++ ")").length ≤ 4 * (t.size + 1)
    rw [join1, slen, slen, slen]
    have a : ("s" : Str).length = 1 := by decide +kernel
    have b : ("(" : Str).length = 1 := by decide +kernel
    have c : (")" : Str).length = 1 := by decide +kernel
    omega
  | .f l r, h => by
    have := txt_len l fun n hn => h n (by simp [Tm.nums, hn])
    have := txt_len r fun n hn => h n (by simp [Tm.nums, hn])
    show (("f" : Str) ++ "(" ++ Txt.join "," [l.txt, r.txt] ++ ")").length ≤ 4 * (l.size + r.size + 1)
    rw [join2, slen, slen, slen, slen, slen]
    have a : ("f" : Str).length = 1 := by decide +kernel
    have b : ("(" : Str).length = 1 := by decide +kernel
    have c : (")" : Str).length = 1 := by decide +kernel
    have d : ("," : Str).length = 1 := by decide +kernel
    omega
/-! ### the stack -/
def spTextOf (K : PySem.W.Frag) : Sp := fun vs H Q _ => ∃ (v : V) (t : Tm) (a : Addr), vs = [v, .ref a] ∧ TmAt H v t ∧ t.small ∧ t.size ≤ 1000 ∧ H a = some (.lst ((t.kids.map Tm.txt).map V.str)) ∧ Q (.str t.txt) H
def spFold (fO : Addr) : Sp := fun vs H Q _ => ∃ (v : V) (t : Tm), vs = [v, .ref fO] ∧ TmAt H v t ∧ t.small ∧ t.size ≤ 1000 ∧ ∀ H', Same H H' → Q (.str t.txt) H'
def spTermText : Sp := fun vs H Q _ => ∃ (v : V) (t : Tm), vs = [v] ∧ TmAt H v t ∧ t.small ∧ t.size ≤ 1000 ∧ ∀ H', Same H H' → Q (.str t.txt) H'
section
variable {P : Program} {w : World} {K : PySem.W.Frag} {mg : Str → Option Value} {base : Heap}
theorem scTextOf : FnScope ["part", "texts", "inner"] ["part", "texts"] (defScope sTextOf) := ⟨rfl, rfl, rfl, by decide +kernel, rfl, by decide +kernel, by decide +kernel⟩
theorem ok_textof {f : Addr} {fd : FuncData} (F : Fun K "_text_of" "_text_of" sTextOf f fd) (mIsi : mg "isinstance" = none) (mInt : mg "int" = none) : FnOk P w K mg base CX0 1 f fd ["part", "texts"] (spTextOf K) := by
  refine F.ok scTextOf (fun vs H Q E h => ?_) (fun cdv A outer s H vs Q E hr h => ?_)
  · obtain ⟨v, t, a, rfl, _⟩ := h
    rfl
  obtain ⟨v, t, a, rfl, T, sm, sz, ha, q⟩ := h
  refine ⟨_, pss_cons (ps_if (pt_val (pe_callB (id := "isinstance") call_isi (by rfl) mIsi (by decide +kernel) (pa_cons (pv 0) (pa_cons (pe_bltn (v := .ty "int") (by rfl) mInt (by decide +kernel) rfl) pa_nil)))) (pss_one (ps_ret (pe_joined (.cons pe_str (.cons (pe_fmt (pv 0)) .nil))))) pss_nil)
    (pss_cons (ps_if (pt_not (pt_truth (pv 1) (by intro _; rfl))) (pss_one (ps_ret (pe_ix ix_tup (pv 0) pe_int (fun _ _ => rfl)))) pss_nil)
    (pss_cons (ps_set (i := 2) scTextOf.nd rfl (Or.inl rfl) (pe_bm PySem.F.plainAttrs_str PySem.F.slot_str_join PySem.F.type_str_join mt_join pe_str (pa_cons (pv 1) pa_nil)))
    (pss_one (ps_ret (pe_joined (.cons (pe_fmt (pe_ix ix_tup (pv 0) pe_int (fun _ _ => rfl))) (.cons pe_str (.cons (pe_fmt (pv 2)) (.cons pe_str .nil))))))))), ?_⟩
  have tl := txt_len t sm
  have big : (10000 : Nat) ≤ sizeLine := by decide
  rcases T.ty (K := K) with ⟨m, rfl, rfl⟩ | ⟨b, xs, rfl, hb, ty, no⟩
  · refine ⟨_, rfl, _, _, _, _, true, rfl, .ty "int", .base (.int m), kit_ii, true, rfl, iteT ?_⟩
    have hm := sm m (by simp [Tm.nums])
    refine ⟨_, rfl, ?_, _, rfl, .inr ⟨m, rfl, ?_, ?_⟩⟩
    · rw [Str.empty_append]; exact Nat.le_trans (by decide +kernel : ("x" : Str).length ≤ 10) (by decide)
    · have := Nat.log2_le_self m.natAbs
      omega
    · refine ⟨_, rfl, ?_, ?_⟩
      · rw [Str.empty_append, slen]
        have := num_len hm
        have : ("x" : Str).length = 1 := by decide +kernel
        exact Nat.le_trans (by omega : _ ≤ 10) (by decide)
      · rw [Str.empty_append]
        exact q
  · obtain ⟨a', ks, e, ha', hk, hks⟩ := T.tupled no
    cases e
    refine ⟨_, rfl, _, _, _, _, false, rfl, .ty "int", ty, kit_ti, false, rfl, iteF ?_⟩
    refine ⟨_, rfl, _, .inl ⟨_, .inl (.inl ha), rfl⟩, ?_⟩
    have lim : ∀ x : Str, x.length ≤ 10000 → x.length ≤ sizeLine := fun x h => Nat.le_trans h big
    have l1 : ("s" : Str).length = 1 := by decide +kernel
    have l2 : ("f" : Str).length = 1 := by decide +kernel
    have l3 : ("(" : Str).length = 1 := by decide +kernel
    have l4 : (")" : Str).length = 1 := by decide +kernel
    have l5 : ("," : Str).length = 1 := by decide +kernel
    cases t with
    | v n => exact absurd rfl (no n)
    | z =>
      refine iteT ⟨_, rfl, _, _, _, _, rfl, rfl, .inl (.inl ha'), at_of (j := 0) rfl rfl, q⟩
    | s t =>
      have tz : (Txt.join "," [t.txt]).length ≤ 9000 := by
        rw [join1]; have := txt_len t sm; simp only [Tm.size] at sz; omega
      refine iteF ⟨rfl, _, rfl, _, a, [t.txt], rfl, rfl, .inl (.inl (.inl ha)), ?_, ?_⟩
      · simp only [List.map_cons, List.map_nil, List.sum_cons, List.sum_nil, List.length_cons, List.length_nil]
        have := txt_len t sm; simp only [Tm.size] at sz; omega
      refine ⟨_, rfl, _, _, _, _, rfl, rfl, .inl (.inl ha'), at_of (j := 0) rfl rfl, .inl ⟨_, rfl, lim _ ?_, _, rfl, lim _ ?_, _, rfl, lim _ ?_, _, rfl, .inl ⟨_, rfl, lim _ ?_, _, rfl, lim _ ?_, _, rfl, lim _ ?_, ?_⟩⟩⟩
      · show ("s" : Str).length ≤ _; omega
      · show (Str.empty ++ ("s" : Str)).length ≤ _; rw [Str.empty_append]; omega
      · show (Str.empty ++ ("s" : Str) ++ "(").length ≤ _; rw [Str.empty_append, slen]; omega
      · omega
      · show (Str.empty ++ ("s" : Str) ++ "(" ++ Txt.join "," [t.txt]).length ≤ _; rw [Str.empty_append, slen, slen]; omega
      · show (Str.empty ++ ("s" : Str) ++ "(" ++ Txt.join "," [t.txt] ++ ")").length ≤ _; rw [Str.empty_append, slen, slen, slen]; omega
      · show Q (.str (Str.empty ++ ("s" : Str) ++ "(" ++ Txt.join "," [t.txt] ++ ")")) H; rw [Str.empty_append]; exact q
    | f l r =>
      have tz : (Txt.join "," [l.txt, r.txt]).length ≤ 9000 := by
        rw [join2, slen, slen]; have := txt_len l (fun n hn => sm n (by simp [Tm.nums, hn])); have := txt_len r (fun n hn => sm n (by simp [Tm.nums, hn])); simp only [Tm.size] at sz; omega
      refine iteF ⟨rfl, _, rfl, _, a, [l.txt, r.txt], rfl, rfl, .inl (.inl (.inl ha)), ?_, ?_⟩
      · simp only [List.map_cons, List.map_nil, List.sum_cons, List.sum_nil, List.length_cons, List.length_nil]
        have := txt_len l (fun n hn => sm n (by simp [Tm.nums, hn])); have := txt_len r (fun n hn => sm n (by simp [Tm.nums, hn])); simp only [Tm.size] at sz; omega
      refine ⟨_, rfl, _, _, _, _, rfl, rfl, .inl (.inl ha'), at_of (j := 0) rfl rfl, .inl ⟨_, rfl, lim _ ?_, _, rfl, lim _ ?_, _, rfl, lim _ ?_, _, rfl, .inl ⟨_, rfl, lim _ ?_, _, rfl, lim _ ?_, _, rfl, lim _ ?_, ?_⟩⟩⟩
      · show ("f" : Str).length ≤ _; omega
      · show (Str.empty ++ ("f" : Str)).length ≤ _; rw [Str.empty_append]; omega
      · show (Str.empty ++ ("f" : Str) ++ "(").length ≤ _; rw [Str.empty_append, slen]; omega
      · omega
      · show (Str.empty ++ ("f" : Str) ++ "(" ++ Txt.join "," [l.txt, r.txt]).length ≤ _; rw [Str.empty_append, slen, slen]; omega
      · show (Str.empty ++ ("f" : Str) ++ "(" ++ Txt.join "," [l.txt, r.txt] ++ ")").length ≤ _; rw [Str.empty_append, slen, slen, slen]; omega
      · show Q (.str (Str.empty ++ ("f" : Str) ++ "(" ++ Txt.join "," [l.txt, r.txt] ++ ")")) H; rw [Str.empty_append]; exact q
end
end Rp

namespace Rp
open PySem PySem.Spec PyProof.Rows L2
section
variable {P : Program} {w : World} {K : PySem.W.Frag} {mg : Str → Option Value} {base : Heap}
theorem ok_fold {f fI fP fO : Addr} {fd dI dP dO : FuncData} (F : Fun K "fold" "fold" sFold f fd)
    (GI : FnOk P w K mg base CX0 2 fI dI ["term"] spInside) (kI : PySem.W.keepIn K (.ref fI) = true) (bI : Binds K dI ["term"] []) (mI : mg "inside_out" = some (.ref fI))
    (GP : FnOk P w K mg base CX0 1 fP dP ["term"] spParts) (kP : PySem.W.keepIn K (.ref fP) = true) (bP : Binds K dP ["term"] []) (mP : mg "_parts" = some (.ref fP))
    (GO : FnOk P w K mg base CX0 1 fO dO ["part", "texts"] (spTextOf K)) (kO : PySem.W.keepIn K (.ref fO) = true) (bO : Binds K dO ["part", "texts"] []) (mLen : mg "len" = none) :
    FnOk P w K mg base CX0 3 f fd ["term", "made_of"] (spFold fO) := by
  refine F.ok scFold (fun vs H Q E h => ?_) (fun cdv A outer s H vs Q E hr h => ?_)
  · obtain ⟨v, t, rfl, _⟩ := h
    rfl
  obtain ⟨v, t, rfl, T, sm, sz, q⟩ := h
  have r1 : Room 1 _ := hr.mono (by decide)
  refine ⟨_, pss_cons (ps_set (i := 2) scFold.nd rfl (Or.inl rfl) (pe_lst pa_nil))
    (pss_cons (ps_for PassesOwn.never rfl (pi_list (pe_call GI hr rfl mI kI bI .nil pass0 (pa_cons (pv 0) pa_nil))) (pg_name (i := 3) scFold.nd rfl (Or.inl rfl))
      (pss_cons (ps_set (i := 4) scFold.nd rfl (Or.inl rfl) (pe_op op_sub (pe_callB call_len_seq (by rfl) mLen PySem.boot_len (pa_cons (pv 2) pa_nil)) (pe_callB call_len_seq (by rfl) mLen PySem.boot_len (pa_cons (pe_call GP r1 rfl mP kP bP .nil pass0 (pa_cons (pv 3) pa_nil)) pa_nil))))
      (pss_one (ps_tail (pv 2) (po_some (pv 4)) (pe_lst (pa_cons (pe_callL (i := 1) GO r1 rfl (Or.inl rfl) kO bO .nil pass0 (pa_cons (pv 3) (pa_cons (pe_slice sl_list (pv 2) (po_some (pv 4)) po_none) pa_nil))) pa_nil))))))
    (pss_one (ps_ret (pe_ix ix_list (pv 2) pe_int (fun _ _ => rfl))))), ?_⟩
  refine ⟨(by show 0 ≤ sizeLine; decide), fun m hm => ?_⟩
  have s0 := same_new hm (.lst ([] : List V))
  refine ⟨_, rfl, v, t, rfl, T.same s0, sz, fun p xs H1 hp h1 A1 s1 => ?_⟩
  have hm1 := s1 _ _ (upd_same : (upd H m (.lst ([] : List V))) m = some (.lst []))
  have pm : p ≠ m := (ne_of_none (upd_same : (upd H m (.lst ([] : List V))) m = some (.lst [])) hp).symm
  have len := A1.len
  rw [List.length_reverse, Tm.rpost_len] at len
  have post : t.rpost.reverse.length = t.size := by rw [List.length_reverse, Tm.rpost_len]
  have big : (10000 : Nat) ≤ sizeLine := by decide
  refine ⟨p, rfl, ⟨_, .inl (.inl h1)⟩, for_list (K := K) (a := p) (xs := xs) (fun i σ H2 => ∃ (S : List Tm) (x3 x4 : Option V), σ = [some v, some (.ref fO), some (.ref m), x3, x4] ∧ H2 m = some (.lst ((S.map Tm.txt).map V.str)) ∧
      runs S (t.rpost.reverse.drop i) [t] ∧ (∀ k ∈ S, k ∈ t.rpost) ∧ S.length ≤ i ∧ But m H1 H2) ⟨[], none, none, rfl, hm1, ?_, by simp, by simp, But.refl _ _⟩ (fun i σ H2 _ ⟨_, _, _, _, _, _, _, _, o⟩ => .inl (.inl (o _ _ h1 pm))) ?_ ?_⟩
  · have := runs_post t [] [] [t] rfl
    simpa using this
  · rintro i x σ H2 hi ⟨S, x3, x4, rfl, h2, run, parts, sl, o2⟩
    obtain ⟨k, hk, Tk⟩ := A1.get hi
    have li : i < t.rpost.reverse.length := (List.getElem?_eq_some_iff.mp hk).1
    have ek : t.rpost.reverse.drop i = k :: t.rpost.reverse.drop (i + 1) := by
      rw [List.drop_eq_getElem_cons li, (List.getElem?_eq_some_iff.mp hk).2]
    rw [ek] at run
    obtain ⟨S0, rfl, run⟩ := run
    have km : k ∈ t.rpost := List.mem_reverse.mp (List.mem_of_getElem? hk)
    have pk := part_of km
    have smk : k.small := fun n hn => sm n (pk.2 n hn)
    have T2 := Tk.but o2 hm1
    rw [List.length_append] at sl
    refine ⟨_, rfl, m, _, rfl, .inl (.inl (.inl h2)), _, rfl, x, k, rfl, T2, fun g ks H3 hg h3 A3 s3 => ?_⟩
    have kl := A3.len
    refine ⟨g, _, rfl, .inr (.inl (.inl h3)), _, _, rfl, rfl, ?_⟩
    have h23 := s3 _ _ h2
    have first : (((((S0 ++ k.kids).map Tm.txt).map V.str).length : Nat) : Int) - ((ks.length : Nat) : Int) = ((S0.length : Nat) : Int) := by
      rw [List.length_map, List.length_map, List.length_append, kl]; omega
    refine ⟨rfl, _, rfl, _, rfl, _, rfl, _, rfl, m, _, rfl, .inl (.inl h23), fun d hd => ?_⟩
    have dm : d ≠ m := (ne_of_none h23 hd).symm
    rw [cut_from (i := S0.length) first]
    have cut : (((S0 ++ k.kids).map Tm.txt).map V.str).drop S0.length = (k.kids.map Tm.txt).map V.str := by
      rw [List.map_append, List.map_append, List.drop_left' (by rw [List.length_map, List.length_map])]
    rw [cut]
    have s4 := same_new hd (.lst ((k.kids.map Tm.txt).map V.str))
    refine ⟨x, k, d, rfl, (T2.same s3).same s4, smk, by omega, upd_same, ?_⟩
    refine ⟨(by show 1 ≤ sizeLine; decide), fun b hb => ?_⟩
    have s5 := same_new hb (.lst [V.str k.txt])
    have h25 := s5 _ _ (s4 _ _ h23)
    refine ⟨_, rfl, _, rfl, _, rfl, m, b, _, _, S0.length, rfl, rfl, congrArg some first, h25, upd_same, ne_of_none (s4 _ _ h23) hb, ?_, ?_, ?_⟩
    · rw [List.length_map, List.length_map, List.length_append]; omega
    · rw [List.length_map, List.length_map, List.length_append, List.length_singleton]; omega
    · refine ⟨S0 ++ [k], _, _, rfl, ?_, run, ?_, ?_, ?_⟩
      · rw [upd_same, List.map_append, List.map_append, List.take_left' (by rw [List.length_map, List.length_map]), List.map_append, List.map_append]
        rfl
      · intro k' hk'
        rcases List.mem_append.mp hk' with z | z
        · exact parts k' (by simp [z])
        · simp at z; subst z; exact km
      · rw [List.length_append, List.length_singleton]
        have := List.length_append (as := S0) (bs := k.kids)
        omega
      · intro c o' z nc
        rw [upd_ne nc]
        exact s5 _ _ (s4 _ _ (s3 _ _ (o2 _ _ z nc)))
  · rintro σ H2 ⟨S, x3, x4, rfl, h2, run, parts, sl, o2⟩
    rw [List.drop_of_length_le (by omega)] at run
    obtain rfl : S = [t] := run
    refine ⟨_, rfl, m, _, _, _, rfl, rfl, .inl (.inl h2), at_of (j := 0) rfl rfl, q H2 ?_⟩
    exact fun c o z => o2 c o (s1 _ _ (s0 _ _ z)) (ne_of_none z hm)
theorem scTermText : FnScope ["term"] ["term"] (defScope sTermText) := ⟨rfl, rfl, rfl, by decide +kernel, rfl, by decide +kernel, by decide +kernel⟩
theorem ok_termtext {f fF fO : Addr} {fd dF : FuncData} (F : Fun K "term_text" "term_text" sTermText f fd)
    (GF : FnOk P w K mg base CX0 3 fF dF ["term", "made_of"] (spFold fO)) (kF : PySem.W.keepIn K (.ref fF) = true) (bF : Binds K dF ["term", "made_of"] []) (mF : mg "fold" = some (.ref fF)) (mO : mg "_text_of" = some (.ref fO)) :
    FnOk P w K mg base CX0 4 f fd ["term"] spTermText := by
  refine F.ok scTermText (fun vs H Q E h => ?_) (fun cdv A outer s H vs Q E hr h => ?_)
  · obtain ⟨v, t, rfl, _⟩ := h
    rfl
  obtain ⟨v, t, rfl, T, sm, sz, q⟩ := h
  refine ⟨_, pss_one (ps_ret (pe_call GF hr rfl mF kF bF .nil pass0 (pa_cons (pv 0) (pa_cons (pe_glob (v := .ref fO) rfl mO rfl) pa_nil)))), ?_⟩
  exact ⟨_, rfl, v, t, rfl, T, sm, sz, q⟩
end
end Rp

/-! A TERM's text, its brackets and commas blanked, cut at the blanks: its signs, ahead of their parts. -/
namespace Rp
open PySem PySem.Spec PyProof.Rows L2 TL
def blank1 (c d : Nat) : Nat := if d = c then 32 else d
theorem spl_ne (S : List Nat) : ∀ (k : Nat) (acc l : List Nat), spl S k acc l ≠ []
  | 0, acc, [] => by rw [spl_nil]; simp
  | k + 1, acc, [] => by rw [spl_nil]; simp
  | k + 1, acc, _ :: r => by show spl S k acc r ≠ []; exact spl_ne S k acc r
  | 0, acc, c :: r => by
    by_cases h : pre S (c :: r) = true
    · rw [spl_hit h]; simp
    · rw [spl_miss (by simpa using h)]; exact spl_ne S 0 _ r
theorem join_spl (c : Nat) : ∀ (l acc : List Nat), joinL [32] (spl [c] 0 acc l) = acc ++ l.map (blank1 c)
  | [], acc => by rw [spl_nil]; simp [joinL]
  | d :: r, acc => by
    by_cases h : d = c
    · have hp : pre [c] (d :: r) = true := by simp [pre, h]
      rw [spl_hit hp]
      have ih := join_spl c r []
      have ne := spl_ne [c] 0 [] r
      show joinL [32] (acc :: spl [c] 0 [] r) = _
      cases e : spl [c] 0 [] r with
      | nil => exact absurd e ne
      | cons q rest =>
        rw [e] at ih
        show acc ++ ([32] ++ joinL [32] (q :: rest)) = _
        rw [ih]
        simp [blank1, h]
    · have hp : pre [c] (d :: r) = false := by simp [pre, h]
      rw [spl_miss hp, join_spl c r]
      simp [blank1, h]
theorem repl_tl (x : Str) {c : Nat} (hc : c < 256) : tl (Txt.replace x ⟨#[c]⟩ ⟨#[32]⟩) = (tl x).map (blank1 c) := by
  rw [PySem.StrLaws.replace_one, tl_join, split_spl x ⟨#[c]⟩ (by show [c] ≠ []; simp) ?_]
  · show joinL [32] (spl [c] 0 [] (tl x)) = _
    rw [join_spl]
    simp
  · exact kind_ok (by simp [hc])
namespace Tm
def sgn : Tm → List Str
  | v n => ["x" ++ Str.ofString (toString n)]
  | z => ["0"]
  | s t => "s" :: t.sgn
  | f l r => "f" :: (l.sgn ++ r.sgn)
theorem sgn_len : ∀ t : Tm, t.sgn.length = t.size
  | v _ => rfl | z => rfl | s t => by simp [sgn, size, sgn_len t]
  | f l r => by simp [sgn, size, sgn_len l, sgn_len r]
end Tm
def b3 (d : Nat) : Nat := blank1 44 (blank1 41 (blank1 40 d))
theorem b3_same {d : Nat} (h : d ≠ 40 ∧ d ≠ 41 ∧ d ≠ 44) : b3 d = d := by
  unfold b3 blank1
  rw [if_neg h.1, if_neg h.2.1, if_neg h.2.2]
theorem b3_num {l : List Nat} (h : ∀ d ∈ l, 48 ≤ d ∧ d ≤ 57) : l.map b3 = l := by
  have : l.map b3 = l.map id := List.map_congr_left fun d hd => b3_same (by have := h d hd; omega)
  rw [this, List.map_id]
theorem numL_small (n : Nat) : ∀ d ∈ numL n, 48 ≤ d ∧ d ≤ 57 := fun d hd => numL_digits n d hd
def spc (t : Tm) : List Nat := (tl t.txt).map b3
theorem t_x : tl ("x" : Str) = [120] := by decide +kernel
theorem t_0 : tl ("0" : Str) = [48] := by decide +kernel
theorem t_s : tl ("s" : Str) = [115] := by decide +kernel
theorem t_f : tl ("f" : Str) = [102] := by decide +kernel
theorem t_open : tl ("(" : Str) = [40] := by decide +kernel
theorem t_close : tl (")" : Str) = [41] := by decide +kernel
theorem t_comma : tl ("," : Str) = [44] := by decide +kernel
theorem tl_int {n : Int} (h : 0 ≤ n) : tl (Str.ofString (toString n)) = numL n.toNat := by
  obtain ⟨k, rfl⟩ := Int.eq_ofNat_of_zero_le h
  rw [tl_num]
  rfl
theorem spc_v {n : Int} (h : 0 ≤ n) : spc (.v n) = 120 :: numL n.toNat := by
  show (tl (("x" : Str) ++ Str.ofString (toString n))).map b3 = _
  rw [tl_append, t_x, tl_int h, List.map_append, b3_num (numL_small _)]
  rfl
theorem spc_z : spc .z = [48] := by decide +kernel
theorem spc_s (t : Tm) : spc (.s t) = 115 :: 32 :: (spc t ++ [32]) := by
  show (tl (("s" : Str) ++ "(" ++ Txt.join "," [t.txt] ++ ")")).map b3 = _
  rw [join1, tl_append, tl_append, tl_append, t_s, t_open, t_close, List.map_append, List.map_append]
  rfl
theorem spc_f (l r : Tm) : spc (.f l r) = 102 :: 32 :: (spc l ++ 32 :: (spc r ++ [32])) := by
  show (tl (("f" : Str) ++ "(" ++ Txt.join "," [l.txt, r.txt] ++ ")")).map b3 = _
  rw [join2, tl_append, tl_append, tl_append, tl_append, tl_append, t_f, t_open, t_close, t_comma]
  simp only [List.map_append]
  show [102] ++ [32] ++ (spc l ++ [32] ++ spc r) ++ [32] = _
  simp
theorem space32 : Unicode.isSpace 32 = true := by decide +kernel
theorem nosp {d : Nat} (h : (48 ≤ d ∧ d ≤ 57) ∨ d = 115 ∨ d = 102 ∨ d = 120) : Unicode.isSpace d = false := by
  have all : ∀ k : Fin 128, ((48 ≤ k.val ∧ k.val ≤ 57) ∨ k.val = 115 ∨ k.val = 102 ∨ k.val = 120) → Unicode.isSpace k.val = false := by decide +kernel
  exact all ⟨d, by omega⟩ h
theorem word_step {p : List Nat} (hp : p ≠ []) (h : ∀ c ∈ p, Unicode.isSpace c = false) (ws : List (List Nat)) (rest : List Nat) : (p ++ 32 :: rest).foldl wstep (ws, []) = rest.foldl wstep (ws ++ [p], []) := by
  rw [List.foldl_append, wfold_word p ws [] h, List.nil_append, List.foldl_cons]
  have : wstep (ws, p) 32 = (ws ++ [p], []) := by unfold wstep; rw [if_pos space32]; exact if_neg hp
  rw [this]
theorem gap_step (ws : List (List Nat)) (rest : List Nat) : (32 :: rest).foldl wstep (ws, []) = rest.foldl wstep (ws, []) := by
  rw [List.foldl_cons]
  have : wstep (ws, []) 32 = (ws, []) := by unfold wstep; rw [if_pos space32]; exact if_pos rfl
  rw [this]
theorem fold_spc : ∀ (t : Tm) (_ : t.small) (ws : List (List Nat)) (rest : List Nat), (spc t ++ 32 :: rest).foldl wstep (ws, []) = rest.foldl wstep (ws ++ t.sgn.map tl, [])
  | .v n, h, ws, rest => by
    have h0 := (h n (by simp [Tm.nums])).1
    rw [spc_v h0, word_step (by simp) ?_]
    · show _ = List.foldl wstep (ws ++ [tl (("x" : Str) ++ Str.ofString (toString n))], []) rest
      rw [tl_append, t_x, tl_int h0]
      rfl
    · intro c hc
      rcases List.mem_cons.mp hc with rfl | hc
      · exact nosp (.inr (.inr (.inr rfl)))
      · exact nosp (.inl (numL_small _ c hc))
  | .z, h, ws, rest => by
    rw [spc_z, word_step (by simp) ?_]
    · show _ = List.foldl wstep (ws ++ [tl ("0" : Str)], []) rest
      rw [t_0]
    · intro c hc
      simp at hc
      exact nosp (.inl (by omega))
  | .s t, h, ws, rest => by
    rw [spc_s]
    show ([115] ++ 32 :: ((spc t ++ [32]) ++ 32 :: rest)).foldl wstep (ws, []) = _
    rw [word_step (by simp) (by intro c hc; simp at hc; exact nosp (.inr (.inl hc)))]
    rw [show (spc t ++ [32]) ++ 32 :: rest = spc t ++ 32 :: (32 :: rest) by simp, fold_spc t h, gap_step]
    simp [Tm.sgn, t_s]
  | .f l r, h, ws, rest => by
    rw [spc_f]
    show ([102] ++ 32 :: ((spc l ++ 32 :: (spc r ++ [32])) ++ 32 :: rest)).foldl wstep (ws, []) = _
    rw [word_step (by simp) (by intro c hc; simp at hc; exact nosp (.inr (.inr (.inl hc))))]
    rw [show (spc l ++ 32 :: (spc r ++ [32])) ++ 32 :: rest = spc l ++ 32 :: (spc r ++ 32 :: (32 :: rest)) by simp,
      fold_spc l (fun n hn => h n (by simp [Tm.nums, hn])), fold_spc r (fun n hn => h n (by simp [Tm.nums, hn])), gap_step]
    simp [Tm.sgn, t_f]
theorem wfin_gap (st : List (List Nat) × List Nat) : wfin (wstep st 32) = wfin st := by
  unfold wstep wfin
  rw [if_pos space32]
  by_cases h : st.2 = []
  · rw [if_pos h, if_pos h]
  · rw [if_neg h, if_neg h]
    simp
/-- the text with brackets and commas blanked -/
def blanked (x : Str) : Str := Txt.replace (Txt.replace (Txt.replace x "(" " ") ")" " ") "," " "
theorem blanked_tl (x : Str) : tl (blanked x) = (tl x).map b3 := by
  have e32 : (" " : Str) = ⟨#[32]⟩ := by decide +kernel
  have e40 : ("(" : Str) = ⟨#[40]⟩ := by decide +kernel
  have e41 : (")" : Str) = ⟨#[41]⟩ := by decide +kernel
  have e44 : ("," : Str) = ⟨#[44]⟩ := by decide +kernel
  unfold blanked
  rw [e32, e40, e41, e44, repl_tl _ (by decide), repl_tl _ (by decide), repl_tl _ (by decide), List.map_map, List.map_map]
  rfl
theorem words_txt (t : Tm) (h : t.small) : Txt.words (blanked t.txt) = t.sgn := by
  refine map_tl_inj ?_
  rw [words_tl, blanked_tl]
  show wfin ((spc t).foldl wstep ([], [])) = _
  rw [← wfin_gap]
  have : wstep ((spc t).foldl wstep ([], [])) 32 = (spc t ++ 32 :: []).foldl wstep ([], []) := by rw [List.foldl_append]; rfl
  rw [this, fold_spc t h]
  simp [wfin]
theorem blanked_len (x : Str) : (blanked x).length = x.length := by
  rw [len_tl, len_tl, blanked_tl, List.length_map]
end Rp

namespace Rp
open PySem PySem.Spec PyProof.Rows L2 TL
/-- the sign of a variable -/
def xn (n : Int) : Str := "x" ++ Str.ofString (toString n)
theorem xn_facts {n : Int} (h : 0 ≤ n ∧ n ≤ 99) : cutS (xn n) none (some 1) = "x" ∧ (xn n).length ≤ 3 ∧ cutS (xn n) (some 1) none = Str.ofString (toString n) ∧ Txt.isdecimal (Str.ofString (toString n)) = true ∧ intText? (Str.ofString (toString n)) = some n ∧
    xn n ≠ "0" ∧ xn n ≠ "s" ∧ xn n ≠ "f" := by
  have all : ∀ k : Fin 100, cutS (xn (k.val : Int)) none (some 1) = "x" ∧ (xn (k.val : Int)).length ≤ 3 ∧ cutS (xn (k.val : Int)) (some 1) none = Str.ofString (toString (k.val : Int)) ∧ Txt.isdecimal (Str.ofString (toString (k.val : Int))) = true ∧
    xn (k.val : Int) ≠ "0" ∧ xn (k.val : Int) ≠ "s" ∧ xn (k.val : Int) ≠ "f" := by decide +kernel
  obtain ⟨k, rfl⟩ := Int.eq_ofNat_of_zero_le h.1
  obtain ⟨a, b, c, d, e, f, g⟩ := all ⟨k, by omega⟩
  exact ⟨a, b, c, d, int_num (Nat.le_trans (numL_len (k := 2) (by decide) (by omega)) (by decide)), e, f, g⟩
def spNumberOf : Sp := fun vs H Q _ => ∃ n : Int, vs = [.str (xn n)] ∧ 0 ≤ n ∧ n ≤ 99 ∧ Q (.int n) H
section
variable {P : Program} {w : World} {K : PySem.W.Frag} {mg : Str → Option Value} {base : Heap}
end
end Rp

namespace Rp
open PySem PySem.Spec PyProof.Rows L2 TL
namespace Tm
/-- the parts, each ahead of its own -/
def ahead : Tm → List Tm
  | v n => [v n] | z => [z] | s t => s t :: t.ahead | f l r => f l r :: (l.ahead ++ r.ahead)
def sign1 : Tm → Str
  | v n => xn n | z => "0" | s _ => "s" | f _ _ => "f"
theorem sgn_ahead : ∀ t : Tm, t.sgn = t.ahead.map sign1
  | v n => rfl | z => rfl | s t => by simp [sgn, ahead, sign1, sgn_ahead t]
  | f l r => by simp [sgn, ahead, sign1, sgn_ahead l, sgn_ahead r]
theorem ahead_len : ∀ t : Tm, t.ahead.length = t.size
  | v _ => rfl | z => rfl | s t => by simp [ahead, size, ahead_len t]
  | f l r => by simp [ahead, size, ahead_len l, ahead_len r]
end Tm
theorem ahead_small : ∀ {t k : Tm}, k ∈ t.ahead → t.small → k.small
  | .v n, k, h, s => by simp [Tm.ahead] at h; subst h; exact s
  | .z, k, h, s => by simp [Tm.ahead] at h; subst h; exact s
  | .s t, k, h, s => by
    simp [Tm.ahead] at h
    rcases h with rfl | h
    · exact s
    · exact ahead_small (t := t) h s
  | .f l r, k, h, s => by
    simp [Tm.ahead] at h
    rcases h with rfl | h | h
    · exact s
    · exact ahead_small (t := l) h fun n hn => s n (by simp [Tm.nums, hn])
    · exact ahead_small (t := r) h fun n hn => s n (by simp [Tm.nums, hn])
def runsR : List Tm → List Tm → List Tm → Prop
  | S, [], S' => S = S'
  | S, k :: r, S' => ∃ S0, S = S0 ++ k.kids.reverse ∧ runsR (S0 ++ [k]) r S'
theorem runsR_post : ∀ (t : Tm) (S r S' : List Tm), runsR (S ++ [t]) r S' → runsR S (t.ahead.reverse ++ r) S'
  | .v n, S, r, S', h => by simp only [Tm.ahead, List.reverse_singleton, List.singleton_append]; exact ⟨S, by simp [Tm.kids], h⟩
  | .z, S, r, S', h => by simp only [Tm.ahead, List.reverse_singleton, List.singleton_append]; exact ⟨S, by simp [Tm.kids], h⟩
  | .s t, S, r, S', h => by
    simp only [Tm.ahead, List.reverse_cons, List.append_assoc, List.singleton_append]
    exact runsR_post t S _ _ ⟨S, by simp [Tm.kids], h⟩
  | .f l r', S, r, S', h => by
    simp only [Tm.ahead, List.reverse_cons, List.reverse_append, List.append_assoc, List.singleton_append]
    exact runsR_post r' S _ _ (runsR_post l (S ++ [r']) _ _ ⟨S, by simp [Tm.kids], h⟩)
def spFromSigns : Sp := fun vs H Q _ => ∃ (p : Addr) (t : Tm), vs = [.ref p] ∧ H p = some (.lst (t.sgn.map V.str)) ∧ t.small ∧ t.size ≤ 1000 ∧ ∀ (v : V) (H' : Hp), TmAt H' v t → Same H H' → Q v H'
theorem str_ne {x y : Str} (h : x ≠ y) : decide (V.str x = V.str y) = false := decide_eq_false fun z => h (V.str.inj z)
section
variable {P : Program} {w : World} {K : PySem.W.Frag} {mg : Str → Option Value} {base : Heap}
end
end Rp

namespace Rp
open PySem PySem.Spec PyProof.Rows L2 TL CwR
section
variable {X : Cx} {o e : Expr} {to te : TE}
/-- words of what wants a token -/
theorem pet_words {apos pos : Pos} (ho : PET X o to) (hbase : attributeBase o "split" X.env (eval o X.env) = eval o X.env := by rfl) (hline : (apos.endLine == pos.line) = true := by rfl) :
    PET X (.Call (.Attribute o "split" apos) [] [] pos) (tM0 (fun x xs H Q => ∃ a, x = .str a ∧ xs = [] ∧ a.length + 2 ≤ sizeLine ∧ rNewStrs (Txt.words a) H Q) to) := by
  intro pins s σ H Q tk I h
  refine PySem.Call_method0 hbase hline (thn (ho pins s σ H _ tk I h) fun recv s1 ⟨x, H1, I1, rel, told, go⟩ => ?_)
  obtain ⟨text, rfl⟩ := told
  obtain ⟨tok, rfl⟩ := _root_.id rel
  exact ⟨"str", _, PySem.F.plainAttrs_str, PySem.F.slot_str_split, PySem.F.type_str_split, typeIs_str _ _ _, (fun _ z => nomatch z), Calls.callWith_builtin rfl (PySem.evalArgs_none (mt_words pins s1 σ H1 _ [] _ [] Q I1 rel .nil go))⟩
/-- name = e, e wants a token -/
theorem pst_set {i : Nat} {x : Str} {pos pos' : Pos} (hN : X.N.Nodup) (hi : X.N[i]? = some x) (hx : Loc X.env.scope x) (he : PET X e te) (hs : swapsWith e (some (.Name x pos')) pos.line X.env = pure false := by rfl)
    (hf : X.fn x = true ∨ X.env.scope.names.lookup x = some .local := by first | exact .inl rfl | exact .inr rfl | assumption) : PST X (.Assign [.Name x pos'] e pos) (tAsg te (gName i)) := by
  intro pins s σ H D tk I h
  refine wpAny_Assign_Name (thn (he pins s σ H _ tk I h) fun u s1 ⟨y, H1, I1, rel, go⟩ => store_ok I1 hN hi hx rel (fun s2 I2 => ⟨_, H1, I2, go⟩) hf) hs
end
def spTermOr : Sp := fun vs H Q _ => ∃ t : Tm, vs = [.str t.txt] ∧ t.small ∧ t.size ≤ 200 ∧ ∀ (v : V) (H' : Hp), TmAt H' v t → Same H H' → Q v H'
section
variable {P : Program} {w : World} {K : PySem.W.Frag} {mg : Str → Option Value} {base : Heap}
end
end Rp

/-! BINDINGs. -/
namespace Rp
open PySem PySem.Spec PyProof.Rows L2 TL
abbrev Prs := List (Int × Tm)
/-- pairs stand as the values xs -/
def PrsAt (H : Hp) : List V → Prs → Prop
  | [], [] => True
  | x :: xs, (n, t) :: ps => (∃ (b : Addr) (y : V), x = .ref b ∧ H b = some (.tup [.int n, y]) ∧ TmAt H y t) ∧ PrsAt H xs ps
  | _, _ => False
theorem PrsAt.len {H : Hp} : ∀ {xs : List V} {ps : Prs}, PrsAt H xs ps → xs.length = ps.length
  | [], [], _ => rfl
  | _ :: _, _ :: _, h => congrArg (· + 1) (PrsAt.len h.2)
theorem PrsAt.mono {H H' : Hp} (e : ∀ a xs, H a = some (.tup xs) → H' a = some (.tup xs)) : ∀ {xs : List V} {ps : Prs}, PrsAt H xs ps → PrsAt H' xs ps
  | [], [], _ => trivial
  | _ :: _, _ :: _, h => ⟨let ⟨b, y, e1, e2, e3⟩ := h.1; ⟨b, y, e1, e _ _ e2, e3.mono e⟩, PrsAt.mono e h.2⟩
theorem PrsAt.append {H : Hp} : ∀ {xs ys : List V} {ps qs : Prs}, PrsAt H xs ps → PrsAt H ys qs → PrsAt H (xs ++ ys) (ps ++ qs)
  | [], _, [], _, _, h => h
  | _ :: _, _, _ :: _, _, h, h' => ⟨h.1, PrsAt.append h.2 h'⟩
theorem PrsAt.get {H : Hp} : ∀ {xs : List V} {ps : Prs} {i : Nat} {x : V}, PrsAt H xs ps → xs[i]? = some x → ∃ p, ps[i]? = some p ∧ ∃ (b : Addr) (y : V), x = .ref b ∧ H b = some (.tup [.int p.1, y]) ∧ TmAt H y p.2
  | _ :: _, (n, t) :: _, 0, _, h, e => by simp at e; subst e; exact ⟨(n, t), rfl, h.1⟩
  | _ :: _, _ :: _, _ + 1, _, h, e => by simpa using PrsAt.get h.2 (by simpa using e)
/-- a BINDING stands as v -/
def BiAt (H : Hp) (v : V) (ps : Prs) : Prop := ∃ (a : Addr) (xs : List V), v = .ref a ∧ TupAt H a xs ∧ PrsAt H xs ps
structure PrOk (ps : Prs) : Prop where
  num : ∀ p ∈ ps, 0 ≤ p.1 ∧ p.1 ≤ 99
  sm : ∀ p ∈ ps, p.2.small
  sz : ∀ p ∈ ps, p.2.size ≤ 40
  up : (ps.map (·.1)).Pairwise (· < ·)
  few : ps.length ≤ 100
def row (p : Int × Tm) : Str := xn p.1 ++ "=" ++ p.2.txt
def btxt (ps : Prs) : Str := if ps = [] then "-" else Txt.join " " (ps.map row)
theorem t_eq : tl ("=" : Str) = [61] := by decide +kernel
theorem t_sp : tl (" " : Str) = [32] := by decide +kernel
theorem txt_signs : ∀ (t : Tm), t.small → ∀ d ∈ tl t.txt, 40 ≤ d ∧ d ≠ 61
  | .v n, h, d, hd => by
    have hd : d ∈ tl (("x" : Str) ++ Str.ofString (toString n)) := hd
    rw [tl_append, t_x, tl_int (h n (by simp [Tm.nums])).1] at hd
    rcases List.mem_append.mp hd with hd | hd
    · simp at hd; omega
    · have := numL_small _ d hd; omega
  | .z, h, d, hd => by
    have hd : d ∈ tl ("0" : Str) := hd
    rw [t_0] at hd; simp at hd; omega
  | .s t, h, d, hd => by
    have hd : d ∈ tl (("s" : Str) ++ "(" ++ Txt.join "," [t.txt] ++ ")") := hd
    rw [join1, tl_append, tl_append, tl_append, t_s, t_open, t_close] at hd
    simp only [List.mem_append, List.mem_singleton] at hd
    rcases hd with ((hd | hd) | hd) | hd
    · omega
    · omega
    · exact txt_signs t h d hd
    · omega
  | .f l r, h, d, hd => by
    have hd : d ∈ tl (("f" : Str) ++ "(" ++ Txt.join "," [l.txt, r.txt] ++ ")") := hd
    rw [join2, tl_append, tl_append, tl_append, tl_append, tl_append, t_f, t_open, t_close, t_comma] at hd
    simp only [List.mem_append, List.mem_singleton] at hd
    rcases hd with ((hd | hd) | (hd | hd) | hd) | hd
    · omega
    · omega
    · exact txt_signs l (fun n hn => h n (by simp [Tm.nums, hn])) d hd
    · omega
    · exact txt_signs r (fun n hn => h n (by simp [Tm.nums, hn])) d hd
    · omega
theorem xn_signs {n : Int} (h : 0 ≤ n) : tl (xn n) = 120 :: numL n.toNat := by
  unfold xn
  rw [tl_append, t_x, tl_int h]
  rfl
theorem xn_free {n : Int} (h : 0 ≤ n) : 61 ∉ tl (xn n) ∧ 32 ∉ tl (xn n) := by
  rw [xn_signs h]
  constructor
  · intro hd
    rcases List.mem_cons.mp hd with hd | hd
    · omega
    · have := numL_small _ _ hd; omega
  · intro hd
    rcases List.mem_cons.mp hd with hd | hd
    · omega
    · have := numL_small _ _ hd; omega
theorem row_free {p : Int × Tm} (h : 0 ≤ p.1) (h' : p.2.small) : 32 ∉ tl (row p) := by
  unfold row
  rw [tl_append, tl_append, t_eq]
  intro hd
  rcases List.mem_append.mp hd with hd | hd
  · rcases List.mem_append.mp hd with hd | hd
    · exact (xn_free h).2 hd
    · simp at hd
  · have := txt_signs _ h' _ hd; omega
theorem row_parts {p : Int × Tm} (h : 0 ≤ p.1) : Txt.partition (row p) "=" = (xn p.1, ("=" : Str), p.2.txt) := partition_app t_eq (xn_free h).1
theorem rows_split {ps : Prs} (ok : PrOk ps) (ne : ps ≠ []) : Txt.split (Txt.join " " (ps.map row)) " " = ps.map row := by
  refine split_join t_sp (by decide +kernel) (by simpa using ne) fun p hp => ?_
  obtain ⟨q, hq, rfl⟩ := List.mem_map.mp hp
  exact row_free (ok.num q hq).1 (ok.sm q hq)
theorem rows_ne {ps : Prs} (ok : PrOk ps) (ne : ps ≠ []) : Txt.join " " (ps.map row) ≠ "-" := by
  intro e
  have e2 := rows_split ok ne
  rw [e] at e2
  have e3 : Txt.split "-" " " = [("-" : Str)] := by decide +kernel
  rw [e3] at e2
  match ps, ne with
  | [p], _ =>
    simp at e2
    have e4 := congrArg tl e2
    unfold row at e4
    rw [tl_append, tl_append, xn_signs (ok.num p (by simp)).1] at e4
    have e5 : tl ("-" : Str) = [45] := by decide +kernel
    rw [e5] at e4
    simp at e4
  | p :: q :: r, _ => simp at e2
theorem row_len {p : Int × Tm} (h : 0 ≤ p.1 ∧ p.1 ≤ 99) (h' : p.2.small) (hz : p.2.size ≤ 100) : (row p).length ≤ 410 := by
  have a := (xn_facts h).2.1
  have b := txt_len _ h'
  have c : ("=" : Str).length = 1 := by decide +kernel
  unfold row
  rw [slen, slen]
  omega
theorem rows_len : ∀ {ps : Prs}, (∀ p ∈ ps, (row p).length ≤ 410) → ((ps.map row).map (·.length)).sum ≤ 410 * ps.length
  | [], _ => by simp
  | p :: ps, h => by
    have := rows_len (ps := ps) fun q hq => h q (by simp [hq])
    have := h p (by simp)
    simp only [List.map_cons, List.sum_cons, List.length_cons]
    omega
end Rp

set_option maxHeartbeats 8000000
namespace Rp
open PySem PySem.Spec PyProof.Rows L2 TL RZ
theorem rows_pos {ps : Prs} (ok : PrOk ps) (ne : ps ≠ []) : (Txt.join " " (ps.map row)).length ≠ 0 := by
  intro h0
  have e2 := rows_split ok ne
  have e3 : Txt.join " " (ps.map row) = Str.empty := by
    have := (len0_tl _).mp h0
    exact ext_tl this
  rw [e3] at e2
  have e4 : Txt.split Str.empty " " = [Str.empty] := by decide +kernel
  rw [e4] at e2
  match ps, ne with
  | [p], _ =>
    simp at e2
    have e5 := congrArg tl e2
    unfold row at e5
    rw [tl_append, tl_append, xn_signs (ok.num p (by simp)).1] at e5
    have e6 : tl Str.empty = [] := rfl
    rw [e6] at e5
    simp at e5
  | p :: p' :: r, _ => simp at e2
def spBText : Sp := fun vs H Q _ => ∃ (v : V) (ps : Prs), vs = [v] ∧ BiAt H v ps ∧ PrOk ps ∧ ∀ H', Same H H' → Q (.str (btxt ps)) H'
def spPairIn : Sp := fun vs H Q _ => ∃ p : Int × Tm, vs = [.str (row p)] ∧ (0 ≤ p.1 ∧ p.1 ≤ 99) ∧ p.2.small ∧ p.2.size ≤ 40 ∧ ∀ (b : Addr) (y : V) (H' : Hp), H' b = some (.tup [.int p.1, y]) → TmAt H' y p.2 → Same H H' → Q (.ref b) H'
def spBOr : Sp := fun vs H Q _ => ∃ ps : Prs, vs = [.str (btxt ps)] ∧ PrOk ps ∧ ∀ (v : V) (H' : Hp), BiAt H' v ps → Same H H' → Q v H'
def spIsPair : Sp := fun vs H Q _ => ∃ (b : Addr) (y : V) (p : Int × Tm), vs = [.ref b] ∧ H b = some (.tup [.int p.1, y]) ∧ TmAt H y p.2 ∧ (0 ≤ p.1 ∧ p.1 ≤ 99) ∧ p.2.small ∧ p.2.size ≤ 40 ∧ ∀ H', Same H H' → Q (.bl true) H'
def spIsBi : Sp := fun vs H Q _ => ∃ (v : V) (ps : Prs), vs = [v] ∧ BiAt H v ps ∧ PrOk ps ∧ ∀ H', Same H H' → Q (.bl true) H'
section
variable {P : Program} {w : World} {K : PySem.W.Frag} {mg : Str → Option Value} {base : Heap}
def teRow : TE := fun σ H Q => tJs [tC (.str "x"), tFmt (tVar 1), tC (.str "="), tFmt (tCall spTermText [] E0 (tCons (tVar 2) tNil))] Str.empty σ H fun out H1 => Q (.str out) H1
theorem scBText : FnScope ["binding", "variable", "term"] ["binding"] (defScope sBindingText) := ⟨rfl, rfl, rfl, by decide +kernel, rfl, by decide +kernel, by decide +kernel⟩
theorem ok_btext {f fT : Addr} {fd dT : FuncData} (F : Fun K "binding_text" "binding_text" sBindingText f fd)
    (GT : FnOk P w K mg base CX0 4 fT dT ["term"] spTermText) (kT : PySem.W.keepIn K (.ref fT) = true) (bT : Binds K dT ["term"] []) (mT : mg "term_text" = some (.ref fT)) : FnOk P w K mg base CX0 5 f fd ["binding"] spBText := by
  refine F.ok scBText (fun vs H Q E h => ?_) (fun cdv A outer s H vs Q E hr h => ?_)
  · obtain ⟨v, ps, rfl, _⟩ := h
    rfl
  obtain ⟨v, ps, rfl, ⟨a, xs, rfl, ha, Pa⟩, ok, q⟩ := h
  refine ⟨_, pss_one (ps_ret (pe_orT (pe_bm PySem.F.plainAttrs_str PySem.F.slot_str_join PySem.F.type_str_join mt_join pe_str (pa_cons
      (pe_lc (own := [("variable", 1), ("term", 2)]) (g := gTup K 2 (gCons (gName 1) (gCons (gName 2) gNil))) (tt := tYes) (te := teRow) rfl scBText.nd
        (pi_tup (pv 0)) (blkOk_by (N := ["binding", "variable", "term"]) (sc := defScope sBindingText) (by decide +kernel))
        (fun _ _ _ _ _ => pg_tup (by rfl) (pgs_cons (pg_name (i := 1) scBText.nd rfl (Or.inl rfl)) (pgs_cons (pg_name (i := 2) scBText.nd rfl (Or.inl rfl)) pgs_nil)))
        (fun _ _ _ _ _ => pts_nil) (fun _ _ _ _ _ => pe_joined (.cons pe_str (.cons (pe_fmt (pv 1)) (.cons pe_str (.cons (pe_fmt (pe_call GT hr (by rfl) mT kT bT .nil pass0 (pa_cons (pv 2) pa_nil))) .nil)))))) pa_nil)) (pe_one pe_str))), ?_⟩
  have big : (1000000 : Nat) ≤ sizeLine := by decide
  have len := Pa.len
  refine ⟨rfl, _, rfl, a, rfl, ⟨_, .inl ha⟩, fun D hD => lc_tup (K := K) (a := a) (xs := xs) (fun i H2 => H2 D = some (.lst (((ps.take i).map row).map V.str)) ∧ Same H H2) ⟨upd_same, same_new hD _⟩ (fun i H2 _ h => .inl (ha.same h.2)) ?_ ?_⟩
  · rintro i x H2 hi ⟨h2, s2⟩
    obtain ⟨p, hp, b, y, rfl, hb, T⟩ := Pa.get hi
    have pm : p ∈ ps := List.mem_of_getElem? hp
    have np := ok.num p pm
    have sp_ := ok.sm p pm
    have zp := ok.sz p pm
    have nl := num_len np
    have tl1 := txt_len _ sp_
    have lx : ("x" : Str).length = 1 := by decide +kernel
    have le : ("=" : Str).length = 1 := by decide +kernel
    have li : i < ps.length := (List.getElem?_eq_some_iff.mp hp).1
    have few := ok.few
    refine ⟨b, _, rfl, .inl (.inl (s2 _ _ hb)), rfl, _, _, rfl, _, _, rfl, rfl, rfl, ?_⟩
    unfold teRow
    refine ⟨_, rfl, ?_, _, rfl, .inr ⟨p.1, rfl, ?_, _, rfl, ?_, _, rfl, ?_, _, rfl, y, p.2, rfl, T.same s2, sp_, by omega, fun H3 s3 => .inl ⟨_, rfl, by omega, _, rfl, ?_, _, s3 _ _ h2, ?_, ?_, ?_⟩⟩⟩
    · rw [Str.empty_append]; omega
    · have := Nat.log2_le_self p.1.natAbs; omega
    · rw [Str.empty_append, slen]; show _ + (Str.ofString (toString p.1)).length ≤ _; omega
    · rw [Str.empty_append, slen, slen]; show _ + (Str.ofString (toString p.1)).length + _ ≤ _; omega
    · rw [Str.empty_append, slen, slen, slen]; show _ + (Str.ofString (toString p.1)).length + _ + _ ≤ _; omega
    · rw [List.length_map, List.length_map, List.length_take]; omega
    · have tk : ps.take (i + 1) = ps.take i ++ [p] := by rw [List.take_add_one, hp]; rfl
      rw [upd_same, tk, List.map_append, List.map_append, Str.empty_append]
      rfl
    · intro c o z
      have nD : c ≠ D := ne_of_none z hD
      rw [upd_ne nD]
      exact s3 _ _ (s2 _ _ z)
  · rintro H2 ⟨h2, s2⟩
    rw [len, List.take_of_length_le (Nat.le_refl _)] at h2
    have few := ok.few
    have rl := rows_len (ps := ps) fun p hp => row_len (ok.num p hp) (ok.sm p hp) (by have := ok.sz p hp; omega)
    have l1 : (" " : Str).length = 1 := by decide +kernel
    have tot : ((ps.map row).map (·.length)).sum + (ps.map row).length * (" " : Str).length ≤ 100000 := by rw [l1, List.length_map]; omega
    refine ⟨_, D, ps.map row, rfl, rfl, .inl (.inl (.inl h2)), by omega, ?_⟩
    have jl := StrLaws.join_length_le " " (ps.map row)
    rw [← join_eq] at jl
    refine ⟨_, ⟨by omega, rfl⟩, ?_⟩
    have qq := q H2 s2
    unfold btxt at qq
    by_cases e : ps = []
    · subst e
      rw [if_pos rfl] at qq
      exact iteF qq
    · rw [if_neg e] at qq
      have nz : (((Txt.join " " (ps.map row)).length : Int) != 0) = true := by
        have := rows_pos ok e
        simp
        omega
      rw [nz]
      exact iteT qq
end
end Rp

set_option maxHeartbeats 16000000
/-! Texts of TERMs and BINDINGs: unlike things, unlike texts; the law's own words. -/
namespace Rp
open PySem PySem.Spec PyProof.Rows L2 TL StX
theorem xn_inj {n m : Int} (h : 0 ≤ n ∧ n ≤ 99) (h' : 0 ≤ m ∧ m ≤ 99) (e : xn n = xn m) : n = m := by
  obtain ⟨_, _, a, _, b, _⟩ := xn_facts h
  obtain ⟨_, _, a', _, b', _⟩ := xn_facts h'
  rw [e, a'] at a
  rw [← a, b'] at b
  exact (Option.some.inj b).symm
theorem sgn_inj : ∀ {a b : Tm} {r r' : List Str}, a.small → b.small → a.sgn ++ r = b.sgn ++ r' → a = b ∧ r = r'
  | a, b, r, r', ha, hb, e => by
    have n0s : ("0" : Str) ≠ "s" := by decide +kernel
    have n0f : ("0" : Str) ≠ "f" := by decide +kernel
    have nsf : ("s" : Str) ≠ "f" := by decide +kernel
    cases a with
    | v n =>
      have hn := ha n (by simp [Tm.nums])
      obtain ⟨_, _, _, _, _, g0, gs, gf⟩ := xn_facts hn
      cases b with
      | v m =>
        have hm := hb m (by simp [Tm.nums])
        have e : xn n :: r = xn m :: r' := e
        injection e with e1 e2
        rw [xn_inj hn hm e1]
        exact ⟨rfl, e2⟩
      | z => have e : xn n :: r = ("0" : Str) :: r' := e; injection e with e1; exact absurd e1 g0
      | s t => have e : xn n :: r = ("s" : Str) :: (t.sgn ++ r') := e; injection e with e1; exact absurd e1 gs
      | f l q => have e : xn n :: r = ("f" : Str) :: (l.sgn ++ q.sgn ++ r') := e; injection e with e1; exact absurd e1 gf
    | z =>
      cases b with
      | v m =>
        obtain ⟨_, _, _, _, _, g0, gs, gf⟩ := xn_facts (hb m (by simp [Tm.nums]))
        have e : ("0" : Str) :: r = xn m :: r' := e
        injection e with e1; exact absurd e1.symm g0
      | z => have e : ("0" : Str) :: r = ("0" : Str) :: r' := e; injection e with _ e2; exact ⟨rfl, e2⟩
      | s t => have e : ("0" : Str) :: r = ("s" : Str) :: (t.sgn ++ r') := e; injection e with e1; exact absurd e1 n0s
      | f l q => have e : ("0" : Str) :: r = ("f" : Str) :: (l.sgn ++ q.sgn ++ r') := e; injection e with e1; exact absurd e1 n0f
    | s t =>
      cases b with
      | v m =>
        obtain ⟨_, _, _, _, _, g0, gs, gf⟩ := xn_facts (hb m (by simp [Tm.nums]))
        have e : ("s" : Str) :: (t.sgn ++ r) = xn m :: r' := e
        injection e with e1; exact absurd e1.symm gs
      | z => have e : ("s" : Str) :: (t.sgn ++ r) = ("0" : Str) :: r' := e; injection e with e1; exact absurd e1.symm n0s
      | s t' =>
        have e : ("s" : Str) :: (t.sgn ++ r) = ("s" : Str) :: (t'.sgn ++ r') := e
        injection e with _ e2
        obtain ⟨h1, h2⟩ := sgn_inj (a := t) (b := t') ha hb e2
        exact ⟨by rw [h1], h2⟩
      | f l q => have e : ("s" : Str) :: (t.sgn ++ r) = ("f" : Str) :: (l.sgn ++ q.sgn ++ r') := e; injection e with e1; exact absurd e1 nsf
    | f l q =>
      cases b with
      | v m =>
        obtain ⟨_, _, _, _, _, g0, gs, gf⟩ := xn_facts (hb m (by simp [Tm.nums]))
        have e : ("f" : Str) :: (l.sgn ++ q.sgn ++ r) = xn m :: r' := e
        injection e with e1; exact absurd e1.symm gf
      | z => have e : ("f" : Str) :: (l.sgn ++ q.sgn ++ r) = ("0" : Str) :: r' := e; injection e with e1; exact absurd e1.symm n0f
      | s t => have e : ("f" : Str) :: (l.sgn ++ q.sgn ++ r) = ("s" : Str) :: (t.sgn ++ r') := e; injection e with e1; exact absurd e1.symm nsf
      | f l' q' =>
        have e : ("f" : Str) :: (l.sgn ++ q.sgn ++ r) = ("f" : Str) :: (l'.sgn ++ q'.sgn ++ r') := e
        injection e with _ e2
        rw [List.append_assoc, List.append_assoc] at e2
        obtain ⟨h1, h2⟩ := sgn_inj (a := l) (b := l') (fun n hn => ha n (by simp [Tm.nums, hn])) (fun n hn => hb n (by simp [Tm.nums, hn])) e2
        obtain ⟨h3, h4⟩ := sgn_inj (a := q) (b := q') (fun n hn => ha n (by simp [Tm.nums, hn])) (fun n hn => hb n (by simp [Tm.nums, hn])) h2
        exact ⟨by rw [h1, h3], h4⟩
theorem txt_inj {a b : Tm} (ha : a.small) (hb : b.small) (e : a.txt = b.txt) : a = b := by
  have h1 := words_txt a ha
  have h2 := words_txt b hb
  rw [e, h2] at h1
  exact (sgn_inj (r := []) (r' := []) ha hb (by rw [h1])).1
def spLText (n : Nat) : Sp := fun vs H Q _ => ∃ (v : V) (t : Tm), vs = [v] ∧ TmAt H v t ∧ t.small ∧ t.size ≤ 1000 ∧ t.deep < n ∧ ∀ H', Same H H' → Q (.str t.txt) H'
theorem kid_nums {t k : Tm} (h : k ∈ t.kids) : ∀ n ∈ k.nums, n ∈ t.nums := by
  cases t with
  | v n => simp [Tm.kids] at h
  | z => simp [Tm.kids] at h
  | s t => simp [Tm.kids] at h; subst h; exact fun n hn => hn
  | f l r =>
    simp [Tm.kids] at h
    rcases h with rfl | rfl
    · exact fun n hn => List.mem_append.mpr (.inl hn)
    · exact fun n hn => List.mem_append.mpr (.inr hn)
section
variable {P : Program} {w : World} {K : PySem.W.Frag} {mg : Str → Option Value} {base : Heap}
theorem str_ne0 {a : Str} (h : 1 ≤ a.length) : a ≠ ("" : Str) := by
  rintro rfl
  have : ("" : Str).length = 0 := by decide +kernel
  omega
theorem txt_pos (t : Tm) : 1 ≤ t.txt.length := by
  have e := Tm.txt_kids t
  cases t with
  | v n =>
    show 1 ≤ (("x" : Str) ++ Str.ofString (toString n)).length
    rw [slen]
    have : ("x" : Str).length = 1 := by decide +kernel
    omega
  | z => show 1 ≤ ("0" : Str).length; decide +kernel
  | s t =>
    have e : (Tm.s t).txt = ("s" : Str) ++ "(" ++ Txt.join "," [t.txt] ++ ")" := e
    rw [e, slen, slen, slen]
    have : ("s" : Str).length = 1 := by decide +kernel
    omega
  | f l r =>
    have e : (Tm.f l r).txt = ("f" : Str) ++ "(" ++ Txt.join "," [l.txt, r.txt] ++ ")" := e
    rw [e, slen, slen, slen]
    have : ("f" : Str).length = 1 := by decide +kernel
    omega
theorem scLText : FnScope ["_law_term_here", "_law_parts_here", "_law_part"] ["_law_term_here"] (defScope sText) := ⟨rfl, rfl, rfl, by decide +kernel, rfl, by decide +kernel, by decide +kernel⟩
theorem ok_ltext {n : Nat} {f : Addr} {fd : FuncData} (F : Fun K "_law_term_words" "_law_term_words" sText f fd) (b1 : Binds K fd ["_law_term_here"] []) (mF : mg "_law_term_words" = some (.ref f)) (G : FnOk P w K mg base CX0 n f fd ["_law_term_here"] (spLText n)) (M : SameG mg) :
    FnOk P w K mg base CX0 (n + 1) f fd ["_law_term_here"] (spLText (n + 1)) := by
  refine F.ok scLText (fun vs H Q E h => ?_) (fun cdv A outer s H vs Q E hr h => ?_)
  · obtain ⟨v, t, rfl, _⟩ := h
    rfl
  obtain ⟨v, t, rfl, T, sm, sz, dp, q⟩ := h
  refine ⟨_, pss_cons (ps_if (pt_val (pe_callB (id := "isinstance") call_isi (by rfl) M.isi (by decide +kernel) (pa_cons (pv 0) (pa_cons (pe_bltn (v := .ty "int") (by rfl) M.int (by decide +kernel) rfl) pa_nil))))
      (pss_one (ps_ret (pe_op op_add_str pe_str (pe_callTy call_str_int (by rfl) M.str (by decide +kernel) (pa_cons (pv 0) pa_nil))))) pss_nil)
    (pss_cons (ps_set (i := 1) scLText.nd rfl (Or.inl rfl) (pe_bm PySem.F.plainAttrs_str PySem.F.slot_str_join PySem.F.type_str_join mt_join pe_str (pa_cons
      (pe_lc (own := [("_law_part", 2)]) (g := gName 2) (tt := tYes) (te := tCall (spLText n) [] E0 (tCons (tVar 2) tNil)) rfl scLText.nd (pi_tup (pe_slice sl_tup (pv 0) (po_some pe_int) po_none))
        (blkOk_by (N := ["_law_term_here", "_law_parts_here", "_law_part"]) (sc := defScope sText) (by decide +kernel)) (fun _ _ _ _ _ => pg_name (i := 2) scLText.nd rfl (Or.inl rfl))
        (fun _ _ _ _ _ => pts_nil) (fun _ _ _ _ _ => pe_call G hr (by rfl) mF F.kp b1 .nil pass0 (pa_cons (pv 2) pa_nil))) pa_nil)))
    (pss_one (ps_ret (pe_op op_add_str (pe_ix ix_tup (pv 0) pe_int (fun _ _ => rfl)) (pe_ifExp (pt_cmpR op_ne (pv 1) pe_str (nomark _)) (pe_op op_add_str (pe_op op_add_str pe_str (pv 1)) pe_str) pe_str))))), ?_⟩
  have big : (10000 : Nat) ≤ sizeLine := by decide
  have tl0 := txt_len t sm
  rcases T.ty (K := K) with ⟨m, rfl, rfl⟩ | ⟨a, xs, rfl, ha, ty, no⟩
  · have hm := sm m (by simp [Tm.nums])
    refine ⟨_, rfl, _, _, _, _, true, rfl, .ty "int", .base (.int m), kit_ii, true, rfl, iteT ?_⟩
    refine ⟨_, rfl, m, rfl, ?_, "x", _, rfl, rfl, ?_, q H (Same.refl H)⟩
    · have := Nat.log2_le_self m.natAbs; omega
    · have := num_len hm
      have : ("x" : Str).length = 1 := by decide +kernel
      show 1 + (Str.ofString (toString m)).length ≤ _
      omega
  · obtain ⟨a', ks, e, ha', hk, hks⟩ := T.tupled no
    cases e
    refine ⟨_, rfl, _, _, _, _, false, rfl, .ty "int", ty, kit_ti, false, rfl, iteF ?_⟩
    have l3 : ("(" : Str).length = 1 := by decide +kernel
    have l4 : (")" : Str).length = 1 := by decide +kernel
    have l5 : ("," : Str).length = 1 := by decide +kernel
    have kid_ok : ∀ (x : V) (i : Nat), ks[i]? = some x → ∃ k, t.kids[i]? = some k ∧ TmAt H x k ∧ k.small ∧ k.size ≤ 1000 ∧ k.deep < n := by
      intro x i hx
      have hil : i < t.kids.length := by rw [← hk]; exact (List.getElem?_eq_some_iff.mp hx).1
      have hki : t.kids[i]? = some t.kids[i] := List.getElem?_eq_getElem hil
      have mem : t.kids[i] ∈ t.kids := List.getElem_mem hil
      have d1 := kid_deep mem
      have z1 := kid_size mem
      refine ⟨_, hki, hks i x _ hx hki, ?_, by omega, by omega⟩
      exact fun k hk' => sm k (kid_nums mem k hk')
    have hl1 : (signHead t).length = 1 := by
      cases t with
      | v n => exact absurd rfl (no n)
      | z => show ("0" : Str).length = 1; decide +kernel
      | s t => show ("s" : Str).length = 1; decide +kernel
      | f l r => show ("f" : Str).length = 1; decide +kernel
    refine ⟨rfl, _, rfl, 1, rfl, a, _, rfl, .inl (.inl ha'), cut_part _ _, fun p hp => ?_⟩
    rw [cut_tail]
    have s1 := same_new hp (.tup ks)
    refine ⟨p, rfl, ⟨_, .inl (.inl upd_same)⟩, fun D hD => lc_tup (K := K) (a := p) (xs := ks) (fun i H2 => H2 D = some (.lst (((t.kids.take i).map Tm.txt).map V.str)) ∧ Same (upd H p (.tup ks)) H2) ⟨upd_same, same_new hD _⟩ (fun i H2 _ h => .inl (.inl (h.2 _ _ upd_same))) ?_ ?_⟩
    · rintro i x H2 hi ⟨h2, s2⟩
      obtain ⟨k, hki, Tk, smk, szk, dk⟩ := kid_ok x i hi
      refine ⟨rfl, ?_⟩
      refine ⟨_, rfl, x, k, rfl, (Tk.same s1).same s2, smk, szk, dk, fun H3 s3 => ⟨_, s3 _ _ h2, ?_, ?_, ?_⟩⟩
      · rw [List.length_map, List.length_map, List.length_take]
        have : t.kids.length ≤ 2 := by cases t <;> simp [Tm.kids]
        omega
      · have tk : t.kids.take (i + 1) = t.kids.take i ++ [k] := by rw [List.take_add_one, hki]; rfl
        rw [upd_same, tk, List.map_append, List.map_append]; rfl
      · intro c o z
        rw [upd_ne (ne_of_none z hD)]
        exact s3 _ _ (s2 _ _ z)
    · rintro H2 ⟨h2, s2⟩
      rw [hk, List.take_of_length_le (Nat.le_refl _)] at h2
      have sA := s1.trans s2
      have each : ∀ k ∈ t.kids, k.txt.length ≤ 4000 := fun k hk' => by
          obtain ⟨i, hi, rfl⟩ := List.getElem_of_mem hk'
          obtain ⟨k', h1, _, h3, h4, _⟩ := kid_ok (ks[i]'(by omega)) i (List.getElem?_eq_getElem (by omega))
          rw [List.getElem?_eq_getElem hi] at h1
          cases h1
          have := txt_len _ h3
          omega
      refine ⟨",", D, t.kids.map Tm.txt, rfl, rfl, .inl (.inl (.inl h2)), ?_, ?_⟩
      · rw [l5]
        match hkk : t.kids, each with
        | [], _ => simp
        | [k], each => simp; have := each k (by simp); omega
        | [k, k'], each => simp; have := each k (by simp); have := each k' (by simp); omega
        | k :: k' :: k'' :: r, _ => cases t <;> simp [Tm.kids] at hkk
      · have ha2 := sA _ _ ha'
        refine ⟨_, rfl, a, _, _, _, rfl, rfl, .inl (.inl ha2), at_of (j := 0) rfl rfl, ?_⟩
        have done := q H2 sA
        generalize hjj : Txt.join "," (t.kids.map Tm.txt) = jj
        by_cases hz : t = .z
        · subst hz
          have ej : jj = ("" : Str) := by rw [← hjj]; decide +kernel
          subst ej
          refine ⟨_, rfl, rfl, false, by show V.bl (!decide (V.str "" = V.str "")) = _; rw [decide_eq_true rfl]; rfl, iteF ?_⟩
          refine ⟨signHead .z, "", rfl, rfl, by decide +kernel, ?_⟩
          have e0 : signHead .z ++ ("" : Str) = Tm.z.txt := by decide +kernel
          rw [e0]
          exact done
        · have pt : t.txt = signHead t ++ "(" ++ jj ++ ")" := by
            rw [Tm.txt_kids t, ← hjj]
            cases t with
            | v n => exact absurd rfl (no n)
            | z => exact absurd rfl hz
            | s t => rfl
            | f l r => rfl
          have lt := congrArg Str.length pt
          rw [slen, slen, slen] at lt
          have nz : jj ≠ ("" : Str) := by
            refine str_ne0 ?_
            rw [← hjj]
            cases t with
            | v n => exact absurd rfl (no n)
            | z => exact absurd rfl hz
            | s t => show 1 ≤ (Txt.join "," [t.txt]).length; rw [join1]; exact txt_pos t
            | f l r => show 1 ≤ (Txt.join "," [l.txt, r.txt]).length; rw [join2, slen, slen]; have := txt_pos l; omega
          refine ⟨_, rfl, rfl, true, by show V.bl (!decide (V.str jj = V.str "")) = _; rw [decide_eq_false fun z => nz (V.str.inj z)]; rfl, iteT ?_⟩
          refine ⟨_, rfl, "(", jj, rfl, rfl, by omega, ?_⟩
          refine ⟨"(" ++ jj, ")", rfl, rfl, by rw [slen]; omega, ?_⟩
          refine ⟨signHead t, "(" ++ jj ++ ")", rfl, rfl, by rw [slen, slen]; omega, ?_⟩
          have ea : signHead t ++ ("(" ++ jj ++ ")") = t.txt := by
            rw [pt]
            apply ext_tl
            simp only [tl_append, List.append_assoc]
          rw [ea]
          exact done
theorem ltext_ok {f : Addr} {fd : FuncData} (F : Fun K "_law_term_words" "_law_term_words" sText f fd) (b1 : Binds K fd ["_law_term_here"] []) (mF : mg "_law_term_words" = some (.ref f)) (M : SameG mg) : ∀ n : Nat, FnOk P w K mg base CX0 n f fd ["_law_term_here"] (spLText n)
  | 0 => none_left fun vs H Q E h => by
    obtain ⟨v, t, _, _, _, _, h, _⟩ := h
    omega
  | n + 1 => ok_ltext F b1 mF (ltext_ok F b1 mF M n) M
theorem ltext5 {f : Addr} {fd : FuncData} (F : Fun K "_law_term_words" "_law_term_words" sText f fd) (b1 : Binds K fd ["_law_term_here"] []) (mF : mg "_law_term_words" = some (.ref f)) (M : SameG mg) : FnOk P w K mg base CX0 60 f fd ["_law_term_here"] (spLText 60) := ltext_ok F b1 mF M 60
end
def prD (p : Int × Tm) : PyData := .tuple [.int p.1, tmD p.2]
def biD (ps : Prs) : PyData := .tuple (ps.map prD)
theorem pr_dp {K : PySem.W.Frag} {H : Hp} : ∀ {xs : List V} {ps : Prs}, PrsAt H xs ps → DpAll K H xs (ps.map prD)
  | [], [], _ => .nil
  | _ :: _, _ :: _, ⟨⟨b, y, e, hb, T⟩, r⟩ => by
    subst e
    exact .cons (.tup (.inl (.inl hb)) (.cons (.int _) (.cons (T.dat (b := (0 : Nat))).dp .nil))) (pr_dp r)
theorem bi_dp {K : PySem.W.Frag} {H : Hp} {v : V} {ps : Prs} (h : BiAt H v ps) : Dp K H v (biD ps) := by
  obtain ⟨a, xs, rfl, h1, h2⟩ := h
  exact .tup (.inl h1) (pr_dp h2)
theorem prs_lay : ∀ {ps : Prs}, (∀ p ∈ ps, p.2.size ≤ 40) → PyData.canLayAll0 (ps.map prD) = true ∧ PyData.depthAll (ps.map prD) ≤ 43
  | [], _ => ⟨rfl, by decide⟩
  | p :: ps, h => by
    have ih := prs_lay (ps := ps) fun q hq => h q (by simp [hq])
    have z := h p (by simp)
    have dl := Tm.deep_lt p.2
    obtain ⟨c1, c2, _⟩ : (tmD p.2).canLay0 = true ∧ (tmD p.2).depth ≤ p.2.deep + 1 ∧ nd (tmD p.2) ≤ 2 * p.2.size := tm_ok p.2
    simp only [List.map_cons, PyData.canLayAll0, PyData.depthAll, prD, PyData.canLay0, PyData.depth, c1, ih.1]
    exact ⟨rfl, by omega⟩
theorem bi_lay {ps : Prs} (ok : PrOk ps) : (biD ps).canLay0 = true ∧ (biD ps).depth ≤ 44 := by
  have h := prs_lay ok.sz
  exact ⟨h.1, by show PyData.depthAll _ + 1 ≤ 44; omega⟩
theorem bi_shaped {ps : Prs} (ok : PrOk ps) : SeqAt.shaped (biD ps) = true := shaped_of (bi_lay ok).1 (by have := (bi_lay ok).2; omega)
theorem eqv_tnil {ds : List PyData} : PyData.eqv (.tuple ds) (.tuple []) = ds.isEmpty := by
  cases ds <;> simp [PyData.eqv, PyData.eqvAll]
theorem tnil_shaped : SeqAt.shaped (.tuple []) = true := shaped_of rfl (by decide)
def rStrI : List V → Hp → VK → Prop := fun xs H Q => ∃ i, xs = [.int i] ∧ i.natAbs.log2 < 1920 ∧ Q (.str (toString i)) H
theorem call_strI {X : Cx} : CallR X (.type "str") rStrI := call_str_int
def spLBind : Sp := fun vs H Q _ => ∃ (v : V) (ps : Prs), vs = [v] ∧ BiAt H v ps ∧ PrOk ps ∧ ∀ H', Same H H' → Q (.str (btxt ps)) H'
theorem ne_strD {a b : Str} (h : a ≠ b) : V.bl (!decide (V.str a = V.str b)) = V.bl true := by rw [decide_eq_false fun z => h (V.str.inj z)]; rfl
theorem eq_strD {a b : Str} (h : a = b) : V.bl (!decide (V.str a = V.str b)) = V.bl false := by rw [h, decide_eq_true rfl]; rfl
section
variable {P : Program} {w : World} {K : PySem.W.Frag} {mg : Str → Option Value} {base : Heap}
def teBW (K : PySem.W.Frag) : TE := tOp rAddS (tOp rAddS (tOp rAddS (tC (.str "x")) (tCB rStrI (tCons (tOp (rIxT K) (tVar 1) (tC (.int 0))) tNil))) (tC (.str "="))) (tCall (spLText 60) [] E0 (tCons (tOp (rIxT K) (tVar 1) (tC (.int 1))) tNil))
theorem scLBind : FnScope ["_law_binding", "_law_pair"] ["_law_binding"] (defScope sLawBT) := ⟨rfl, rfl, rfl, by decide +kernel, rfl, by decide +kernel, by decide +kernel⟩
theorem ok_lbind {f fT : Addr} {fd dT : FuncData} (F : Fun K "_law_binding_words" "_law_binding_words" sLawBT f fd)
    (GT : FnOk P w K mg base CX0 60 fT dT ["_law_term_here"] (spLText 60)) (kT : PySem.W.keepIn K (.ref fT) = true) (bT : Binds K dT ["_law_term_here"] []) (mT : mg "_law_term_words" = some (.ref fT)) (mStr : mg "str" = none) : FnOk P w K mg base CX0 61 f fd ["_law_binding"] spLBind := by
  refine F.ok scLBind (fun vs H Q E h => ?_) (fun cdv A outer s H vs Q E hr h => ?_)
  · obtain ⟨v, ps, rfl, _⟩ := h
    rfl
  obtain ⟨v, ps, rfl, ⟨a, xs, rfl, ha, Pa⟩, ok, q⟩ := h
  refine ⟨_, pss_one (ps_ret (pe_ifExp (pt_cmpR (op_neD hr.units) (pv 0) (pe_tup pa_nil) (nomark _)) (pe_bm PySem.F.plainAttrs_str PySem.F.slot_str_join PySem.F.type_str_join mt_join pe_str (pa_cons
      (pe_lc (own := [("_law_pair", 1)]) (g := gName 1) (tt := tYes) (te := teBW K) rfl scLBind.nd
        (pi_tup (pv 0)) (blkOk_by (N := ["_law_binding", "_law_pair"]) (sc := defScope sLawBT) (by decide +kernel))
        (fun _ _ _ _ _ => pg_name (i := 1) scLBind.nd rfl (Or.inl rfl))
        (fun _ _ _ _ _ => pts_nil) (fun _ _ _ _ _ => pe_op op_addS (pe_op op_addS (pe_op op_addS pe_str (pe_callTy call_strI (by rfl) mStr (by decide +kernel) (pa_cons (pe_ix ix_tup (pv 1) pe_int (fun _ _ => rfl)) pa_nil))) pe_str)
          (pe_call GT hr (by rfl) mT kT bT .nil pass0 (pa_cons (pe_ix ix_tup (pv 1) pe_int (fun _ _ => rfl)) pa_nil)))) pa_nil)) pe_str)), ?_⟩
  have big : (10000 : Nat) ≤ sizeLine := by decide
  have len := Pa.len
  have few := ok.few
  refine ⟨_, rfl, (by show 0 ≤ sizeLine; decide), fun g hg => ?_⟩
  have s0 := same_new hg (.tup ([] : List V))
  have ha0 := ha.same s0
  have Pa0 : PrsAt (upd H g (.tup [])) xs ps := Pa.mono fun a xs z => s0 _ _ z
  refine ⟨biD ps, .tuple [], bi_dp ⟨a, xs, rfl, ha0, Pa0⟩, .tup (.inl (.inl upd_same)) .nil, bi_shaped ok, tnil_shaped, !(ps.map prD).isEmpty, congrArg (fun z => V.bl (!z)) eqv_tnil, ?_⟩
  have qq : ∀ H', Same (upd H g (.tup [])) H' → Q (.str (btxt ps)) H' := fun H' s => q H' (s0.trans s)
  unfold btxt at qq
  by_cases e : ps = []
  · subst e
    rw [if_pos rfl] at qq
    exact iteF (qq _ (Same.refl _))
  · rw [if_neg e] at qq
    have ee : (!(ps.map prD).isEmpty) = true := by cases ps with
      | nil => exact absurd rfl e
      | cons _ _ => rfl
    rw [ee]
    generalize upd H g (.tup []) = H1 at ha0 Pa0 qq ⊢
    refine iteT ⟨rfl, _, rfl, a, rfl, ⟨_, .inl ha0⟩, fun D hD => lc_tup (K := K) (a := a) (xs := xs) (fun i H2 => H2 D = some (.lst (((ps.take i).map row).map V.str)) ∧ Same H1 H2) ⟨upd_same, same_new hD _⟩ (fun i H2 _ h => .inl (ha0.same h.2)) ?_ ?_⟩
    · rintro i x H2 hi ⟨h2, s2⟩
      obtain ⟨p, hp, b, y, rfl, hb, T⟩ := Pa0.get hi
      have pm : p ∈ ps := List.mem_of_getElem? hp
      have np := ok.num p pm
      have sp_ := ok.sm p pm
      have zp := ok.sz p pm
      have nl := num_len np
      have tl1 := txt_len _ sp_
      have dl := Tm.deep_lt p.2
      have lx : ("x" : Str).length = 1 := by decide +kernel
      have le : ("=" : Str).length = 1 := by decide +kernel
      have hb2 := s2 _ _ hb
      refine ⟨rfl, ?_⟩
      unfold teBW
      refine ⟨_, rfl, b, _, _, _, rfl, rfl, .inl (.inl hb2), at_of (j := 0) rfl rfl, p.1, rfl, ?_, ?_⟩
      · have := Nat.log2_le_self p.1.natAbs; omega
      refine ⟨"x", Str.ofString (toString p.1), rfl, rfl, by omega, ?_⟩
      refine ⟨_, "=", rfl, rfl, by rw [slen]; omega, ?_⟩
      refine ⟨_, rfl, b, _, _, _, rfl, rfl, .inl (.inl hb2), at_of (j := 1) rfl rfl, y, p.2, rfl, T.same s2, sp_, by omega, by omega, fun H3 s3 => ?_⟩
      refine ⟨_, _, rfl, rfl, by rw [slen, slen]; omega, _, s3 _ _ h2, ?_, ?_, ?_⟩
      · rw [List.length_map, List.length_map, List.length_take]; omega
      · have tk : ps.take (i + 1) = ps.take i ++ [p] := by rw [List.take_add_one, hp]; rfl
        rw [upd_same, tk, List.map_append, List.map_append]
        rfl
      · intro c o z
        rw [upd_ne (ne_of_none z hD)]
        exact s3 _ _ (s2 _ _ z)
    · rintro H2 ⟨h2, s2⟩
      rw [len, List.take_of_length_le (Nat.le_refl _)] at h2
      have rl := rows_len (ps := ps) fun p hp => row_len (ok.num p hp) (ok.sm p hp) (by have := ok.sz p hp; omega)
      have l1 : (" " : Str).length = 1 := by decide +kernel
      exact ⟨" ", D, ps.map row, rfl, rfl, .inl (.inl (.inl h2)), by rw [l1, List.length_map]; omega, qq _ s2⟩
end
theorem btxt_rows {ps qs : Prs} (ok : PrOk ps) (ok' : PrOk qs) (e : btxt ps = btxt qs) : ps.map row = qs.map row := by
  unfold btxt at e
  by_cases h : ps = [] <;> by_cases h' : qs = []
  · rw [h, h']
  · rw [if_pos h, if_neg h'] at e
    exact absurd e.symm (rows_ne ok' h')
  · rw [if_neg h, if_pos h'] at e
    exact absurd e (rows_ne ok h)
  · rw [if_neg h, if_neg h'] at e
    have a := rows_split ok h
    rw [e, rows_split ok' h'] at a
    exact a.symm
theorem rows_eq : ∀ {ps qs : Prs}, (∀ p ∈ ps, (0 ≤ p.1 ∧ p.1 ≤ 99) ∧ p.2.small) → (∀ p ∈ qs, (0 ≤ p.1 ∧ p.1 ≤ 99) ∧ p.2.small) → ps.map row = qs.map row → ps = qs
  | [], [], _, _, _ => rfl
  | [], _ :: _, _, _, e => by simp at e
  | _ :: _, [], _, _, e => by simp at e
  | (n, t) :: ps, (m, u) :: qs, h, h', e => by
    rw [List.map_cons, List.map_cons] at e
    injection e with e1 e2
    have a := h (n, t) (by simp)
    have b := h' (m, u) (by simp)
    have pa := row_parts (p := (n, t)) a.1.1
    have pb := row_parts (p := (m, u)) b.1.1
    rw [e1, pb] at pa
    have q1 := congrArg Prod.fst pa
    have q2 := congrArg (fun z => z.2.2) pa
    have g1 : n = m := xn_inj a.1 b.1 q1.symm
    have g2 : t = u := txt_inj a.2 b.2 q2.symm
    rw [g1, g2, rows_eq (fun p hp => h p (by simp [hp])) (fun p hp => h' p (by simp [hp])) e2]
/-- unlike BINDINGs have unlike texts -/
theorem btxt_inj {ps qs : Prs} (ok : PrOk ps) (ok' : PrOk qs) (e : btxt ps = btxt qs) : ps = qs :=
  rows_eq (fun p hp => ⟨ok.num p hp, ok.sm p hp⟩) (fun p hp => ⟨ok'.num p hp, ok'.sm p hp⟩) (btxt_rows ok ok' e)
end Rp

/-! list(zip(t, u)), t and u tuples: a list of pairs. -/
namespace Rp
open PySem PySem.Spec PyProof.Rows L2
section
variable {prog : Program} {w : World} {A : Around} {E : Value → Shared → Prop} {s : Shared}
/-- zip's next, the first tuple still out: it goes by a new one -/
theorem zh_item {z TI TO T i1 i2 a b : Addr} {f : Bool} {oT : Obj} {k : Nat} {xs ys : Array Value} {x y : Value} {Q : Option Value → Shared → Prop} (D : ZipApart z TI TO i1 i2 a b) (hz : IsZipHeld s.heap z TI TO T f) (hT : s.heap.get? T = some oT)
    (hTI : IsPair s.heap TI (.ref i1) (.ref i2)) (h1 : s.heap.IsTupleIter i1 a k) (h2 : s.heap.IsTupleIter i2 b k) (ha : s.heap.IsTuple a xs) (hb : s.heap.IsTuple b ys) (hx : xs[k]? = some x) (hy : ys[k]? = some y)
    (hQ : ∀ h', IsZipHeld h' z TI TO T true → h'.IsTupleIter i1 a (k + 1) → h'.IsTupleIter i2 b (k + 1) → IsPair h' s.heap.objs.size x y → h'.objs.size = s.heap.objs.size + 1 →
      (∀ c o, c ≠ z → c ≠ i1 → c ≠ i2 → s.heap.get? c = some o → h'.get? c = some o) → Q (some (.ref s.heap.objs.size)) { s with heap := h' }) : wpAny (model prog w) A (pyNext (.ref z)) Q E s := by
  have ty : s.TypeIs (.ref z) "zip" := ⟨_, hz, rfl⟩
  have main : wpAny (model prog w) A.in1 (Builtin.«zip.__next__» ⟨[.ref z], []⟩) (fun fin s' => ∃ v, fin = .done (.ret v) ∧ wpAny (model prog w) A (pure (some v)) Q E s') (fun e s' => False) s := by
    show wpAny _ _ (field (.ref z) 2 >>= _) _ _ _
    refine wpAny_bind (wpAny_field hz rfl (x := .bool false) rfl ?_)
    show wpAny _ _ (field (.ref z) 3 >>= _) _ _ _
    refine wpAny_bind (wpAny_field hz rfl (x := .ref TI) rfl ?_)
    refine wpAny_bind (wpAny_seqItems hTI rfl ?_)
    show wpAny _ _ (Builtin.SmallTypes.ownedTupleIsFree (.ref z) >>= _) _ _ _
    refine wpAny_bind (wpAny_tupleHeld_zip hz hT fun g1 z1 k1 => ?_)
    simp only [Bool.false_eq_true, if_false]
    refine wpAny_bind ?_
    rw [← Array.forIn_toList]
    simp only [List.forIn_cons, List.forIn_nil]
    refine wpAny_bind (wpAny_bind (wpAny_holding ?_))
    show wpAny _ _ (Builtin.SmallTypes.nextOf (.ref i1) >>= _) _ _ _
    refine wpAny_bind (RZ.nextOf_tuple_item (s := { s with heap := g1 }) (h1.extBut k1.extBut D.i1z) (ha.extBut k1.extBut D.l1z) hx fun g2 t1 k2 => wpAny_pure ?_)
    refine wpAny_pure ?_
    refine wpAny_bind (wpAny_bind (wpAny_holding ?_))
    show wpAny _ _ (Builtin.SmallTypes.nextOf (.ref i2) >>= _) _ _ _
    refine wpAny_bind (RZ.nextOf_tuple_item (s := { s with heap := g2 }) ((h2.extBut k1.extBut D.i2z).extBut k2.extBut D.i12.symm) ((hb.extBut k1.extBut D.l2z).extBut k2.extBut D.l2i1) hy fun g3 t2 k3 => wpAny_pure ?_)
    refine wpAny_pure (wpAny_pure ?_)
    show wpAny _ _ (newTuple [x, y] >>= _) _ _ _
    refine wpAny_bind (wpAny_newTuple ?_)
    have sz : g3.objs.size = s.heap.objs.size := by rw [k3.1, k2.1, k1.1]
    have z3 : IsZipHeld g3 z TI TO T true := k3.extBut _ _ D.i2z.symm (k2.extBut _ _ D.i1z.symm z1)
    have t13 : g3.IsTupleIter i1 a (k + 1) := t1.extBut k3.extBut D.i12
    have pr : IsPair (g3.push { cls := .type "tuple", data := .seq #[x, y] }) g3.objs.size x y := Heap.get?_push_size _ rfl
    have s4 : (g3.push { cls := .type "tuple", data := .seq #[x, y] }).objs.size = g3.objs.size + 1 := Heap.size_push ..
    refine wpAny_pure ⟨_, rfl, wpAny_pure ?_⟩
    show Q (some (.ref g3.objs.size)) _
    rw [sz] at pr s4 ⊢
    exact hQ _ (Heap.get?_push_of_some _ z3) (t13.at fun o e => Heap.get?_push_of_some _ e) (t2.at fun o e => Heap.get?_push_of_some _ e) pr s4 fun c o c1 c2 c3 e => Heap.get?_push_of_some _ (k3.extBut _ _ c3 (k2.extBut _ _ c2 (k1.extBut _ _ c1 e)))
  unfold pyNext
  exact wpAny_bind (wpAny_attempt (wpAny_callSpecial?_slot (name := Str.ofString "__next__") ty F.slot_zip_next
    (wpAny_call_entry F.slot_zip_next ty F.entry_zip_next (wpAny_mono main (fun fin s' h => h) fun _ _ h => h.elim) (F.args_zip_next_1 _))))
/-- and its end -/
theorem zh_end {z TI TO T i1 i2 a b : Addr} {f : Bool} {oT : Obj} {k : Nat} {xs ys : Array Value} {Q : Option Value → Shared → Prop} (hh : A.handled = none) (D : ZipApart z TI TO i1 i2 a b) (hz : IsZipHeld s.heap z TI TO T f) (hT : s.heap.get? T = some oT)
    (hTI : IsPair s.heap TI (.ref i1) (.ref i2)) (h1 : s.heap.IsTupleIter i1 a k) (h2 : s.heap.IsTupleIter i2 b k) (ha : s.heap.IsTuple a xs) (hb : s.heap.IsTuple b ys) (fin : xs[k]? = none ∨ ys[k]? = none)
    (hQ : ∀ h', (∀ c o, c ≠ z → c ≠ i1 → c ≠ i2 → s.heap.get? c = some o → h'.get? c = some o) → Q none { s with heap := h' }) : wpAny (model prog w) A (pyNext (.ref z)) Q E s := by
  have ty : s.TypeIs (.ref z) "zip" := ⟨_, hz, rfl⟩
  have main : wpAny (model prog w) A.in1 (Builtin.«zip.__next__» ⟨[.ref z], []⟩) (fun fin s' => False) (fun e s' => ∃ e' h', e = .ref e' ∧ s' = { s with heap := h' } ∧ (∀ c o, c ≠ z → c ≠ i1 → c ≠ i2 → s.heap.get? c = some o → h'.get? c = some o) ∧ ∃ o, h'.get? e' = some o ∧ o.cls = .type "StopIteration") s := by
    show wpAny _ _ (field (.ref z) 2 >>= _) _ _ _
    refine wpAny_bind (wpAny_field hz rfl (x := .bool false) rfl ?_)
    show wpAny _ _ (field (.ref z) 3 >>= _) _ _ _
    refine wpAny_bind (wpAny_field hz rfl (x := .ref TI) rfl ?_)
    refine wpAny_bind (wpAny_seqItems hTI rfl ?_)
    show wpAny _ _ (Builtin.SmallTypes.ownedTupleIsFree (.ref z) >>= _) _ _ _
    refine wpAny_bind (wpAny_tupleHeld_zip hz hT fun g1 z1 k1 => ?_)
    simp only [Bool.false_eq_true, if_false]
    refine wpAny_bind ?_
    rw [← Array.forIn_toList]
    simp only [List.forIn_cons, List.forIn_nil]
    refine wpAny_bind (wpAny_bind (wpAny_holding ?_))
    show wpAny _ _ (Builtin.SmallTypes.nextOf (.ref i1) >>= _) _ _ _
    cases hx : xs[k]? with
    | none =>
      refine wpAny_bind (RZ.nextOf_tuple_end (s := { s with heap := g1 }) (show A.in1.handled = none from hh) (h1.extBut k1.extBut D.i1z) (ha.extBut k1.extBut D.l1z) hx fun g2 e k2 he => ?_)
      exact ⟨e, g2, rfl, rfl, fun c o c1 c2 _ q => k2 _ _ c2 (k1.extBut _ _ c1 q), he⟩
    | some x =>
      have hy : ys[k]? = none := fin.elim (fun z => by rw [hx] at z; cases z) id
      refine wpAny_bind (RZ.nextOf_tuple_item (s := { s with heap := g1 }) (h1.extBut k1.extBut D.i1z) (ha.extBut k1.extBut D.l1z) hx fun g2 t1 k2 => wpAny_pure ?_)
      refine wpAny_pure ?_
      refine wpAny_bind (wpAny_bind (wpAny_holding ?_))
      show wpAny _ _ (Builtin.SmallTypes.nextOf (.ref i2) >>= _) _ _ _
      refine wpAny_bind (RZ.nextOf_tuple_end (s := { s with heap := g2 }) (show A.in1.handled = none from hh) ((h2.extBut k1.extBut D.i2z).extBut k2.extBut D.i12.symm) ((hb.extBut k1.extBut D.l2z).extBut k2.extBut D.l2i1) hy fun g3 e k3 he => ?_)
      exact ⟨e, g3, rfl, rfl, fun c o c1 c2 c3 q => k3 _ _ c3 (k2.extBut _ _ c2 (k1.extBut _ _ c1 q)), he⟩
  unfold pyNext
  refine wpAny_bind (wpAny_attempt (wpAny_callSpecial?_slot (name := Str.ofString "__next__") ty F.slot_zip_next
    (wpAny_call_entry F.slot_zip_next ty F.entry_zip_next (wpAny_mono main (fun fin s' h => h.elim) ?_) (F.args_zip_next_1 _))))
  rintro _ _ ⟨e, h', rfl, rfl, k1, o, ho, hc⟩
  refine wpAny_bind (wpAny_isInstance (T := "StopIteration") (b := true) ⟨o, ho, hc⟩ isSubtype_stop ?_)
  exact wpAny_pure (hQ _ k1)
/-- the zip z at turn i, what it gave out is held -/
structure ZAt (h : Heap) (z TI TO i1 i2 a b S : Addr) (xs ys : Array Value) (i : Nat) : Prop where
  zip : (IsZip h z TI TO .none ∧ ∃ x y, IsPair h TO x y) ∨ ∃ T f oT, IsZipHeld h z TI TO T f ∧ h.get? T = some oT ∧ T ≠ z ∧ T ≠ i1 ∧ T ≠ i2 ∧ T ≠ S
  ti : IsPair h TI (.ref i1) (.ref i2)
  t1 : h.IsTupleIter i1 a i
  t2 : h.IsTupleIter i2 b i
  ha : h.IsTuple a xs
  hb : h.IsTuple b ys
theorem ZAt.keep {h h' : Heap} {z TI TO i1 i2 a b S : Addr} {xs ys : Array Value} {i : Nat} (Z : ZAt h z TI TO i1 i2 a b S xs ys i) (zS : z ≠ S ∧ TI ≠ S ∧ TO ≠ S ∧ i1 ≠ S ∧ i2 ≠ S ∧ a ≠ S ∧ b ≠ S) (k : ∀ c o, c ≠ S → h.get? c = some o → h'.get? c = some o) : ZAt h' z TI TO i1 i2 a b S xs ys i := by
  obtain ⟨z0, z1, z2, z3, z4, z5, z6⟩ := zS
  obtain ⟨o1, e1, c1⟩ := Z.ha
  obtain ⟨o2, e2, c2⟩ := Z.hb
  refine ⟨?_, k _ _ z1 Z.ti, Z.t1.at fun o e => k _ o z3 e, Z.t2.at fun o e => k _ o z4 e, ⟨o1, k _ _ z5 e1, c1⟩, ⟨o2, k _ _ z6 e2, c2⟩⟩
  rcases Z.zip with ⟨h1, x, y, h2⟩ | ⟨T, f, oT, h1, h2, n1, n2, n3, n4⟩
  · exact .inl ⟨k _ _ z0 h1, x, y, k _ _ z2 h2⟩
  · exact .inr ⟨T, f, oT, k _ _ z0 h1, k _ _ n4 h2, n1, n2, n3, n4⟩
theorem ZAt.item {z TI TO i1 i2 a b S : Addr} {xs ys : Array Value} {i : Nat} {x y : Value} {Q : Option Value → Shared → Prop} (D : ZipApart z TI TO i1 i2 a b) (Z : ZAt s.heap z TI TO i1 i2 a b S xs ys i) (hS : S < s.heap.objs.size) (hx : xs[i]? = some x) (hy : ys[i]? = some y)
    (hQ : ∀ h', ZAt h' z TI TO i1 i2 a b S xs ys (i + 1) → IsPair h' s.heap.objs.size x y → h'.objs.size = s.heap.objs.size + 1 → (∀ c o, c ≠ z → c ≠ TO → c ≠ i1 → c ≠ i2 → s.heap.get? c = some o → h'.get? c = some o) → Q (some (.ref s.heap.objs.size)) { s with heap := h' }) :
    wpAny (model prog w) A (pyNext (.ref z)) Q E s := by
  obtain ⟨o1, e1, c1⟩ := id Z.ha
  obtain ⟨o2, e2, c2⟩ := id Z.hb
  have lt : ∀ {c : Addr} {o : Obj}, s.heap.get? c = some o → s.heap.objs.size ≠ c := fun e => Nat.ne_of_gt (Heap.lt_size e)
  have i1l : ∃ o, s.heap.get? i1 = some o := let ⟨o, h, _⟩ := Z.t1; ⟨o, h⟩
  have i2l : ∃ o, s.heap.get? i2 = some o := let ⟨o, h, _⟩ := Z.t2; ⟨o, h⟩
  obtain ⟨p1, q1⟩ := i1l
  obtain ⟨p2, q2⟩ := i2l
  rcases Z.zip with ⟨h1, x0, y0, h2⟩ | ⟨T, f, oT, h1, h2, n1, n2, n3, n4⟩
  · refine RZ.pyNext_zipT_item D h1 Z.ti h2 Z.t1 Z.t2 Z.ha Z.hb hx hy fun h' g1 g2 g3 g4 g5 g6 g7 => hQ h' ⟨.inr ⟨_, false, _, g1, g5, lt h1, lt q1, lt q2, Nat.ne_of_gt hS⟩, g7 _ _ D.TIz D.TITO D.TIi1 D.TIi2 Z.ti, g3, g4, ⟨o1, g7 _ _ D.l1z D.l1TO D.l1i1 D.l1i2 e1, c1⟩, ⟨o2, g7 _ _ D.l2z D.l2TO D.l2i1 D.l2i2 e2, c2⟩⟩ g5 g6 g7
  · refine zh_item D h1 h2 Z.ti Z.t1 Z.t2 Z.ha Z.hb hx hy fun h' g1 g3 g4 g5 g6 g7 => hQ h' ⟨.inr ⟨T, true, oT, g1, g7 _ _ n1 n2 n3 h2, n1, n2, n3, n4⟩, g7 _ _ D.TIz D.TIi1 D.TIi2 Z.ti, g3, g4, ⟨o1, g7 _ _ D.l1z D.l1i1 D.l1i2 e1, c1⟩, ⟨o2, g7 _ _ D.l2z D.l2i1 D.l2i2 e2, c2⟩⟩ g5 g6 fun c o k1 _ k3 k4 e => g7 c o k1 k3 k4 e
theorem ZAt.done {z TI TO i1 i2 a b S : Addr} {xs ys : Array Value} {i : Nat} {Q : Option Value → Shared → Prop} (hh : A.handled = none) (D : ZipApart z TI TO i1 i2 a b) (Z : ZAt s.heap z TI TO i1 i2 a b S xs ys i) (fin : xs[i]? = none ∨ ys[i]? = none)
    (hQ : ∀ h', (∀ c o, c ≠ z → c ≠ TO → c ≠ i1 → c ≠ i2 → s.heap.get? c = some o → h'.get? c = some o) → Q none { s with heap := h' }) : wpAny (model prog w) A (pyNext (.ref z)) Q E s := by
  rcases Z.zip with ⟨h1, x0, y0, h2⟩ | ⟨T, f, oT, h1, h2, n1, n2, n3, n4⟩
  · exact RZ.pyNext_zipT_end hh D h1 Z.ti h2 Z.t1 Z.t2 Z.ha Z.hb fin hQ
  · exact zh_end hh D h1 h2 Z.ti Z.t1 Z.t2 Z.ha Z.hb fin fun h' k => hQ h' fun c o k1 _ k3 k4 e => k c o k1 k3 k4 e
/-- the pairs that it made -/
structure ZMade (xs ys : Array Value) (lo : Addr) (h : Heap) (as : List Addr) : Prop where
  rise : as.Pairwise (· < ·)
  above : ∀ c ∈ as, lo < c
  at_ : ∀ (j : Nat) (c : Addr), as[j]? = some c → ∃ x y, xs[j]? = some x ∧ ys[j]? = some y ∧ IsPair h c x y
end
section
variable {prog : Program} {w : World} {A : Around} {s : Shared} {R : Result → Shared → Prop} {xs ys : Array Value} {z TI TO i1 i2 a b S lo : Addr}
theorem zloop (hh : A.handled = none) (D : ZipApart z TI TO i1 i2 a b) (zS : z ≠ S ∧ TI ≠ S ∧ TO ≠ S ∧ i1 ≠ S ∧ i2 ≠ S ∧ a ≠ S ∧ b ≠ S) (below : S ≤ lo ∧ z ≤ lo ∧ TO ≤ lo ∧ i1 ≤ lo ∧ i2 ≤ lo) (hn : min xs.size ys.size ≤ sizeLine) (res : Value) {h₁ : Heap}
    (hR : ∀ h' tk acc c as, (∀ e o, e ≠ S → e ≠ z → e ≠ TO → e ≠ i1 → e ≠ i2 → h₁.get? e = some o → h'.get? e = some o) → h'.get? S = some { cls := .type "list", dict := none, data := .seq acc c, slots := #[] } → as.length = min xs.size ys.size → ZMade xs ys lo h' as →
      acc.toList = as.map Value.ref → R (.ok (.ret res)) { s with heap := h', toks := tk }) :
    ∀ (k i : Nat) (h : Heap) (tk c : Nat) (acc : Array Value) (as : List Addr), min xs.size ys.size - i = k → i ≤ min xs.size ys.size → ZAt h z TI TO i1 i2 a b S xs ys i → (∀ e o, e ≠ S → e ≠ z → e ≠ TO → e ≠ i1 → e ≠ i2 → h₁.get? e = some o → h.get? e = some o) →
      h.get? S = some { cls := .type "list", dict := none, data := .seq acc c, slots := #[] } → acc.toList = as.map Value.ref → as.length = i → ZMade xs ys lo h as → lo < h.objs.size →
      codeAny (model prog w) A (.builtin "list.extend.loop" ⟨[.ref S, .ref z, res], []⟩) R { s with heap := h, toks := tk } := by
  obtain ⟨zS, TIS, TOS, i1S, i2S, aS, bS⟩ := zS
  have nes : ∀ d, lo < d → d ≠ S ∧ d ≠ z ∧ d ≠ TO ∧ d ≠ i1 ∧ d ≠ i2 := fun d hd =>
    ⟨Nat.ne_of_gt (Nat.lt_of_le_of_lt below.1 hd), Nat.ne_of_gt (Nat.lt_of_le_of_lt below.2.1 hd), Nat.ne_of_gt (Nat.lt_of_le_of_lt below.2.2.1 hd), Nat.ne_of_gt (Nat.lt_of_le_of_lt below.2.2.2.1 hd), Nat.ne_of_gt (Nat.lt_of_le_of_lt below.2.2.2.2 hd)⟩
  intro k
  induction k with
  | zero =>
    intro i h tk c acc as hk hi Z keep hS hacc hal G hlo
    refine codeAny_builtin PySem.F.entry_extend_loop ?_
    rw [Around.under_plainId PySem.F.plain_extend_loop _]
    show wpAny _ A.in1 (pyNext (.ref z) >>= _) _ _ _
    have fin : xs[i]? = none ∨ ys[i]? = none := by
      rcases Nat.le_total xs.size ys.size with q | q
      · left; rw [Array.getElem?_eq_none]; omega
      · right; rw [Array.getElem?_eq_none]; omega
    refine wpAny_bind (ZAt.done (s := { s with heap := h, toks := tk }) (A := A.in1) hh D Z fin fun h' e => ?_)
    refine wpAny_pure (hR h' tk acc c as (fun d o n1 n2 n3 n4 n5 q => e d o n2 n3 n4 n5 (keep d o n1 n2 n3 n4 n5 q)) (e _ _ zS.symm TOS.symm i1S.symm i2S.symm hS) (by omega) ⟨G.rise, G.above, fun j d hj => ?_⟩ hacc)
    obtain ⟨x, y, e1, e2, e3⟩ := G.at_ j d hj
    obtain ⟨_, m2, m3, m4, m5⟩ := nes d (G.above d (List.mem_of_getElem? hj))
    exact ⟨x, y, e1, e2, e _ _ m2 m3 m4 m5 e3⟩
  | succ k ih =>
    intro i h tk c acc as hk hi Z keep hS hacc hal G hlo
    have l1 : i < xs.size := by omega
    have l2 : i < ys.size := by omega
    have sz : acc.size = i := by rw [← Array.length_toList, hacc, List.length_map, hal]
    refine codeAny_builtin PySem.F.entry_extend_loop ?_
    rw [Around.under_plainId PySem.F.plain_extend_loop _]
    show wpAny _ A.in1 (pyNext (.ref z) >>= _) _ _ _
    refine wpAny_bind (ZAt.item (s := { s with heap := h, toks := tk }) D Z (Heap.lt_size hS) (Array.getElem?_eq_getElem l1) (Array.getElem?_eq_getElem l2) fun h' Z' pr hz e => ?_)
    dsimp only at pr hz e ⊢
    have hS' := e _ _ zS.symm TOS.symm i1S.symm i2S.symm hS
    have up : ∀ d o, d ≠ S → h'.get? d = some o → (h'.update S (Obj.mapSeq (·.push (Value.ref h.objs.size)))).get? d = some o := fun d o n q => (Heap.get?_update_other _ _ (Ne.symm n)).trans q
    have Sl : S < h.objs.size := Heap.lt_size hS
    show wpAny _ A.in1 (updateSeq S (·.push (Value.ref h.objs.size)) >>= _) _ _ _
    refine wpAny_bind ?_
    refine wpAny_updateSeq hS' rfl (wpAny_pure ⟨plainId_quiet PySem.F.plain_extend_loop _, ih (i + 1) _ tk _ (acc.push (Value.ref h.objs.size)) (as ++ [h.objs.size]) (by omega) (by omega) (Z'.keep ⟨zS, TIS, TOS, i1S, i2S, aS, bS⟩ up)
      (fun d o n1 n2 n3 n4 n5 q => up d o n1 (e d o n2 n3 n4 n5 (keep d o n1 n2 n3 n4 n5 q))) (Heap.get?_update_self _ hS' rfl) (by rw [Array.toList_push, hacc, List.map_append]; rfl) (by rw [List.length_append, hal]; rfl) ⟨?_, ?_, ?_⟩ ?_⟩) (by rw [sz]; omega) (by show (acc.push (Value.ref h.objs.size)).size ≤ sizeLine + 1; rw [Array.size_push]; omega)
    · refine List.pairwise_append.mpr ⟨G.rise, List.pairwise_singleton _ _, fun d hd f hf => ?_⟩
      rw [List.mem_singleton.mp hf]
      obtain ⟨j, hj⟩ := List.mem_iff_getElem?.mp hd
      obtain ⟨_, _, _, _, q⟩ := G.at_ j d hj
      exact Heap.lt_size q
    · intro d hd
      rcases List.mem_append.mp hd with hd | hd
      · exact G.above d hd
      · rw [List.mem_singleton.mp hd]; exact hlo
    · intro j d hj
      rcases Nat.lt_trichotomy j as.length with q | q | q
      · rw [List.getElem?_append_left q] at hj
        obtain ⟨x, y, e1, e2, e3⟩ := G.at_ j d hj
        obtain ⟨m1, m2, m3, m4, m5⟩ := nes d (G.above d (List.mem_of_getElem? hj))
        exact ⟨x, y, e1, e2, up d _ m1 (e _ _ m2 m3 m4 m5 e3)⟩
      · subst q
        have hd : h.objs.size = d := by simpa using hj
        subst hd
        exact ⟨_, _, Array.getElem?_eq_getElem (by omega), Array.getElem?_eq_getElem (by omega), up _ _ (Nat.ne_of_gt Sl) (by subst hal; exact pr)⟩
      · have : (as ++ [h.objs.size])[j]? = none := List.getElem?_eq_none (by rw [List.length_append, List.length_singleton]; omega)
        rw [this] at hj; cases hj
    · have q : (h'.update S (Obj.mapSeq (·.push (Value.ref h.objs.size)))).get? h.objs.size = _ := up _ _ (Nat.ne_of_gt Sl) pr
      exact Nat.lt_trans hlo (Heap.lt_size q)
end
theorem zip_no_len : typeLookup (.type "zip") "__len__" = pure none := by rw [typeLookup_type, builtinLookup_eq_fast]; kernel_rfl
theorem zip_no_hint : typeLookup (.type "zip") "__length_hint__" = pure none := by rw [typeLookup_type, builtinLookup_eq_fast]; kernel_rfl
section
variable {prog : Program} {w : World} {A : Around} {E : Value → Shared → Prop} {s : Shared} {xs ys : Array Value} {z TI TO i1 i2 a b : Addr}
/-- list(z), z a zip that has not begun -/
theorem zlist {Q : Value → Shared → Prop} (hh : A.handled = none) (D : ZipApart z TI TO i1 i2 a b) (hz : IsZip s.heap z TI TO .none) (hTO : IsPair s.heap TO .none .none) (hTI : IsPair s.heap TI (.ref i1) (.ref i2)) (h1 : s.heap.IsTupleIter i1 a 0) (h2 : s.heap.IsTupleIter i2 b 0)
    (ha : s.heap.IsTuple a xs) (hb : s.heap.IsTuple b ys) (hn : min xs.size ys.size ≤ sizeLine)
    (hQ : ∀ h' tk acc c as, (∀ e o, e ≠ z → e ≠ TO → e ≠ i1 → e ≠ i2 → s.heap.get? e = some o → h'.get? e = some o) → h'.get? s.heap.objs.size = some { cls := .type "list", dict := none, data := .seq acc c, slots := #[] } → as.length = min xs.size ys.size →
      ZMade xs ys s.heap.objs.size h' as → acc.toList = as.map Value.ref → Q (.ref s.heap.objs.size) { s with heap := h', toks := tk }) :
    wpAny (model prog w) A (call (.type "list") [.ref z]) Q E s := by
  refine callType_codes (Q₁ := fun obj s₁ => obj = .ref s.heap.objs.size ∧ s₁ = { s with heap := s.heap.push { cls := .type "list", data := .seq #[] } }) PySem.F.called_list (PySem.F.typeCall_list_1 _) PySem.F.entry_list_init
    (code_list_new _ ⟨rfl, rfl⟩) fun obj s₁ e₁ => ?_
  obtain ⟨rfl, rfl⟩ := e₁
  have hS : (s.heap.push { cls := .type "list", data := .seq #[] }).get? s.heap.objs.size = some { cls := .type "list", data := .seq #[] } := Heap.get?_push_size _ rfl
  refine ⟨⟨_, hS, rfl⟩, PySem.F.args_list_init_2 _ _, ?_⟩
  obtain ⟨oi, ei, _⟩ := id h1
  obtain ⟨oj, ej, _⟩ := id h2
  obtain ⟨oa, ea, ca⟩ := id ha
  obtain ⟨ob, eb, cb⟩ := id hb
  have lt : ∀ {c : Addr} {o : Obj}, s.heap.get? c = some o → c ≠ s.heap.objs.size := fun e => Nat.ne_of_lt (Heap.lt_size e)
  have le : ∀ {c : Addr} {o : Obj}, s.heap.get? c = some o → c ≤ s.heap.objs.size := fun e => Nat.le_of_lt (Heap.lt_size e)
  have Sz : s.heap.objs.size < (s.heap.push { cls := .type "list", data := .seq #[] }).objs.size := by rw [Heap.size_push]; exact Nat.lt_succ_self _
  generalize hSS : s.heap.objs.size = S at hS lt le Sz hQ ⊢
  have p1 : ∀ b o, s.heap.get? b = some o → (s.heap.push { cls := .type "list", data := .seq #[] }).get? b = some o := fun b o e => Heap.get?_push_of_some _ e
  show wpAny _ A.in1.in1 (do let old ← Builtin.List.listItems (.ref S); Builtin.List.listUpdate (.ref S) (fun _ => #[]); letGo old.toList.reverse; Builtin.List.listExtendWith (.ref S) (.ref z) .none) _ _ _
  refine wpAny_bind ?_
  unfold Builtin.List.listItems
  refine wpAny_bind (wpAny_seqItems hS rfl (wpAny_pure ?_))
  show wpAny _ A.in1.in1 (updateSeq S (fun _ => #[]) >>= fun _ => letGo (#[] : Array Value).toList.reverse >>= fun _ => Builtin.List.listExtendWith (.ref S) (.ref z) .none) _ _ _
  refine wpAny_bind (wpAny_updateSeq hS rfl ?_)
  have hS2 := Heap.get?_update_self (Obj.mapSeq (fun _ => (#[] : Array Value))) hS rfl
  refine wpAny_bind (wpAny_letGo ?_)
  unfold Builtin.List.listExtendWith
  have up : ∀ (h : Heap) (f : Obj → Obj), (∀ b o, s.heap.get? b = some o → h.get? b = some o) → ∀ b o, s.heap.get? b = some o → (h.update S f).get? b = some o := fun h f q b o e => (Heap.get?_update_other _ _ (Ne.symm (lt e))).trans (q b o e)
  have k2 := up _ (Obj.mapSeq (fun _ => (#[] : Array Value))) p1
  refine wpAny_bind (wpAny_typeOf (T := "zip") ⟨_, k2 _ _ hz, rfl⟩ ?_)
  have g1 : Builtin.List.listSameRef (.ref S) (.ref z) = false := by simp [Builtin.List.listSameRef, (lt hz).symm]
  have g2 : (Value.type "zip" == Value.type "list") = false := by decide
  have g3 : (Value.type "zip" == Value.type "tuple") = false := by decide
  simp only [g1, g2, g3, Bool.or_false, Bool.false_eq_true, if_false]
  refine wpAny_bind (wpAny_pyIter_zip (s := { s with heap := _ }) (k2 _ _ hz) ?_)
  refine wpAny_bind (wpAny_holding ?_)
  unfold Builtin.List.listLengthHint
  refine wpAny_bind (wpAny_specialOf (T := "zip") ⟨_, k2 _ _ hz, rfl⟩ zip_no_len ?_)
  show wpAny _ A.in1.in1 (specialOf (Value.ref z) (Str.ofString "__length_hint__") >>= _) _ _ _
  refine wpAny_bind (wpAny_specialOf (T := "zip") ⟨_, k2 _ _ hz, rfl⟩ zip_no_hint ?_)
  refine wpAny_pure ?_
  show wpAny _ A.in1.in1 (rule "list.extend.makes-room" >>= fun _ => Builtin.List.listTouch (.ref S) >>= fun _ => again (.builtin "list.extend.loop" ⟨[.ref S, .ref z, .none], []⟩)) _ _ _
  refine wpAny_bind (wpAny_rule ?_)
  refine wpAny_bind ?_
  show wpAny _ A.in1.in1 (updateSeq S (·.push .none) >>= fun _ => updateSeq S (·.pop)) _ _ _
  refine wpAny_bind (wpAny_updateSeq hS2 rfl ?_)
  have hS3 := Heap.get?_update_self (Obj.mapSeq (·.push Value.none)) hS2 rfl
  refine wpAny_updateSeq (hz := by seq_fits) hS3 rfl ?_
  have hS4 := Heap.get?_update_self (Obj.mapSeq (·.pop)) hS3 rfl
  have k4 := up _ (Obj.mapSeq (·.pop)) (up _ (Obj.mapSeq (·.push Value.none)) k2)
  refine wpAny_pure ⟨plainId_quiet PySem.F.plain_extend_loop _, ?_⟩
  refine zloop (lo := S) (A := A.in1) (h₁ := s.heap) (R := _) (s := s) hh D ⟨lt hz, lt hTI, lt hTO, lt ei, lt ej, lt ea, lt eb⟩ ⟨Nat.le_refl _, le hz, le hTO, le ei, le ej⟩ hn .none (fun h' tk acc c as k e l M q => ⟨rfl, hQ h' tk acc c as (fun d o n2 n3 n4 n5 x => k d o (lt x) n2 n3 n4 n5 x) e l M q⟩)
    (min xs.size ys.size) 0 _ s.toks _ #[] [] (Nat.sub_zero _) (Nat.zero_le _) ⟨.inl ⟨k4 _ _ hz, _, _, k4 _ _ hTO⟩, k4 _ _ hTI, h1.at fun o e => k4 _ o e, h2.at fun o e => k4 _ o e, ⟨oa, k4 _ _ ea, ca⟩, ⟨ob, k4 _ _ eb, cb⟩⟩ (fun d o _ _ _ _ _ e => k4 _ _ e) hS4 rfl rfl
    ⟨List.Pairwise.nil, (fun _ h => nomatch h), fun j d hj => by simp at hj⟩ ?_
  rw [Heap.size_update, Heap.size_update, Heap.size_update]
  exact Sz
end
/-- list(zip(t, u)) of tuples -/
def tLZ (K : PySem.W.Frag) (ta : TA) : TE := fun σ H Q => ta σ H fun vs H1 => ∃ (a b : Addr) (xs ys : List V), vs = [.ref a, .ref b] ∧ SqT K H1 a xs ∧ SqT K H1 b ys ∧
  ∀ (l : Addr) (ps : List Addr) (H2 : Hp), H1 l = none → Same H1 H2 → H2 l = some (.lst (ps.map V.ref)) → ps.length = min xs.length ys.length →
    (∀ (j : Nat) (p : Addr), ps[j]? = some p → ∃ x y, xs[j]? = some x ∧ ys[j]? = some y ∧ H2 p = some (.tup [x, y])) → Q (.ref l) H2
section
variable {X : Cx} {e e2 : Expr} {ta : TA} {p p2 pos pos2 : Pos}
theorem pe_listZip (calm : X.calm = true) (hg : Gl X "list") (hm : X.mg "list" = none) (hg2 : Gl X "zip") (hm2 : X.mg "zip" = none) (ha : PA X [e, e2] ta)
    (he : starEach [e, e2] X.env = (false, eval e X.env) :: starEach [e2] X.env := by rfl) (hpl : (backTo pos2 (starEach [e2] X.env)).any (·.1) = false := by rfl) :
    PE X (.Call (.Name "list" p) [.Call (.Name "zip" p2) [e, e2] [] pos2] [] pos) (tLZ X.K ta) := by
  refine ⟨fun pins s σ H Q I h => ?_⟩
  refine Call_ (ld_blt I hg hm PyProof.Rows.boot_list ?_)
  refine PyProof.Rows.callWith_type1 ?_ rfl rfl
  show wpAny _ _ (spliced ((false, eval (.Call (.Name "zip" p2) [e, e2] [] pos2) X.env) :: backTo pos (starEach [] X.env))) _ _ s
  refine Calls.spliced_cons (Call_ (ld_blt I hg2 hm2 PyProof.Rows.boot_zip (PyProof.Rows.callWith_type1 (thn (ha.run pos2 pins s σ H _ I h) fun us s1 ⟨vs, H1, I1, r1, q1⟩ => ?_) he hpl)))
  obtain ⟨a, b, xs, ys, rfl, sa, sb, q⟩ := q1
  cases r1 with
  | cons r rr =>
  cases rr with
  | cons r' rr =>
  cases rr
  cases r
  cases r'
  obtain ⟨va, rva, pa, za⟩ := I1.tuple sa
  obtain ⟨vb, rvb, pb, zb⟩ := I1.tuple sb
  have la := rva.length
  have lb := rvb.length
  obtain ⟨oa, ea, ca⟩ := id pa
  obtain ⟨ob, eb, cb⟩ := id pb
  refine RZ.call_zipT (show s1.heap.IsTuple a va.toArray from pa) (show s1.heap.IsTuple b vb.toArray from pb) fun h' hz hTI hTO h1 h2 hsz hk => ?_
  refine Calls.spliced_nil ?_
  have D := PySem.W.ktu_apart s1.heap.objs.size a b (Heap.lt_size ea) (Heap.lt_size eb)
  have I2 : Inv X pins σ H1 { s1 with heap := h' } := I1.kept (t' := s1.toks) hk
  refine zlist (s := { s1 with heap := h' }) (I1.ok.hd calm) D hz hTO hTI h1 h2 ⟨oa, hk _ _ ea, ca⟩ ⟨ob, hk _ _ eb, cb⟩ (by rw [List.size_toArray, List.size_toArray]; omega) fun g tk acc c as keep hl len M hacc => ?_
  have old : ∀ b o, s1.heap.get? b = some o → g.get? b = some o := fun d o e => by
    have l := Heap.lt_size e
    exact keep d o (Nat.ne_of_lt (Nat.lt_of_lt_of_le l (Nat.le_add_right _ _))) (Nat.ne_of_lt (Nat.lt_of_lt_of_le l (Nat.le_add_right _ _))) (Nat.ne_of_lt l) (Nat.ne_of_lt (Nat.lt_of_lt_of_le l (Nat.le_add_right _ _))) (hk d o e)
  have I3 : Inv X pins σ H1 { s1 with heap := g, toks := tk } := I1.kept old
  rw [List.size_toArray, List.size_toArray] at len
  have up : as.Nodup := List.Pairwise.imp (fun h => Nat.ne_of_lt h) M.rise
  have big : s1.heap.objs.size ≤ h'.objs.size := by rw [hsz]; exact Nat.le_add_right _ _
  have hlS : g.get? h'.objs.size = some { cls := .type "list", dict := none, data := .seq acc c, slots := #[] } := hl
  have vals : Vals (as.map V.ref) acc.toList := by
    rw [hacc]
    have all : ∀ l : List Addr, Vals (l.map V.ref) (l.map Value.ref) := by
      intro l
      induction l with
      | nil => exact .nil
      | cons c l ih => exact .cons rfl ih
    exact all as
  have fresh : H1 h'.objs.size = none := I1.hok.fresh big
  have fits : (as.map V.ref).length ≤ sizeLine := by rw [List.length_map]; omega
  have I4 : Inv X pins σ (upd H1 h'.objs.size (.lst (as.map V.ref))) { s1 with heap := g, toks := tk } := I3.take (h' := g) (t' := tk) (fun b ob _ e => e) (I1.fpOk big fresh) ⟨fits, acc.toList, c, vals, hlS⟩
  obtain ⟨H2, J, gr, qt⟩ := L2.DX.takeT (P := fun d vs => ∃ (j : Nat) (x y : V), as[j]? = some d ∧ xs[j]? = some x ∧ ys[j]? = some y ∧ vs = [x, y]) I1 as _ I4 up fun d hd => by
    obtain ⟨j, hj⟩ := List.mem_iff_getElem?.mp hd
    obtain ⟨u, v, e1, e2, at_⟩ := M.at_ j d hj
    have e1 : va[j]? = some u := by simpa using e1
    have e2 : vb[j]? = some v := by simpa using e2
    obtain ⟨x, hx, rx⟩ : ∃ x, xs[j]? = some x ∧ RelV x u := by
      have lj : j < xs.length := by have := (List.getElem?_eq_some_iff.mp e1).1; omega
      obtain ⟨u', hu, ru⟩ := rva.get (List.getElem?_eq_getElem lj)
      rw [e1] at hu; cases hu
      exact ⟨_, List.getElem?_eq_getElem lj, ru⟩
    obtain ⟨y, hy, ry⟩ : ∃ y, ys[j]? = some y ∧ RelV y v := by
      have lj : j < ys.length := by have := (List.getElem?_eq_some_iff.mp e2).1; omega
      obtain ⟨u', hu, ru⟩ := rvb.get (List.getElem?_eq_getElem lj)
      rw [e2] at hu; cases hu
      exact ⟨_, List.getElem?_eq_getElem lj, ru⟩
    have lo : s1.heap.objs.size ≤ d := Nat.le_trans big (Nat.le_of_lt (M.above d hd))
    exact ⟨lo, by rw [upd_ne (Nat.ne_of_gt (M.above d hd))]; exact I1.hok.fresh lo, [x, y], ⟨j, x, y, hj, hx, hy, rfl⟩, fun H3 => ⟨by show 2 ≤ sizeLine; decide, [u, v], .cons rx (.cons ry .nil), ⟨_, at_, rfl, 0, rfl⟩⟩⟩
  refine ⟨.ref h'.objs.size, H2, J, rfl, q _ as H2 fresh (fun b o e => gr _ _ (by rw [upd_ne (ne_of_none e fresh)]; exact e)) (gr _ _ upd_same) (by omega) fun j d hj => ?_⟩
  obtain ⟨vs, ⟨i, x, y, hi, hx, hy, rfl⟩, hH⟩ := qt d (List.mem_of_getElem? hj)
  have ij : i = j := (List.getElem?_inj (List.getElem?_eq_some_iff.mp hi).1 up).mp (hi.trans hj.symm)
  subst ij
  exact ⟨x, y, hx, hy, hH⟩
end
end Rp

set_option maxHeartbeats 16000000
/-! Matching: what a map solves; the step of the loop. -/
namespace Rp
open PySem PySem.Spec PyProof.Rows L2 TL StX
abbrev Mp := Int → Option Tm
namespace Tm
/-- the map makes r of the pattern -/
def mt (E : Mp) : Tm → Tm → Prop
  | v n, r => E n = some r
  | z, r => r = z
  | s l, r => ∃ q, r = s q ∧ l.mt E q
  | f l k, r => ∃ p q, r = f p q ∧ l.mt E p ∧ k.mt E q
end Tm
def Sub (D : Bd) (E : Mp) : Prop := ∀ n t, D.lookup n = some t → E n = some t
abbrev Todo := List (Tm × Tm)
def Sol (D : Bd) (T : Todo) (E : Mp) : Prop := Sub D E ∧ ∀ p ∈ T, p.1.mt E p.2
/-- bound, or still to be bound -/
def Cov (D : Bd) (T : Todo) (n : Int) : Prop := n ∈ D.map (·.1) ∨ ∃ p ∈ T, n ∈ p.1.nums
def tsum (T : Todo) : Nat := (T.map (·.1.size)).sum
theorem size_pos (t : Tm) : 1 ≤ t.size := by cases t <;> simp [Tm.size]
theorem tsum_len : ∀ T : Todo, T.length ≤ tsum T
  | [] => Nat.le_refl _
  | p :: T => by
    have := tsum_len T
    have := size_pos p.1
    simp only [tsum, List.map_cons, List.sum_cons, List.length_cons] at *
    omega
theorem tsum_app (T U : Todo) : tsum (T ++ U) = tsum T + tsum U := by simp [tsum]
theorem nolook {D : Bd} {n : Int} : D.lookup n = none ↔ n ∉ D.map (·.1) := by
  rw [List.lookup_eq_none_iff]
  constructor
  · intro h z
    obtain ⟨p, hp, e⟩ := List.mem_map.mp z
    have := h p hp
    rw [e] at this
    simp at this
  · intro h p hp
    have : n ≠ p.1 := fun z => h (List.mem_map.mpr ⟨p, hp, z.symm⟩)
    simpa using this
theorem look_app {D : Bd} {n m : Int} {r : Tm} (h : D.lookup n = none) : (D ++ [(n, r)]).lookup m = if m = n then some r else D.lookup m := by
  rw [List.lookup_append]
  by_cases e : m = n
  · subst e
    rw [h, if_pos rfl]
    simp [List.lookup]
  · rw [if_neg e]
    have : ([(n, r)] : Bd).lookup m = none := by rw [List.lookup_cons, beq_eq_false_iff_ne.mpr e]; rfl
    rw [this]
    cases D.lookup m <;> rfl
theorem sol_known {D : Bd} {T : Todo} {n : Int} {t r : Tm} {E : Mp} (h : D.lookup n = some t) : Sol D (T ++ [(.v n, r)]) E ↔ t = r ∧ Sol D T E := by
  constructor
  · rintro ⟨a, b⟩
    have e := b (.v n, r) (by simp)
    have e : E n = some r := e
    rw [a n t h] at e
    exact ⟨Option.some.inj e, a, fun p hp => b p (by simp [hp])⟩
  · rintro ⟨rfl, a, b⟩
    refine ⟨a, fun p hp => ?_⟩
    rcases List.mem_append.mp hp with hp | hp
    · exact b p hp
    · obtain rfl : p = (.v n, t) := by simpa using hp
      exact a n t h
theorem sol_new {D : Bd} {T : Todo} {n : Int} {r : Tm} {E : Mp} (h : D.lookup n = none) : Sol D (T ++ [(.v n, r)]) E ↔ Sol (D ++ [(n, r)]) T E := by
  constructor
  · rintro ⟨a, b⟩
    refine ⟨fun m t hm => ?_, fun p hp => b p (by simp [hp])⟩
    rw [look_app h] at hm
    by_cases e : m = n
    · subst e
      rw [if_pos rfl] at hm
      cases hm
      exact b (.v m, r) (by simp)
    · rw [if_neg e] at hm
      exact a m t hm
  · rintro ⟨a, b⟩
    refine ⟨fun m t hm => a m t ?_, fun p hp => ?_⟩
    · rw [look_app h]
      have : m ≠ n := fun z => by subst z; rw [h] at hm; cases hm
      rw [if_neg this, hm]
    · rcases List.mem_append.mp hp with hp | hp
      · exact b p hp
      · obtain rfl : p = (.v n, r) := by simpa using hp
        exact a n r (by rw [look_app h, if_pos rfl])
theorem sol_parts {D : Bd} {T : Todo} {l r : Tm} {E : Mp} (nl : ∀ n, l ≠ .v n) (nr : ∀ n, r ≠ .v n) (hd : signHead l = signHead r) : l.kids.length = r.kids.length ∧ (Sol D (T ++ [(l, r)]) E ↔ Sol D (T ++ l.kids.zip r.kids) E) := by
  have n0s : ("0" : Str) ≠ "s" := by decide +kernel
  have n0f : ("0" : Str) ≠ "f" := by decide +kernel
  have nsf : ("s" : Str) ≠ "f" := by decide +kernel
  have go : ∀ {U : Todo}, (l.mt E r ↔ ∀ p ∈ U, p.1.mt E p.2) → (Sol D (T ++ [(l, r)]) E ↔ Sol D (T ++ U) E) := by
    intro U h
    unfold Sol
    refine and_congr_right fun _ => ?_
    constructor
    · intro a p hp
      rcases List.mem_append.mp hp with hp | hp
      · exact a p (by simp [hp])
      · exact h.mp (a (l, r) (by simp)) p hp
    · intro a p hp
      rcases List.mem_append.mp hp with hp | hp
      · exact a p (by simp [hp])
      · obtain rfl : p = (l, r) := by simpa using hp
        exact h.mpr fun q hq => a q (by simp [hq])
  cases l with
  | v n => exact absurd rfl (nl n)
  | z =>
    cases r with
    | v n => exact absurd rfl (nr n)
    | z => exact ⟨rfl, go (by simp [Tm.mt, Tm.kids])⟩
    | s _ => exact absurd hd n0s
    | f _ _ => exact absurd hd n0f
  | s l =>
    cases r with
    | v n => exact absurd rfl (nr n)
    | z => exact absurd hd.symm n0s
    | s r => exact ⟨rfl, go (by simp [Tm.mt, Tm.kids])⟩
    | f _ _ => exact absurd hd nsf
  | f l k =>
    cases r with
    | v n => exact absurd rfl (nr n)
    | z => exact absurd hd.symm n0f
    | s _ => exact absurd hd.symm nsf
    | f r q =>
      refine ⟨rfl, go ⟨?_, ?_⟩⟩
      · rintro ⟨a, b, e, h1, h2⟩
        injection e with e1 e2
        subst e1 e2
        simp [Tm.kids, h1, h2]
      · intro h
        exact ⟨r, q, rfl, h (l, r) (by simp [Tm.kids]), h (k, q) (by simp [Tm.kids])⟩
theorem mt_heads {l r : Tm} {E : Mp} (nl : ∀ n, l ≠ .v n) (h : l.mt E r) : (∀ n, r ≠ .v n) ∧ signHead l = signHead r := by
  cases l with
  | v n => exact absurd rfl (nl n)
  | z => have h : r = .z := h; subst h; exact ⟨fun n z => (by cases z), rfl⟩
  | s l => obtain ⟨q, rfl, _⟩ := h; exact ⟨fun n z => (by cases z), rfl⟩
  | f l k => obtain ⟨p, q, rfl, _⟩ := h; exact ⟨fun n z => (by cases z), rfl⟩
theorem sol_last {D : Bd} {T : Todo} {l r : Tm} {E : Mp} (h : Sol D (T ++ [(l, r)]) E) : l.mt E r := h.2 (l, r) (by simp)
theorem kids_nums {l : Tm} (nl : ∀ n, l ≠ .v n) {n : Int} : n ∈ l.nums ↔ ∃ k ∈ l.kids, n ∈ k.nums := by
  cases l with
  | v n => exact absurd rfl (nl n)
  | z => simp [Tm.nums, Tm.kids]
  | s l => simp [Tm.nums, Tm.kids]
  | f l k => simp [Tm.nums, Tm.kids]
theorem kids_sum {l : Tm} (nl : ∀ n, l ≠ .v n) {r : Tm} (e : l.kids.length = r.kids.length) : tsum (l.kids.zip r.kids) + 1 = l.size := by
  have z : (l.kids.zip r.kids).map (·.1.size) = l.kids.map Tm.size := by
    have : (l.kids.zip r.kids).map (fun p => p.1.size) = ((l.kids.zip r.kids).map Prod.fst).map Tm.size := by rw [List.map_map]; rfl
    rw [this, List.map_fst_zip (by omega)]
  unfold tsum
  rw [z]
  cases l with
  | v n => exact absurd rfl (nl n)
  | z => rfl
  | s l => simp [Tm.kids, Tm.size]
  | f l k => simp [Tm.kids, Tm.size]
theorem cov_parts {D : Bd} {T : Todo} {l r : Tm} (nl : ∀ n, l ≠ .v n) (e : l.kids.length = r.kids.length) {n : Int} : Cov D (T ++ [(l, r)]) n ↔ Cov D (T ++ l.kids.zip r.kids) n := by
  unfold Cov
  refine or_congr_right ?_
  constructor
  · rintro ⟨p, hp, hn⟩
    rcases List.mem_append.mp hp with hp | hp
    · exact ⟨p, by simp [hp], hn⟩
    · obtain rfl : p = (l, r) := by simpa using hp
      obtain ⟨k, hk, h2⟩ := (kids_nums nl).mp hn
      obtain ⟨i, hi, rfl⟩ := List.getElem_of_mem hk
      exact ⟨(l.kids[i], r.kids[i]), List.mem_append_right _ (List.mem_of_getElem? (i := i) (List.getElem?_zip_eq_some.mpr ⟨List.getElem?_eq_getElem hi, List.getElem?_eq_getElem (by omega)⟩)), h2⟩
  · rintro ⟨p, hp, hn⟩
    rcases List.mem_append.mp hp with hp | hp
    · exact ⟨p, by simp [hp], hn⟩
    · exact ⟨(l, r), by simp, (kids_nums nl).mpr ⟨p.1, (List.of_mem_zip hp).1, hn⟩⟩
theorem cov_new {D : Bd} {T : Todo} {m : Int} {r : Tm} {n : Int} : Cov D (T ++ [(.v m, r)]) n ↔ Cov (D ++ [(m, r)]) T n := by
  unfold Cov
  simp only [List.map_append, List.map_cons, List.map_nil, List.mem_append, List.mem_singleton, List.not_mem_nil]
  constructor
  · rintro (h | ⟨p, hp | rfl, hn⟩)
    · exact .inl (.inl h)
    · exact .inr ⟨p, hp, hn⟩
    · simp [Tm.nums] at hn
      exact .inl (.inr hn)
  · rintro ((h | h) | ⟨p, hp, hn⟩)
    · exact .inl h
    · exact .inr ⟨(.v m, r), .inr rfl, by simp [Tm.nums, h]⟩
    · exact .inr ⟨p, .inl hp, hn⟩
theorem cov_known {D : Bd} {T : Todo} {m : Int} {t r : Tm} {n : Int} (h : D.lookup m = some t) : Cov D (T ++ [(.v m, r)]) n ↔ Cov D T n := by
  have hm : m ∈ D.map (·.1) := by
    have : ¬ (m ∉ D.map (·.1)) := fun z => by rw [nolook.mpr z] at h; cases h
    exact Classical.not_not.mp this
  rw [cov_new]
  unfold Cov
  simp only [List.map_append, List.map_cons, List.map_nil, List.mem_append, List.mem_singleton]
  constructor
  · rintro ((a | rfl) | a)
    · exact .inl a
    · exact .inl hm
    · exact .inr a
  · rintro (a | a)
    · exact .inl (.inl a)
    · exact .inr a
/-- small terms; BINDINGs of them -/
def Tk (t : Tm) : Prop := t.small ∧ t.size ≤ 40
theorem Tk.kid {t k : Tm} (h : Tk t) (m : k ∈ t.kids) : Tk k := ⟨fun n hn => h.1 n (kid_nums m n hn), by have := kid_size m; have := h.2; omega⟩
structure BdOk (D : Bd) : Prop where
  num : ∀ p ∈ D, 0 ≤ p.1 ∧ p.1 ≤ 99
  tk : ∀ p ∈ D, Tk p.2
  nd : (D.map (·.1)).Nodup
theorem nodup_in : ∀ {l m : List Int}, l.Nodup → (∀ x ∈ l, x ∈ m) → l.length ≤ m.length
  | [], _, _, _ => Nat.zero_le _
  | x :: l, m, nd, h => by
    have nd := List.nodup_cons.mp nd
    have hx := h x (by simp)
    have ih := nodup_in (m := m.erase x) nd.2 fun y hy => (List.mem_erase_of_ne (fun e => nd.1 (by rw [← e]; exact hy))).mpr (h y (by simp [hy]))
    have l := List.length_erase_of_mem hx
    have := List.length_pos_of_mem hx
    simp only [List.length_cons]
    omega
theorem nd100 {l : List Int} (nd : l.Nodup) (h : ∀ n ∈ l, 0 ≤ n ∧ n ≤ 99) : l.length ≤ 100 := by
  have := nodup_in (m := (List.range 100).map (fun i : Nat => (i : Int))) nd fun n hn => by
    have := h n hn
    exact List.mem_map.mpr ⟨n.toNat, List.mem_range.mpr (by omega), by omega⟩
  simpa using this
theorem BdOk.few {D : Bd} (h : BdOk D) : D.length ≤ 100 := by
  have := nd100 h.nd fun n hn => by
    obtain ⟨p, hp, rfl⟩ := List.mem_map.mp hn
    exact h.num p hp
  simpa using this
theorem BdOk.snoc {D : Bd} {n : Int} {r : Tm} (h : BdOk D) (hn : 0 ≤ n ∧ n ≤ 99) (k : Tk r) (new : D.lookup n = none) : BdOk (D ++ [(n, r)]) := by
  refine ⟨fun p hp => ?_, fun p hp => ?_, ?_⟩
  · rcases List.mem_append.mp hp with hp | hp
    · exact h.num p hp
    · obtain rfl : p = (n, r) := by simpa using hp
      exact hn
  · rcases List.mem_append.mp hp with hp | hp
    · exact h.tk p hp
    · obtain rfl : p = (n, r) := by simpa using hp
      exact k
  · rw [List.map_append]
    refine List.nodup_append.mpr ⟨h.nd, by simp, fun x hx y hy e => ?_⟩
    obtain rfl : y = n := by simpa using hy
    subst e
    exact nolook.mp new hx
/-- the map that a BINDING is -/
def mpOf (D : Bd) : Mp := fun n => D.lookup n
theorem sub_self (D : Bd) : Sub D (mpOf D) := fun _ _ h => h
/-- atoms -/
def AMt (E : Mp) (p q : At) : Prop := p.nm = q.nm ∧ p.ts.length = q.ts.length ∧ ∀ t ∈ p.ts.zip q.ts, t.1.mt E t.2
def atNm (p : At) (n : Int) : Prop := ∃ t ∈ p.ts, n ∈ t.nums
/-! ### on the heap -/
def KvAt (H : Hp) (kv : Key × V) (q : Int × Tm) : Prop := kv.1 = Sum.inl q.1 ∧ TmAt H kv.2 q.2
def DmAt (H : Hp) (a : Addr) (D : Bd) : Prop := ∃ kvs : List (Key × V), H a = some (.dK kvs) ∧ Paired (KvAt H) kvs D
theorem pd_mono {α β : Type} {R S : α → β → Prop} (h : ∀ a b, R a b → S a b) : ∀ {xs : List α} {ys : List β}, Paired R xs ys → Paired S xs ys
  | _, _, .nil => .nil
  | _, _, .cons a t => .cons (h _ _ a) (pd_mono h t)
theorem pd_app {α β : Type} {R : α → β → Prop} : ∀ {xs xs' : List α} {ys ys' : List β}, Paired R xs ys → Paired R xs' ys' → Paired R (xs ++ xs') (ys ++ ys')
  | _, _, _, _, .nil, h => h
  | _, _, _, _, .cons a t, h => .cons a (pd_app t h)
theorem KvAt.tups {H H' : Hp} {kv : Key × V} {q : Int × Tm} (h : KvAt H kv q) (e : ∀ a xs, H a = some (.tup xs) → H' a = some (.tup xs)) : KvAt H' kv q := ⟨h.1, h.2.mono e⟩
theorem DmAt.same {H H' : Hp} {a : Addr} {D : Bd} (h : DmAt H a D) (s : Same H H') : DmAt H' a D := by
  obtain ⟨kvs, e, p⟩ := h
  exact ⟨kvs, s _ _ e, pd_mono (fun _ _ k => k.tups fun a xs z => s _ _ z) p⟩
theorem pd_len {α β : Type} {R : α → β → Prop} : ∀ {xs : List α} {ys : List β}, Paired R xs ys → xs.length = ys.length
  | _, _, .nil => rfl
  | _, _, .cons _ t => congrArg (· + 1) (pd_len t)
theorem kv_look {H : Hp} {n : Int} : ∀ {kvs : List (Key × V)} {D : Bd}, Paired (KvAt H) kvs D → (∃ v t, valV kvs (Sum.inl n) = some v ∧ D.lookup n = some t ∧ TmAt H v t) ∨ (valV kvs (Sum.inl n) = none ∧ D.lookup n = none)
  | _, _, .nil => .inr ⟨rfl, rfl⟩
  | _, _, .cons (a := kv) (b := q) ⟨h1, h2⟩ t => by
    obtain ⟨k, y⟩ := kv
    obtain ⟨m, u⟩ := q
    have h1 : k = Sum.inl m := h1
    subst h1
    by_cases e : n = m
    · subst e
      exact .inl ⟨y, u, by simp [valV], by simp [List.lookup], h2⟩
    · have nk : (Sum.inl m : Key) ≠ Sum.inl n := fun z => e (Sum.inl.inj z).symm
      rcases kv_look (n := n) t with ⟨v, t', a, b, c⟩ | ⟨a, b⟩
      · refine .inl ⟨v, t', ?_, ?_, c⟩
        · unfold valV at a ⊢
          rw [List.find?_cons_of_neg (by simpa using nk)]
          exact a
        · rw [List.lookup_cons, beq_eq_false_iff_ne.mpr e]; exact b
      · refine .inr ⟨?_, ?_⟩
        · unfold valV at a ⊢
          rw [List.find?_cons_of_neg (by simpa using nk)]
          exact a
        · rw [List.lookup_cons, beq_eq_false_iff_ne.mpr e]; exact b
/-- pairs of terms, in tuples -/
def TpAt (H : Hp) (v : V) (p : Tm × Tm) : Prop := ∃ (b : Addr) (x y : V), v = .ref b ∧ H b = some (.tup [x, y]) ∧ TmAt H x p.1 ∧ TmAt H y p.2
theorem TpAt.tups {H H' : Hp} {v : V} {p : Tm × Tm} (h : TpAt H v p) (e : ∀ a xs, H a = some (.tup xs) → H' a = some (.tup xs)) : TpAt H' v p := by
  obtain ⟨b, x, y, rfl, h1, h2, h3⟩ := h
  exact ⟨b, x, y, rfl, e _ _ h1, h2.mono e, h3.mono e⟩
/-- the pairs that list(zip) made -/
theorem zip_todo {H : Hp} {xs ys : List V} {ts us : List Tm} (A : AllAt H xs ts) (B : AllAt H ys us) : ∀ {ps : List Addr}, ps.length = min xs.length ys.length → (∀ (j : Nat) (p : Addr), ps[j]? = some p → ∃ x y, xs[j]? = some x ∧ ys[j]? = some y ∧ H p = some (.tup [x, y])) →
    Paired (TpAt H) (ps.map V.ref) (ts.zip us) := by
  have gen : ∀ (xs ys : List V) (ts us : List Tm), AllAt H xs ts → AllAt H ys us → ∀ (ps : List Addr), ps.length = min xs.length ys.length → (∀ (j : Nat) (p : Addr), ps[j]? = some p → ∃ x y, xs[j]? = some x ∧ ys[j]? = some y ∧ H p = some (.tup [x, y])) → Paired (TpAt H) (ps.map V.ref) (ts.zip us) := by
    intro xs
    induction xs with
    | nil =>
      intro ys ts us A B ps l _
      cases ts with
      | nil => cases ps with
        | nil => exact .nil
        | cons _ _ => simp at l
      | cons _ _ => exact A.elim
    | cons x xs ih =>
      intro ys ts us A B ps l h
      cases ts with
      | nil => exact A.elim
      | cons t ts =>
        cases ys with
        | nil =>
          cases us with
          | nil => cases ps with
            | nil => exact .nil
            | cons _ _ => simp at l
          | cons _ _ => exact B.elim
        | cons y ys =>
          cases us with
          | nil => exact B.elim
          | cons u us =>
            cases ps with
            | nil => simp at l
            | cons p ps =>
              obtain ⟨x', y', e1, e2, e3⟩ := h 0 p rfl
              have e1 : x = x' := by simpa using e1
              have e2 : y = y' := by simpa using e2
              subst e1 e2
              refine .cons ⟨p, x, y, rfl, e3, A.1, B.1⟩ (ih ys ts us A.2 B.2 ps (by simp only [List.length_cons] at l; omega) fun j q hj => ?_)
              obtain ⟨x', y', e1, e2, e3⟩ := h (j + 1) q (by simpa using hj)
              exact ⟨x', y', by simpa using e1, by simpa using e2, e3⟩
  exact fun {ps} l h => gen xs ys ts us A B ps l h
end Rp

set_option maxHeartbeats 16000000
/-! _matched. -/
namespace Rp
open PySem PySem.Spec PyProof.Rows L2 TL StX
/-- dict(d), d of int keys: a copy -/
def rDictC : List V → Hp → VK → Prop := fun vs H Q => ∃ (a : Addr) (kvs : List (Key × V)), vs = [.ref a] ∧ H a = some (.dK kvs) ∧ ∀ p, H p = none → Q (.ref p) (upd H p (.dK kvs))
theorem call_dictC {X : Cx} : CallR X (.type "dict") rDictC := by
  intro pins s σ H vs us Q I r h
  obtain ⟨a, kvs, rfl, ha, q⟩ := h
  obtain rfl := Vals.ref1 r
  exact d_copyOf I (.inl ha) fun p s' hp I' => ⟨.ref p, _, I', rfl, q p hp⟩
def spMatched : Sp := fun vs H Q _ => ∃ (vp va : V) (a : Addr) (p q : At) (A : Bd), vs = [vp, va, .ref a] ∧ AtAt H vp p ∧ AtAt H va q ∧ AtOk 40 p ∧ AtOk 40 q ∧ DmAt H a A ∧ BdOk A ∧
  ((∀ E, ¬ (Sub A E ∧ AMt E p q)) → ∀ H', Same H H' → Q .non H') ∧
  ∀ (d : Addr) (D : Bd) (H' : Hp), H d = none → Same H H' → DmAt H' d D → BdOk D → (∀ E, Sub D E ↔ Sub A E ∧ AMt E p q) → (∀ n, n ∈ D.map (·.1) ↔ n ∈ A.map (·.1) ∨ atNm p n) → Q (.ref d) H'
theorem pd_last {α β : Type} {R : α → β → Prop} : ∀ {T : List β} {xs : List α} {p : β}, Paired R xs (T ++ [p]) → ∃ M y, xs = M ++ [y] ∧ Paired R M T ∧ R y p
  | [], _, _, .cons (a := y) h .nil => ⟨[], y, rfl, .nil, h⟩
  | t :: T, _, p, .cons (a := x) h r => by
    obtain ⟨M, y, rfl, h1, h2⟩ := pd_last (T := T) r
    exact ⟨x :: M, y, rfl, .cons h h1, h2⟩
theorem tk_shaped {t : Tm} (h : Tk t) : SeqAt.shaped (tmD t) = true := by
  have d1 := Tm.deep_lt t
  have h2 := h.2
  obtain ⟨c1, c2, _⟩ : (tmD t).canLay0 = true ∧ (tmD t).depth ≤ t.deep + 1 ∧ nd (tmD t) ≤ 2 * t.size := tm_ok t
  exact shaped_of c1 (by omega)
theorem at_tk {p : At} (ok : AtOk 40 p) {t : Tm} (h : t ∈ p.ts) : Tk t := ok.sm t h
/-- the loop's state -/
structure MtSt (H : Hp) (p q : At) (Am : Bd) (d l : Addr) (D : Bd) (T : Todo) (txs : List V) (H2 : Hp) : Prop where
  lst : H2 l = some (.lst txs)
  todo : Paired (TpAt H2) txs T
  dm : DmAt H2 d D
  ok : BdOk D
  tk : ∀ t ∈ T, Tk t.1 ∧ Tk t.2
  sol : ∀ E, Sol D T E ↔ Sub Am E ∧ AMt E p q
  cov : ∀ n, Cov D T n ↔ n ∈ Am.map (·.1) ∨ atNm p n
  few : tsum T ≤ 1000
  same : Same H H2
abbrev NMt : List Str := ["pattern", "atom", "ahead", "found", "todo", "left", "right"]
section
variable {P : Program} {w : World} {K : PySem.W.Frag} {mg : Str → Option Value} {base : Heap}
theorem scMt : FnScope NMt ["pattern", "atom", "ahead"] (defScope sMatched) := ⟨rfl, rfl, rfl, by decide +kernel, rfl, by decide +kernel, by decide +kernel⟩
theorem ok_matched {f : Addr} {fd : FuncData} (F : Fun K "_matched" "_matched" sMatched f fd) (mLen : mg "len" = none) (mDict : mg "dict" = none) (mList : mg "list" = none) (mZip : mg "zip" = none) (mIsi : mg "isinstance" = none) (mInt : mg "int" = none) :
    FnOk P w K mg base CX0 1 f fd ["pattern", "atom", "ahead"] spMatched := by
  refine F.ok scMt (fun vs H Q E h => ?_) (fun cdv A outer s H vs Q E hr h => ?_)
  · obtain ⟨vp, va, a, p, q, A, rfl, _⟩ := h
    rfl
  obtain ⟨vp, va, a, p, q, Am, rfl, ⟨ap, xs, rfl, hp, Ap⟩, ⟨aq, ys, rfl, hq, Aq⟩, okp, okq, Da, okA, qn, qd⟩ := h
  have hu := hu_of hr
  refine ⟨_, pss_cons (ps_if (PW.pt (pw_or (pt_cmpR op_ne (pe_ix ix_tup (pv 0) pe_int (fun _ _ => rfl)) (pe_ix ix_tup (pv 1) pe_int (fun _ _ => rfl)) (nomark _)) (pw_or1 (pt_cmpR op_ne (pe_callB call_len_seq (by rfl) mLen PySem.boot_len (pa_cons (pv 0) pa_nil)) (pe_callB call_len_seq (by rfl) mLen PySem.boot_len (pa_cons (pv 1) pa_nil)) (nomark _))))) (pss_one (ps_ret pe_non)) pss_nil)
    (pss_cons (ps_set (i := 3) scMt.nd rfl (Or.inl rfl) (pe_callTy call_dictC (by rfl) mDict (by decide +kernel) (pa_cons (pv 2) pa_nil)))
    (pss_cons (ps_set (i := 4) scMt.nd rfl (Or.inl rfl) (pe_listZip (by rfl) (by rfl) mList (by rfl) mZip (pa_cons (pe_slice sl_tup (pv 0) (po_some pe_int) po_none) (pa_cons (pe_slice sl_tup (pv 1) (po_some pe_int) po_none) pa_nil))))
    (pss_cons (ps_while PassesOwn.never (pt_truth (pv 4) (by intro _; rfl)) (pss_cons (ps_asg (pe_bm0 PySem.F.plainAttrs_list PySem.F.slot_list_pop PySem.F.type_list_pop mt_pop (pv 4)) (pg_tup (by rfl) (pgs_cons (pg_name (i := 5) scMt.nd rfl (Or.inl rfl)) (pgs_cons (pg_name (i := 6) scMt.nd rfl (Or.inl rfl)) pgs_nil)))) (pss_one (ps_if (pt_val (pe_callB (id := "isinstance") call_isi (by rfl) mIsi (by decide +kernel) (pa_cons (pv 5) (pa_cons (pe_bltn (v := .ty "int") (by rfl) mInt (by decide +kernel) rfl) pa_nil)))) (pss_one (ps_if (pt_cmpR (op_neD hr.units) (pe_dsetd (pv 3) (pv 5) (pv 6) ⟨rfl, rfl, rfl, rfl⟩) (pv 6) (nomark _)) (pss_one (ps_ret pe_non)) pss_nil)) (pss_one (ps_if (PW.pt (pw_or (pt_val (pe_callB (id := "isinstance") call_isi (by rfl) mIsi (by decide +kernel) (pa_cons (pv 6) (pa_cons (pe_bltn (v := .ty "int") (by rfl) mInt (by decide +kernel) rfl) pa_nil)))) (pw_or1 (pt_cmpR op_ne (pe_ix ix_tup (pv 5) pe_int (fun _ _ => rfl)) (pe_ix ix_tup (pv 6) pe_int (fun _ _ => rfl)) (nomark _))))) (pss_one (ps_ret pe_non)) (pss_one (ps_expr (pe_bm PySem.F.plainAttrs_list PySem.F.slot_list_extend PySem.F.type_list_extend mt_extend (pv 4) (pa_cons (pe_listZip (by rfl) (by rfl) mList (by rfl) mZip (pa_cons (pe_slice sl_tup (pv 5) (po_some pe_int) po_none) (pa_cons (pe_slice sl_tup (pv 6) (po_some pe_int) po_none) pa_nil))) pa_nil))))))))))
    (pss_one (ps_ret (pv 3)))))), ?_⟩
  have big : (100000 : Nat) ≤ sizeLine := by decide
  have xl := Ap.len
  have yl := Aq.len
  obtain ⟨kvs, ha, Pk⟩ := id Da
  refine ⟨_, rfl, ap, _, _, _, rfl, rfl, .inl (.inl hp), at_of (j := 0) rfl rfl, _, rfl, aq, _, _, _, rfl, rfl, .inl (.inl hq), at_of (j := 0) rfl rfl, rfl, !decide (p.nm = q.nm), ?_, ?_⟩
  · show V.bl (!decide (V.str p.nm = V.str q.nm)) = _
    by_cases e : p.nm = q.nm
    · rw [decide_eq_true e, decide_eq_true (congrArg V.str e)]
    · rw [decide_eq_false e, decide_eq_false fun z => e (V.str.inj z)]
  by_cases en : p.nm = q.nm
  case neg =>
    rw [decide_eq_false en]
    exact iteT (iteT (qn (fun E h => en h.2.1) H (Same.refl H)))
  rw [decide_eq_true en]
  refine iteF ⟨_, rfl, ap, _, rfl, .inr (.inl (.inl hp)), _, rfl, aq, _, rfl, .inr (.inl (.inl hq)), rfl, !decide (xs.length = ys.length), ?_, ?_⟩
  · by_cases e : xs.length = ys.length
    · rw [decide_eq_true e, decide_eq_true (by simp [e])]
    · rw [decide_eq_false e, decide_eq_false fun z => e (by injection z with z; simp only [List.length_cons] at z; omega)]
  by_cases el : xs.length = ys.length
  case neg =>
    rw [decide_eq_false el]
    exact iteT (qn (fun E h => el (by rw [xl, yl]; exact h.2.2.1)) H (Same.refl H))
  rw [decide_eq_true el]
  refine iteF ?_
  -- dict(ahead)
  refine ⟨_, rfl, a, kvs, rfl, ha, fun d hd => ?_⟩
  have s1 := same_new hd (.dK kvs)
  have hd1 : (upd H d (.dK kvs)) d = some (.dK kvs) := upd_same
  have P1 : Paired (KvAt (upd H d (.dK kvs))) kvs Am := pd_mono (fun _ _ k => k.tups fun a xs z => s1 _ _ z) Pk
  generalize upd H d (.dK kvs) = H1 at s1 hd1 P1 ⊢
  -- list(zip(..))
  refine ⟨_, rfl, 1, rfl, ap, _, rfl, .inl (.inl (s1 _ _ hp)), cut_part _ _, fun g1 hg1 => ?_⟩
  rw [cut_tail]
  have s2 := same_new hg1 (.tup xs)
  have hg1' : (upd H1 g1 (.tup xs)) g1 = some (.tup xs) := upd_same
  generalize upd H1 g1 (.tup xs) = H2 at s2 hg1' ⊢
  refine ⟨_, rfl, 1, rfl, aq, _, rfl, .inl (.inl (s2 _ _ (s1 _ _ hq))), cut_part _ _, fun g2 hg2 => ?_⟩
  rw [cut_tail]
  have s3 := same_new hg2 (.tup ys)
  have hg2' : (upd H2 g2 (.tup ys)) g2 = some (.tup ys) := upd_same
  generalize upd H2 g2 (.tup ys) = H3 at s3 hg2' ⊢
  refine ⟨g1, g2, xs, ys, rfl, .inl (.inl (s3 _ _ hg1')), .inl (.inl hg2'), fun l ps H4 hl s4 hl4 pl pat => ?_⟩
  have s14 : Same H1 H4 := s2.trans (s3.trans s4)
  have s04 := s1.trans s14
  have dl : d ≠ l := ne_of_none (s3 _ _ (s2 _ _ hd1)) hl
  have td0 := zip_todo (H := H4) (Ap.mono fun _ _ z => s04 _ _ z) (Aq.mono fun _ _ z => s04 _ _ z) pl pat
  have ln : H l = none := same_none (s1.trans (s2.trans s3)) _ hl
  have okz : ∀ t ∈ p.ts.zip q.ts, Tk t.1 ∧ Tk t.2 := fun t ht => ⟨at_tk okp (List.of_mem_zip ht).1, at_tk okq (List.of_mem_zip ht).2⟩
  have pq : p.ts.length = q.ts.length := by rw [← xl, ← yl]; exact el
  have zf : (p.ts.zip q.ts).map (·.1) = p.ts := List.map_fst_zip (by omega)
  have start : MtSt H p q Am d l Am (p.ts.zip q.ts) (ps.map V.ref) H4 := by
    refine ⟨hl4, td0, ⟨kvs, s14 _ _ hd1, pd_mono (fun _ _ k => k.tups fun a xs z => s14 _ _ z) P1⟩, okA, okz, fun E => ⟨fun h => ⟨h.1, en, pq, h.2⟩, fun h => ⟨h.1, h.2.2.2⟩⟩, fun n => or_congr_right ⟨fun ⟨t, ht, hn⟩ => ⟨t.1, (List.of_mem_zip ht).1, hn⟩, fun ⟨t, ht, hn⟩ => ?_⟩, ?_, s04⟩
    · rw [← zf] at ht
      obtain ⟨z, hz, rfl⟩ := List.mem_map.mp ht
      exact ⟨z, hz, hn⟩
    · have two := okp.two
      have e : (p.ts.zip q.ts).map (fun z => z.1.size) = p.ts.map Tm.size := by
        have : (p.ts.zip q.ts).map (fun z => z.1.size) = ((p.ts.zip q.ts).map (·.1)).map Tm.size := by rw [List.map_map]; rfl
        rw [this, zf]
      unfold tsum
      rw [e]
      have each : ∀ t ∈ p.ts, t.size ≤ 40 := fun t ht => (okp.sm t ht).2
      match hh : p.ts, two, each with
      | [], _, _ => simp
      | [t], _, each => have := each t (by simp); simp; omega
      | [t, u], _, each => have := each t (by simp); have := each u (by simp); simp; omega
      | t :: u :: v :: r, two, _ => simp at two
  refine ⟨fun m σ H5 => ∃ (D : Bd) (T : Todo) (txs : List V) (x5 x6 : Option V), σ = [some (.ref ap), some (.ref aq), some (.ref a), some (.ref d), some (.ref l), x5, x6] ∧ MtSt H p q Am d l D T txs H5 ∧ m = tsum T,
    ⟨_, Am, _, _, none, none, rfl, start, rfl⟩, ?_⟩
  rintro m σ H5 ⟨D, T, txs, x5, x6, rfl, S, rfl⟩
  refine ⟨_, rfl, !txs.isEmpty, .inl ⟨txs, .inl (.inl S.lst), rfl⟩, ?_⟩
  rcases List.eq_nil_or_concat T with e | ⟨T0, ⟨tl_, tr⟩, e⟩
  · subst e
    have e2 : txs = [] := by have := pd_len S.todo; cases txs with | nil => rfl | cons => simp at this
    subst e2
    refine iteF ?_
    refine ⟨_, rfl, qd d D H5 hd S.same S.dm S.ok (fun E => ?_) fun n => ?_⟩
    · rw [← S.sol E]
      exact ⟨fun h => ⟨h, by simp⟩, fun h => h.1⟩
    · rw [← S.cov n]
      unfold Cov
      simp
  rw [List.concat_eq_append] at e
  subst e
  obtain ⟨M, y, rfl, PM, b, x, z, rfl, hb, Tx, Tz⟩ := pd_last S.todo
  have Tx : TmAt H5 x tl_ := Tx
  have Tz : TmAt H5 z tr := Tz
  have ne : (!(M ++ [V.ref b]).isEmpty) = true := by simp
  rw [ne]
  refine iteT ⟨_, fun _ _ h => h, ?_⟩
  have kk := S.tk (tl_, tr) (by simp)
  have kl : Tk tl_ := kk.1
  have kr : Tk tr := kk.2
  have sumT := tsum_app T0 [(tl_, tr)]
  have sum1 : tsum [(tl_, tr)] = tl_.size := by simp [tsum]
  have pos := size_pos tl_
  have fewT := S.few
  have lenT := pd_len S.todo
  have lenM := pd_len PM
  have lT := tsum_len T0
  obtain ⟨kvs5, hd5, P5⟩ := id S.dm
  have lenD := pd_len P5
  have fewD := S.ok.few
  -- left, right = todo.pop()
  refine ⟨_, rfl, .inl ⟨rfl, _, .inl (.inl S.lst)⟩, l, _, .ref b, rfl, rfl, S.lst, by simp, ?_⟩
  rw [List.dropLast_concat]
  have t6 : ∀ a xs, H5 a = some (.tup xs) → upd H5 l (.lst M) a = some (.tup xs) := fun a xs z => by rw [upd_ne (ne_of z S.lst (by intro z; cases z))]; exact z
  have hl6 : (upd H5 l (.lst M)) l = some (.lst M) := upd_same
  have hd6 : (upd H5 l (.lst M)) d = some (.dK kvs5) := by rw [upd_ne dl]; exact hd5
  have s6 : Same H (upd H5 l (.lst M)) := fun c o z => by rw [upd_ne (ne_of_none z ln)]; exact S.same c o z
  have P6 : Paired (KvAt (upd H5 l (.lst M))) kvs5 D := pd_mono (fun _ _ k => k.tups t6) P5
  have PM6 : Paired (TpAt (upd H5 l (.lst M))) M T0 := pd_mono (fun _ _ k => k.tups t6) PM
  have hb6 := t6 _ _ hb
  have Tx6 := Tx.mono t6
  have Tz6 := Tz.mono t6
  generalize upd H5 l (.lst M) = H6 at hl6 hd6 s6 P6 PM6 hb6 Tx6 Tz6 ⊢
  refine ⟨b, _, rfl, .inl (.inl hb6), rfl, _, _, rfl, _, _, rfl, rfl, ?_⟩
  have no : ∀ {E : Mp}, (Sub Am E ∧ AMt E p q) → Sol D (T0 ++ [(tl_, tr)]) E := fun h => (S.sol _).mpr h
  rcases Tx6.ty (K := K) with ⟨m, rfl, rfl⟩ | ⟨c, xs1, rfl, hc, ty, nv⟩
  · -- a variable
    have nm := kl.1 m (by simp [Tm.nums])
    refine ⟨_, rfl, _, _, _, _, true, rfl, .ty "int", .base (.int m), kit_ii, true, rfl, iteT ?_⟩
    refine ⟨_, rfl, d, rfl, .inl ⟨_, .inl hd6⟩, _, rfl, _, rfl, kvs5, .inl m, hd6, rfl, by omega, fun v hv => ?_, fun hv => ?_⟩
    · rcases kv_look (n := m) P6 with ⟨v', t, e1, e2, Tv⟩ | ⟨e1, _⟩
      case inr => rw [hv] at e1; cases e1
      rw [hv] at e1
      cases e1
      have okt : Tk t := by
        have := List.mem_of_getElem? (i := 0) (l := [(m, t)]) rfl
        obtain ⟨l1, l2, e, _⟩ := List.lookup_eq_some_iff.mp e2
        exact S.ok.tk (m, t) (by rw [e]; simp)
      refine ⟨_, rfl, tmD t, tmD tr, (Tv.dat (b := (0 : Nat))).dp, (Tz6.dat (b := (0 : Nat))).dp, tk_shaped okt, tk_shaped kr, !decide (t = tr), ?_, ?_⟩
      · have e : PyData.eqv (tmD t) (tmD tr) = decide (t = tr) := by
          by_cases h : t = tr
          · rw [eqv_tm.mpr h, decide_eq_true h]
          · rw [decide_eq_false h]
            exact Bool.eq_false_iff.mpr fun z => h (eqv_tm.mp z)
        rw [e]
      by_cases et : t = tr
      case neg =>
        rw [decide_eq_false et]
        exact iteT (qn (fun E h => et ((sol_known e2).mp (no h)).1) _ s6)
      rw [decide_eq_true et]
      refine iteF ?_
      refine ⟨tsum T0, by omega, D, T0, M, _, _, rfl, ⟨hl6, PM6, ⟨kvs5, hd6, P6⟩, S.ok, fun t ht => S.tk t (by simp [ht]), fun E => ?_, fun n => ?_, by omega, s6⟩, rfl⟩
      · rw [← S.sol E, sol_known e2]
        exact ⟨fun h => ⟨et, h⟩, fun h => h.2⟩
      · rw [← S.cov n, cov_known e2]
    · rcases kv_look (n := m) P6 with ⟨v', t, e1, _, _⟩ | ⟨_, e2⟩
      · rw [hv] at e1; cases e1
      rw [putK_new _ hv]
      have t7 : ∀ a xs, H6 a = some (.tup xs) → upd H6 d (.dK (kvs5 ++ [(Sum.inl m, z)])) a = some (.tup xs) := fun a xs z => by rw [upd_ne (ne_of z hd6 (by intro z; cases z))]; exact z
      have Tz7 := Tz6.mono t7
      refine ⟨_, rfl, tmD tr, tmD tr, (Tz7.dat (b := (0 : Nat))).dp, (Tz7.dat (b := (0 : Nat))).dp, tk_shaped kr, tk_shaped kr, false, ?_, iteF ?_⟩
      · rw [eqv_tm.mpr rfl]; rfl
      refine ⟨tsum T0, by omega, D ++ [(m, tr)], T0, M, _, _, rfl, ⟨by rw [upd_ne dl.symm]; exact hl6, pd_mono (fun _ _ k => k.tups t7) PM6, ⟨_, upd_same, pd_app (pd_mono (fun _ _ k => k.tups t7) P6) (.cons ⟨rfl, Tz7⟩ .nil)⟩, S.ok.snoc nm kr e2, fun t ht => S.tk t (by simp [ht]), fun E => ?_, fun n => ?_, by omega, fun c o w => by rw [upd_ne (ne_of_none w hd)]; exact s6 c o w⟩, rfl⟩
      · rw [← S.sol E, sol_new e2]
      · rw [← S.cov n, cov_new]
  · -- a sign
    obtain ⟨c', ks, e, hc', hk, hks⟩ := Tx6.tupled nv
    cases e
    refine ⟨_, rfl, _, _, _, _, false, rfl, .ty "int", ty, kit_ti, false, rfl, iteF ?_⟩
    rcases Tz6.ty (K := K) with ⟨m, rfl, rfl⟩ | ⟨c2, xs2, rfl, hc2, ty2, nv2⟩
    · refine ⟨_, rfl, _, _, _, _, true, rfl, .ty "int", .base (.int m), kit_ii, true, rfl, iteT (iteT ?_)⟩
      exact qn (fun E h => (mt_heads nv (sol_last (no h))).1 m rfl) _ s6
    obtain ⟨c3, ks2, e, hc3, hk2, hks2⟩ := Tz6.tupled nv2
    cases e
    refine ⟨_, rfl, _, _, _, _, false, rfl, .ty "int", ty2, kit_ti, false, rfl, iteF ?_⟩
    refine ⟨_, rfl, c, _, _, _, rfl, rfl, .inl (.inl hc'), at_of (j := 0) rfl rfl, _, rfl, c2, _, _, _, rfl, rfl, .inl (.inl hc3), at_of (j := 0) rfl rfl, rfl, !decide (signHead tl_ = signHead tr), ?_, ?_⟩
    · show V.bl (!decide (V.str (signHead tl_) = V.str (signHead tr))) = _
      by_cases e : signHead tl_ = signHead tr
      · rw [decide_eq_true e, decide_eq_true (congrArg V.str e)]
      · rw [decide_eq_false e, decide_eq_false fun z => e (V.str.inj z)]
    by_cases eh : signHead tl_ = signHead tr
    case neg =>
      rw [decide_eq_false eh]
      exact iteT (qn (fun E h => eh (mt_heads nv (sol_last (no h))).2) _ s6)
    rw [decide_eq_true eh]
    refine iteF ?_
    have kln := (sol_parts (D := D) (T := T0) (E := fun _ => none) nv nv2 eh).1
    have AL := AllAt.of hk fun i x k a b => hks i x k a b
    have AR := AllAt.of hk2 fun i x k a b => hks2 i x k a b
    -- list(zip(left[1:], right[1:]))
    refine ⟨_, rfl, .inl ⟨rfl, _, .inl (.inl hl6)⟩, ?_⟩
    refine ⟨_, rfl, 1, rfl, c, _, rfl, .inl (.inl hc'), cut_part _ _, fun g3 hg3 => ?_⟩
    rw [cut_tail]
    have s7 := same_new hg3 (.tup ks)
    have hg3' : (upd H6 g3 (.tup ks)) g3 = some (.tup ks) := upd_same
    generalize upd H6 g3 (.tup ks) = H7 at s7 hg3' ⊢
    refine ⟨_, rfl, 1, rfl, c2, _, rfl, .inl (.inl (s7 _ _ hc3)), cut_part _ _, fun g4 hg4 => ?_⟩
    rw [cut_tail]
    have s8 := same_new hg4 (.tup ks2)
    have hg4' : (upd H7 g4 (.tup ks2)) g4 = some (.tup ks2) := upd_same
    generalize upd H7 g4 (.tup ks2) = H8 at s8 hg4' ⊢
    refine ⟨g3, g4, ks, ks2, rfl, .inl (.inl (s8 _ _ hg3')), .inl (.inl hg4'), fun l2 ps2 H9 hl2 s9 hl29 pl2 pat2 => ?_⟩
    have s69 : Same H6 H9 := s7.trans (s8.trans s9)
    have td2 := zip_todo (H := H9) (AL.mono fun _ _ z => s69 _ _ z) (AR.mono fun _ _ z => s69 _ _ z) pl2 pat2
    have two : ks.length ≤ 2 := by rw [hk]; exact kids_two tl_
    refine ⟨l, l2, M, ps2.map V.ref, rfl, rfl, s69 _ _ hl6, hl29, by rw [List.length_map]; omega, ?_⟩
    have t10 : ∀ a xs, H9 a = some (.tup xs) → upd H9 l (.lst (M ++ ps2.map V.ref)) a = some (.tup xs) := fun a xs z => by rw [upd_ne (ne_of z (s69 _ _ hl6) (by intro z; cases z))]; exact z
    have t6x : ∀ a xs, H6 a = some (.tup xs) → upd H9 l (.lst (M ++ ps2.map V.ref)) a = some (.tup xs) := fun a xs z => t10 _ _ (s69 _ _ z)
    have sumZ := kids_sum nv kln
    have sumA := tsum_app T0 (tl_.kids.zip tr.kids)
    refine ⟨tsum (T0 ++ tl_.kids.zip tr.kids), by omega, D, T0 ++ tl_.kids.zip tr.kids, M ++ ps2.map V.ref, _, _, rfl, ⟨upd_same, pd_app (pd_mono (fun _ _ k => k.tups t6x) PM6) (pd_mono (fun _ _ k => k.tups t10) td2), ⟨kvs5, by rw [upd_ne dl]; exact s69 _ _ hd6, pd_mono (fun _ _ k => k.tups t6x) P6⟩, S.ok, fun t ht => ?_, fun E => ?_, fun n => ?_, by omega,
      fun c o w => by rw [upd_ne (ne_of_none w ln)]; exact s69 _ _ (s6 c o w)⟩, rfl⟩
    · rcases List.mem_append.mp ht with ht | ht
      · exact S.tk t (by simp [ht])
      · exact ⟨kl.kid (List.of_mem_zip ht).1, kr.kid (List.of_mem_zip ht).2⟩
    · rw [← S.sol E, (sol_parts nv nv2 eh).2]
    · rw [← S.cov n, cov_parts nv kln]
end
end Rp

/-! sorted(xs, key=f), f a def with a promise that gives texts and leaves the heap as it is. -/
namespace Rp
open PySem PySem.Spec PySem.W PyProof.Rows L2 TL
/-- by the texts beside -/
def leS : V × Str → V × Str → Bool := dataLe false fun p => PyData.str p.2
def rSortK (K : PySem.W.Frag) (f : Addr) (sp : Sp) : List V → List V → Hp → VK → Prop := fun vs zs H Q => ∃ (a : Addr) (ps : List (V × Str)), vs = [.ref a] ∧ zs = [.ref f] ∧ SqL K H a (ps.map (·.1)) ∧
  (∀ p ∈ ps, ∀ (H1 : Hp) (Q1 : VK), Same H H1 → (∀ H2, Same H1 H2 → Q1 (.str p.2) H2) → sp [p.1] H1 Q1 fun _ _ _ => False) ∧
  ∀ (l : Addr) (H1 : Hp), Same H H1 → H l = none → H1 l = some (.lst ((ps.mergeSort leS).map (·.1))) → Q (.ref l) H1
section
variable {X : Cx} {pins : List (Addr × Obj)} {σ : L2.St} {H : Hp} {s : Shared}
/-- a list of ours that stood untracked is tracked -/
theorem track {a : Addr} {o : HO} (I : Inv X pins σ H s) (F : FpOk X pins H a) (new : ObjOk X.prog X.w (upd H a o) s.heap a o) : Inv X pins σ (upd H a o) s := by
  obtain ⟨hn, h1, h2, h3, h4, h5⟩ := F
  have u : Un (frs X.stack) [a] H (upd H a o) s.heap s.heap :=
    { keep := fun b ob e n nf nx => e
      slot := fun b ob e n nf nx => ⟨ob.slots, e⟩
      free := fun b ob e n nx => by rw [upd_ne (by simpa using nx)]; exact n
      there := fun b ob e nx => ⟨ob, e⟩
      tups := fun b xs e => by rw [upd_ne (ne_of_none e hn)]; exact e
      frzs := fun b ob v e => by rw [upd_ne (ne_of_none e hn)]; exact e
      tbls := fun b ps e => ⟨#[], by rw [upd_ne (ne_of_none e hn), e]; simp⟩ }
  exact I.call (ch := [a]) (g' := s.gens) (d' := s.drawn) (t' := s.toks) u (I.hok.laidN (fun _ _ e => e) hn new) I.bare fun b hb => by
    obtain rfl : b = a := by simpa using hb
    exact ⟨h3, h1, h4, h5⟩
theorem each_vals {xs : List V} {us : List Value} (r : EachIs (fun u (x : V) => RelV x u) us xs) : Vals xs us := by
  induction r with
  | nil => exact .nil
  | cons h _ ih => exact .cons h ih
theorem vals_each {ps : List (V × Str)} : ∀ {us : List Value}, Vals (ps.map (·.1)) us → EachIs (fun u (p : V × Str) => RelV p.1 u) us ps := by
  induction ps with
  | nil => intro us r; cases r; exact .nil
  | cons p ps ih => intro us r; cases r with | cons h t => exact .cons h (ih t)
theorem each_fst {us : List Value} {ps : List (V × Str)} (r : EachIs (fun u (p : V × Str) => RelV p.1 u) us ps) : Vals (ps.map (·.1)) us := by
  induction r with
  | nil => exact .nil
  | cons h _ ih => exact .cons h ih
theorem same_trans {H H1 H2 : Hp} (a : ∀ b o, H b = some o → H1 b = some o) (c : ∀ b o, H1 b = some o → H2 b = some o) : ∀ b o, H b = some o → H2 b = some o := fun b o h => c b o (a b o h)
theorem cr_sortK {k : Nat} {f : Addr} {sp : Sp} (F : FnR X.prog X.w X.K X.mg X.base CX0 k f sp) (hr : Room (k + 2) X.A) : CallRK X (.builtin "sorted") [Str.ofString "key"] (rSortK X.K f sp) := by
  intro pins s σ H vs zs us ws Q I r rz h
  obtain ⟨a0, ps, rfl, rfl, hs, turn, q⟩ := h
  obtain rfl := Vals.ref1 r
  obtain rfl := Vals.ref1 rz
  obtain ⟨its, rv, hl, hz⟩ := I.list hs
  have len : its.length = ps.length := by rw [← rv.length, List.length_map]
  have hZ : its.length ≤ sizeLine := by rw [← rv.length]; exact hz
  have hr2 : Room k X.A.in1.in1 := (Room.in1 (Room.in1 hr) : Room k X.A.in1.in1)
  refine sorted_of_sort hl.isList hZ (ksk_s1 _ _) (fun x => ksk_l1 _ _) fun E' => ?_
  show wpAny (model X.prog X.w) X.A.in1.in1 (ksk_tree (s.heap.objs.size + 1) (.ref f) false) _ E' { s with heap := copyHeap s.heap its }
  have ho := copyHeap_at s.heap its
  have hsz : (copyHeap s.heap its).objs.size = s.heap.objs.size + 2 := by
    unfold copyHeap
    rw [size_push', Heap.size_update, size_push']
  have old : ∀ b o, s.heap.get? b = some o → (copyHeap s.heap its).get? b = some o := fun b o e => copyHeap_old e
  generalize hA : s.heap.objs.size + 1 = a at ho ⊢
  have al : s.heap.objs.size ≤ a := by omega
  generalize copyHeap s.heap its = h1 at ho hsz old ⊢
  obtain ⟨e1, ho1⟩ : ∃ e1, (h1.update a (Obj.mapSeq fun _ => (#[] : Array Value))).get? a = some (seqObj "list" #[] e1) := ⟨_, get?_update_seq ho fun _ => #[]⟩
  unfold ksk_tree
  refine wpAny_bind (listItems_at ho rfl ?_)
  refine wpAny_bind (listUpdate_at ho rfl ?_ (by rw [List.size_toArray]; exact hZ) (Nat.zero_le _))
  refine wpAny_bind (seqEpoch_at ho1 rfl ?_)
  refine wpAny_bind (wpAny_newTuple ?_ (by show its.length ≤ _; exact hZ))
  refine wpAny_bind (wpAny_newList ?_ (Nat.zero_le _))
  refine wpAny_holding ?_
  have sb := Heap.SameBut.update h1 a (Obj.mapSeq fun _ => (#[] : Array Value))
  have sz2 : (h1.update a (Obj.mapSeq fun _ => (#[] : Array Value))).objs.size = s.heap.objs.size + 2 := by rw [Heap.size_update]; exact hsz
  have old2 : ∀ b o, s.heap.get? b = some o → (h1.update a (Obj.mapSeq fun _ => (#[] : Array Value))).get? b = some o := fun b o e => (sb.2 b (Nat.ne_of_lt (Nat.lt_of_lt_of_le (Heap.lt_size e) al))).trans (old b o e)
  generalize h1.update a (Obj.mapSeq fun _ => (#[] : Array Value)) = h2 at ho1 sz2 old2 ⊢
  have sz3 : (h2.push (seqObj "tuple" its.toArray 0)).objs.size = s.heap.objs.size + 3 := by rw [size_push', sz2]
  have ho3 : ((h2.push (seqObj "tuple" its.toArray 0)).push (seqObj "list" #[] 0)).get? a = some (seqObj "list" #[] e1) := Heap.get?_push_of_some _ (Heap.get?_push_of_some _ ho1)
  have hk3 : ((h2.push (seqObj "tuple" its.toArray 0)).push (seqObj "list" #[] 0)).get? (h2.push (seqObj "tuple" its.toArray 0)).objs.size = some (seqObj "list" #[] 0) := Heap.get?_push_size _ rfl
  have old3 : ∀ b o, s.heap.get? b = some o → ((h2.push (seqObj "tuple" its.toArray 0)).push (seqObj "list" #[] 0)).get? b = some o := fun b o e => Heap.get?_push_of_some _ (Heap.get?_push_of_some _ (old2 b o e))
  have I3 : Inv X pins σ H { s with heap := ((h2.push (seqObj "tuple" its.toArray 0)).push (seqObj "list" #[] 0)) } := I.kept (t' := s.toks) old3
  show wpAny (model X.prog X.w) X.A.in1.in1 (ksk_rest a (.ref f) false its.toArray e1 (.ref (h2.push (seqObj "tuple" its.toArray 0)).objs.size)) _ E' { s with heap := ((h2.push (seqObj "tuple" its.toArray 0)).push (seqObj "list" #[] 0)) }
  generalize hkS : (h2.push (seqObj "tuple" its.toArray 0)).objs.size = kS at hk3 ⊢
  have kl : s.heap.objs.size ≤ kS := by omega
  have ka : kS ≠ a := by omega
  have Ha : H a = none := I.hok.fresh al
  have Hk : H kS = none := I.hok.fresh kl
  generalize ((h2.push (seqObj "tuple" its.toArray 0)).push (seqObj "list" #[] 0)) = h3 at ho3 hk3 I3 ⊢
  have nofr : ∀ b, s.heap.objs.size ≤ b → b ∉ frs X.stack := fun b hb z => by
    rcases List.mem_cons.mp (I.stkSub b z) with e | e
    · exact absurd (e ▸ hb : s.heap.objs.size ≤ X.env.locals) (Nat.not_le.mpr I.lt)
    · exact I.nofs hb e
  unfold ksk_rest
  refine wpAny_bind (wpAny_rule ?_)
  rw [List.forIn_toArray]
  refine wpAny_bind (ksk_fold (fun i s' => ∃ (H' : Hp) (kA : Array Value) (e : Nat), Inv X pins σ H' s' ∧ Same H H' ∧ H' a = none ∧ H' kS = none ∧ s'.heap.get? kS = some (seqObj "list" kA e) ∧ s'.heap.get? a = some (seqObj "list" #[] e1) ∧ EachIs (fun u (p : V × Str) => RelV (.str p.2) u) kA.toList (ps.take i)) its 0 _
    ⟨H, #[], 0, I3, Same.refl H, Ha, Hk, hk3, ho3, by rw [List.take_zero]; exact .nil⟩ ?step ?done)
  case step =>
    rintro j x s' hx ⟨H', kA, e, I', sm, na, nk, gk, ga, ek⟩
    simp only [Nat.zero_add] at ek ⊢
    have hj : j < its.length := (List.getElem?_eq_some_iff.mp hx).1
    obtain ⟨p, hp⟩ : ∃ p, ps[j]? = some p := ⟨_, List.getElem?_eq_getElem (by omega)⟩
    have rx : RelV p.1 x := by
      obtain ⟨u, hu, ru⟩ := rv.get (i := j) (x := p.1) (by rw [List.getElem?_map, hp]; rfl)
      rw [hx] at hu
      cases hu
      exact ru
    have tk : ps.take (j + 1) = ps.take j ++ [p] := by rw [List.take_add_one, hp]; rfl
    have kz : kA.size ≤ its.length := by
      have h1 := ek.length
      rw [Array.length_toList, List.length_take] at h1
      omega
    have e0 := I'.env0
    have e2 : Env0 X.prog X.w X.K X.mg X.base X.A.in1.in1 X.stack s' H' := ⟨e0.frames, e0.mod, e0.bs, e0.bsz, e0.funs, e0.frf, e0.hok, e0.bare⟩
    refine wpAny_bind (wpAny_attempt (wpAny_call (codeAny_mono (F X.A.in1.in1 X.stack s' H' [x] [p.1] (fun v H2 => v = .str p.2 ∧ Same H' H2) _ hr2 e2 (.cons rx .nil) (turn p (List.mem_of_getElem? hp) H' _ sm fun H2 s2 => ⟨rfl, s2⟩)) fun rr s2 hrr => ?_)))
    cases rr with
    | error er => exact False.elim hrr
    | ok fl =>
      cases fl with
      | next => exact False.elim hrr
      | brk => exact False.elim hrr
      | cont => exact False.elim hrr
      | ret v =>
        obtain ⟨v', H2, os, bare, un, hok, rv', ev, sm2⟩ := (show CE X.stack X.prog X.w H' _ _ v s2 from hrr)
        subst ev
        have I2 : Inv X pins σ H2 s2 := I'.call' os un hok bare (fun b y => absurd y List.not_mem_nil)
        have gk2 := un.keep _ _ gk nk (nofr _ kl) List.not_mem_nil
        have ga2 := un.keep _ _ ga na (nofr _ al) List.not_mem_nil
        have nk2 := un.free _ _ gk nk List.not_mem_nil
        have na2 := un.free _ _ ga na List.not_mem_nil
        try dsimp only
        have s1 := Heap.SameBut.update s2.heap kS (Obj.mapSeq (·.push v))
        obtain ⟨c2, hc2⟩ : ∃ c2, (s2.heap.update kS (Obj.mapSeq (·.push v))).get? kS = some (seqObj "list" (kA.push v) c2) := ⟨_, get?_update_seq gk2 (·.push v)⟩
        have ea : (kA.push v).toList = kA.toList ++ [v] := by simp
        refine wpAny_bind (listUpdate_at gk2 rfl ?_ (Nat.le_trans kz hZ) (Nat.le_trans (Nat.le_of_eq (Array.size_push ..)) (Nat.succ_le_succ (Nat.le_trans kz hZ))))
        refine wpAny_pure ⟨rfl, H2, kA.push v, c2, ?_, sm.trans sm2, na2, nk2, hc2, (s1.2 a ka.symm).trans ga2, ?_⟩
        · exact I2.turnedL (t' := s2.toks) (ch := [kS]) (fun b o hb e => (s1.2 b (by simpa using hb)).trans e) fun b hb => by
            obtain rfl : b = kS := by simpa using hb
            exact I.fpOk kl nk2
        · rw [ea, tk]
          exact each_snoc (R := fun u (p : V × Str) => RelV (.str p.2) u) rv' ek
  case done =>
    rintro s' ⟨H', kA, e, I', sm, na, nk, gk, ga, ek⟩
    have tk : ps.take (0 + its.length) = ps := List.take_of_length_le (by omega)
    rw [tk] at ek
    have kz : kA.size = its.length := by
      have h1 := ek.length
      rw [Array.length_toList] at h1
      omega
    have er : EachIs (fun v d => ∃ as, Reads s'.heap v d as) kA.toList (ps.map fun p => PyData.str p.2) := by
      have all : ∀ {us : List Value} {qs : List (V × Str)}, EachIs (fun u (p : V × Str) => RelV (.str p.2) u) us qs → EachIs (fun v d => ∃ as, Reads s'.heap v d as) us (qs.map fun p => PyData.str p.2) := by
        intro us qs r
        induction r with
        | nil => exact .nil
        | cons h _ ih =>
          obtain ⟨t, rfl⟩ := h
          exact .cons ⟨[], .str _ t⟩ ih
      exact all ek
    have hal : AllAlike (ps.map fun p => PyData.str p.2) := fun d hd d' hd' => by
      obtain ⟨p, _, rfl⟩ := List.mem_map.mp hd
      obtain ⟨p', _, rfl⟩ := List.mem_map.mp hd'
      rfl
    have hsk : Sortable (ps.map fun p => PyData.str p.2) := .inr fun d hd => by
      obtain ⟨p, _, rfl⟩ := List.mem_map.mp hd
      exact ⟨fun z => (by cases z), fun xs z => (by cases z)⟩
    have hu : ∀ d, d ∈ (ps.map fun p => PyData.str p.2) → X.A.in1.in1.units + d.depth < cLine := fun d hd => by
      obtain ⟨p, _, rfl⟩ := List.mem_map.mp hd
      have := hr2.un
      show X.A.in1.in1.units + 0 < cLine
      omega
    refine wpAny_bind (listItems_at gk rfl ?_)
    -- a heap without the keys
    have fr := Heap.SameBut.update s'.heap kS (fun o => { o with data := .freed })
    have hk0 : (s'.heap.update kS (fun o => { o with data := .freed })).get? kS = none := by
      have h1 := ((Heap.get?_eq_some s'.heap kS _).mp gk).1
      unfold Heap.get?
      rw [Heap.objs_update_self, h1]
      rfl
    refine keyH_end (κ := dataKind s'.heap (ps.map fun p => PyData.str p.2)) (h₁ := s'.heap.update kS (fun o => { o with data := .freed })) (vs := its) (fun b o hb e => ?_) hk0 gk ga ka (SortsAt.data er hal hsk hu) kz hZ fun h' tk c kp hD => ?_
    · by_cases hbk : b = kS
      · rw [hbk, hk0] at e; cases e
      · exact (fr.2 b hbk).symm.trans e
    have out := keyedOut_each (rev := false) (k := fun p : V × Str => PyData.str p.2) (R := fun u (p : V × Str) => RelV p.1 u) (bs := ps) ⟨s'.heap, kA.toList, hal, rfl, er⟩ (vals_each rv)
    have ov := each_fst out
    refine ⟨rfl, .ref a, upd H' a (.lst ((ps.mergeSort leS).map (·.1))), ?_, rfl, q a _ (fun b o z => ?_) Ha upd_same⟩
    · have keepAll : ∀ b o, b ∉ [kS, a] → s'.heap.get? b = some o → h'.get? b = some o := fun b o hb e => by
        simp only [List.mem_cons, List.not_mem_nil, or_false, not_or] at hb
        exact kp b o hb.2 ((fr.2 b hb.1).trans e)
      have I4 : Inv X pins σ H' { s' with heap := h', toks := tk } := I'.turnedL (t' := tk) (ch := [kS, a]) keepAll fun b hb => by
        simp only [List.mem_cons, List.not_mem_nil, or_false] at hb
        rcases hb with rfl | rfl
        · exact I.fpOk kl nk
        · exact I.fpOk al na
      refine track I4 (I.fpOk al na) ⟨?_, _, c, ov, hD⟩
      rw [List.length_map, List.length_mergeSort, ← len]
      exact hZ
    · rw [upd_ne (ne_of_none z Ha)]
      exact sm _ _ z
end
end Rp

/-! d.items() of a dict with int keys; sorted(d.items()): by the keys. -/
namespace Rp
open PySem PySem.Spec PyProof.Rows L2
def kInt : Key → Int
  | .inl i => i
  | .inr _ => 0
theorem paired_back {α β : Type} {R : α → β → Prop} : ∀ {l : List α} {m : List β} {j : Nat} {y : β}, Paired R l m → m[j]? = some y → ∃ x, l[j]? = some x ∧ R x y
  | _, _, _, _, .nil, h => by simp at h
  | _, _, 0, _, .cons (a := a) h _, e => ⟨a, rfl, by simp at e; subst e; exact h⟩
  | _, _, j + 1, _, .cons _ t, e => by simpa using paired_back t (by simpa using e)
/-- pairs whose first is an int, told by their places -/
structure PairAtI (h : Heap) (v : Value) (n : Int) : Prop where
  ex : ∃ (a : Addr) (o : Obj) (m : Nat) (t : Tok) (x : Value), v = .ref a ∧ h.get? a = some o ∧ o.cls = .type "tuple" ∧ o.data = .seq #[.int n t, x] m
theorem PairAtI.keep {h h' : Heap} {v : Value} {n : Int} (p : PairAtI h v n) (k : ∀ b o, h.get? b = some o → o.cls = .type "tuple" → h'.get? b = some o) : PairAtI h' v n :=
  let ⟨a, o, m, t, x, e, h1, h2, h3⟩ := p.ex; ⟨a, o, m, t, x, e, k a o h1 h2, h2, h3⟩
theorem pairI_one {h : Heap} {v : Value} {n m : Int} (p : PairAtI h v n) (q : PairAtI h v m) : n = m := by
  obtain ⟨a, o, i, t, x, rfl, h1, h2, h3⟩ := p.ex
  obtain ⟨b, u, j, t', x', e, g1, g2, g3⟩ := q.ex
  cases e
  rw [h1] at g1
  cases g1
  rw [h3] at g3
  injection g3 with z _
  have z := congrArg (fun w : Array Value => w[0]?) z
  simp at z
  exact z.1
theorem firsts_int {h : Heap} {r : Value → Int} : ∀ {vs : List Value}, (∀ v ∈ vs, PairAtI h v (r v)) → ∃ fs, PySem.W.KatTups h vs fs ∧ fs.length = vs.length ∧ ∀ f ∈ fs, ∃ n t, f = Value.int n t
  | [], _ => ⟨[], PySem.W.KatTups.nil, rfl, fun f hf => by simp at hf⟩
  | v :: vs, p => by
    obtain ⟨fs, k1, k2, k3⟩ := firsts_int fun u hu => p u (List.mem_cons_of_mem _ hu)
    obtain ⟨a, o, m, t, x, e, h1, h2, h3⟩ := (p v (by simp)).ex
    generalize r v = n at h3
    subst e
    refine ⟨.int n t :: fs, PySem.W.KatTups.cons h1 h2 h3 (by simp) k1, congrArg (· + 1) k2, fun f hf => ?_⟩
    rcases List.mem_cons.mp hf with rfl | hf
    · exact ⟨n, t, rfl⟩
    · exact k3 f hf
section
variable {prog : Program} {w : World} {A : Around} {E : Value → Shared → Prop} {s : Shared}
theorem eq_self {v : Value} {Q : Bool → Shared → Prop} (h : Q true s) : wpAny (model prog w) A (eqBool v v) Q E s := by
  unfold eqBool
  refine wpAny_holding ?_
  rw [if_pos (beq_self_eq_true v)]
  exact wpAny_bind (wpAny_rule (wpAny_pure h))
theorem swo_int (r : Value → Int) : SrtO.Swo (fun v u => decide (r v < r u)) :=
  ⟨fun x y h => decide_eq_false (by have := of_decide_eq_true h; omega), fun x y z h1 h2 => decide_eq_false (by
    have := of_decide_eq_false h1
    have := of_decide_eq_false h2
    omega)⟩
/-- such pairs, with unlike ints, are sorted by these -/
theorem pairs_sort {a : Addr} {vs : List Value} {r : Value → Int} (two : 2 ≤ vs.length) (p : ∀ v ∈ vs, PairAtI s.heap v (r v)) (un : ∀ v ∈ vs, ∀ u ∈ vs, r v = r u → v = u) (na : ∀ o, s.heap.get? a = some o → o.cls ≠ .type "tuple") :
    SrtO.SortableO prog w A s a vs (fun v u => decide (r v < r u)) := by
  intro g keep
  have p' : ∀ v ∈ vs, PairAtI g v (r v) := fun v hv => (p v hv).keep fun b o e c => keep b o (fun z => by subst z; exact na o e c) e
  refine ⟨tuples' true, fun Q E' hq => ?_, fun x y hx hy => ?_⟩
  · obtain ⟨fs, k, kl, ki⟩ := firsts_int p'
    refine PySem.W.kat_kind (s := { s with heap := g }) (T := .type "int") k (by omega) (fun f hf => ?_) (by rfl) hq
    obtain ⟨n, t, rfl⟩ := ki f hf
    exact PySem.W.Looks.now
  · have e1 := (p' _ hx).ex
    have e2 := (p' _ hy).ex
    have same := un _ hx _ hy
    show wpAny (model prog w) A (keyLt' (tuples' true) x.1 y.1) (fun b s' => s' = { s with heap := g } ∧ b = decide (r x.1 < r y.1)) (fun _ _ => False) { s with heap := g }
    generalize r x.1 = n at e1 same ⊢
    generalize r y.1 = m at e2 same ⊢
    obtain ⟨b, o, i, t, u, ex, h1, h2, h3⟩ := e1
    obtain ⟨c, o', j, t', u', ey, g1, g2, g3⟩ := e2
    rw [ex, ey] at same ⊢
    refine PySem.W.kat_lt (s := { s with heap := g }) h1 h3 g1 g3 ?_
    refine PySem.W.kat_cons (wpAny_eqBool_int ?_)
    by_cases e : n = m
    · have z := same e
      cases z
      rw [h1] at g1
      cases g1
      rw [h3] at g3
      injection g3 with z _
      injection z with z
      injection z with z1 z2
      injection z2 with z2 _
      subst e z2
      rw [beq_self_eq_true]
      refine PySem.W.kat_yes (PySem.W.kat_cons (eq_self (PySem.W.kat_yes (PySem.W.kat_nil ⟨rfl, ?_⟩))))
      rw [decide_eq_false (Int.lt_irrefl _)]
      rfl
    · rw [show (n == m) = false from beq_eq_false_iff_ne.mpr e]
      exact PySem.W.kat_no (TS.oneLt_ints _ ⟨rfl, rfl⟩)
end
section
variable {X : Cx}
def rItemsK : V → List V → Hp → VK → Prop := fun x xs H Q => ∃ (a : Addr) (kvs : List (Key × V)), x = .ref a ∧ xs = [] ∧ H a = some (.dK kvs) ∧ ∀ p, H p = none → Q (.ref p) (upd H p (L2.DX.itemsO p a))
theorem mt_itemsK : MtR X "dict.items" rItemsK := by
  intro pins s σ H x xs v us Q I rx rxs told
  obtain ⟨a, kvs, rfl, rfl, ha, q⟩ := told
  cases rx
  cases rxs
  obtain ⟨z, hd, vs, kv, dd⟩ := dk_of I.hok ha
  refine call_meetsIn PySem.F.slot_dict_items dd.typeIs PySem.F.entry_dict_items (PySem.F.args_dict_items_1 _) (meets_dict_items (mixKind X.prog X.w) a hd) ⟨⟨vs, dd⟩, ?_⟩
  exact ⟨V.ref s.heap.objs.size, _, I.laid (t' := s.toks) (o := L2.DX.itemsO s.heap.objs.size a) (fun b u e => Heap.get?_push_of_some _ e) (Nat.le_refl _) (L2.DX.itemsO_ok (Heap.get?_push_size _ rfl)), rfl, q _ (I.hok.fresh (Nat.le_refl _))⟩
/-- sorted(view), the keys ints -/
def rSortIt : List V → Hp → VK → Prop := fun vs H Q => ∃ (p a : Addr) (kvs : List (Key × V)) (ks : List Int), vs = [.ref p] ∧ H p = some (L2.DX.itemsO p a) ∧ H a = some (.dK kvs) ∧ kvs.map (·.1) = ks.map Sum.inl ∧ ks.Nodup ∧
  ∀ (H' : Hp) (l : Addr) (ps : List (Addr × Key × V)), Same H H' → H l = none → (ps.map (·.2)).Perm kvs → ps.Pairwise (fun x y => kInt x.2.1 < kInt y.2.1) → H' l = some (.lst (ps.map fun z => V.ref z.1)) → (∀ z ∈ ps, H' z.1 = some (.tup [kV z.2.1, z.2.2])) → Q (.ref l) H'
theorem cr_sortIt (calm : X.calm = true) : CallR X (.builtin "sorted") rSortIt := by
  intro pins s σ H vs us Q I r told
  obtain ⟨p, a, kvs, ks, rfl, hp, ha, keys, nd, go⟩ := told
  rw [Vals.ref1 r]
  have view : s.heap.IsItemsView p a := (show ObjOk X.prog X.w H s.heap p (L2.DX.itemsO p a) from I.hok p _ hp).1
  obtain ⟨hz, _, xs, kv, dd⟩ := dk_of I.hok ha
  obtain ⟨ep, hat⟩ := dd.dictAt
  have lk : kvs.length = xs.length := Paired.length kv
  have kl : kvs.length = ks.length := by have := congrArg List.length keys; rwa [List.length_map, List.length_map] at this
  refine Calls.call_function_entry kind_sorted plain_sorted entry_sorted (args_sorted1 _) ?_
  unfold Builtin.«sorted»
  refine wpAny_bind (m := checkCount "sorted" 1 1 _) (wpAny_pure (wpAny_bind (PySem.W.kdx_collect (A := X.A.in1) (I.ok.hd calm) view hat (by omega) fun g tk as old la G => ?_)))
  have up : as.Nodup := List.Pairwise.imp (fun h => Nat.ne_of_lt h) G.rise
  -- what stands at each
  have each : ∀ (j : Nat) (b : Addr), as[j]? = some b → ∃ (q : Key × V) (n : Int) (t : Tok) (y : Value), kvs[j]? = some q ∧ q.1 = .inl n ∧ ks[j]? = some n ∧ RelV q.2 y ∧ g.get? b = some { cls := .type "tuple", data := .seq #[.int n t, y] } := by
    intro j b hj
    obtain ⟨u, k, y, e1, e2, e3⟩ := G.pairs j b hj
    have lj : j < kvs.length := by have := (List.getElem?_eq_some_iff.mp e1).1; omega
    obtain ⟨q, hq, q1, q2⟩ : ∃ q, kvs[j]? = some q ∧ q.1 = k ∧ RelV q.2 y := by
      obtain ⟨q, hq, r1, r2⟩ := paired_back kv e1
      exact ⟨q, hq, r1, r2⟩
    have kj := congrArg (fun l : List Key => l[j]?) keys
    simp only [List.getElem?_map, hq, Option.map_some] at kj
    cases hn : ks[j]? with
    | none => rw [hn] at kj; cases kj
    | some n =>
      rw [hn] at kj
      have kj : q.1 = .inl n := Option.some.inj kj
      have ru : RelV (kV k) u := relV_key (show keyIs k u = true from e2)
      rw [← q1, kj] at ru
      obtain ⟨t, rfl⟩ := ru
      exact ⟨q, n, t, y, hq, kj, rfl, q2, e3⟩
  let zs : List (Addr × Key × V) := as.zip kvs
  have zget : ∀ (j : Nat) (b : Addr), as[j]? = some b → ∃ q, kvs[j]? = some q ∧ zs[j]? = some (b, q) := by
    intro j b hj
    obtain ⟨q, n, t, y, hq, _⟩ := each j b hj
    exact ⟨q, hq, List.getElem?_zip_eq_some.mpr ⟨hj, hq⟩⟩
  let r : Value → Int := fun v => match v with
    | .ref b => ((zs.find? fun z => z.1 == b).map fun z => kInt z.2.1).getD 0
    | _ => 0
  have rat : ∀ (j : Nat) (b : Addr) (q : Key × V), as[j]? = some b → kvs[j]? = some q → r (.ref b) = kInt q.1 := by
    intro j b q hj hq
    have zj : zs[j]? = some (b, q) := List.getElem?_zip_eq_some.mpr ⟨hj, hq⟩
    show ((zs.find? fun z => z.1 == b).map fun z => kInt z.2.1).getD 0 = _
    cases hf : zs.find? fun z => z.1 == b with
    | none => exact absurd (List.find?_eq_none.mp hf _ (List.mem_of_getElem? zj)) (by simp)
    | some z =>
      have z1 := List.find?_some hf
      have z2 := List.mem_of_find?_eq_some hf
      obtain ⟨i, hi⟩ := List.mem_iff_getElem?.mp z2
      obtain ⟨i1, i2⟩ := List.getElem?_zip_eq_some.mp hi
      have e : z.1 = b := by simpa using z1
      rw [e] at i1
      have ij : i = j := (List.getElem?_inj (List.getElem?_eq_some_iff.mp i1).1 up).mp (i1.trans hj.symm)
      subst ij
      rw [hq] at i2
      show kInt z.2.1 = _
      rw [← Option.some.inj i2]
  have found : ∀ v ∈ as.map Value.ref, ∃ (j : Nat) (b : Addr), v = .ref b ∧ as[j]? = some b := fun v hv => by
    obtain ⟨b, hb, rfl⟩ := List.mem_map.mp hv
    obtain ⟨j, hj⟩ := List.mem_iff_getElem?.mp hb
    exact ⟨j, b, rfl, hj⟩
  have pairs : ∀ v ∈ as.map Value.ref, PairAtI g v (r v) := fun v hv => by
    obtain ⟨j, b, rfl, hj⟩ := found v hv
    obtain ⟨q, n, t, y, hq, kq, _, _, at_⟩ := each j b hj
    rw [rat j b q hj hq, kq]
    exact ⟨b, _, 0, t, y, rfl, at_, rfl, rfl⟩
  have apart : ∀ v ∈ as.map Value.ref, ∀ u ∈ as.map Value.ref, r v = r u → v = u := fun v hv u hu e => by
    obtain ⟨j, b, rfl, hj⟩ := found v hv
    obtain ⟨i, c, rfl, hi⟩ := found u hu
    obtain ⟨q, n, _, _, hq, kq, hn, _⟩ := each j b hj
    obtain ⟨q', n', _, _, hq', kq', hn', _⟩ := each i c hi
    rw [rat j b q hj hq, rat i c q' hi hq', kq, kq'] at e
    have e : n = n' := e
    subst e
    have ij : j = i := (List.getElem?_inj (List.getElem?_eq_some_iff.mp hn).1 nd).mp (hn.trans hn'.symm)
    subst ij
    rw [hj] at hi
    cases hi
    rfl
  -- the tuples are tracked
  have I1 : Inv X pins σ H { s with heap := g, toks := tk } := I.kept old
  obtain ⟨H1, J, gr, qt⟩ := L2.DX.takeT (P := fun b vs => ∃ (j : Nat) (q : Key × V), as[j]? = some b ∧ kvs[j]? = some q ∧ vs = [kV q.1, q.2]) I as H I1 up fun b hb => by
    obtain ⟨j, hj⟩ := List.mem_iff_getElem?.mp hb
    obtain ⟨q, n, t, y, hq, kq, _, ry, at_⟩ := each j b hj
    have lo : s.heap.objs.size ≤ b := Nat.le_of_lt (G.above b hb)
    refine ⟨lo, I.hok.fresh lo, [kV q.1, q.2], ⟨j, q, hj, hq, rfl⟩, fun H3 => ⟨by show 2 ≤ sizeLine; decide, [.int n t, y], .cons (by rw [kq]; exact ⟨t, rfl⟩) (.cons ry .nil), ⟨_, at_, rfl, 0, rfl⟩⟩⟩
  have fit : (as.map Value.ref).length ≤ sizeLine := by rw [List.length_map]; omega
  refine wpAny_bind (wpAny_newList ?_ fit)
  have made : (g.push (seqObj "list" (as.map Value.ref).toArray 0)).get? g.objs.size = some (seqObj "list" (as.map Value.ref).toArray 0) := Heap.get?_push_size _ rfl
  show wpAny _ _ _ _ _ { s with heap := g.push (seqObj "list" (as.map Value.ref).toArray 0), toks := tk }
  refine wpAny_bind (wpAny_holding (wpAny_call_entry slot_list_sort ⟨_, made, rfl⟩ entry_list_sort
    (SrtO.list_sort_ord (s := { s with heap := g.push (seqObj "list" (as.map Value.ref).toArray 0), toks := tk }) (swo_int r) made fit
      (fun two => pairs_sort (s := { s with heap := g.push (seqObj "list" (as.map Value.ref).toArray 0), toks := tk }) two (fun v hv => (pairs v hv).keep fun b o e _ => Heap.get?_push_of_some _ e) apart fun o e c => by
        obtain rfl : o = seqObj "list" (as.map Value.ref).toArray 0 := Option.some.inj (e.symm.trans made)
        exact absurd (Value.type.inj c) (by decide)) fun out o1 o2 => ⟨_, rfl, ?_⟩) (args_list_sort _)))
  obtain ⟨ep', there⟩ := sortedHeap_at (vs := as.map Value.ref) (out := out.toArray) made
  have back : ∀ u ∈ out, ∃ (j : Nat) (b : Addr) (q : Key × V), u = Value.ref b ∧ as[j]? = some b ∧ kvs[j]? = some q := fun u hu => by
    obtain ⟨j, b, rfl, hj⟩ := found u (o2.perm.mem_iff.mp hu)
    obtain ⟨q, _, _, _, hq, _⟩ := each j b hj
    exact ⟨j, b, q, rfl, hj, hq⟩
  let f : Value → Addr × Key × V := fun u => match u with
    | .ref b => (b, ((zs.find? fun z => z.1 == b).map fun z => z.2).getD (.inl 0, .non))
    | _ => (0, .inl 0, .non)
  have fat : ∀ (j : Nat) (b : Addr) (q : Key × V), as[j]? = some b → kvs[j]? = some q → f (.ref b) = (b, q) := by
    intro j b q hj hq
    have zj : zs[j]? = some (b, q) := List.getElem?_zip_eq_some.mpr ⟨hj, hq⟩
    show (b, ((zs.find? fun z => z.1 == b).map fun z => z.2).getD (.inl 0, .non)) = _
    cases hf : zs.find? fun z => z.1 == b with
    | none => exact absurd (List.find?_eq_none.mp hf _ (List.mem_of_getElem? zj)) (by simp)
    | some z =>
      obtain ⟨i, hi⟩ := List.mem_iff_getElem?.mp (List.mem_of_find?_eq_some hf)
      obtain ⟨i1, i2⟩ := List.getElem?_zip_eq_some.mp hi
      have e : z.1 = b := by simpa using List.find?_some hf
      rw [e] at i1
      have ij : i = j := (List.getElem?_inj (List.getElem?_eq_some_iff.mp i1).1 up).mp (i1.trans hj.symm)
      subst ij
      rw [hq] at i2
      show (b, z.2) = _
      rw [Option.some.inj i2]
  have fz : (as.map Value.ref).map f = zs := by
    refine List.ext_getElem? fun j => ?_
    rw [List.getElem?_map, List.getElem?_map]
    cases hj : as[j]? with
    | none =>
      have : zs[j]? = none := by rw [List.getElem?_eq_none_iff] at hj ⊢; show (as.zip kvs).length ≤ j; rw [List.length_zip]; omega
      rw [this]; rfl
    | some b =>
      obtain ⟨q, hq, zj⟩ := zget j b hj
      rw [zj]
      exact congrArg some (fat j b q hj hq)
  let ps := out.map f
  have p1 : ps.map (fun z => V.ref z.1) = out.map fun u => (match u with | .ref b => V.ref b | _ => .non) := by
    show (out.map f).map _ = _
    rw [List.map_map]
    refine List.map_congr_left fun u hu => ?_
    obtain ⟨j, b, q, rfl, hj, hq⟩ := back u hu
    show V.ref (f (.ref b)).1 = V.ref b
    rw [fat j b q hj hq]
  have p2 : (ps.map (·.2)).Perm kvs := by
    have z := (o2.perm.map f).map (·.2)
    rw [fz] at z
    have m2 : zs.map (·.2) = kvs := List.map_snd_zip (by omega)
    rw [m2] at z
    exact z
  have p3 : ps.Pairwise (fun x y => kInt x.2.1 < kInt y.2.1) := by
    show (out.map f).Pairwise _
    rw [List.pairwise_map]
    have ond : out.Nodup := (o2.perm.nodup_iff).mpr (List.pairwise_map.mpr (List.Pairwise.imp (fun h e => h (by injection e)) up))
    have both := List.Pairwise.and o1 ond
    refine List.Pairwise.imp_of_mem (fun {u v} hu hv h => ?_) both
    obtain ⟨j, b, q, rfl, hj, hq⟩ := back u hu
    obtain ⟨i, c, q', rfl, hi, hq'⟩ := back v hv
    rw [fat j b q hj hq, fat i c q' hi hq']
    have h1 := of_decide_eq_false h.1
    have ne : r (.ref b) ≠ r (.ref c) := fun e => h.2 (apart _ (o2.perm.mem_iff.mp hu) _ (o2.perm.mem_iff.mp hv) e)
    rw [rat j b q hj hq, rat i c q' hi hq'] at h1 ne
    show kInt q.1 < kInt q'.1
    omega
  have vals : Vals (ps.map fun z => V.ref z.1) out := by
    rw [p1]
    have all : ∀ l : List Value, (∀ u ∈ l, ∃ b, u = Value.ref b) → Vals (l.map fun u => (match u with | .ref b => V.ref b | _ => .non)) l := by
      intro l
      induction l with
      | nil => intro _; exact .nil
      | cons u l ih =>
        intro h
        obtain ⟨b, rfl⟩ := h u (by simp)
        exact .cons rfl (ih fun v hv => h v (by simp [hv]))
    exact all out fun u hu => let ⟨_, b, _, e, _⟩ := back u hu; ⟨b, e⟩
  have fits : (ps.map fun z => V.ref z.1).length ≤ sizeLine := by rw [List.length_map]; show (out.map f).length ≤ _; rw [List.length_map, o2.perm.length_eq]; exact fit
  have free : H1 g.objs.size = none := J.hok.fresh (Nat.le_refl _)
  refine wpAny_pure ⟨_, rfl, .ref g.objs.size, upd H1 g.objs.size (.lst (ps.map fun z => V.ref z.1)), J.laid (t' := tk) (fun b u e => ?_) (Nat.le_refl _) ⟨fits, out, ep', vals, there⟩, rfl, go _ _ ps (fun b o e => ?_) (I1.hok.fresh (Nat.le_refl _)) p2 p3 upd_same fun z hz => ?_⟩
  · have lt := Heap.lt_size e
    rw [sortedHeap_old (Nat.ne_of_lt lt) (by rw [size_push']; exact Nat.lt_succ_of_lt lt)]
    exact Heap.get?_push_of_some _ e
  · have e1 := gr b o e
    rw [upd_ne (ne_of_none e1 free)]
    exact e1
  · obtain ⟨u, hu, rfl⟩ := List.mem_map.mp hz
    obtain ⟨j, b, q, rfl, hj, hq⟩ := back u hu
    rw [fat j b q hj hq]
    obtain ⟨vs, ⟨i, q', i1, i2, ev⟩, hH⟩ := qt b (List.mem_of_getElem? hj)
    have ij : i = j := (List.getElem?_inj (List.getElem?_eq_some_iff.mp i1).1 up).mp (i1.trans hj.symm)
    subst ij
    rw [hq] at i2
    cases i2
    show upd H1 g.objs.size _ b = _
    rw [upd_ne (ne_of_none hH free), hH, ev]
end
end Rp

set_option maxHeartbeats 16000000
/-! All BINDINGs: choices, what solves them; rows sorted by their texts. -/
namespace Rp
open PySem PySem.Spec PyProof.Rows L2 TL StX
theorem mt_fun {E : Mp} : ∀ {l r r' : Tm}, l.mt E r → l.mt E r' → r = r'
  | .v n, r, r', h, h' => by
    have h : E n = some r := h
    have h' : E n = some r' := h'
    rw [h] at h'
    exact Option.some.inj h'
  | .z, r, r', h, h' => by
    have h : r = .z := h
    have h' : r' = .z := h'
    rw [h, h']
  | .s l, r, r', ⟨q, e, h⟩, ⟨q', e', h'⟩ => by rw [e, e', mt_fun h h']
  | .f l k, r, r', ⟨p, q, e, h1, h2⟩, ⟨p', q', e', h1', h2'⟩ => by rw [e, e', mt_fun h1 h1', mt_fun h2 h2']
theorem zip_fun {E : Mp} : ∀ {ts us us' : List Tm}, ts.length = us.length → ts.length = us'.length → (∀ z ∈ ts.zip us, z.1.mt E z.2) → (∀ z ∈ ts.zip us', z.1.mt E z.2) → us = us'
  | [], [], [], _, _, _, _ => rfl
  | [], _ :: _, _, l, _, _, _ => by simp at l
  | [], _, _ :: _, _, l, _, _ => by simp at l
  | _ :: _, [], _, l, _, _, _ => by simp at l
  | _ :: _, _, [], _, l, _, _ => by simp at l
  | t :: ts, u :: us, u' :: us', l, l', h, h' => by
    have a := mt_fun (h (t, u) (by simp)) (h' (t, u') (by simp))
    have a : u = u' := a
    have b : us = us' := zip_fun (ts := ts) (by simpa using l) (by simpa using l') (fun z hz => h z (by simp [hz])) fun z hz => h' z (by simp [hz])
    rw [a, b]
theorem amt_fun {E : Mp} {p q q' : At} (h : AMt E p q) (h' : AMt E p q') : q = q' := by
  obtain ⟨n, us⟩ := q
  obtain ⟨n', us'⟩ := q'
  have e1 : n = n' := h.1.symm.trans h'.1
  have e2 : us = us' := zip_fun h.2.1 h'.2.1 h.2.2 h'.2.2
  rw [e1, e2]
/-- the choice c solved -/
def Slv (E : Mp) (Ps c : List At) : Prop := Ps.length = c.length ∧ ∀ z ∈ Ps.zip c, AMt E z.1 z.2
theorem slv_snoc {E : Mp} {Ps c : List At} {p h : At} (l : Ps.length = c.length) : Slv E (Ps ++ [p]) (c ++ [h]) ↔ Slv E Ps c ∧ AMt E p h := by
  unfold Slv
  rw [List.zip_append l]
  constructor
  · rintro ⟨_, a⟩
    exact ⟨⟨l, fun z hz => a z (by simp [hz])⟩, a (p, h) (by simp)⟩
  · rintro ⟨⟨_, a⟩, b⟩
    refine ⟨by simp [l], fun z hz => ?_⟩
    rcases List.mem_append.mp hz with hz | hz
    · exact a z hz
    · obtain rfl : z = (p, h) := by simpa using hz
      exact b
theorem slv_fun {E : Mp} : ∀ {Ps c c' : List At}, Slv E Ps c → Slv E Ps c' → c = c'
  | [], [], [], _, _ => rfl
  | [], _ :: _, _, l, _ => by have := l.1; simp at this
  | [], _, _ :: _, _, l => by have := l.1; simp at this
  | _ :: _, [], _, l, _ => by have := l.1; simp at this
  | _ :: _, _, [], _, l => by have := l.1; simp at this
  | p :: Ps, h :: c, h' :: c', a, b => by
    have e1 := amt_fun (a.2 (p, h) (by simp)) (b.2 (p, h') (by simp))
    have e1 : h = h' := e1
    rw [e1, slv_fun (Ps := Ps) (c := c) (c' := c') ⟨by simpa using a.1, fun z hz => a.2 z (by simp [hz])⟩ ⟨by simpa using b.1, fun z hz => b.2 z (by simp [hz])⟩]
/-- an entry of the list: what was chosen, what came of it -/
abbrev En := List At × Option Bd
def EnOk (Ps : List At) (e : En) : Prop := e.1.length = Ps.length ∧ match e.2 with
  | none => ∀ E, ¬ Slv E Ps e.1
  | some D => BdOk D ∧ (∀ E, Sub D E ↔ Slv E Ps e.1) ∧ ∀ n, n ∈ D.map (·.1) ↔ ∃ p ∈ Ps, atNm p n
def EnAt (H : Hp) (v : V) (e : En) : Prop := match e.2 with
  | none => v = .non
  | some D => ∃ a, v = .ref a ∧ DmAt H a D
theorem EnAt.same {H H' : Hp} {v : V} {e : En} (h : EnAt H v e) (s : Same H H') : EnAt H' v e := by
  unfold EnAt at *
  split
  · rename_i q; rw [q] at h; exact h
  · rename_i D q
    rw [q] at h
    obtain ⟨a, e1, h1⟩ := h
    exact ⟨a, e1, h1.same s⟩
/-- the choices one pattern further -/
def fur (hs : List At) (F : List En) : List (List At) := (F.filter fun e => e.2.isSome).flatMap fun e => hs.map fun h => e.1 ++ [h]
theorem fur_nodup {hs : List At} (nh : hs.Nodup) {k : Nat} : ∀ {F : List En}, (F.map (·.1)).Nodup → (∀ e ∈ F, e.1.length = k) → (fur hs F).Nodup := by
  intro F
  induction F with
  | nil => intro _ _; simp [fur]
  | cons e F ih =>
    intro nd l
    rw [List.map_cons, List.nodup_cons] at nd
    have ih := ih nd.2 fun e he => l e (by simp [he])
    unfold fur at *
    rw [List.filter_cons]
    split
    · rw [List.flatMap_cons]
      refine List.nodup_append.mpr ⟨List.pairwise_map.mpr (List.Pairwise.imp (fun {a b} h e => h (by simpa using e)) nh), ih, fun x hx y hy exy => ?_⟩
      obtain ⟨h, _, rfl⟩ := List.mem_map.mp hx
      obtain ⟨e', he', hy⟩ := List.mem_flatMap.mp hy
      obtain ⟨h', _, rfl⟩ := List.mem_map.mp hy
      have le := l e (by simp)
      have le' := l e' (by simp [(List.mem_filter.mp he').1])
      have := (List.append_inj exy (by omega)).1
      exact nd.1 (List.mem_map.mpr ⟨e', (List.mem_filter.mp he').1, this.symm⟩)
    · exact ih
/-- all that is asked of the list -/
structure EnAll (gl : At) (hs Ps : List At) (F : List En) : Prop where
  ok : ∀ e ∈ F, EnOk Ps e
  nd : (F.map (·.1)).Nodup
  adm : ∀ e ∈ F, ∃ c, e.1 = gl :: c ∧ ∀ h ∈ c, h ∈ hs
  full : ∀ (E : Mp) (c : List At), (∀ h ∈ c, h ∈ hs) → Slv E Ps (gl :: c) → gl :: c ∈ F.map (·.1)
theorem EnAll.step {gl : At} {hs Ps : List At} {F F' : List En} {p : At} (A : EnAll gl hs Ps F) (ne : Ps ≠ []) (nh : hs.Nodup) (e : F'.map (·.1) = fur hs F) (ok : ∀ e ∈ F', EnOk (Ps ++ [p]) e) : EnAll gl hs (Ps ++ [p]) F' := by
  have mem : ∀ {x}, x ∈ F'.map (·.1) ↔ ∃ g ∈ F, g.2.isSome = true ∧ ∃ h ∈ hs, x = g.1 ++ [h] := by
    intro x
    rw [e]
    unfold fur
    rw [List.mem_flatMap]
    constructor
    · rintro ⟨g, hg, hx⟩
      obtain ⟨h, hh, rfl⟩ := List.mem_map.mp hx
      exact ⟨g, (List.mem_filter.mp hg).1, (List.mem_filter.mp hg).2, h, hh, rfl⟩
    · rintro ⟨g, hg, i, h, hh, rfl⟩
      exact ⟨g, List.mem_filter.mpr ⟨hg, i⟩, List.mem_map.mpr ⟨h, hh, rfl⟩⟩
  refine ⟨ok, by rw [e]; exact fur_nodup nh A.nd fun e he => (A.ok e he).1, fun e he => ?_, fun E c hc sl => ?_⟩
  · obtain ⟨g, hg, _, h, hh, ex⟩ := mem.mp (List.mem_map.mpr ⟨e, he, rfl⟩)
    obtain ⟨c, e1, hc⟩ := A.adm g hg
    refine ⟨c ++ [h], by rw [ex, e1]; rfl, fun x hx => ?_⟩
    rcases List.mem_append.mp hx with hx | hx
    · exact hc x hx
    · obtain rfl : x = h := by simpa using hx
      exact hh
  · have lc : Ps.length = c.length := by have := sl.1; simp only [List.length_append, List.length_cons, List.length_nil] at this; omega
    rcases List.eq_nil_or_concat c with ec | ⟨c0, h, ec⟩
    · subst ec
      exact absurd (List.eq_nil_of_length_eq_zero (by simpa using lc)) ne
    · rw [List.concat_eq_append] at ec
      subst ec
      have l2 : Ps.length = (gl :: c0).length := by simp only [List.length_append, List.length_cons, List.length_nil] at lc ⊢; omega
      have sl2 : Slv E (Ps ++ [p]) ((gl :: c0) ++ [h]) := sl
      obtain ⟨a, b⟩ := (slv_snoc l2).mp sl2
      have m := A.full E c0 (fun x hx => hc x (by simp [hx])) a
      obtain ⟨g, hg, eg⟩ := List.mem_map.mp m
      refine mem.mpr ⟨g, hg, ?_, h, hc h (by simp), by rw [eg]; rfl⟩
      have okg := (A.ok g hg).2
      cases hg2 : g.2 with
      | none => rw [hg2, eg] at okg; exact absurd a (okg E)
      | some D => rfl
/-! ### putting and matching -/
theorem mpOf_eq {b : Bd} {n : Int} {t : Tm} : mpOf b n = some t ↔ b.lookup n = some t := Iff.rfl
theorem mt_put {b : Bd} : ∀ {l r : Tm}, l.mt (mpOf b) r → Tm.put b l = r ∧ ∀ n ∈ l.nums, n ∈ b.map (·.1)
  | .v m, r, h => by
    have h : b.lookup m = some r := h
    refine ⟨by show (b.lookup m).getD (.v m) = r; rw [h]; rfl, fun n hn => ?_⟩
    simp [Tm.nums] at hn
    subst hn
    exact Classical.not_not.mp fun z => by rw [nolook.mpr z] at h; cases h
  | .z, r, h => ⟨(show r = .z from h).symm, fun n hn => by simp [Tm.nums] at hn⟩
  | .s l, r, ⟨q, e, h⟩ => by
    obtain ⟨a, c⟩ := mt_put h
    exact ⟨by rw [e, ← a]; rfl, c⟩
  | .f l k, r, ⟨p, q, e, h1, h2⟩ => by
    obtain ⟨a, c⟩ := mt_put h1
    obtain ⟨a', c'⟩ := mt_put h2
    refine ⟨by rw [e, ← a, ← a']; rfl, fun n hn => ?_⟩
    rcases List.mem_append.mp hn with hn | hn
    · exact c n hn
    · exact c' n hn
theorem put_mt {b : Bd} : ∀ {l : Tm}, (∀ n ∈ l.nums, n ∈ b.map (·.1)) → l.mt (mpOf b) (Tm.put b l)
  | .v m, h => by
    have hm := h m (by simp [Tm.nums])
    show b.lookup m = some ((b.lookup m).getD (.v m))
    cases e : b.lookup m with
    | none => exact absurd hm (nolook.mp e)
    | some t => rfl
  | .z, _ => rfl
  | .s l, h => ⟨_, rfl, put_mt (l := l) h⟩
  | .f l k, h => ⟨_, _, rfl, put_mt fun n hn => h n (List.mem_append_left _ hn), put_mt fun n hn => h n (List.mem_append_right _ hn)⟩
theorem amt_put {b : Bd} {p q : At} (h : AMt (mpOf b) p q) : atPut b p = q ∧ ∀ n, atNm p n → n ∈ b.map (·.1) := by
  obtain ⟨pn, ts⟩ := p
  obtain ⟨qn, us⟩ := q
  obtain ⟨e, l, h⟩ := h
  have e : pn = qn := e
  have l : ts.length = us.length := l
  have h : ∀ t ∈ ts.zip us, t.1.mt (mpOf b) t.2 := h
  have zf : (ts.zip us).map (·.1) = ts := List.map_fst_zip (by omega)
  have zs : (ts.zip us).map (·.2) = us := List.map_snd_zip (by omega)
  have m : ts.map (Tm.put b) = us := by
    have a : (ts.zip us).map (fun z => Tm.put b z.1) = (ts.zip us).map (·.2) := List.map_congr_left fun z hz => (mt_put (h z hz)).1
    have c : (ts.zip us).map (fun z => Tm.put b z.1) = ((ts.zip us).map (·.1)).map (Tm.put b) := by rw [List.map_map]; rfl
    rw [c, zf, zs] at a
    exact a
  refine ⟨by show (⟨pn, ts.map (Tm.put b)⟩ : At) = _; rw [m, e], fun n ⟨t, ht, hn⟩ => ?_⟩
  have ht : t ∈ ts := ht
  rw [← zf] at ht
  obtain ⟨z, hz, rfl⟩ := List.mem_map.mp ht
  exact (mt_put (h z hz)).2 n hn
theorem put_amt {b : Bd} {p : At} (h : ∀ n, atNm p n → n ∈ b.map (·.1)) : AMt (mpOf b) p (atPut b p) := by
  refine ⟨rfl, by show p.ts.length = (p.ts.map (Tm.put b)).length; rw [List.length_map], fun z hz => ?_⟩
  have e : p.ts.zip (p.ts.map (Tm.put b)) = p.ts.map fun t => (t, Tm.put b t) := by
    generalize p.ts = ts
    induction ts with
    | nil => rfl
    | cons t ts ih => simp only [List.map_cons, List.zip_cons_cons, ih]
  have hz : z ∈ p.ts.zip (p.ts.map (Tm.put b)) := hz
  rw [e] at hz
  obtain ⟨t, ht, rfl⟩ := List.mem_map.mp hz
  exact put_mt fun n hn => h n ⟨t, ht, hn⟩
theorem atNm_nums {p : At} {n : Int} : n ∈ atNums p ↔ atNm p n := by
  unfold atNums atNm
  rw [List.mem_flatMap]
theorem sy_nm {o : Sy} {n : Int} : n ∈ syNums o ↔ ∃ p ∈ o.gl :: o.hs, atNm p n := by
  unfold syNums
  rw [List.mem_flatMap]
  constructor
  · rintro ⟨p, hp, hn⟩
    exact ⟨p, by simp at hp ⊢; exact hp.symm, atNm_nums.mp hn⟩
  · rintro ⟨p, hp, hn⟩
    exact ⟨p, by simp at hp ⊢; exact hp.symm, atNm_nums.mpr hn⟩
/-! ### rows -/
def Row (D : Bd) (b : Prs) : Prop := (b.map (·.1)).Pairwise (· < ·) ∧ ∀ n, b.lookup n = D.lookup n
theorem nd_look {b : Bd} {p : Int × Tm} (nd : (b.map (·.1)).Nodup) (h : p ∈ b) : b.lookup p.1 = some p.2 := by
  induction b with
  | nil => simp at h
  | cons q b ih =>
    rw [List.map_cons, List.nodup_cons] at nd
    rcases List.mem_cons.mp h with rfl | h1
    · simp [List.lookup]
    · have : p.1 ≠ q.1 := fun z => nd.1 (List.mem_map.mpr ⟨p, h1, z⟩)
      obtain ⟨qn, qt⟩ := q
      rw [List.lookup_cons, beq_eq_false_iff_ne.mpr this]
      exact ih nd.2 h1
theorem mem_look {b : Bd} {n : Int} {t : Tm} (h : b.lookup n = some t) : (n, t) ∈ b := by
  obtain ⟨l1, l2, e, _⟩ := List.lookup_eq_some_iff.mp h
  rw [e]; simp
theorem up_nd {l : List Int} (h : l.Pairwise (· < ·)) : l.Nodup := h.imp fun h e => by omega
/-- rows with the same keys' values are one -/
theorem row_one {b c : Prs} (hb : (b.map (·.1)).Pairwise (· < ·)) (hc : (c.map (·.1)).Pairwise (· < ·)) (e : ∀ n, b.lookup n = c.lookup n) : b = c := by
  have mem : ∀ {x y : Prs}, (x.map (·.1)).Pairwise (· < ·) → (∀ n, x.lookup n = y.lookup n) → ∀ p ∈ x, p ∈ y := fun hx e p hp => mem_look ((e p.1).symm.trans (nd_look (up_nd hx) hp))
  have nb : b.Nodup := List.Pairwise.of_map (f := (·.1)) (S := (· ≠ ·)) (fun a b h e => h (by rw [e])) (up_nd hb)
  have nc : c.Nodup := List.Pairwise.of_map (f := (·.1)) (S := (· ≠ ·)) (fun a b h e => h (by rw [e])) (up_nd hc)
  have pm : b.Perm c := (List.perm_ext_iff_of_nodup nb nc).mpr fun p => ⟨mem hb e p, mem hc (fun n => (e n).symm) p⟩
  refine List.Perm.eq_of_pairwise (le := fun p q => p.1 < q.1) (fun p q _ _ h1 h2 => by omega) (List.pairwise_map.mp hb) (List.pairwise_map.mp hc) pm
theorem row_keys {D : Bd} {b : Prs} (r : Row D b) (n : Int) : n ∈ b.map (·.1) ↔ n ∈ D.map (·.1) := by
  have h := r.2 n
  by_cases z : n ∈ b.map (·.1)
  · have : b.lookup n ≠ none := fun e => nolook.mp e z
    rw [h] at this
    exact ⟨fun _ => Classical.not_not.mp fun w => this (nolook.mpr w), fun _ => z⟩
  · have : b.lookup n = none := nolook.mpr z
    rw [h] at this
    exact ⟨fun w => absurd w z, fun w => absurd w (nolook.mp this)⟩
theorem row_ok {D : Bd} {b : Prs} (ok : BdOk D) (r : Row D b) : PrOk b := by
  have mem : ∀ p ∈ b, p ∈ D := fun p hp => mem_look ((r.2 p.1).symm.trans (nd_look (up_nd r.1) hp))
  refine ⟨fun p hp => ok.num p (mem p hp), fun p hp => (ok.tk p (mem p hp)).1, fun p hp => (ok.tk p (mem p hp)).2, r.1, ?_⟩
  have := nd100 (up_nd r.1) fun n hn => by
    obtain ⟨p, hp, rfl⟩ := List.mem_map.mp hn
    exact ok.num p (mem p hp)
  simpa using this
/-- what a solved choice tells -/
theorem comes_by {s o : Sy} {c : List At} {D : Bd} {b : Prs} (adm : ∃ c', c = s.gl :: c' ∧ ∀ h ∈ c', h ∈ s.hs) (ok : EnOk (o.gl :: o.hs) (c, some D)) (r : Row D b) : Comes s o b ∧ Slv (mpOf b) (o.gl :: o.hs) c := by
  obtain ⟨l, okD, sol, dom⟩ := ok
  have sl : Slv (mpOf b) (o.gl :: o.hs) c := (sol _).mp fun n t h => by show b.lookup n = some t; rw [r.2 n]; exact h
  obtain ⟨c', rfl, hc⟩ := adm
  have g := amt_put (sl.2 (o.gl, s.gl) (by simp))
  refine ⟨⟨r.1, fun k => by rw [row_keys r k, dom k, sy_nm], g.1, fun h hh => ?_⟩, sl⟩
  obtain ⟨i, hi, rfl⟩ := List.getElem_of_mem hh
  have l : c'.length = o.hs.length := by simpa using l
  have hz : (o.hs[i], c'[i]'(by omega)) ∈ (o.gl :: o.hs).zip (s.gl :: c') := by
    rw [List.zip_cons_cons]
    exact List.mem_cons_of_mem _ (List.mem_of_getElem? (i := i) (List.getElem?_zip_eq_some.mpr ⟨List.getElem?_eq_getElem hi, List.getElem?_eq_getElem (by omega)⟩))
  rw [(amt_put (sl.2 _ hz)).1]
  exact hc _ (List.getElem_mem _)
/-- each BINDING that comes is told -/
theorem told_all {s o : Sy} {F : List En} (A : EnAll s.gl s.hs (o.gl :: o.hs) F) {b : Prs} (C : Comes s o b) : ∃ e ∈ F, ∃ D, e.2 = some D ∧ Row D b := by
  obtain ⟨up, keys, hg, hh⟩ := C
  have cl : ∀ p ∈ o.gl :: o.hs, ∀ n, atNm p n → n ∈ b.map (·.1) := fun p hp n hn => (keys n).mpr (sy_nm.mpr ⟨p, hp, hn⟩)
  have sl : Slv (mpOf b) (o.gl :: o.hs) (s.gl :: o.hs.map (atPut b)) := by
    refine ⟨by simp, fun z hz => ?_⟩
    rw [List.zip_cons_cons] at hz
    rcases List.mem_cons.mp hz with rfl | hz
    · have := put_amt (cl o.gl (by simp))
      rw [hg] at this
      exact this
    · have e : o.hs.zip (o.hs.map (atPut b)) = o.hs.map fun t => (t, atPut b t) := by
        generalize o.hs = ts
        induction ts with
        | nil => rfl
        | cons t ts ih => simp only [List.map_cons, List.zip_cons_cons, ih]
      rw [e] at hz
      obtain ⟨p, hp, rfl⟩ := List.mem_map.mp hz
      exact put_amt (cl p (by simp [hp]))
  have m := A.full (mpOf b) (o.hs.map (atPut b)) (fun h hx => by obtain ⟨p, hp, rfl⟩ := List.mem_map.mp hx; exact hh p hp) sl
  obtain ⟨e, he, ee⟩ := List.mem_map.mp m
  obtain ⟨l, ok⟩ := A.ok e he
  cases e2 : e.2 with
  | none => rw [e2, ee] at ok; exact absurd sl (ok _)
  | some D =>
    rw [e2] at ok
    have sub := (ok.2.1 (mpOf b)).mpr (by rw [ee]; exact sl)
    refine ⟨e, he, D, e2, up, fun n => ?_⟩
    cases q : D.lookup n with
    | some t => exact sub n t q
    | none =>
      refine nolook.mpr fun w => nolook.mp q ?_
      exact (ok.2.2 n).mpr (sy_nm.mp ((keys n).mp w))
end Rp

set_option maxHeartbeats 16000000
/-! BINDINGs sorted by their texts. -/
namespace Rp
open PySem PySem.Spec PyProof.Rows L2 TL StX
theorem leS_eq : leS = fun a b => decide (a.2.cps.toList ≤ b.2.cps.toList) := PySem.W.dataLe_str fun p : V × Str => p.2
def leB (a b : Prs) : Bool := decide ((btxt a).cps.toList ≤ (btxt b).cps.toList)
def sortB (L : List Prs) : List Prs := L.mergeSort leB
def zB (z : V × Prs) : V × Str := (z.1, btxt z.2)
theorem bis_zip {H : Hp} : ∀ {xs : List V} {L : List Prs}, Paired (BiAt H) xs L → (∀ z ∈ xs.zip L, BiAt H z.1 z.2) ∧ (xs.zip L).map (·.2) = L ∧ ((xs.zip L).map zB).map (·.1) = xs
  | _, _, .nil => ⟨by simp, rfl, rfl⟩
  | _, _, .cons (a := x) (b := b) h t => by
    obtain ⟨h1, h2, h3⟩ := bis_zip t
    refine ⟨fun z hz => ?_, ?_, ?_⟩
    · rcases List.mem_cons.mp hz with rfl | hz
      · exact h
      · exact h1 z hz
    · rw [List.zip_cons_cons, List.map_cons, h2]
    · rw [List.zip_cons_cons, List.map_cons, List.map_cons, h3]; rfl
theorem bis_unzip {H : Hp} : ∀ {zs : List (V × Prs)}, (∀ z ∈ zs, BiAt H z.1 z.2) → Paired (BiAt H) ((zs.map zB).map (·.1)) (zs.map (·.2))
  | [], _ => .nil
  | z :: zs, h => .cons (h z (by simp)) (bis_unzip fun y hy => h y (by simp [hy]))
theorem sorted_bis {H : Hp} {xs : List V} {L : List Prs} (h : Paired (BiAt H) xs L) : Paired (BiAt H) ((((xs.zip L).map zB).mergeSort leS).map (·.1)) (sortB L) := by
  obtain ⟨h1, h2, h3⟩ := bis_zip h
  have e1 : ((xs.zip L).map zB).mergeSort leS = ((xs.zip L).mergeSort fun a b => leB a.2 b.2).map zB := by
    rw [List.map_mergeSort]
    intro a _ b _
    rw [leS_eq]
    rfl
  have e2 : sortB L = ((xs.zip L).mergeSort fun a b => leB a.2 b.2).map (·.2) := by
    rw [List.map_mergeSort (s := leB), h2]
    · rfl
    · intro a _ b _; rfl
  rw [e1, e2]
  exact bis_unzip fun z hz => h1 z ((List.mergeSort_perm _ _).mem_iff.mp hz)
theorem strL_ext {a b : Str} (h : a.cps.toList = b.cps.toList) : a = b := by
  obtain ⟨a⟩ := a
  obtain ⟨b⟩ := b
  have : a = b := Array.ext' h
  rw [this]
/-- the same BINDINGs, in any order: sorted they are one row -/
theorem rows_one {L M : List Prs} (nl : L.Nodup) (nm : M.Nodup) (ok : ∀ b ∈ L, PrOk b) (e : ∀ b, b ∈ L ↔ b ∈ M) : sortB L = sortB M := by
  have tr : ∀ a b c : Prs, leB a b = true → leB b c = true → leB a c = true := fun a b c h1 h2 => by
    unfold leB at *
    rw [decide_eq_true_iff] at *
    exact List.le_trans h1 h2
  have to : ∀ a b : Prs, (leB a b || leB b a) = true := fun a b => by
    unfold leB
    rw [Bool.or_eq_true, decide_eq_true_iff, decide_eq_true_iff]
    exact List.le_total _ _
  have p1 : (sortB L).Pairwise (fun a b => leB a b = true) := List.pairwise_mergeSort tr to L
  have p2 : (sortB M).Pairwise (fun a b => leB a b = true) := List.pairwise_mergeSort tr to M
  have pm : (sortB L).Perm (sortB M) := (List.mergeSort_perm L leB).trans (((List.perm_ext_iff_of_nodup nl nm).mpr e).trans (List.mergeSort_perm M leB).symm)
  refine List.Perm.eq_of_pairwise (fun a b ha hb h1 h2 => ?_) p1 p2 pm
  have ha := (List.mergeSort_perm L leB).mem_iff.mp ha
  have hb := (e b).mpr ((List.mergeSort_perm M leB).mem_iff.mp hb)
  unfold leB at h1 h2
  rw [decide_eq_true_iff] at h1 h2
  exact btxt_inj (ok a ha) (ok b hb) (strL_ext (List.le_antisymm h1 h2))
/-- the rows told: what comes, each once -/
structure Told (s o : Sy) (L : List Prs) : Prop where
  nd : L.Nodup
  ok : ∀ b ∈ L, PrOk b
  mem : ∀ b, b ∈ L ↔ Comes s o b
theorem told_one {s o : Sy} {L M : List Prs} (h : Told s o L) (h' : Told s o M) : sortB L = sortB M := rows_one h.nd h'.nd h.ok fun b => by rw [h.mem, h'.mem]
theorem sortB_len (L : List Prs) : (sortB L).length = L.length := List.length_mergeSort L
end Rp

set_option maxHeartbeats 16000000
/-! bindings. -/
namespace Rp
open PySem PySem.Spec PyProof.Rows L2 TL StX
def spBindings : Sp := fun vs H Q _ => ∃ (v vo : V) (s o : Sy), vs = [v, vo] ∧ SyAt H v s ∧ SyOk s ∧ SyAt H vo o ∧ SyOk o ∧ (∀ a ∈ s.hs, AtOk 40 a) ∧ AtOk 40 s.gl ∧ (∀ a ∈ o.hs, AtOk 40 a) ∧ AtOk 40 o.gl ∧
  ∀ (l : Addr) (vs : List V) (L : List Prs) (H' : Hp), H l = none → H' l = some (.lst vs) → Told s o L → Paired (BiAt H') vs (sortB L) → Same H H' → Q (.ref l) H'
abbrev NBs : List Str := ["saying", "other", "hyps", "goal", "found", "pattern", "told", "ahead", "hyp", "way"]
def ttAhead : TT := tTest (tOp rNotN (tVar 7) (tC .non))
def ttWay : TT := tTest (tOp rNotN (tVar 9) (tC .non))
def teMt : TE := tCall spMatched [] E0 (tCons (tVar 5) (tCons (tVar 8) (tCons (tVar 7) tNil)))
def teWay (K : PySem.W.Frag) : TE := tCB (rTupF K) (tCons (tCB rSortIt (tCons (tBM0 K "dict" rItemsK (tVar 9)) tNil)) tNil)
theorem en_one {p h : At} (E : Mp) : Slv E [p] [h] ↔ AMt E p h := by
  unfold Slv
  simp
theorem sub_nil (E : Mp) : Sub [] E := fun n t h => by simp at h
/-- an entry further -/
theorem en_none {Ps : List At} {c : List At} {D : Bd} {p h : At} (ok : EnOk Ps (c, some D)) (no : ∀ E, ¬ (Sub D E ∧ AMt E p h)) : EnOk (Ps ++ [p]) (c ++ [h], none) := by
  obtain ⟨l, okD, sol, dom⟩ := ok
  have l : c.length = Ps.length := l
  refine ⟨by simp [l], fun E hs => ?_⟩
  have := (slv_snoc (E := E) (p := p) (h := h) l.symm).mp hs
  exact no E ⟨(sol E).mpr this.1, this.2⟩
theorem en_some {Ps : List At} {c : List At} {D D' : Bd} {p h : At} (ok : EnOk Ps (c, some D)) (okD' : BdOk D') (sol' : ∀ E, Sub D' E ↔ Sub D E ∧ AMt E p h) (dom' : ∀ n, n ∈ D'.map (·.1) ↔ n ∈ D.map (·.1) ∨ atNm p n) : EnOk (Ps ++ [p]) (c ++ [h], some D') := by
  obtain ⟨l, okD, sol, dom⟩ := ok
  have l : c.length = Ps.length := l
  refine ⟨by simp [l], okD', fun E => ?_, fun n => ?_⟩
  · rw [sol' E, sol E]
    exact (slv_snoc l.symm).symm
  · rw [dom' n, dom n]
    constructor
    · rintro (⟨q, hq, z⟩ | z)
      · exact ⟨q, by simp [hq], z⟩
      · exact ⟨p, by simp, z⟩
    · rintro ⟨q, hq, z⟩
      rcases List.mem_append.mp hq with hq | hq
      · exact .inl ⟨q, hq, z⟩
      · obtain rfl : q = p := by simpa using hq
        exact .inr z
theorem fur_take {hs : List At} {F : List En} {i : Nat} {e : En} (h : F[i]? = some e) : fur hs (F.take (i + 1)) = fur hs (F.take i) ++ (if e.2.isSome then hs.map fun x => e.1 ++ [x] else []) := by
  unfold fur
  rw [List.take_add_one, h]
  rw [List.filter_append, List.flatMap_append]
  congr 1
  show (([e] : List En).filter _).flatMap _ = _
  rw [List.filter_cons]
  split <;> simp
theorem fur_len {hs : List At} {F : List En} : (fur hs F).length ≤ F.length * hs.length := by
  induction F with
  | nil => simp [fur]
  | cons e F ih =>
    unfold fur at *
    rw [List.filter_cons]
    split
    · rw [List.flatMap_cons, List.length_append, List.length_map, List.length_cons, Nat.add_mul]; omega
    · rw [List.length_cons, Nat.add_mul]; omega
theorem spM_first {vp va : V} {a : Addr} {pt g : At} {H : Hp} {Q : VK} {E : XK} (Ap : AtAt H vp pt) (Ag : AtAt H va g) (op : AtOk 40 pt) (og : AtOk 40 g) (ha : H a = some (.dK [])) (all : ∀ (r : V) (e : Option Bd) (H' : Hp), Same H H' → EnAt H' r ([g], e) → EnOk [pt] ([g], e) → Q r H') : spMatched [vp, va, .ref a] H Q E := by
  refine ⟨vp, va, a, pt, g, [], rfl, Ap, Ag, op, og, ⟨[], ha, .nil⟩, ⟨by simp, by simp, by simp⟩, fun no H' s => all _ none H' s rfl ⟨rfl, fun E hs => no E ⟨sub_nil E, (en_one E).mp hs⟩⟩, fun d D H' _ s dm okD sol dom => all _ (some D) H' s ⟨d, rfl, dm⟩ ⟨rfl, okD, fun E => ?_, fun n => ?_⟩⟩
  · rw [sol E, en_one E]
    exact ⟨fun h => h.2, fun h => ⟨sub_nil E, h⟩⟩
  · rw [dom n]
    simp
theorem spM_next {vp va : V} {a : Addr} {pt g : At} {D : Bd} {Ps c : List At} {H : Hp} {Q : VK} {E : XK} (Ap : AtAt H vp pt) (Ag : AtAt H va g) (op : AtOk 40 pt) (og : AtOk 40 g) (dm : DmAt H a D) (ok : EnOk Ps (c, some D)) (all : ∀ (r : V) (e : Option Bd) (H' : Hp), Same H H' → EnAt H' r (c ++ [g], e) → EnOk (Ps ++ [pt]) (c ++ [g], e) → Q r H') : spMatched [vp, va, .ref a] H Q E :=
  ⟨vp, va, a, pt, g, D, rfl, Ap, Ag, op, og, dm, ok.2.1, fun no H' s => all _ none H' s rfl (en_none ok no), fun d D' H' _ s dm okD sol dom => all _ (some D') H' s ⟨d, rfl, dm⟩ (en_some ok okD sol dom)⟩
theorem EnAt.keep {H H' : Hp} {v : V} {e : En} (h : EnAt H v e) (s : ∀ b o, H b = some o → (∀ xs, o ≠ .lst xs) → H' b = some o) : EnAt H' v e := by
  unfold EnAt at *
  split
  · rename_i q; rw [q] at h; exact h
  · rename_i D q
    rw [q] at h
    obtain ⟨a, e1, kvs, h1, h2⟩ := h
    exact ⟨a, e1, kvs, s _ _ h1 (fun xs z => by cases z), pd_mono (fun _ _ k => k.tups fun a xs z => s _ _ z fun ys w => by cases w) h2⟩
/-- the list being made: its choices C -/
def FuSt (H3 : Hp) (D2 : Addr) (Ps : List At) (C : List (List At)) (H4 : Hp) : Prop := ∃ (vs : List V) (F : List En), H4 D2 = some (.lst vs) ∧ Paired (EnAt H4) vs F ∧ F.map (·.1) = C ∧ (∀ e ∈ F, EnOk Ps e) ∧ Same H3 H4
theorem FuSt.add {H3 H4 H5 : Hp} {D2 : Addr} {Ps : List At} {C : List (List At)} {c : List At} {e : Option Bd} {r : V} (S : FuSt H3 D2 Ps C H4) (s : Same H4 H5) (hD : H3 D2 = none) (at_ : EnAt H5 r (c, e)) (ok : EnOk Ps (c, e)) :
    ∃ vs : List V, H5 D2 = some (.lst vs) ∧ vs.length = C.length ∧ FuSt H3 D2 Ps (C ++ [c]) (upd H5 D2 (.lst (vs ++ [r]))) := by
  obtain ⟨vs, F, h4, P, e1, oks, s3⟩ := S
  have h5 := s _ _ h4
  have kp : ∀ b o, H5 b = some o → (∀ xs, o ≠ .lst xs) → upd H5 D2 (.lst (vs ++ [r])) b = some o := fun b o z n => by rw [upd_ne (fun w => by rw [w, h5] at z; exact n _ (Option.some.inj z).symm)]; exact z
  refine ⟨vs, h5, by rw [pd_len P, ← e1, List.length_map], vs ++ [r], F ++ [(c, e)], upd_same, pd_app (pd_mono (fun _ _ k => (k.same s).keep kp) P) (.cons (at_.keep kp) .nil), by rw [List.map_append, e1]; rfl, fun x hx => ?_, fun b o z => by rw [upd_ne (ne_of_none z hD)]; exact s _ _ (s3 _ _ z)⟩
  rcases List.mem_append.mp hx with hx | hx
  · exact oks x hx
  · obtain rfl : x = (c, e) := by simpa using hx
    exact ok
theorem prsAt_tups {H H' : Hp} (e : ∀ a xs, H a = some (.tup xs) → H' a = some (.tup xs)) {xs : List V} {ps : Prs} (h : PrsAt H xs ps) : PrsAt H' xs ps := h.mono e
theorem biAt_keep {H H' : Hp} {v : V} {b : Prs} (h : BiAt H v b) (s : ∀ b o, H b = some o → (∀ xs, o ≠ .lst xs) → H' b = some o) : BiAt H' v b := by
  obtain ⟨a, xs, e, t, p⟩ := h
  refine ⟨a, xs, e, ?_, p.mono fun a xs z => s _ _ z fun ys w => by cases w⟩
  exact t.imp (fun z => s _ _ z fun ys w => by cases w) fun ⟨o, z⟩ => ⟨o, s _ _ z fun ys w => by cases w⟩
theorem biAt_same {H H' : Hp} {v : V} {b : Prs} (h : BiAt H v b) (s : Same H H') : BiAt H' v b := biAt_keep h fun _ _ z _ => s _ _ z
/-- the rows being told -/
def ToSt (sy oy : Sy) (H3 : Hp) (D2 : Addr) (F : List En) (H4 : Hp) : Prop := ∃ (vs : List V) (TL : List (List At × Prs)), H4 D2 = some (.lst vs) ∧ Paired (BiAt H4) vs (TL.map (·.2)) ∧ TL.map (·.1) = (F.filter fun e => e.2.isSome).map (·.1) ∧
  (∀ t ∈ TL, Comes sy oy t.2 ∧ Slv (mpOf t.2) (oy.gl :: oy.hs) t.1 ∧ PrOk t.2) ∧ (∀ e ∈ F, ∀ D b, e.2 = some D → Row D b → ∃ t ∈ TL, t.2 = b) ∧ Same H3 H4
theorem told_by {sy oy : Sy} {H3 H4 : Hp} {D2 : Addr} {F : List En} (A : EnAll sy.gl sy.hs (oy.gl :: oy.hs) F) (S : ToSt sy oy H3 D2 F H4) : ∃ (vs : List V) (L : List Prs), H4 D2 = some (.lst vs) ∧ Paired (BiAt H4) vs L ∧ Told sy oy L ∧ Same H3 H4 ∧ L.length ≤ F.length := by
  obtain ⟨vs, TL, h4, P, e, all, full, s⟩ := S
  have ndF : (TL.map (·.1)).Nodup := by
    rw [e]
    exact A.nd.sublist (List.Sublist.map _ List.filter_sublist)
  refine ⟨vs, TL.map (·.2), h4, P, ⟨?_, fun b hb => ?_, fun b => ⟨fun hb => ?_, fun C => ?_⟩⟩, s, ?_⟩
  · refine List.pairwise_map.mpr (List.Pairwise.imp_of_mem (fun {x y} hx hy h z => h ?_) (List.pairwise_map.mp ndF))
    have a := (all x hx).2.1
    have b := (all y hy).2.1
    rw [z] at a
    exact slv_fun a b
  · obtain ⟨t, ht, rfl⟩ := List.mem_map.mp hb
    exact (all t ht).2.2
  · obtain ⟨t, ht, rfl⟩ := List.mem_map.mp hb
    exact (all t ht).1
  · obtain ⟨e, he, D, eD, r⟩ := told_all A C
    obtain ⟨t, ht, rfl⟩ := full e he D b eD r
    exact List.mem_map.mpr ⟨t, ht, rfl⟩
  · have := congrArg List.length e
    rw [List.length_map, List.length_map] at this
    rw [List.length_map, this]
    exact List.length_filter_le _ _
/-- rows out of a dict's pairs, sorted -/
theorem row_of {H H' : Hp} {kvs : List (Key × V)} {D : Bd} {ps : List (Addr × Key × V)} (P : Paired (KvAt H) kvs D) (nd : (D.map (·.1)).Nodup) (s : ∀ a xs, H a = some (.tup xs) → H' a = some (.tup xs)) (pm : (ps.map (·.2)).Perm kvs) (up : ps.Pairwise (fun x y => kInt x.2.1 < kInt y.2.1))
    (at_ : ∀ z ∈ ps, H' z.1 = some (.tup [kV z.2.1, z.2.2])) : ∃ b : Prs, Row D b ∧ PrsAt H' (ps.map fun z => V.ref z.1) b := by
  have each : ∀ z ∈ ps, ∃ n t, z.2.1 = Sum.inl n ∧ (n, t) ∈ D ∧ TmAt H' z.2.2 t := fun z hz => by
    have m : z.2 ∈ kvs := pm.mem_iff.mp (List.mem_map.mpr ⟨z, hz, rfl⟩)
    obtain ⟨i, hi⟩ := List.mem_iff_getElem?.mp m
    obtain ⟨⟨n, t⟩, hq, k1, k2⟩ := paired_get P hi
    exact ⟨n, t, k1, List.mem_of_getElem? hq, k2.mono s⟩
  let f : Addr × Key × V → Int × Tm := fun z => (kInt z.2.1, (D.lookup (kInt z.2.1)).getD .z)
  have fz : ∀ z ∈ ps, ∃ n t, z.2.1 = Sum.inl n ∧ (n, t) ∈ D ∧ TmAt H' z.2.2 t ∧ f z = (n, t) := fun z hz => by
    obtain ⟨n, t, e, m, T⟩ := each z hz
    refine ⟨n, t, e, m, T, ?_⟩
    show (kInt z.2.1, (D.lookup (kInt z.2.1)).getD .z) = _
    rw [e]
    show (n, (D.lookup n).getD .z) = _
    rw [nd_look nd m]
    rfl
  have keysK : kvs.map (·.1) = D.map (fun q => Sum.inl q.1) := by
    have all : ∀ {kvs : List (Key × V)} {D : Bd}, Paired (KvAt H) kvs D → kvs.map (·.1) = D.map (fun q => Sum.inl q.1) := by
      intro kvs D P
      induction P with
      | nil => rfl
      | cons h _ ih => rw [List.map_cons, List.map_cons, ih, h.1]
    exact all P
  have up2 : ((ps.map f).map (·.1)).Pairwise (· < ·) := by
    rw [List.map_map, List.pairwise_map]
    exact up
  have sub : ∀ p ∈ ps.map f, p ∈ D := fun p hp => by
    obtain ⟨z, hz, rfl⟩ := List.mem_map.mp hp
    obtain ⟨n, t, _, m, _, e⟩ := fz z hz
    rw [e]; exact m
  refine ⟨ps.map f, ⟨up2, fun n => ?_⟩, ?_⟩
  · cases q : D.lookup n with
    | none =>
      refine nolook.mpr fun w => nolook.mp q ?_
      obtain ⟨p, hp, rfl⟩ := List.mem_map.mp w
      exact List.mem_map.mpr ⟨p, sub p hp, rfl⟩
    | some t =>
      have m := mem_look q
      have k : (Sum.inl n : Key) ∈ kvs.map (·.1) := by rw [keysK]; exact List.mem_map.mpr ⟨(n, t), m, rfl⟩
      obtain ⟨kv, hkv, ekv⟩ := List.mem_map.mp k
      obtain ⟨z, hz, ez⟩ := List.mem_map.mp (pm.mem_iff.mpr hkv)
      obtain ⟨n', t', e1, m', _, e2⟩ := fz z hz
      have : n' = n := by rw [ez, ekv] at e1; exact (Sum.inl.inj e1).symm
      subst this
      have tt : t' = t := by
        have := nd_look nd m'
        have this : D.lookup n' = some t' := this
        rw [q] at this
        exact (Option.some.inj this).symm
      subst tt
      have := nd_look (up_nd up2) (List.mem_map.mpr ⟨z, hz, e2⟩)
      exact this
  · have all : ∀ (l : List (Addr × Key × V)), (∀ z ∈ l, z ∈ ps) → PrsAt H' (l.map fun z => V.ref z.1) (l.map f) := by
      intro l
      induction l with
      | nil => intro _; trivial
      | cons z l ih =>
        intro h
        obtain ⟨n, t, e, m, T, ef⟩ := fz z (h z (by simp))
        have hz := at_ z (h z (by simp))
        rw [List.map_cons, List.map_cons, ef]
        refine ⟨⟨z.1, z.2.2, rfl, ?_, T⟩, ih fun y hy => h y (by simp [hy])⟩
        rw [hz, e]
        rfl
    exact all ps fun z hz => hz
section
variable {P : Program} {w : World} {K : PySem.W.Frag} {mg : Str → Option Value} {base : Heap}
theorem scBs : FnScope NBs ["saying", "other"] (defScope sBindings) := ⟨rfl, rfl, rfl, by decide +kernel, rfl, by decide +kernel, by decide +kernel⟩
theorem ok_bindings {f fM fB : Addr} {fd dM dB : FuncData} (F : Fun K "bindings" "bindings" sBindings f fd)
    (GM : FnOk P w K mg base CX0 1 fM dM ["pattern", "atom", "ahead"] spMatched) (kM : PySem.W.keepIn K (.ref fM) = true) (bM : Binds K dM ["pattern", "atom", "ahead"] []) (mM : mg "_matched" = some (.ref fM))
    (GB : FnOk P w K mg base CX0 5 fB dB ["binding"] spBText) (kB : PySem.W.keepIn K (.ref fB) = true) (bB : Binds K dB ["binding"] []) (mB : mg "binding_text" = some (.ref fB))
    (mTuple : mg "tuple" = none) (mSorted : mg "sorted" = none) : FnOk P w K mg base CX0 8 f fd ["saying", "other"] spBindings := by
  have FR : FnR P w K mg base CX0 5 fB spBText := (FnOk.raw GB bB .nil).imp fun vs H Q E h => by simpa using h
  refine F.ok scBs (fun vs H Q E h => ?_) (fun cdv A outer s H vs Q E hr h => ?_)
  · obtain ⟨v, vo, sy, oy, rfl, _⟩ := h
    rfl
  obtain ⟨v, vo, sy, oy, rfl, ⟨p, q, vg, xs, rfl, hp, hq, As, Ag⟩, oks, ⟨po, qo, vgo, xo, rfl, hpo, hqo, Ao, Ago⟩, oko, h40, g40, o40, og40, go⟩ := h
  have r1 : Room 1 _ := hr.mono (by decide)
  have r2 : Room 7 _ := hr
  refine ⟨_, pss_cons (ps_asg (pv 0) (pg_tup (by rfl) (pgs_cons (pg_name (i := 2) scBs.nd rfl (Or.inr rfl)) (pgs_cons (pg_name (i := 3) scBs.nd rfl (Or.inl rfl)) pgs_nil))))
    (pss_cons (ps_set (i := 4) scBs.nd rfl (Or.inl rfl) (pe_lst (pa_cons (pe_call GM r1 rfl mM kM bM .nil pass0 (pa_cons (pe_ix ix_tup (pv 1) pe_int (fun _ _ => rfl)) (pa_cons (pv 3) (pa_cons pe_dnewK pa_nil)))) pa_nil)))
    (pss_cons (ps_for PassesOwn.never rfl (pi_tup (pe_ix ix_tup (pv 1) pe_int (fun _ _ => rfl))) (pg_name (i := 5) scBs.nd rfl (Or.inr rfl)) (pss_one (ps_setLc2 (i := 4) (own := [("ahead", 7), ("hyp", 8)]) (vs1 := [8]) (g := gName 7) (tt := ttAhead) (wi1 := iTup K (tVar 2)) (g1 := gName 8) (tt1 := tYes) (te := teMt) rfl scBs.nd rfl rfl (by rfl) (pi_list (pv 4)) (blkOk_by (N := NBs) (sc := defScope sBindings) (by decide +kernel)) (by decide) (fun _ _ _ _ _ => (pg_name (i := 7) scBs.nd rfl (Or.inl rfl))) (fun _ _ _ _ _ => pts_one (pt_cmpR op_notN1 (pv 7) pe_non (nomark _))) (fun _ _ _ _ _ => pi_tup (pv 2)) (fun _ _ _ _ _ => (pg_name (i := 8) scBs.nd rfl (Or.inl rfl))) (fun _ _ _ _ _ => pts_nil) (fun _ _ _ _ _ => pe_call GM r1 (by rfl) mM kM bM .nil pass0 (pa_cons (pv 5) (pa_cons (pv 8) (pa_cons (pv 7) pa_nil)))))))
    (pss_cons (ps_setLc (i := 6) (own := [("way", 9)]) (g := gName 9) (tt := ttWay) (te := teWay K) rfl scBs.nd rfl rfl (by rfl) (pi_list (pv 4)) (blkOk_by (N := NBs) (sc := defScope sBindings) (by decide +kernel)) (fun _ _ _ _ _ => (pg_name (i := 9) scBs.nd rfl (Or.inl rfl))) (fun _ _ _ _ _ => pts_one (pt_cmpR op_notN1 (pv 9) pe_non (nomark _))) (fun _ _ _ _ _ => pe_callTy cr_tupF (by rfl) mTuple (by decide +kernel) (pa_cons (pe_callB (cr_sortIt rfl) (by rfl) mSorted (by decide +kernel) (pa_cons (pe_bm0 PySem.F.plainAttrs_dict PySem.F.slot_dict_items PySem.F.type_dict_items mt_itemsK (pv 9)) pa_nil)) pa_nil)))
    (pss_one (ps_ret (pe_callBK (cr_sortK FR r2) (by rfl) mSorted (by decide +kernel) (pa_cons (pv 6) pa_nil) (pk_cons (pe_glob (v := .ref fB) rfl mB rfl) pk_nil))))))), ?_⟩
  have big : (1000000 : Nat) ≤ sizeLine := by decide
  have xl := As.len
  have xol := Ao.len
  have few := oks.hs.few
  have fewo := oko.hs.few
  refine ⟨_, rfl, p, _, rfl, .inl (.inl hp), rfl, _, _, rfl, _, _, rfl, rfl, ?_⟩
  refine ⟨_, rfl, po, _, _, _, rfl, rfl, .inl (.inl hpo), at_of (j := 1) rfl rfl, _, rfl, fun d hd => ?_⟩
  have s0 := same_new hd (.dK [])
  dsimp only [tNil]
  show spMatched [vgo, vg, V.ref d] (upd H d (.dK [])) _ _
  refine spM_first (atAt_same Ago s0) (atAt_same Ag s0) og40 g40 upd_same fun r e0 H1 s1 at1 ok1 => ?_
  refine ⟨(by show 1 ≤ sizeLine; decide), fun fa hfa => ?_⟩
  have s2 := same_new hfa (.lst [r])
  have s02 : Same H (upd H1 fa (.lst [r])) := s0.trans (s1.trans s2)
  have hfa2 : (upd H1 fa (.lst [r])) fa = some (.lst [r]) := upd_same
  have at2 := at1.same s2
  have fan : H fa = none := same_none (s0.trans s1) _ hfa
  generalize upd H1 fa (.lst [r]) = H2 at s02 hfa2 at2 ⊢
  have first : EnAll sy.gl sy.hs [oy.gl] [([sy.gl], e0)] := by
    refine ⟨fun e he => ?_, by simp, fun e he => ?_, fun E c hc sl => ?_⟩
    · obtain rfl : e = ([sy.gl], e0) := by simpa using he
      exact ok1
    · obtain rfl : e = ([sy.gl], e0) := by simpa using he
      exact ⟨[], rfl, by simp⟩
    · have l := sl.1
      have : c = [] := List.eq_nil_of_length_eq_zero (by simpa using l.symm)
      subst this
      simp
  refine ⟨_, rfl, po, _, _, _, rfl, rfl, .inl (.inl (s02 _ _ hpo)), at_of (j := 0) rfl rfl, qo, rfl, ⟨_, .inl (.inl (s02 _ _ hqo))⟩, for_tup (K := K) (a := qo) (xs := xo) (fun i σ H3 => ∃ (x5 : Option V) (fa : Addr) (vsF : List V) (F : List En), σ = [some (.ref p), some (.ref po), some (.ref q), some vg, some (.ref fa), x5, none, none, none, none] ∧
      H3 fa = some (.lst vsF) ∧ Paired (EnAt H3) vsF F ∧ EnAll sy.gl sy.hs (oy.gl :: oy.hs.take i) F ∧ F.length ≤ 6 ^ i ∧ Same H H3)
    ⟨none, fa, [r], [([sy.gl], e0)], rfl, hfa2, .cons at2 .nil, first, by simp, s02⟩ (fun i σ H3 _ ⟨_, _, _, _, _, _, _, _, _, s⟩ => .inl (.inl (s _ _ hqo))) ?_ ?_⟩
  · rintro i x σ H3 hi ⟨x5, fa, vsF, F, rfl, h3, PF, AF, lF, s3⟩
    obtain ⟨pt, hpt, Apt⟩ := Ao.get hi
    have mpt := List.mem_of_getElem? hpt
    have li : i < oy.hs.length := (List.getElem?_eq_some_iff.mp hpt).1
    have vl := pd_len PF
    have pw : 6 ^ i ≤ 6 ^ 6 := Nat.pow_le_pow_right (by decide) (by omega)
    have pw6 : (6 : Nat) ^ 6 = 46656 := by decide
    have tk : oy.hs.take (i + 1) = oy.hs.take i ++ [pt] := by rw [List.take_add_one, hpt]; rfl
    refine ⟨_, rfl, fa, rfl, ⟨_, .inl (.inl h3)⟩, fun D2 hD2 => walk_lst (K := K) (a := fa) (xs := vsF) (fun a H4 => FuSt H3 D2 ((oy.gl :: oy.hs.take i) ++ [pt]) (fur sy.hs (F.take a)) H4) ?_ (fun a H4 _ ⟨_, _, _, _, _, _, s⟩ => .inl (.inl (s _ _ h3))) ?_ ?_⟩
    · exact ⟨[], [], upd_same, .nil, by simp [fur], by simp, same_new hD2 _⟩
    · rintro a y H4 ha S4
      obtain ⟨en, hen, En4⟩ := paired_get PF ha
      have s4 : Same H3 H4 := by obtain ⟨_, _, _, _, _, _, s⟩ := S4; exact s
      have En5 := En4.same s4
      have okE := AF.ok en (List.mem_of_getElem? hen)
      have la : a < F.length := (List.getElem?_eq_some_iff.mp hen).1
      have ft := fur_take (hs := sy.hs) hen
      refine ⟨rfl, ?_⟩
      unfold ttAhead
      refine ⟨_, rfl, rfl, _, rfl, ?_⟩
      obtain ⟨c, eo⟩ := en
      cases eo with
      | none =>
        have : y = .non := En5
        subst this
        refine iteF ?_
        rw [ft]
        simpa using S4
      | some D =>
        obtain ⟨da, rfl, dm⟩ := (show ∃ a, y = .ref a ∧ DmAt H4 a D from En5)
        have dm3 : DmAt H3 da D := by
          obtain ⟨b, e, z⟩ := (show ∃ a, V.ref da = .ref a ∧ DmAt H3 a D from En4)
          cases e
          exact z
        refine iteT ?_
        refine ⟨_, rfl, q, rfl, ⟨_, .inl (.inl (s4 _ _ (s3 _ _ hq)))⟩, walk_tup (K := K) (a := q) (xs := xs) (fun j H5 => FuSt H3 D2 ((oy.gl :: oy.hs.take i) ++ [pt]) (fur sy.hs (F.take a) ++ (sy.hs.take j).map fun x => c ++ [x]) H5) ?_ (fun j H5 _ ⟨_, _, _, _, _, _, s⟩ => .inl (.inl (s _ _ (s3 _ _ hq)))) ?_ ?_⟩
        · simpa using S4
        · rintro j y H5 hj S5
          obtain ⟨hy, hhy, Ahy⟩ := As.get hj
          have mhy := List.mem_of_getElem? hhy
          have lj : j < sy.hs.length := (List.getElem?_eq_some_iff.mp hhy).1
          have s5 : Same H3 H5 := by obtain ⟨_, _, _, _, _, _, s⟩ := S5; exact s
          refine ⟨rfl, ?_⟩
          unfold teMt
          refine ⟨_, rfl, _, rfl, _, rfl, ?_⟩
          dsimp only [tNil]
          show spMatched [x, y, V.ref da] H5 _ _
          refine spM_next (atAt_same Apt (s3.trans s5)) (atAt_same Ahy (s3.trans s5)) (o40 pt mpt) (h40 hy mhy) (dm3.same s5) okE fun r eo H6 s6 at6 ok6 => ?_
          obtain ⟨vs6, g1, g2, g3⟩ := S5.add s6 hD2 at6 ok6
          have fl := fur_len (hs := sy.hs) (F := F.take a)
          rw [List.length_take, Nat.min_eq_left (by omega)] at fl
          have m1 : a * sy.hs.length ≤ a * 6 := Nat.mul_le_mul_left _ few
          refine ⟨vs6, g1, ?_, ?_⟩
          · rw [g2, List.length_append, List.length_map, List.length_take]; omega
          · have tj : sy.hs.take (j + 1) = sy.hs.take j ++ [hy] := by rw [List.take_add_one, hhy]; rfl
            rw [tj, List.map_append, ← List.append_assoc]
            exact g3
        · rintro H5 S5
          rw [xl, List.take_of_length_le (Nat.le_refl _)] at S5
          rw [ft]
          exact S5
    · rintro H4 S4
      rw [vl, List.take_of_length_le (Nat.le_refl _)] at S4
      obtain ⟨vs4, F4, g1, g2, g3, g4, g5⟩ := S4
      have fl := fur_len (hs := sy.hs) (F := F)
      have l4 : F4.length = (fur sy.hs F).length := by rw [← g3, List.length_map]
      refine ⟨_, D2, vs4, F4, rfl, g1, g2, ?_, ?_, s3.trans g5⟩
      · rw [tk]
        exact AF.step (by simp) oks.nd g3 g4
      · have m1 : F.length * sy.hs.length ≤ 6 ^ i * 6 := Nat.mul_le_mul lF few
        rw [Nat.pow_succ]
        omega
  · rintro σ H3 ⟨x5, fa, vsF, F, rfl, h3, PF, AF, lF, s3⟩
    rw [xol, List.take_of_length_le (Nat.le_refl _)] at AF
    have vl := pd_len PF
    have pw : 6 ^ xo.length ≤ 6 ^ 6 := Nat.pow_le_pow_right (by decide) (by omega)
    have pw6 : (6 : Nat) ^ 6 = 46656 := by decide
    refine ⟨_, rfl, fa, rfl, ⟨_, .inl (.inl h3)⟩, fun D2 hD2 => lc_list (K := K) (a := fa) (xs := vsF) (fun i H4 => ToSt sy oy H3 D2 (F.take i) H4) ?_ (fun i H4 _ ⟨_, _, _, _, _, _, _, s⟩ => .inl (.inl (s _ _ h3))) ?_ ?_⟩
    · exact ⟨[], [], upd_same, .nil, by simp, by simp, by simp, same_new hD2 _⟩
    · rintro i y H4 hi ⟨vs4, TL, h4, PT, e4, all4, full4, s4⟩
      obtain ⟨en, hen, En4⟩ := paired_get PF hi
      have En5 := En4.same s4
      have men := List.mem_of_getElem? hen
      have okE := AF.ok en men
      have adm := AF.adm en men
      have li : i < F.length := (List.getElem?_eq_some_iff.mp hen).1
      have tk : F.take (i + 1) = F.take i ++ [en] := by rw [List.take_add_one, hen]; rfl
      refine ⟨rfl, ?_⟩
      unfold ttWay teWay
      refine ⟨_, rfl, rfl, _, rfl, ?_⟩
      obtain ⟨c, eo⟩ := en
      cases eo with
      | none =>
        have : y = .non := En5
        subst this
        refine iteF ⟨vs4, TL, h4, PT, ?_, all4, ?_, s4⟩
        · rw [tk, List.filter_append, e4]
          simp
        · intro e he D b eD rw_
          rw [tk] at he
          rcases List.mem_append.mp he with he | he
          · exact full4 e he D b eD rw_
          · obtain rfl : e = (c, none) := by simpa using he
            cases eD
      | some D =>
        obtain ⟨da, rfl, kvs, hda, Pk⟩ := (show ∃ a, y = .ref a ∧ DmAt H4 a D from En5)
        refine iteT ?_
        have keysK : kvs.map (·.1) = (D.map (·.1)).map Sum.inl := by
          have all : ∀ {kvs : List (Key × V)} {D : Bd}, Paired (KvAt H4) kvs D → kvs.map (·.1) = (D.map (·.1)).map Sum.inl := by
            intro kvs D P
            induction P with
            | nil => rfl
            | cons h _ ih => rw [List.map_cons, List.map_cons, List.map_cons, ih, h.1]
          exact all Pk
        have okD : BdOk D := okE.2.1
        refine ⟨_, rfl, .inr (.inr (.inl ⟨rfl, .inl ⟨kvs, hda⟩⟩)), da, kvs, rfl, rfl, hda, fun pI hpI => ?_⟩
        have s5 := same_new hpI (L2.DX.itemsO pI da)
        refine ⟨pI, da, kvs, D.map (·.1), rfl, upd_same, s5 _ _ hda, keysK, okD.nd, fun H6 l ps s6 hl pm up hl6 at6 => ?_⟩
        have s46 : Same H4 H6 := s5.trans s6
        obtain ⟨b, Rb, Pb⟩ := row_of Pk okD.nd (fun a xs z => s46 _ _ z) pm up at6
        refine ⟨l, _, rfl, .inl (.inl hl6), fun t o _ ht => ?_⟩
        have s7 := same_new ht (.frz o (.tup (ps.map fun z => V.ref z.1)))
        have s47 := s46.trans s7
        have okb := row_ok okD Rb
        have cb := comes_by adm okE Rb
        have lv := pd_len PT
        rw [List.length_map] at lv
        have le := congrArg List.length e4
        rw [List.length_map, List.length_map] at le
        have lf := List.length_filter_le (fun e : En => e.2.isSome) (F.take i)
        rw [List.length_take] at lf
        have h47 := s47 _ _ h4
        have kp : ∀ c u, (upd H6 t (.frz o (.tup (ps.map fun z => V.ref z.1)))) c = some u → (∀ xs, u ≠ .lst xs) → upd (upd H6 t (.frz o (.tup (ps.map fun z => V.ref z.1)))) D2 (.lst (vs4 ++ [V.ref t])) c = some u := fun c u z n => by rw [upd_ne (fun w => by rw [w, h47] at z; exact n _ (Option.some.inj z).symm)]; exact z
        refine ⟨vs4, h47, by omega, vs4 ++ [.ref t], TL ++ [(c, b)], upd_same, ?_, ?_, ?_, ?_, ?_⟩
        · rw [List.map_append]
          refine pd_app (pd_mono (fun _ _ k => biAt_keep (biAt_same k s47) kp) PT) (.cons (biAt_keep ⟨t, _, rfl, .inr ⟨o, upd_same⟩, Pb.mono fun a xs z => s7 _ _ z⟩ kp) .nil)
        · rw [tk, List.filter_append, List.map_append, List.map_append, e4]
          simp
        · intro x hx
          rcases List.mem_append.mp hx with hx | hx
          · exact all4 x hx
          · obtain rfl : x = (c, b) := by simpa using hx
            exact ⟨cb.1, cb.2, okb⟩
        · intro e he D' b' eD rw_
          rw [tk] at he
          rcases List.mem_append.mp he with he | he
          · obtain ⟨x, hx, ex⟩ := full4 e he D' b' eD rw_
            exact ⟨x, by simp [hx], ex⟩
          · obtain rfl : e = (c, some D) := by simpa using he
            cases eD
            exact ⟨(c, b), by simp, row_one Rb.1 rw_.1 fun n => by rw [Rb.2 n, rw_.2 n]⟩
        · intro c u z
          rw [upd_ne (ne_of_none z hD2)]
          exact s47 _ _ (s4 _ _ z)
    · rintro H4 S4
      rw [vl, List.take_of_length_le (Nat.le_refl _)] at S4
      obtain ⟨vs4, L, h4, PL, told, s4, lL⟩ := told_by AF S4
      obtain ⟨z1, z2, z3⟩ := bis_zip PL
      refine ⟨_, rfl, D2, (vs4.zip L).map zB, rfl, rfl, by rw [z3]; exact .inl (.inl h4), fun y hy H5 Q1 s5 go1 => ?_, fun l H5 s5 hl hl5 => ?_⟩
      · obtain ⟨z, hz, rfl⟩ := List.mem_map.mp hy
        exact ⟨z.1, z.2, rfl, biAt_same (z1 z hz) s5, told.ok z.2 (List.of_mem_zip hz).2, fun H6 s6 => go1 H6 s6⟩
      · have s05 : Same H H5 := s3.trans (s4.trans s5)
        exact go l _ L H5 (same_none (s3.trans s4) _ hl) hl5 told (pd_mono (fun _ _ k => biAt_same k s5) (sorted_bis PL)) s05
end
end Rp

set_option maxHeartbeats 16000000
/-! The law's parts of a term; unlike terms. -/
namespace Rp
open PySem PySem.Spec PyProof.Rows L2 TL StX
namespace Tm
def parts : Tm → List Tm
  | v n => [v n]
  | z => [z]
  | s t => s t :: t.parts
  | f l r => f l r :: (l.parts ++ r.parts)
theorem parts_kids (t : Tm) : t.parts = t :: t.kids.flatMap parts := by cases t <;> simp [parts, kids]
theorem parts_len : ∀ t : Tm, t.parts.length = t.size
  | v n => rfl
  | z => rfl
  | s t => by have := parts_len t; simp only [parts, List.length_cons, size, this]
  | f l r => by have := parts_len l; have := parts_len r; simp only [parts, List.length_cons, List.length_append, size]; omega
theorem parts_tk : ∀ {t k : Tm}, k ∈ t.parts → Tk t → Tk k
  | v n, k, h, ok => by simp [parts] at h; subst h; exact ok
  | z, k, h, ok => by simp [parts] at h; subst h; exact ok
  | s t, k, h, ok => by
    simp [parts] at h
    rcases h with rfl | h
    · exact ok
    · exact parts_tk h (ok.kid (by simp [kids]))
  | f l r, k, h, ok => by
    simp [parts] at h
    rcases h with rfl | h | h
    · exact ok
    · exact parts_tk h (ok.kid (by simp [kids]))
    · exact parts_tk h (ok.kid (by simp [kids]))
theorem self_parts (t : Tm) : t ∈ t.parts := by rw [parts_kids]; simp
/-- what stands for a variable is a part of what is made -/
theorem part_put {b : Bd} {n : Int} {u : Tm} (h : b.lookup n = some u) : ∀ {l : Tm}, n ∈ l.nums → u ∈ (l.put b).parts
  | v m, hn => by
    simp [nums] at hn
    subst hn
    show u ∈ ((b.lookup n).getD (.v n)).parts
    rw [h]
    exact self_parts u
  | z, hn => by simp [nums] at hn
  | s l, hn => by
    have := part_put h (l := l) hn
    show u ∈ (Tm.s (l.put b)).parts
    simp [parts, this]
  | f l r, hn => by
    show u ∈ (Tm.f (l.put b) (r.put b)).parts
    rcases List.mem_append.mp hn with hn | hn
    · have := part_put h (l := l) hn
      simp [parts, this]
    · have := part_put h (l := r) hn
      simp [parts, this]
end Tm
def unlTG (acc ts : List Tm) : List Tm := ts.foldl (fun acc t => if t ∈ acc then acc else acc ++ [t]) acc
def unlT (ts : List Tm) : List Tm := unlTG [] ts
theorem unlT_snoc (ts : List Tm) (t : Tm) : unlT (ts ++ [t]) = if t ∈ unlT ts then unlT ts else unlT ts ++ [t] := by
  unfold unlT unlTG
  rw [List.foldl_append]
  rfl
theorem unlTG_facts : ∀ {ts acc : List Tm}, acc.Nodup → (unlTG acc ts).Nodup ∧ (∀ x, x ∈ unlTG acc ts ↔ x ∈ acc ∨ x ∈ ts) ∧ (unlTG acc ts).length ≤ acc.length + ts.length
  | [], acc, h => ⟨h, by simp [unlTG], by simp [unlTG]⟩
  | t :: ts, acc, h => by
    have e : unlTG acc (t :: ts) = unlTG (if t ∈ acc then acc else acc ++ [t]) ts := rfl
    rw [e]
    by_cases m : t ∈ acc
    · rw [if_pos m]
      obtain ⟨a, b, c⟩ := unlTG_facts (ts := ts) h
      refine ⟨a, fun x => ?_, by simp only [List.length_cons]; omega⟩
      rw [b x]
      constructor
      · rintro (h | h)
        · exact .inl h
        · exact .inr (by simp [h])
      · rintro (h | h)
        · exact .inl h
        · rcases List.mem_cons.mp h with rfl | h
          · exact .inl m
          · exact .inr h
    · rw [if_neg m]
      obtain ⟨a, b, c⟩ := unlTG_facts (ts := ts) (acc := acc ++ [t]) (List.nodup_append.mpr ⟨h, by simp, fun x hx y hy exy => by
        obtain rfl : y = t := by simpa using hy
        exact m (exy ▸ hx)⟩)
      refine ⟨a, fun x => ?_, by rw [List.length_append] at c; simp only [List.length_cons, List.length_nil] at *; omega⟩
      rw [b x]
      simp only [List.mem_append, List.mem_cons, List.not_mem_nil, or_false]
      exact or_assoc
theorem unlT_nd (ts : List Tm) : (unlT ts).Nodup := (unlTG_facts (ts := ts) (acc := []) (by simp)).1
theorem unlT_mem {ts : List Tm} {x : Tm} : x ∈ unlT ts ↔ x ∈ ts := by rw [unlT, (unlTG_facts (ts := ts) (acc := []) (by simp)).2.1 x]; simp
theorem unlT_len (ts : List Tm) : (unlT ts).length ≤ ts.length := by have := (unlTG_facts (ts := ts) (acc := []) (by simp)).2.2; rw [List.length_nil, Nat.zero_add] at this; exact this
theorem in_tmsD {ts : List Tm} {t : Tm} : (ts.map tmD).any (fun z => PyData.eqv z (tmD t)) = decide (t ∈ ts) := by
  rw [List.any_map, Bool.eq_iff_iff, List.any_eq_true, decide_eq_true_iff]
  constructor
  · rintro ⟨x, hx, e⟩
    have : x = t := eqv_tm.mp e
    subst this
    exact hx
  · intro h
    exact ⟨t, h, eqv_tm.mpr rfl⟩
theorem tks_shaped {ts : List Tm} (h : ∀ t ∈ ts, Tk t) : SeqAt.shaped (.list (ts.map tmD)) = true := by
  have z := tms_lay (ts := ts) fun t ht => by have := (h t ht).2; omega
  refine shaped_of z.1 ?_
  show PyData.depthAll _ + 1 ≤ 64
  omega
def spUnlikeT : Sp := fun vs H Q _ => ∃ (q : Addr) (xs : List V) (ts : List Tm), vs = [.ref q] ∧ H q = some (.lst xs) ∧ AllAt H xs ts ∧ (∀ t ∈ ts, Tk t) ∧ ts.length ≤ 1000 ∧
  ∀ (p : Addr) (ys : List V) (H' : Hp), H' p = some (.tup ys) → AllAt H' ys (unlT ts) → Same H H' → Q (.ref p) H'
def spUnlikeB : Sp := fun vs H Q E => spUnlikeL vs H Q E ∨ spUnlikeT vs H Q E
def spPartsL (n : Nat) : Sp := fun vs H Q _ => ∃ (v : V) (t : Tm), vs = [v] ∧ TmAt H v t ∧ Tk t ∧ t.deep < n ∧ ∀ (p : Addr) (xs : List V) (H' : Hp), H p = none → H' p = some (.lst xs) → AllAt H' xs t.parts → Same H H' → Q (.ref p) H'
abbrev NPa : List Str := ["_law_term_here", "_law_found", "_law_part"]
section
variable {P : Program} {w : World} {K : PySem.W.Frag} {mg : Str → Option Value} {base : Heap}
theorem ok_unlikeT {f : Addr} {fd : FuncData} (F : Fun K "_law_unlike" "_law_unlike" sUnlikeL f fd) (mTuple : mg "tuple" = none) : FnOk P w K mg base CX0 1 f fd ["_law_atoms"] spUnlikeT := by
  refine F.ok scUnlikeL2 (fun vs H Q E h => ?_) (fun cdv A outer s H vs Q E hr h => ?_)
  · obtain ⟨q, xs, as, rfl, _⟩ := h
    rfl
  obtain ⟨q, xs, as, rfl, hq, A1, ok, o6, fin⟩ := h
  refine ⟨_, pss_cons (ps_set (i := 1) scUnlikeL2.nd rfl (Or.inl rfl) (pe_lst pa_nil))
    (pss_cons (ps_for PassesOwn.never rfl (pi_list (pv 0)) (pg_name (i := 2) scUnlikeL2.nd rfl (Or.inl rfl))
      (pss_one (ps_if (pt_cmpR (op_notInD (hu65 hr)) (pv 2) (pv 1) (by rfl)) (pss_one (ps_expr (pe_bm PySem.F.plainAttrs_list PySem.F.slot_list_append PySem.F.type_list_append mt_append (pv 1) (pa_cons (pv 2) pa_nil)))) pss_nil)))
    (pss_one (ps_ret (pe_callTy call_tuple_of (by rfl) mTuple (by decide +kernel) (pa_cons (pv 1) pa_nil))))), ?_⟩
  have big : (10000 : Nat) ≤ sizeLine := by decide
  have xl := A1.len
  refine ⟨(by show 0 ≤ sizeLine; decide), fun l hl => ?_⟩
  have s1 := same_new hl (.lst ([] : List V))
  have hq1 := s1 _ _ hq
  refine ⟨_, rfl, q, rfl, ⟨_, .inl (.inl hq1)⟩, for_list (K := K) (a := q) (xs := xs) (fun i σ H2 => ∃ (x2 : Option V) (ys : List V), σ = [some (.ref q), some (.ref l), x2] ∧ H2 l = some (.lst ys) ∧ AllAt H2 ys (unlT (as.take i)) ∧ Same H H2)
    ⟨none, [], rfl, upd_same, trivial, s1⟩ (fun i σ H2 _ ⟨_, _, _, _, _, h⟩ => .inl (.inl (h _ _ hq))) ?_ ?_⟩
  · rintro i x σ H2 hi ⟨x2, ys, rfl, h2, A2, s2⟩
    obtain ⟨a, ha, T⟩ := A1.get hi
    have am := List.mem_of_getElem? ha
    have li : i < as.length := (List.getElem?_eq_some_iff.mp ha).1
    have yl := A2.len
    have ul := unlT_len (as.take i)
    rw [List.length_take] at ul
    have tk : as.take (i + 1) = as.take i ++ [a] := by rw [List.take_add_one, ha]; rfl
    have T2 : TmAt H2 x a := T.same s2
    refine ⟨_, rfl, _, rfl, tmD a, (unlT (as.take i)).map tmD, (T2.dat (b := (0 : Nat))).dp, .lst (.inl (.inl h2)) (all_dp A2), tk_shaped (ok a am), tks_shaped fun b hb => ok b (List.mem_of_mem_take (unlT_mem.mp hb)), ?_⟩
    by_cases nin : a ∈ unlT (as.take i)
    · refine ⟨false, by rw [in_tmsD, decide_eq_true nin]; rfl, iteF ?_⟩
      exact ⟨_, ys, rfl, h2, by rw [tk, unlT_snoc, if_pos nin]; exact A2, s2⟩
    · refine ⟨true, by rw [in_tmsD, decide_eq_false nin]; rfl, iteT ?_⟩
      refine ⟨_, rfl, .inl ⟨rfl, _, .inl (.inl h2)⟩, _, rfl, l, _, _, rfl, rfl, h2, by omega, ?_⟩
      have keep : ∀ b zs, H2 b = some (.tup zs) → (upd H2 l (.lst (ys ++ [x]))) b = some (.tup zs) := fun b zs z => by rw [upd_ne (ne_of z h2 (by intro e; cases e))]; exact z
      refine ⟨_, ys ++ [x], rfl, upd_same, by rw [tk, unlT_snoc, if_neg nin]; exact (A2.mono keep).append ⟨T2.mono keep, trivial⟩, ?_⟩
      intro c o z
      rw [upd_ne (ne_of_none z hl)]
      exact s2 _ _ z
  · rintro σ H2 ⟨x2, ys, rfl, h2, A2, s2⟩
    rw [xl, List.take_length] at A2
    exact ⟨_, rfl, l, _, rfl, .inl ⟨.inl (.inl h2), fun p hp => fin p ys _ upd_same (A2.mono fun _ _ z => same_new hp _ _ _ z) (s2.trans (same_new hp _))⟩⟩
theorem ok_unlikeB {f : Addr} {fd : FuncData} (F : Fun K "_law_unlike" "_law_unlike" sUnlikeL f fd) (mTuple : mg "tuple" = none) : FnOk P w K mg base CX0 1 f fd ["_law_atoms"] spUnlikeB :=
  ⟨fun vs H Q E h => h.elim ((ok_unlikel (P := P) (w := w) (base := base) F mTuple).len vs H Q E) ((ok_unlikeT (P := P) (w := w) (base := base) F mTuple).len vs H Q E),
   fun A outer s H args us vs Q E hr e0 hb r h => h.elim ((ok_unlikel F mTuple).run A outer s H args us vs Q E hr e0 hb r) ((ok_unlikeT F mTuple).run A outer s H args us vs Q E hr e0 hb r)⟩
theorem scPa : FnScope NPa ["_law_term_here"] (defScope sPartsL) := ⟨rfl, rfl, rfl, by decide +kernel, rfl, by decide +kernel, by decide +kernel⟩
theorem ok_partsl {n : Nat} {f : Addr} {fd : FuncData} (F : Fun K "_law_parts" "_law_parts" sPartsL f fd) (b1 : Binds K fd ["_law_term_here"] []) (mF : mg "_law_parts" = some (.ref f)) (G : FnOk P w K mg base CX0 n f fd ["_law_term_here"] (spPartsL n)) (M : SameG mg) :
    FnOk P w K mg base CX0 (n + 1) f fd ["_law_term_here"] (spPartsL (n + 1)) := by
  refine F.ok scPa (fun vs H Q E h => ?_) (fun cdv A outer s H vs Q E hr h => ?_)
  · obtain ⟨v, t, rfl, _⟩ := h
    rfl
  obtain ⟨v, t, rfl, T, tk, dp, q⟩ := h
  refine ⟨_, pss_cons (ps_set (i := 1) scPa.nd rfl (Or.inl rfl) (pe_lst (pa_cons (pv 0) pa_nil)))
    (pss_cons (ps_for PassesOwn.never rfl (pi_tup (pe_ifExp (pt_val (pe_callB (id := "isinstance") call_isi (by rfl) M.isi (by decide +kernel) (pa_cons (pv 0) (pa_cons (pe_bltn (v := .ty "int") (by rfl) M.int (by decide +kernel) rfl) pa_nil)))) (pe_tup pa_nil) (pe_slice sl_tup (pv 0) (po_some pe_int) po_none)))
      (pg_name (i := 2) scPa.nd rfl (Or.inl rfl)) (pss_one (ps_set (i := 1) scPa.nd rfl (Or.inl rfl) (pe_op op_cat (pv 1) (pe_call G hr rfl mF F.kp b1 .nil pass0 (pa_cons (pv 2) pa_nil))))))
    (pss_one (ps_ret (pv 1)))), ?_⟩
  have big : (10000 : Nat) ≤ sizeLine := by decide
  have tl := Tm.parts_len t
  have tz := tk.2
  refine ⟨_, rfl, (by show 1 ≤ sizeLine; decide), fun l hl => ?_⟩
  have s1 := same_new hl (.lst [v])
  have hl1 : (upd H l (.lst [v])) l = some (.lst [v]) := upd_same
  have T1 := T.same s1
  generalize upd H l (.lst [v]) = H1 at s1 hl1 T1 ⊢
  rcases T1.ty (K := K) with ⟨m, rfl, rfl⟩ | ⟨a, xs, rfl, ha, ty, no⟩
  · refine ⟨_, rfl, _, _, _, _, true, rfl, .ty "int", .base (.int m), kit_ii, true, rfl, iteT ⟨(by show 0 ≤ sizeLine; decide), fun g hg => ?_⟩⟩
    have s2 := same_new hg (.tup ([] : List V))
    refine ⟨g, rfl, ⟨_, .inl (.inl upd_same)⟩, for_tup (K := K) (a := g) (xs := []) (fun i σ H2 => σ = [some (.int m), some (.ref l), none] ∧ H2 = upd H1 g (.tup [])) ⟨rfl, rfl⟩ (fun i σ H2 _ ⟨_, e⟩ => by rw [e]; exact .inl (.inl upd_same)) (fun i x σ H2 hi => by simp at hi) ?_⟩
    rintro σ H2 ⟨rfl, rfl⟩
    exact ⟨_, rfl, q l [.int m] _ hl (s2 _ _ hl1) ⟨.v m, trivial⟩ (s1.trans s2)⟩
  · obtain ⟨a', ks, e, ha', hk, hks⟩ := T1.tupled no
    cases e
    refine ⟨_, rfl, _, _, _, _, false, rfl, .ty "int", ty, kit_ti, false, rfl, iteF ?_⟩
    refine ⟨_, rfl, 1, rfl, a, _, rfl, .inl (.inl ha'), cut_part _ _, fun g hg => ?_⟩
    rw [cut_tail]
    have s2 := same_new hg (.tup ks)
    have hg2 : (upd H1 g (.tup ks)) g = some (.tup ks) := upd_same
    have A2 : AllAt (upd H1 g (.tup ks)) ks t.kids := (AllAt.of hk fun i x k a b => hks i x k a b).mono fun _ _ z => s2 _ _ z
    have hl2 := s2 _ _ hl1
    have T2 := T1.same s2
    generalize upd H1 g (.tup ks) = H2 at s2 hg2 A2 hl2 T2 ⊢
    have kl := A2.len
    have two := kids_two t
    have ln : ∀ {b o}, H b = some o → b ≠ l := fun z => ne_of_none z hl
    refine ⟨g, rfl, ⟨_, .inl (.inl hg2)⟩, for_tup (K := K) (a := g) (xs := ks) (fun i σ H3 => ∃ (x2 : Option V) (m : Addr) (ys : List V), σ = [some (.ref a), some (.ref m), x2] ∧ H m = none ∧ H3 m = some (.lst ys) ∧ AllAt H3 ys (t :: (t.kids.take i).flatMap Tm.parts) ∧ ys.length ≤ 41 * (i + 1) ∧ Same H2 H3)
      ⟨none, l, [.ref a], rfl, hl, hl2, ⟨T2, trivial⟩, by simp, Same.refl _⟩ (fun i σ H3 _ ⟨_, _, _, _, _, _, _, _, s⟩ => .inl (.inl (s _ _ hg2))) ?_ ?_⟩
    · rintro i x σ H3 hi ⟨x2, m, ys, rfl, hm, h3, A3, yl, s3⟩
      obtain ⟨k, hki, Tk3⟩ := A2.get hi
      have mem := List.mem_of_getElem? hki
      have kt := tk.kid mem
      have kp := Tm.parts_len k
      have dk := kid_deep mem
      have li : i < ks.length := (List.getElem?_eq_some_iff.mp hi).1
      refine ⟨_, rfl, _, rfl, x, k, rfl, Tk3.same s3, kt, by omega, fun p zs H4 hp hp4 A4 s4 => ?_⟩
      have zl := A4.len
      have := kt.2
      refine ⟨m, p, _, _, rfl, rfl, s4 _ _ h3, hp4, by omega, fun c hc => ?_⟩
      have s5 := same_new hc (.lst (ys ++ zs))
      have tki : t.kids.take (i + 1) = t.kids.take i ++ [k] := by rw [List.take_add_one, hki]; rfl
      refine ⟨_, c, ys ++ zs, rfl, same_none (s1.trans (s2.trans (s3.trans s4))) _ hc, upd_same, ?_, by rw [List.length_append]; omega, s3.trans (s4.trans s5)⟩
      have e : t :: (t.kids.take (i + 1)).flatMap Tm.parts = (t :: (t.kids.take i).flatMap Tm.parts) ++ k.parts := by rw [tki, List.flatMap_append]; simp
      rw [e]
      exact ((A3.mono fun _ _ z => s4 _ _ z).append A4).mono fun _ _ z => s5 _ _ z
    · rintro σ H3 ⟨x2, m, ys, rfl, hm, h3, A3, yl, s3⟩
      rw [kl, List.take_of_length_le (Nat.le_refl _), ← Tm.parts_kids t] at A3
      exact ⟨_, rfl, q m ys H3 hm h3 A3 (s1.trans (s2.trans s3))⟩
theorem partsl_ok {f : Addr} {fd : FuncData} (F : Fun K "_law_parts" "_law_parts" sPartsL f fd) (b1 : Binds K fd ["_law_term_here"] []) (mF : mg "_law_parts" = some (.ref f)) (M : SameG mg) : ∀ n : Nat, FnOk P w K mg base CX0 n f fd ["_law_term_here"] (spPartsL n)
  | 0 => none_left fun vs H Q E h => by
    obtain ⟨v, t, _, _, _, h, _⟩ := h
    omega
  | n + 1 => ok_partsl F b1 mF (partsl_ok F b1 mF M n) M
end
end Rp

set_option maxHeartbeats 16000000
/-! The law's ways: all rows over some keys, those that solve. -/
namespace Rp
open PySem PySem.Spec PyProof.Rows L2 TL StX
def wysR (TT : List Tm) : List Int → List Prs
  | [] => [[]]
  | k :: r => (wysR TT r).flatMap fun w => TT.map fun t => w ++ [(k, t)]
theorem wysR_mem {TT : List Tm} : ∀ {r : List Int} {w : Prs}, w ∈ wysR TT r ↔ w.map (·.1) = r.reverse ∧ ∀ p ∈ w, p.2 ∈ TT
  | [], w => by
    simp only [wysR, List.mem_singleton, List.reverse_nil, List.map_eq_nil_iff]
    exact ⟨fun h => ⟨h, by simp [h]⟩, fun h => h.1⟩
  | k :: r, w => by
    simp only [wysR, List.mem_flatMap, List.mem_map, List.reverse_cons]
    constructor
    · rintro ⟨v, hv, t, ht, rfl⟩
      obtain ⟨a, b⟩ := wysR_mem.mp hv
      refine ⟨by rw [List.map_append, a]; rfl, fun p hp => ?_⟩
      rcases List.mem_append.mp hp with hp | hp
      · exact b p hp
      · obtain rfl : p = (k, t) := by simpa using hp
        exact ht
    · rintro ⟨e, h⟩
      rcases List.eq_nil_or_concat w with ew | ⟨v, ⟨n, t⟩, ew⟩
      · subst ew; simp at e
      · rw [List.concat_eq_append] at ew
        subst ew
        rw [List.map_append] at e
        obtain ⟨e1, e2⟩ := List.append_inj' e rfl
        have e2 : n = k := by simpa using e2
        subst e2
        exact ⟨v, wysR_mem.mpr ⟨e1, fun p hp => h p (by simp [hp])⟩, t, h (n, t) (by simp), rfl⟩
theorem wysR_nd {TT : List Tm} (nt : TT.Nodup) : ∀ r : List Int, (wysR TT r).Nodup
  | [] => by simp [wysR]
  | k :: r => by
    have ih := wysR_nd nt r
    have gen : ∀ ws : List Prs, ws.Nodup → (ws.flatMap fun w => TT.map fun t => w ++ [(k, t)]).Nodup := by
      intro ws
      induction ws with
      | nil => intro _; simp
      | cons w ws ih =>
        intro nd
        rw [List.nodup_cons] at nd
        rw [List.flatMap_cons]
        refine List.nodup_append.mpr ⟨List.pairwise_map.mpr (List.Pairwise.imp (fun {a b} h e => h (by simpa using e)) nt), ih nd.2, fun x hx y hy exy => ?_⟩
        obtain ⟨t, _, rfl⟩ := List.mem_map.mp hx
        obtain ⟨v, hv, hy⟩ := List.mem_flatMap.mp hy
        obtain ⟨u, _, rfl⟩ := List.mem_map.mp hy
        obtain ⟨e, _⟩ := List.append_inj' exy rfl
        exact nd.1 (e ▸ hv)
    exact gen _ ih
theorem wysR_len {TT : List Tm} : ∀ r : List Int, (wysR TT r).length = TT.length ^ r.length
  | [] => rfl
  | k :: r => by
    have gen : ∀ ws : List Prs, (ws.flatMap fun w => TT.map fun t => w ++ [(k, t)]).length = ws.length * TT.length := by
      intro ws
      induction ws with
      | nil => simp
      | cons w ws ih => rw [List.flatMap_cons, List.length_append, List.length_map, ih, List.length_cons, Nat.add_mul]; omega
    show (List.flatMap _ _).length = _
    rw [gen, wysR_len r, List.length_cons, Nat.pow_succ]
/-- all terms of a saying, part by part -/
def syParts (s : Sy) : List Tm := (s.hs ++ [s.gl]).flatMap fun a => a.ts.flatMap Tm.parts
theorem syParts_mem {s : Sy} {a : At} {t u : Tm} (ha : a ∈ s.hs ++ [s.gl]) (ht : t ∈ a.ts) (hu : u ∈ t.parts) : u ∈ syParts s := List.mem_flatMap.mpr ⟨a, ha, List.mem_flatMap.mpr ⟨t, ht, hu⟩⟩
def solW (s o : Sy) (w : Prs) : Bool := decide (atPut w o.gl = s.gl) && o.hs.all fun h => decide (atPut w h ∈ s.hs)
theorem sorted_keys : ∀ {a b : List Int}, a.Pairwise (· < ·) → b.Pairwise (· < ·) → (∀ k, k ∈ a ↔ k ∈ b) → a = b := fun ha hb e =>
  List.Perm.eq_of_pairwise (le := (· < ·)) (fun x y _ _ h1 h2 => by omega) ha hb ((List.perm_ext_iff_of_nodup (up_nd ha) (up_nd hb)).mpr e)
/-- an atom's term that holds a variable, put, holds what stands for it -/
theorem val_part {b : Bd} {p : At} {n : Int} {u : Tm} (h : b.lookup n = some u) (hn : atNm p n) : ∃ t ∈ (atPut b p).ts, u ∈ t.parts := by
  obtain ⟨t, ht, hn⟩ := hn
  exact ⟨t.put b, List.mem_map.mpr ⟨t, ht, rfl⟩, Tm.part_put h hn⟩
theorem told_law {s o : Sy} {TT : List Tm} {ks : List Int} (nt : TT.Nodup) (tk : ∀ t ∈ TT, Tk t) (up : ks.Pairwise (· < ·)) (mem : ∀ k, k ∈ ks ↔ k ∈ syNums o) (all : ∀ u ∈ syParts s, u ∈ TT) (low : ∀ k ∈ ks, 0 ≤ k ∧ k ≤ 99) :
    Told s o ((wysR TT ks.reverse).filter (solW s o)) := by
  have in_ : ∀ {b : Prs}, b ∈ (wysR TT ks.reverse).filter (solW s o) ↔ (b.map (·.1) = ks ∧ ∀ p ∈ b, p.2 ∈ TT) ∧ atPut b o.gl = s.gl ∧ ∀ h ∈ o.hs, atPut b h ∈ s.hs := by
    intro b
    rw [List.mem_filter, wysR_mem, List.reverse_reverse]
    refine and_congr_right fun _ => ?_
    unfold solW
    rw [Bool.and_eq_true, decide_eq_true_iff, List.all_eq_true]
    refine and_congr_right fun _ => ?_
    exact ⟨fun h x hx => of_decide_eq_true (h x hx), fun h x hx => decide_eq_true (h x hx)⟩
  refine ⟨(wysR_nd nt _).sublist List.filter_sublist, fun b hb => ?_, fun b => ⟨fun hb => ?_, fun C => ?_⟩⟩
  · obtain ⟨⟨e, v⟩, _⟩ := in_.mp hb
    have upb : (b.map (·.1)).Pairwise (· < ·) := by rw [e]; exact up
    refine ⟨fun p hp => low p.1 (by rw [← e]; exact List.mem_map.mpr ⟨p, hp, rfl⟩), fun p hp => (tk _ (v p hp)).1, fun p hp => (tk _ (v p hp)).2, upb, ?_⟩
    have := nd100 (up_nd upb) fun n hn => low n (by rw [← e]; exact hn)
    simpa using this
  · obtain ⟨⟨e, v⟩, g, h⟩ := in_.mp hb
    exact ⟨by rw [e]; exact up, fun k => by rw [e, mem k], g, h⟩
  · obtain ⟨upb, keys, g, h⟩ := C
    have e : b.map (·.1) = ks := sorted_keys upb up fun k => by rw [keys k, mem k]
    refine in_.mpr ⟨⟨e, fun p hp => ?_⟩, g, h⟩
    have hk : p.1 ∈ syNums o := (keys p.1).mp (List.mem_map.mpr ⟨p, hp, rfl⟩)
    have hl := nd_look (up_nd upb) hp
    obtain ⟨q, hq, hn⟩ := sy_nm.mp hk
    obtain ⟨t, ht, hu⟩ := val_part hl hn
    refine all _ (syParts_mem (a := atPut b q) ?_ ht hu)
    rcases List.mem_cons.mp hq with rfl | hq
    · rw [g]; simp
    · exact List.mem_append_left _ (h q hq)
theorem flatLen {α β : Type} {f : α → List β} {n : Nat} : ∀ {l : List α}, (∀ a ∈ l, (f a).length ≤ n) → (l.flatMap f).length ≤ l.length * n
  | [], _ => by simp
  | a :: l, h => by
    have := h a (by simp)
    have := flatLen (l := l) fun b hb => h b (by simp [hb])
    rw [List.flatMap_cons, List.length_append, List.length_cons, Nat.add_mul]
    omega
end Rp

/-! sorted(xs, key=lambda x: e): the lambda is made there, stands untracked, is called for each item. -/
namespace Rp
open PySem PySem.Spec PySem.W PyProof.Rows L2 TL
/-- what stood untracked, and was no frame, stands still -/
def Still (fr : List Addr) (H : Hp) (s s' : Shared) (H' : Hp) : Prop := ∀ b o, s.heap.get? b = some o → H b = none → b ∉ fr → s'.heap.get? b = some o ∧ H' b = none
section
variable {X : Cx} {pins : List (Addr × Obj)} {σ : L2.St} {H : Hp} {s : Shared}
theorem sort_core {k : Nat} {f a0 : Addr} {ps : List (V × Str)} {Q : VK} (I : Inv X pins σ H s) (hr : Room (k + 2) X.A) (hs : SqL X.K H a0 (ps.map (·.1)))
    (F : ∀ p ∈ ps, ∀ (x : Value) (s' : Shared) (H' : Hp), Inv X pins σ H' s' → Same H H' → Still (frs X.stack) H s s' H' → RelV p.1 x → Room k X.A.in1.in1 → Env0 X.prog X.w X.K X.mg X.base X.A.in1.in1 X.stack s' H' →
      codeAny (model X.prog X.w) X.A.in1.in1 (.call (.ref f) ⟨[x], []⟩) (CR CX0 X.stack X.prog X.w H' s' (fun v H2 => v = .str p.2 ∧ Same H' H2) fun _ _ _ => False) s')
    (q : ∀ (l : Addr) (H1 : Hp), Same H H1 → H l = none → H1 l = some (.lst ((ps.mergeSort leS).map (·.1))) → Q (.ref l) H1) :
    wpAny (model X.prog X.w) X.A (call (.builtin "sorted") [.ref a0] [(Str.ofString "key", .ref f)]) (EP X pins σ Q) X.xe s := by
  obtain ⟨its, rv, hl, hz⟩ := I.list hs
  have len : its.length = ps.length := by rw [← rv.length, List.length_map]
  have hZ : its.length ≤ sizeLine := by rw [← rv.length]; exact hz
  have hr2 : Room k X.A.in1.in1 := (Room.in1 (Room.in1 hr) : Room k X.A.in1.in1)
  refine sorted_of_sort hl.isList hZ (ksk_s1 _ _) (fun x => ksk_l1 _ _) fun E' => ?_
  show wpAny (model X.prog X.w) X.A.in1.in1 (ksk_tree (s.heap.objs.size + 1) (.ref f) false) _ E' { s with heap := copyHeap s.heap its }
  have ho := copyHeap_at s.heap its
  have hsz : (copyHeap s.heap its).objs.size = s.heap.objs.size + 2 := by
    unfold copyHeap
    rw [size_push', Heap.size_update, size_push']
  have old : ∀ b o, s.heap.get? b = some o → (copyHeap s.heap its).get? b = some o := fun b o e => copyHeap_old e
  generalize hA : s.heap.objs.size + 1 = a at ho ⊢
  have al : s.heap.objs.size ≤ a := by omega
  generalize copyHeap s.heap its = h1 at ho hsz old ⊢
  obtain ⟨e1, ho1⟩ : ∃ e1, (h1.update a (Obj.mapSeq fun _ => (#[] : Array Value))).get? a = some (seqObj "list" #[] e1) := ⟨_, get?_update_seq ho fun _ => #[]⟩
  unfold ksk_tree
  refine wpAny_bind (listItems_at ho rfl ?_)
  refine wpAny_bind (listUpdate_at ho rfl ?_ (by rw [List.size_toArray]; exact hZ) (Nat.zero_le _))
  refine wpAny_bind (seqEpoch_at ho1 rfl ?_)
  refine wpAny_bind (wpAny_newTuple ?_ (by show its.length ≤ _; exact hZ))
  refine wpAny_bind (wpAny_newList ?_ (Nat.zero_le _))
  refine wpAny_holding ?_
  have sb := Heap.SameBut.update h1 a (Obj.mapSeq fun _ => (#[] : Array Value))
  have sz2 : (h1.update a (Obj.mapSeq fun _ => (#[] : Array Value))).objs.size = s.heap.objs.size + 2 := by rw [Heap.size_update]; exact hsz
  have old2 : ∀ b o, s.heap.get? b = some o → (h1.update a (Obj.mapSeq fun _ => (#[] : Array Value))).get? b = some o := fun b o e => (sb.2 b (Nat.ne_of_lt (Nat.lt_of_lt_of_le (Heap.lt_size e) al))).trans (old b o e)
  generalize h1.update a (Obj.mapSeq fun _ => (#[] : Array Value)) = h2 at ho1 sz2 old2 ⊢
  have sz3 : (h2.push (seqObj "tuple" its.toArray 0)).objs.size = s.heap.objs.size + 3 := by rw [size_push', sz2]
  have ho3 : ((h2.push (seqObj "tuple" its.toArray 0)).push (seqObj "list" #[] 0)).get? a = some (seqObj "list" #[] e1) := Heap.get?_push_of_some _ (Heap.get?_push_of_some _ ho1)
  have hk3 : ((h2.push (seqObj "tuple" its.toArray 0)).push (seqObj "list" #[] 0)).get? (h2.push (seqObj "tuple" its.toArray 0)).objs.size = some (seqObj "list" #[] 0) := Heap.get?_push_size _ rfl
  have old3 : ∀ b o, s.heap.get? b = some o → ((h2.push (seqObj "tuple" its.toArray 0)).push (seqObj "list" #[] 0)).get? b = some o := fun b o e => Heap.get?_push_of_some _ (Heap.get?_push_of_some _ (old2 b o e))
  have I3 : Inv X pins σ H { s with heap := ((h2.push (seqObj "tuple" its.toArray 0)).push (seqObj "list" #[] 0)) } := I.kept (t' := s.toks) old3
  show wpAny (model X.prog X.w) X.A.in1.in1 (ksk_rest a (.ref f) false its.toArray e1 (.ref (h2.push (seqObj "tuple" its.toArray 0)).objs.size)) _ E' { s with heap := ((h2.push (seqObj "tuple" its.toArray 0)).push (seqObj "list" #[] 0)) }
  generalize hkS : (h2.push (seqObj "tuple" its.toArray 0)).objs.size = kS at hk3 ⊢
  have kl : s.heap.objs.size ≤ kS := by omega
  have ka : kS ≠ a := by omega
  have Ha : H a = none := I.hok.fresh al
  have Hk : H kS = none := I.hok.fresh kl
  generalize ((h2.push (seqObj "tuple" its.toArray 0)).push (seqObj "list" #[] 0)) = h3 at ho3 hk3 I3 old3 ⊢
  have nofr : ∀ b, s.heap.objs.size ≤ b → b ∉ frs X.stack := fun b hb z => by
    rcases List.mem_cons.mp (I.stkSub b z) with e | e
    · exact absurd (e ▸ hb : s.heap.objs.size ≤ X.env.locals) (Nat.not_le.mpr I.lt)
    · exact I.nofs hb e
  unfold ksk_rest
  refine wpAny_bind (wpAny_rule ?_)
  rw [List.forIn_toArray]
  refine wpAny_bind (ksk_fold (fun i s' => ∃ (H' : Hp) (kA : Array Value) (e : Nat), Inv X pins σ H' s' ∧ Same H H' ∧ Still (frs X.stack) H s s' H' ∧ H' a = none ∧ H' kS = none ∧ s'.heap.get? kS = some (seqObj "list" kA e) ∧ s'.heap.get? a = some (seqObj "list" #[] e1) ∧ EachIs (fun u (p : V × Str) => RelV (.str p.2) u) kA.toList (ps.take i)) its 0 _
    ⟨H, #[], 0, I3, Same.refl H, (fun b o e n _ => ⟨old3 b o e, n⟩), Ha, Hk, hk3, ho3, by rw [List.take_zero]; exact .nil⟩ ?step ?done)
  case step =>
    rintro j x s' hx ⟨H', kA, e, I', sm, stl, na, nk, gk, ga, ek⟩
    simp only [Nat.zero_add] at ek ⊢
    have hj : j < its.length := (List.getElem?_eq_some_iff.mp hx).1
    obtain ⟨p, hp⟩ : ∃ p, ps[j]? = some p := ⟨_, List.getElem?_eq_getElem (by omega)⟩
    have rx : RelV p.1 x := by
      obtain ⟨u, hu, ru⟩ := rv.get (i := j) (x := p.1) (by rw [List.getElem?_map, hp]; rfl)
      rw [hx] at hu
      cases hu
      exact ru
    have tk : ps.take (j + 1) = ps.take j ++ [p] := by rw [List.take_add_one, hp]; rfl
    have kz : kA.size ≤ its.length := by
      have h1 := ek.length
      rw [Array.length_toList, List.length_take] at h1
      omega
    have e0 := I'.env0
    have e2 : Env0 X.prog X.w X.K X.mg X.base X.A.in1.in1 X.stack s' H' := ⟨e0.frames, e0.mod, e0.bs, e0.bsz, e0.funs, e0.frf, e0.hok, e0.bare⟩
    refine wpAny_bind (wpAny_attempt (wpAny_call (codeAny_mono (F p (List.mem_of_getElem? hp) x s' H' I' sm stl rx hr2 e2) fun rr s2 hrr => ?_)))
    cases rr with
    | error er => exact False.elim hrr
    | ok fl =>
      cases fl with
      | next => exact False.elim hrr
      | brk => exact False.elim hrr
      | cont => exact False.elim hrr
      | ret v =>
        obtain ⟨v', H2, os, bare, un, hok, rv', ev, sm2⟩ := (show CE X.stack X.prog X.w H' _ _ v s2 from hrr)
        subst ev
        have I2 : Inv X pins σ H2 s2 := I'.call' os un hok bare (fun b y => absurd y List.not_mem_nil)
        have gk2 := un.keep _ _ gk nk (nofr _ kl) List.not_mem_nil
        have ga2 := un.keep _ _ ga na (nofr _ al) List.not_mem_nil
        have nk2 := un.free _ _ gk nk List.not_mem_nil
        have na2 := un.free _ _ ga na List.not_mem_nil
        try dsimp only
        have s1 := Heap.SameBut.update s2.heap kS (Obj.mapSeq (·.push v))
        obtain ⟨c2, hc2⟩ : ∃ c2, (s2.heap.update kS (Obj.mapSeq (·.push v))).get? kS = some (seqObj "list" (kA.push v) c2) := ⟨_, get?_update_seq gk2 (·.push v)⟩
        have ea : (kA.push v).toList = kA.toList ++ [v] := by simp
        refine wpAny_bind (listUpdate_at gk2 rfl ?_ (Nat.le_trans kz hZ) (Nat.le_trans (Nat.le_of_eq (Array.size_push ..)) (Nat.succ_le_succ (Nat.le_trans kz hZ))))
        refine wpAny_pure ⟨rfl, H2, kA.push v, c2, ?_, sm.trans sm2, (fun b o eb n nf => ?_), na2, nk2, hc2, (s1.2 a ka.symm).trans ga2, ?_⟩
        · exact I2.turnedL (t' := s2.toks) (ch := [kS]) (fun b o hb e => (s1.2 b (by simpa using hb)).trans e) fun b hb => by
            obtain rfl : b = kS := by simpa using hb
            exact I.fpOk kl nk2
        · obtain ⟨z1, z2⟩ := stl b o eb n nf
          have hbk : b ≠ kS := Nat.ne_of_lt (Nat.lt_of_lt_of_le (Heap.lt_size eb) kl)
          exact ⟨(s1.2 b hbk).trans (un.keep _ _ z1 z2 nf List.not_mem_nil), un.free _ _ z1 z2 List.not_mem_nil⟩
        · rw [ea, tk]
          exact each_snoc (R := fun u (p : V × Str) => RelV (.str p.2) u) rv' ek
  case done =>
    rintro s' ⟨H', kA, e, I', sm, stl, na, nk, gk, ga, ek⟩
    have tk : ps.take (0 + its.length) = ps := List.take_of_length_le (by omega)
    rw [tk] at ek
    have kz : kA.size = its.length := by
      have h1 := ek.length
      rw [Array.length_toList] at h1
      omega
    have er : EachIs (fun v d => ∃ as, Reads s'.heap v d as) kA.toList (ps.map fun p => PyData.str p.2) := by
      have all : ∀ {us : List Value} {qs : List (V × Str)}, EachIs (fun u (p : V × Str) => RelV (.str p.2) u) us qs → EachIs (fun v d => ∃ as, Reads s'.heap v d as) us (qs.map fun p => PyData.str p.2) := by
        intro us qs r
        induction r with
        | nil => exact .nil
        | cons h _ ih =>
          obtain ⟨t, rfl⟩ := h
          exact .cons ⟨[], .str _ t⟩ ih
      exact all ek
    have hal : AllAlike (ps.map fun p => PyData.str p.2) := fun d hd d' hd' => by
      obtain ⟨p, _, rfl⟩ := List.mem_map.mp hd
      obtain ⟨p', _, rfl⟩ := List.mem_map.mp hd'
      rfl
    have hsk : Sortable (ps.map fun p => PyData.str p.2) := .inr fun d hd => by
      obtain ⟨p, _, rfl⟩ := List.mem_map.mp hd
      exact ⟨fun z => (by cases z), fun xs z => (by cases z)⟩
    have hu : ∀ d, d ∈ (ps.map fun p => PyData.str p.2) → X.A.in1.in1.units + d.depth < cLine := fun d hd => by
      obtain ⟨p, _, rfl⟩ := List.mem_map.mp hd
      have := hr2.un
      show X.A.in1.in1.units + 0 < cLine
      omega
    refine wpAny_bind (listItems_at gk rfl ?_)
    -- a heap without the keys
    have fr := Heap.SameBut.update s'.heap kS (fun o => { o with data := .freed })
    have hk0 : (s'.heap.update kS (fun o => { o with data := .freed })).get? kS = none := by
      have h1 := ((Heap.get?_eq_some s'.heap kS _).mp gk).1
      unfold Heap.get?
      rw [Heap.objs_update_self, h1]
      rfl
    refine keyH_end (κ := dataKind s'.heap (ps.map fun p => PyData.str p.2)) (h₁ := s'.heap.update kS (fun o => { o with data := .freed })) (vs := its) (fun b o hb e => ?_) hk0 gk ga ka (SortsAt.data er hal hsk hu) kz hZ fun h' tk c kp hD => ?_
    · by_cases hbk : b = kS
      · rw [hbk, hk0] at e; cases e
      · exact (fr.2 b hbk).symm.trans e
    have out := keyedOut_each (rev := false) (k := fun p : V × Str => PyData.str p.2) (R := fun u (p : V × Str) => RelV p.1 u) (bs := ps) ⟨s'.heap, kA.toList, hal, rfl, er⟩ (vals_each rv)
    have ov := each_fst out
    refine ⟨rfl, .ref a, upd H' a (.lst ((ps.mergeSort leS).map (·.1))), ?_, rfl, q a _ (fun b o z => ?_) Ha upd_same⟩
    · have keepAll : ∀ b o, b ∉ [kS, a] → s'.heap.get? b = some o → h'.get? b = some o := fun b o hb e => by
        simp only [List.mem_cons, List.not_mem_nil, or_false, not_or] at hb
        exact kp b o hb.2 ((fr.2 b hb.1).trans e)
      have I4 : Inv X pins σ H' { s' with heap := h', toks := tk } := I'.turnedL (t' := tk) (ch := [kS, a]) keepAll fun b hb => by
        simp only [List.mem_cons, List.not_mem_nil, or_false] at hb
        rcases hb with rfl | rfl
        · exact I.fpOk kl nk
        · exact I.fpOk al na
      refine track I4 (I.fpOk al na) ⟨?_, _, c, ov, hD⟩
      rw [List.length_map, List.length_mergeSort, ← len]
      exact hZ
    · rw [upd_ne (ne_of_none z Ha)]
      exact sm _ _ z

end
end Rp

/-! sorted(xs, key=lambda a: e): the rule. -/
namespace Rp
open PySem PySem.Spec PySem.W PyProof.Rows L2 TL NdefX LamX
/-- the words of the lambda, as a function without a body of statements -/
abbrev lmF (qual : Str) (params : Arguments) (scope : Scope) (c : Addr) : NF := ⟨"<lambda>", qual, params, [], scope, [], c⟩
section
variable {P : Program} {w : World} {K : PySem.W.Frag} {mg : Str → Option Value} {base : Heap}
/-- the lambda called -/
theorem lam_code {N ps : List Str} {F : NF} {e : Expr} {k : Nat} {f : Addr} {A : Around} {outer : List Env} {s : Shared} {H : Hp} {us : List Value} {vs : List V} {Q : VK} {E : XK} {pm ctv : Value} {t : TE}
    (S : NScope N ps [] F.scope) (hcl : F.cl = []) (ho : s.heap.get? f = some (kla_obj F.name F.qual F.params e F.scope F.cl pm F.c ctv)) (hc : s.heap.CodeRec (.ref F.c) F.qual)
    (hb : bindArgs (kla_fn F.name F.qual F.params e F.scope F.cl pm (.ref F.c) ctv) ⟨us, []⟩ = pure (ps.zip us)) (e0 : Env0 P w K mg base A outer s H) (hr : Room (k + 1) A) (r : Vals vs us) (hl : vs.length = ps.length)
    (he : Room k (A.deeper (envF F f s.heap.objs.size)) → PE (ncx CX0 P w K mg base N F f A outer s H E) e t) (ht : t (startF N vs []) H Q) :
    codeAny (model P w) A (.call (.ref f) ⟨us, []⟩) (CR CX0 outer P w H s Q E) s := by
  have lim : s.heap.NoLimit := e0.mod.nolimit.keeps fun b o e => (e0.bs b o e).1
  refine kla_callFunE hr.depth ho rfl S.co S.gen rfl hc ?_
  rw [hb]
  refine wpAny_pure (wpAny_newFunctionEnv S.nocell (fun ⟨n, _⟩ hy => S.par n (List.of_mem_zip hy).1) (fun h₁ hns hsb => ⟨lim.fresh _ hsb, ?_⟩) S.kind)
  show codeAny _ _ (.expr e (envF F f s.heap.objs.size)) _ _
  have kp : ∀ b o, s.heap.get? b = some o → h₁.get? b = some o := fun b o e => hsb.extBut b o (Nat.ne_of_lt (Heap.lt_size e)) (Heap.get?_push_of_some _ e)
  have C : CellsAt F.cl [] [] s.heap H := by
    rw [hcl]
    exact ⟨rfl, fun y c z => (by cases z), fun x y c z => (by cases z), fun i y z => (by simp at z)⟩
  have I : Inv (ncx CX0 P w K mg base N F f A outer s H E) [] (startF N vs []) H { s with heap := h₁, toks := s.toks + (ps.zip us).length } := inv_startN S hr.hd e0 hl r C hns kp
  refine kla_codeExpr (wpAny_mono ((he (hr.deeper _)).run [] _ (startF N vs []) H Q I ht) (fun v s' hq => ?_) fun e s' hq => hq)
  obtain ⟨w', H', J', rv, q⟩ := hq
  exact ⟨w', H', J'.os, J'.bare, J'.base, J'.hok, rv, q⟩
end
/-- the reading of sorted(xs, key=lambda a: e): sp tells what e gives -/
def tSortLam (K : PySem.W.Frag) (T : List (Addr × Str)) (N : List Str) (tb : TE) (t : TA) : TE := fun σ H Q => t σ H fun vs H1 => Tabs T H1 ∧ ∃ (a : Addr) (ps : List (V × Str)), vs = [.ref a] ∧ SqL K H1 a (ps.map (·.1)) ∧
  (∀ p ∈ ps, ∀ H2 H3, ExtN H1 H2 → Tabs T H2 → Same H2 H3 → tb (startF N [p.1] []) H3 fun v H4 => v = .str p.2 ∧ Same H3 H4) ∧
  ∀ (l : Addr) (H2 H3 : Hp), ExtN H1 H2 → Tabs T H2 → Same H2 H3 → H2 l = none → H3 l = some (.lst ((ps.mergeSort leS).map (·.1))) → Q (.ref l) H3
section
variable {X : Cx} {k : Nat} {N : List Str} {T : List (Addr × Str)} {c P : Addr} {a x : Str} {p pos lpos kpos : Pos} {ex e : Expr} {params : Arguments} {scope : Scope} {t : TA} {tb : TE}
theorem pe_sortLam (hg : Gl X x) (hm : X.mg x = none) (hv : bootBuiltins x = some (.builtin "sorted")) (ha : PA X [ex] t) (TB : TabB X.base X.mg c P) (hcode : X.env.code = .ref c)
    (hmT : (P, X.env.qual ++ "<lambda>") ∈ T) (hu : ∀ p ∈ T, p.1 = P → p.2 = X.env.qual ++ "<lambda>") (hr : Room (k + 3) X.A) (S : NScope N [a] [] scope) (hdef : defaultsOf params X.env = ([], []))
    (hbind : ∀ (q : Str) (pm cv ctv u : Value), bindArgs (kla_fn "<lambda>" q params e scope [] pm cv ctv) ⟨[u], []⟩ = pure ([a].zip [u]))
    (hbody : ∀ (c' f : Addr) (A : Around) (outer : List Env) (s : Shared) (H : Hp), Room k (A.deeper (envF (lmF (X.env.qual ++ "<lambda>") params scope c') f s.heap.objs.size)) →
      PE (ncx CX0 X.prog X.w X.K X.mg X.base N (lmF (X.env.qual ++ "<lambda>") params scope c') f A outer s H fun _ _ _ => False) e tb)
    (hn : x ≠ "__name__" := by decide) (hdb : (x == ("__debug__" : Str)) = false := by decide) (he : starEach [ex] X.env = (false, eval ex X.env) :: starEach [] X.env := by rfl) :
    PE X (.Call (.Name x p) [ex] [{ arg := some "key", value := .Lambda params e scope lpos, pos := kpos }] pos) (tSortLam X.K T N tb t) := by
  refine ⟨fun pins s σ H Q I h => ?_⟩
  refine wpAny_Call_Name_kw (ld_blt I hg hm hv ?_ hn hdb)
  have nof : ∀ y ∈ scope.names, y.2 = .free → ∃ c, X.env.cells.lookup y.1 = some c := fun y hy z => by
    have := S.free y hy z
    simp at this
  have hcl : cloFrom X.env.cells scope.names [] = [] := by
    have : ∀ (l : List (Str × NameKind)), (∀ y ∈ l, y.2 ≠ .free) → cloFrom X.env.cells l [] = [] := by
      intro l
      induction l with
      | nil => intro _; rfl
      | cons y l ih =>
        intro h
        have h0 := h y (by simp)
        obtain ⟨n, kd⟩ := y
        have h0 : kd ≠ .free := h0
        have ih := ih fun z hz => h z (List.mem_cons_of_mem _ hz)
        cases kd <;> first | exact ih | exact absurd rfl h0
    exact this _ fun y hy z => by
      have := S.free y hy z
      simp at this
  refine PyProof.Rows.callWith_kw (thn (ha.run pos pins s σ H _ I h) fun us s1 ⟨vs, H1, I1, r1, q1⟩ => ?_) (by rw [he]; rfl) (by rw [he]; rfl) rfl rfl
  obtain ⟨hT, a0, ps, rfl, hs, turn, q⟩ := q1
  obtain rfl := Vals.ref1 r1
  show wpAny _ _ (evalAll [(do let v ← eval (.Lambda params e scope lpos) X.env; standAt pos; pure v)]) _ _ _
  refine wpAny_evalAll_cons (wpAny_bind (lam_make2 I1 TB hcode hmT hu hT hdef nof fun f c' pm ctv H2 s2 I2 eN T2 hf hfn hfr hco => wpAny_bind (wpAny_standAt (wpAny_pure (wpAny_evalAll_nil ?_)))))
  rw [hcl] at hf
  show wpAny _ _ (call (.builtin "sorted") [.ref a0] [(Str.ofString "key", .ref f)]) _ _ _
  have hs2 : SqL X.K H2 a0 (ps.map (·.1)) := hs.imp (fun h1 => h1.imp (fun h => eN _ _ h fun _ z => (by cases z)) fun ⟨o, h⟩ => ⟨o, eN _ _ h fun _ z => (by cases z)⟩) id
  refine sort_core (k := k + 1) (f := f) I2 hr hs2 (fun p hp x s' H' I' sm stl rx hr2 e2 => ?_) fun l H3 sm hl e3 => q l H2 H3 eN T2 sm hl e3
  have g1 := (stl f _ hf hfn hfr).1
  refine lam_code (F := lmF (X.env.qual ++ "<lambda>") params scope c') (e := e) (N := N) (ps := [a]) (pm := pm) (ctv := ctv) (vs := [p.1]) S rfl g1 (codeO_at I'.hok (sm _ _ hco)) (hbind _ _ _ _ _) e2 hr2 (.cons rx .nil) rfl (fun hr3 => hbody c' f _ _ _ _ hr3) (turn p hp H2 H' eN T2 sm)
end
end Rp

set_option maxHeartbeats 16000000
/-! _law_all. -/
namespace Rp
open PySem PySem.Spec PyProof.Rows L2 TL StX NdefX LamX
def lamQ : Str := "_law_all.<locals>.<lambda>"
def nmLm : Nat → Nat → Str := fun _ _ => lamQ
theorem tabs_to {Pt : Addr} {H : Hp} (h : TabsN [(Pt, nmLm)] H) : Tabs [(Pt, lamQ)] H := fun p hp => by
  rw [List.mem_singleton.mp hp]
  exact (h (Pt, nmLm) (List.mem_singleton.mpr rfl)).to
theorem tabs_of {Pt : Addr} {H : Hp} (h : Tabs [(Pt, lamQ)] H) : TabsN [(Pt, nmLm)] H := fun p hp => by
  rw [List.mem_singleton.mp hp]
  exact TabN.of (h (Pt, lamQ) (List.mem_singleton.mpr rfl))
structure ExtL (T : List NTab) (H H' : Hp) : Prop where
  ext : ExtN H H'
  tab : TabsN T H'
def spAll (T : List NTab) : Sp := fun vs H Q _ => ∃ (v vo : V) (s o : Sy), vs = [v, vo] ∧ SyAt H v s ∧ SyOk s ∧ SyAt H vo o ∧ SyOk o ∧ (∀ a ∈ s.hs, AtOk 7 a) ∧ AtOk 7 s.gl ∧ (∀ a ∈ o.hs, AtOk 7 a) ∧ AtOk 7 o.gl ∧ (∀ ns : List Int, ns.Nodup → (∀ k ∈ ns, k ∈ syNums o) → ns.length ≤ 2) ∧ TabsN T H ∧
  ∀ (l : Addr) (vs : List V) (L : List Prs) (H' : Hp), H' l = some (.lst vs) → Told s o L → L.length ≤ 10000 → Paired (BiAt H') vs (sortB L) → ExtL T H H' → Q (.ref l) H'
abbrev NAl : List Str := ["_law_saying_here", "_law_other", "_law_terms", "_law_atom_here", "_law_term_here", "_law_ways", "_law_one", "_law_further", "_law_way", "_law_found", "_law_puts", "_law_hyp"]
def teWy (K : PySem.W.Frag) : TE := tOp (rCatF K) (tVar 8) (tTupF (tCons (tTup (tCons (tVar 6) (tCons (tVar 4) tNil))) tNil))
def teInA (K : PySem.W.Frag) : TE := tOp (rInT K) (tCall (spLPutD 9) [] E0 (tCons (tVar 11) (tCons (tVar 10) tNil))) (tOp (rIxT K) (tVar 0) (tC (.int 0)))
theorem part_size : ∀ {t k : Tm}, k ∈ t.parts → k.size ≤ t.size
  | .v n, k, h => by simp [Tm.parts] at h; subst h; exact Nat.le_refl _
  | .z, k, h => by simp [Tm.parts] at h; subst h; exact Nat.le_refl _
  | .s t, k, h => by
    simp [Tm.parts] at h
    rcases h with rfl | h
    · exact Nat.le_refl _
    · have := part_size h; simp only [Tm.size]; omega
  | .f l r, k, h => by
    simp [Tm.parts] at h
    rcases h with rfl | h | h
    · exact Nat.le_refl _
    · have := part_size h; simp only [Tm.size]; omega
    · have := part_size h; simp only [Tm.size]; omega
/-- a way, a plain tuple of pairs -/
def WyAt (H : Hp) (v : V) (w : Prs) : Prop := ∃ (a : Addr) (ps : List Addr), v = .ref a ∧ PlT H a (ps.map V.ref) ∧ Paired (PrAt H) ps w
theorem WyAt.keep {H H' : Hp} {v : V} {w : Prs} (h : WyAt H v w) (s : ∀ b o, H b = some o → (∀ xs, o ≠ .lst xs) → H' b = some o) : WyAt H' v w := by
  obtain ⟨a, ps, e, ⟨o, od, t⟩, p⟩ := h
  exact ⟨a, ps, e, ⟨o, od, s _ _ t fun ys z => by cases z⟩, pd_mono (fun _ _ k => k.mono fun a xs z => s _ _ z fun ys w => by cases w) p⟩
theorem WyAt.same {H H' : Hp} {v : V} {w : Prs} (h : WyAt H v w) (s : Same H H') : WyAt H' v w := h.keep fun _ _ z _ => s _ _ z
theorem wy_prs {H : Hp} : ∀ {ps : List Addr} {w : Prs}, Paired (PrAt H) ps w → PrsAt H (ps.map V.ref) w
  | _, _, .nil => trivial
  | _, _, .cons (a := p) (b := q) h t => by
    obtain ⟨x, h1, h2⟩ := h
    exact ⟨⟨p, x, rfl, h1, h2⟩, wy_prs t⟩
theorem wy_bi {H : Hp} {v : V} {w : Prs} (h : WyAt H v w) : BiAt H v w := by
  obtain ⟨a, ps, e, ⟨o, od, t⟩, p⟩ := h
  exact ⟨a, _, e, .inr ⟨o, t⟩, wy_prs p⟩
theorem biAt_ext {H H' : Hp} {v : V} {b : Prs} (h : BiAt H v b) (s : ExtN H H') : BiAt H' v b := by
  obtain ⟨a, xs, e, t, p⟩ := h
  exact ⟨a, xs, e, t.imp (fun z => s _ _ z fun ys w => by cases w) fun ⟨o, z⟩ => ⟨o, s _ _ z fun ys w => by cases w⟩, p.mono fun a xs z => s _ _ z fun ys w => by cases w⟩
section
variable {P : Program} {w : World} {K : PySem.W.Frag} {mg : Str → Option Value} {base : Heap}
theorem scAll : FnScope NAl ["_law_saying_here", "_law_other"] (defScope sAllL) := ⟨rfl, rfl, rfl, by decide +kernel, rfl, by decide +kernel, by decide +kernel⟩
theorem ok_all {f c Pt fPa fU fSp fL fB : Addr} {fd dPa dU dSp dL dB : FuncData} (F : Fun K "_law_all" "_law_all" sAllL f fd) (hc : fd.code = .ref c) (TB : TabB base mg c Pt)
    (GPa : FnOk P w K mg base CX0 9 fPa dPa ["_law_term_here"] (spPartsL 9)) (kPa : PySem.W.keepIn K (.ref fPa) = true) (bPa : Binds K dPa ["_law_term_here"] []) (mPa : mg "_law_parts" = some (.ref fPa))
    (GU : FnOk P w K mg base CX0 1 fU dU ["_law_atoms"] spUnlikeB) (kU : PySem.W.keepIn K (.ref fU) = true) (bU : Binds K dU ["_law_atoms"] []) (mU : mg "_law_unlike" = some (.ref fU))
    (GSp : FnOk P w K mg base CX0 12 fSp dSp ["_law_thing"] (spSpots 12)) (kSp : PySem.W.keepIn K (.ref fSp) = true) (bSp : Binds K dSp ["_law_thing"] []) (mSp : mg "_law_spots" = some (.ref fSp))
    (GL : FnOk P w K mg base CX0 9 fL dL ["_law_thing", "_law_puts"] (spLPutD 9)) (kL : PySem.W.keepIn K (.ref fL) = true) (bL : Binds K dL ["_law_thing", "_law_puts"] []) (mL : mg "_law_put" = some (.ref fL))
    (GB : FnOk P w K mg base CX0 61 fB dB ["_law_binding"] spLBind) (kB : PySem.W.keepIn K (.ref fB) = true) (bB : Binds K dB ["_law_binding"] []) (mB : mg "_law_binding_words" = some (.ref fB))
    (mList : mg "list" = none) (mDict : mg "dict" = none) (mAll : mg "all" = none) (mSorted : mg "sorted" = none) : FnOk P w K mg base CX0 65 f fd ["_law_saying_here", "_law_other"] (spAll [(Pt, nmLm)]) := by
  refine okC F hc scAll (fun vs H Q E h => ?_) (fun A outer s H vs Q E hr h => ?_)
  · obtain ⟨v, vo, sy, oy, rfl, _⟩ := h
    rfl
  obtain ⟨v, vo, sy, oy, rfl, S0, oks, O0, oko, h7, g7, oh7, og7, two, hT, go⟩ := h
  have r1 : Room 1 _ := hr.mono (by decide)
  have r9 : Room 9 _ := hr.mono (by decide)
  have r12 : Room 12 _ := hr.mono (by decide)
  have r64 : Room 64 _ := hr
  refine ⟨_, pss_cons (ps_set (i := 2) scAll.nd rfl (Or.inl rfl) (pe_lst pa_nil))
    (pss_cons (ps_for PassesOwn.never rfl (pi_list (pe_op op_cat (pe_callTy call_list_of (by rfl) mList (by decide +kernel) (pa_cons (pe_ix ix_tup (pv 0) pe_int (fun _ _ => rfl)) pa_nil)) (pe_lst (pa_cons (pe_ix ix_tup (pv 0) pe_int (fun _ _ => rfl)) pa_nil)))) (pg_name (i := 3) scAll.nd rfl (Or.inl rfl)) (pss_one (ps_for PassesOwn.never rfl (pi_tup (pe_slice sl_tup (pv 3) (po_some pe_int) po_none)) (pg_name (i := 4) scAll.nd rfl (Or.inl rfl)) (pss_one (ps_set (i := 2) scAll.nd rfl (Or.inl rfl) (pe_op op_cat (pv 2) (pe_call GPa r9 rfl mPa kPa bPa .nil pass0 (pa_cons (pv 4) pa_nil))))))))
    (pss_cons (ps_par (i := 2) (j := 5) rfl scAll.nd rfl rfl (by decide) rfl rfl (pa_cons (pe_callTy call_list_of (by rfl) mList (by decide +kernel) (pa_cons (pe_call GU r1 rfl mU kU bU .nil pass0 (pa_cons (pv 2) pa_nil)) pa_nil)) (pa_cons (pe_lst (pa_cons (pe_tupF pa_nil) pa_nil)) pa_nil)) (by rfl))
    (pss_cons (ps_for PassesOwn.never rfl (pi_list (pe_call GSp r12 rfl mSp kSp bSp .nil pass0 (pa_cons (pv 1) pa_nil))) (pg_name (i := 6) scAll.nd rfl (Or.inr rfl)) (pss_cons (ps_set (i := 7) scAll.nd rfl (Or.inl rfl) (pe_lst pa_nil)) (pss_cons (ps_for PassesOwn.never rfl (pi_list (pv 5)) (pg_name (i := 8) scAll.nd rfl (Or.inr rfl)) (pss_one (ps_set (i := 7) scAll.nd rfl (Or.inl rfl) (pe_op op_cat (pv 7) (pe_lc (own := [("_law_term_here", 4)]) (g := gName 4) (tt := tYes) (te := teWy K) rfl scAll.nd (pi_list (pv 2)) (blkOk_by (N := NAl) (sc := defScope sAllL) (by decide +kernel)) (fun _ _ _ _ _ => (pg_name (i := 4) scAll.nd rfl (Or.inl rfl))) (fun _ _ _ _ _ => pts_nil) (fun _ _ _ _ _ => pe_op op_catF (pv 8) (pe_tupF (pa_cons (pe_tup (pa_cons (pv 6) (pa_cons (pv 4) pa_nil))) pa_nil)))))))) (pss_one (ps_set (i := 5) scAll.nd rfl (Or.inl rfl) (pv 7))))))
    (pss_cons (ps_set (i := 9) scAll.nd rfl (Or.inl rfl) (pe_lst pa_nil))
    (pss_cons (ps_for PassesOwn.never rfl (pi_list (pv 5)) (pg_name (i := 8) scAll.nd rfl (Or.inr rfl)) (pss_cons (ps_set (i := 10) scAll.nd rfl (Or.inr rfl) (pe_callTy (cr_dictT rfl) (by rfl) mDict (by decide +kernel) (pa_cons (pv 8) pa_nil))) (pss_one (ps_if (PW.pt (pw_and (pt_cmpR (op_eqD hr.units) (pe_call GL r9 rfl mL kL bL .nil pass0 (pa_cons (pe_ix ix_tup (pv 1) pe_int (fun _ _ => rfl)) (pa_cons (pv 10) pa_nil))) (pe_ix ix_tup (pv 0) pe_int (fun _ _ => rfl)) (nomark _)) (pw_and1 (pt_val (pe_callB (cr_all rfl) (by rfl) mAll (by decide +kernel) (pa_cons (pe_lc (own := [("_law_hyp", 11)]) (g := gName 11) (tt := tYes) (te := teInA K) rfl scAll.nd (pi_tup (pe_ix ix_tup (pv 1) pe_int (fun _ _ => rfl))) (blkOk_by (N := NAl) (sc := defScope sAllL) (by decide +kernel)) (fun _ _ _ _ _ => (pg_name (i := 11) scAll.nd rfl (Or.inl rfl))) (fun _ _ _ _ _ => pts_nil) (fun _ _ _ _ _ => (pe_cmpR (op_inT (hu65 hr)) (pe_call GL r9 (by rfl) mL kL bL .nil pass0 (pa_cons (pv 11) (pa_cons (pv 10) pa_nil))) (pe_ix ix_tup (pv 0) pe_int (fun _ _ => rfl)) (by rfl)))) pa_nil)))))) (pss_one (ps_expr (pe_bm PySem.F.plainAttrs_list PySem.F.slot_list_append PySem.F.type_list_append mt_append (pv 9) (pa_cons (pv 8) pa_nil)))) pss_nil))))
    (pss_one (ps_ret (pe_sortLam (k := 61) (N := ["_law_way"]) (a := "_law_way") (T := [(Pt, lamQ)]) (by rfl) mSorted (by decide +kernel) (pa_cons (pv 9) pa_nil) TB rfl (List.mem_singleton.mpr rfl) (fun p hp _ => by rw [List.mem_singleton.mp hp]; rfl) r64 (nscope_by (by decide +kernel)) rfl (fun _ _ _ _ _ => rfl) (fun c' f A outer s H hr => pe_call GB hr (by rfl) mB kB bB .nil pass0 (pa_cons (pv 0) pa_nil)))))))))), ?_⟩
  have big : (100000 : Nat) ≤ sizeLine := by decide
  obtain ⟨p, q, vg, xs, rfl, hp, hq, As, Ag⟩ := id S0
  obtain ⟨po, qo, vgo, xo, rfl, hpo, hqo, Ao, Ago⟩ := id O0
  have xl := As.len
  have xol := Ao.len
  have few := oks.hs.few
  have fewo := oko.hs.few
  refine ⟨(by show 0 ≤ sizeLine; decide), fun t0 ht0 => ?_⟩
  have s1 := same_new ht0 (.lst ([] : List V))
  have ht1 : (upd H t0 (.lst ([] : List V))) t0 = some (.lst []) := upd_same
  generalize upd H t0 (.lst ([] : List V)) = H1 at s1 ht1 ⊢
  refine ⟨_, rfl, p, _, _, _, rfl, rfl, .inl (.inl (s1 _ _ hp)), at_of (j := 0) rfl rfl, q, xs, rfl, .inr (.inl (.inl (s1 _ _ hq))), fun e1 he1 => ?_⟩
  have s2 := same_new he1 (.lst xs)
  have he2 : (upd H1 e1 (.lst xs)) e1 = some (.lst xs) := upd_same
  generalize upd H1 e1 (.lst xs) = H2 at s2 he2 ⊢
  refine ⟨_, rfl, p, _, _, _, rfl, rfl, .inl (.inl (s2 _ _ (s1 _ _ hp))), at_of (j := 1) rfl rfl, (by show 1 ≤ sizeLine; decide), fun e2 hne2 => ?_⟩
  have s3 := same_new hne2 (.lst [vg])
  have he3 : (upd H2 e2 (.lst [vg])) e2 = some (.lst [vg]) := upd_same
  generalize upd H2 e2 (.lst [vg]) = H3 at s3 he3 ⊢
  refine ⟨e1, e2, xs, [vg], rfl, rfl, s3 _ _ he2, he3, by rw [List.length_singleton]; omega, fun e3 hne3 => ?_⟩
  have s4 := same_new hne3 (.lst (xs ++ [vg]))
  have he4 : (upd H3 e3 (.lst (xs ++ [vg]))) e3 = some (.lst (xs ++ [vg])) := upd_same
  generalize upd H3 e3 (.lst (xs ++ [vg])) = H4 at s4 he4 ⊢
  have s14 := s2.trans (s3.trans s4)
  have s04 := s1.trans s14
  have Aall : AtsAt H4 (xs ++ [vg]) (sy.hs ++ [sy.gl]) := (As.same s04).append ⟨atAt_same Ag s04, trivial⟩
  have okall : ∀ a ∈ sy.hs ++ [sy.gl], AtOk 7 a := fun a ha => by
    rcases List.mem_append.mp ha with ha | ha
    · exact h7 a ha
    · obtain rfl : a = sy.gl := by simpa using ha
      exact g7
  have alen : (sy.hs ++ [sy.gl]).length ≤ 7 := by rw [List.length_append, List.length_singleton]; omega
  have hS : syParts sy = (sy.hs ++ [sy.gl]).flatMap fun a => a.ts.flatMap Tm.parts := rfl
  generalize sy.hs ++ [sy.gl] = as at Aall okall alen hS
  have vl := Aall.len
  refine ⟨e3, rfl, ⟨_, .inl (.inl he4)⟩, for_list (K := K) (a := e3) (xs := xs ++ [vg]) (fun i σ H5 => ∃ (x3 x4 : Option V) (m : Addr) (ys : List V), σ = [some (.ref p), some (.ref po), some (.ref m), x3, x4, none, none, none, none, none, none, none] ∧
      H5 m = some (.lst ys) ∧ AllAt H5 ys ((as.take i).flatMap fun a => a.ts.flatMap Tm.parts) ∧ ys.length ≤ 14 * i ∧ Same H4 H5)
    ⟨none, none, t0, [], rfl, s14 _ _ ht1, trivial, by simp, Same.refl _⟩ (fun i σ H5 _ ⟨_, _, _, _, _, _, _, _, s⟩ => .inl (.inl (s _ _ he4))) ?_ ?_⟩
  · rintro i x σ H5 hi ⟨x3, x4, m, ys, rfl, h5, A5, yl, s5⟩
    obtain ⟨a, ha, Ta⟩ := Aall.get hi
    have oka := okall a (List.mem_of_getElem? ha)
    have li : i < as.length := (List.getElem?_eq_some_iff.mp ha).1
    obtain ⟨pa, zs, rfl, hpa, Az⟩ := atAt_same Ta s5
    have zl := Az.len
    have z2 := oka.two
    have tki : as.take (i + 1) = as.take i ++ [a] := by rw [List.take_add_one, ha]; rfl
    refine ⟨_, rfl, 1, rfl, pa, _, rfl, .inl (.inl hpa), cut_part _ _, fun g hg => ?_⟩
    rw [cut_tail]
    have s6 := same_new hg (.tup zs)
    have hg6 : (upd H5 g (.tup zs)) g = some (.tup zs) := upd_same
    have Az6 : AllAt (upd H5 g (.tup zs)) zs a.ts := Az.mono fun _ _ z => s6 _ _ z
    have A6 := A5.mono (H' := upd H5 g (.tup zs)) fun _ _ z => s6 _ _ z
    have h6 := s6 _ _ h5
    generalize upd H5 g (.tup zs) = H6 at s6 hg6 Az6 A6 h6 ⊢
    refine ⟨g, rfl, ⟨_, .inl (.inl hg6)⟩, for_tup (K := K) (a := g) (xs := zs) (fun j σ H7 => ∃ (x4 : Option V) (m : Addr) (ys : List V), σ = [some (.ref p), some (.ref po), some (.ref m), some (.ref pa), x4, none, none, none, none, none, none, none] ∧
        H7 m = some (.lst ys) ∧ AllAt H7 ys (((as.take i).flatMap fun a => a.ts.flatMap Tm.parts) ++ (a.ts.take j).flatMap Tm.parts) ∧ ys.length ≤ 14 * i + 7 * j ∧ Same H6 H7)
      ⟨x4, m, ys, rfl, h6, by simpa using A6, by omega, Same.refl _⟩ (fun j σ H7 _ ⟨_, _, _, _, _, _, _, s⟩ => .inl (.inl (s _ _ hg6))) ?_ ?_⟩
    · rintro j y σ H7 hj ⟨x4, m, ys, rfl, h7', A7, yl7, s7⟩
      obtain ⟨t, ht, T7⟩ := Az6.get hj
      have okt := oka.sm t (List.mem_of_getElem? ht)
      have lj : j < a.ts.length := (List.getElem?_eq_some_iff.mp ht).1
      have dl := Tm.deep_lt t
      have pl := Tm.parts_len t
      refine ⟨_, rfl, _, rfl, y, t, rfl, T7.same s7, ⟨okt.1, by omega⟩, by omega, fun l8 us H8 hl8 hl8' A8 s8 => ?_⟩
      have ul := A8.len
      refine ⟨m, l8, ys, us, rfl, rfl, s8 _ _ h7', hl8', by omega, fun c9 hc9 => ?_⟩
      have s9 := same_new hc9 (.lst (ys ++ us))
      have tkj : a.ts.take (j + 1) = a.ts.take j ++ [t] := by rw [List.take_add_one, ht]; rfl
      refine ⟨_, c9, ys ++ us, rfl, upd_same, ?_, by rw [List.length_append]; omega, s7.trans (s8.trans s9)⟩
      rw [tkj, List.flatMap_append, ← List.append_assoc]
      have e : ([t] : List Tm).flatMap Tm.parts = t.parts := by simp
      rw [e]
      exact ((A7.mono fun _ _ z => s8 _ _ z).append A8).mono fun _ _ z => s9 _ _ z
    · rintro σ H7 ⟨x4, m, ys, rfl, h7', A7, yl7, s7⟩
      rw [zl, List.take_of_length_le (Nat.le_refl _)] at A7
      refine ⟨_, x4, m, ys, rfl, h7', ?_, by omega, s5.trans (s6.trans s7)⟩
      rw [tki, List.flatMap_append]
      have e : ([a] : List At).flatMap (fun a => a.ts.flatMap Tm.parts) = a.ts.flatMap Tm.parts := by simp
      rw [e]
      exact A7
  rintro σ H5 ⟨x3, x4, m, ys, rfl, h5, A5, yl, s5⟩
  rw [vl, List.take_of_length_le (Nat.le_refl _), ← hS] at A5
  have ylen := A5.len
  have tkS : ∀ t ∈ syParts sy, Tk t := fun t ht => by
    rw [hS] at ht
    obtain ⟨a, ha, ht⟩ := List.mem_flatMap.mp ht
    obtain ⟨u, hu, ht⟩ := List.mem_flatMap.mp ht
    have := (okall a ha).sm u hu
    exact Tm.parts_tk ht ⟨this.1, by omega⟩
  have tk8 : ∀ t ∈ syParts sy, t.size ≤ 8 := fun t ht => by
    rw [hS] at ht
    obtain ⟨a, ha, ht⟩ := List.mem_flatMap.mp ht
    obtain ⟨u, hu, ht⟩ := List.mem_flatMap.mp ht
    have := (okall a ha).sm u hu
    have := part_size ht
    omega
  have ylS : ys.length ≤ 98 := by omega
  -- list(unlike(..)), [()]
  refine ⟨_, rfl, .inr ⟨m, ys, syParts sy, rfl, h5, A5, tkS, by omega, fun u vs6 H6 hu6 A6 s6 => ?_⟩⟩
  have TTl := unlT_len (syParts sy)
  have TTn := unlT_nd (syParts sy)
  have TTm : ∀ x, x ∈ unlT (syParts sy) ↔ x ∈ syParts sy := fun x => unlT_mem
  generalize hTT : unlT (syParts sy) = TT at A6 TTl TTn TTm
  have tl6 := A6.len
  refine ⟨u, vs6, rfl, .inr (.inl (.inl hu6)), fun lt hlt => ?_⟩
  have s7 := same_new hlt (.lst vs6)
  have hlt7 : (upd H6 lt (.lst vs6)) lt = some (.lst vs6) := upd_same
  have A7 : AllAt (upd H6 lt (.lst vs6)) vs6 TT := A6.mono fun _ _ z => s7 _ _ z
  generalize upd H6 lt (.lst vs6) = H7 at s7 hlt7 A7 ⊢
  refine ⟨(by show 0 ≤ sizeLine; decide), fun u0 o0 od0 hu0 => ?_⟩
  have s8 := same_new hu0 (.frz o0 (.tup []))
  have hu8 : PlT (upd H7 u0 (.frz o0 (.tup []))) u0 ([] : List V) := ⟨o0, od0, upd_same⟩
  generalize upd H7 u0 (.frz o0 (.tup [])) = H8 at s8 hu8 ⊢
  refine ⟨(by show 1 ≤ sizeLine; decide), fun lw hlw => ⟨_, _, rfl, ?_⟩⟩
  have s9 := same_new hlw (.lst [V.ref u0])
  have hlw9 : (upd H8 lw (.lst [V.ref u0])) lw = some (.lst [V.ref u0]) := upd_same
  have hu9 := hu8.same s9
  have hlt9 := s9 _ _ (s8 _ _ hlt7)
  have s09 := s04.trans (s5.trans (s6.trans (s7.trans (s8.trans s9))))
  have A9 : AllAt (upd H8 lw (.lst [V.ref u0])) vs6 TT := A7.mono fun _ _ z => s9 _ _ (s8 _ _ z)
  generalize upd H8 lw (.lst [V.ref u0]) = H9 at s9 hlw9 hu9 hlt9 s09 A9 ⊢
  -- the spots
  obtain ⟨fq, ndS, _⟩ := fq_sy oko oh7 og7
  have dpS := fq.dp
  obtain ⟨okn, dnn⟩ := dNums_sy oy
  have dl5 := syNums_few oko oh7 og7
  refine ⟨_, rfl, (0 : Nat), _, syD oy, rfl, (O0.same s09).dat, okn, by omega, by rw [dnn]; omega, by omega, fun gl ns H10 hgl0 hgl up mem0 s10 => ?_⟩
  have mem : ∀ k, k ∈ ns ↔ k ∈ syNums oy := fun k => by rw [mem0 k, dnn]
  have nsl : ns.length ≤ 2 := two ns (up_nd up) fun k hk => (mem k).mp hk
  have low : ∀ k ∈ ns, 0 ≤ k ∧ k ≤ 99 := fun k hk => by
    obtain ⟨a, ha, t, ht, hn⟩ := sy_nm.mp ((mem k).mp hk)
    rcases List.mem_cons.mp ha with rfl | ha
    · exact (og7.sm t ht).1 k hn
    · exact ((oh7 a ha).sm t ht).1 k hn
  have s010 := s09.trans s10
  have A10 : AllAt H10 vs6 TT := A9.mono fun _ _ z => s10 _ _ z
  refine ⟨gl, rfl, ⟨_, .inl (.inl hgl)⟩, for_list (K := K) (a := gl) (xs := ns.map V.int) (fun i σ H11 => ∃ (x6 x7 x8 : Option V) (W : Addr) (vsW : List V), σ = [some (.ref p), some (.ref po), some (.ref lt), x3, x4, some (.ref W), x6, x7, x8, none, none, none] ∧
      H11 W = some (.lst vsW) ∧ Paired (WyAt H11) vsW (wysR TT (ns.take i).reverse) ∧ Same H10 H11)
    ⟨none, none, none, lw, [.ref u0], rfl, s10 _ _ hlw9, .cons ⟨u0, [], rfl, hu9.same s10, .nil⟩ .nil, Same.refl _⟩ (fun i σ H11 _ ⟨_, _, _, _, _, _, _, _, s⟩ => .inl (.inl (s _ _ hgl))) ?_ ?_⟩
  · rintro i x σ H11 hi ⟨x6, x7, x8, W, vsW, rfl, h11, PW, s11⟩
    rw [List.getElem?_map] at hi
    cases hk : ns[i]? with
    | none => rw [hk] at hi; cases hi
    | some k =>
    rw [hk] at hi
    obtain rfl : V.int k = x := Option.some.inj hi
    have li : i < ns.length := (List.getElem?_eq_some_iff.mp hk).1
    have tk : ns.take (i + 1) = ns.take i ++ [k] := by rw [List.take_add_one, hk]; rfl
    have er : (ns.take (i + 1)).reverse = k :: (ns.take i).reverse := by rw [tk, List.reverse_append]; rfl
    have wl := wysR_len (TT := TT) (ns.take i).reverse
    have wl2 := pd_len PW
    have pw : TT.length ^ (ns.take i).reverse.length ≤ 98 ^ 1 := by
      have l1 : (ns.take i).reverse.length ≤ 1 := by rw [List.length_reverse, List.length_take]; omega
      have a1 : TT.length ^ (ns.take i).reverse.length ≤ 98 ^ (ns.take i).reverse.length := Nat.pow_le_pow_left (by omega) _
      exact Nat.le_trans a1 (Nat.pow_le_pow_right (by decide) l1)
    generalize hws : wysR TT (ns.take i).reverse = ws at PW wl wl2
    refine ⟨(by show 0 ≤ sizeLine; decide), fun fr hfr => ?_⟩
    have s12 := same_new hfr (.lst ([] : List V))
    have hfr12 : (upd H11 fr (.lst ([] : List V))) fr = some (.lst []) := upd_same
    generalize upd H11 fr (.lst ([] : List V)) = H12 at s12 hfr12 ⊢
    have PW12 : Paired (WyAt H12) vsW ws := pd_mono (fun _ _ z => z.same s12) PW
    refine ⟨_, rfl, W, rfl, ⟨_, .inl (.inl (s12 _ _ h11))⟩, for_list (K := K) (a := W) (xs := vsW) (fun j σ H13 => ∃ (x8 : Option V) (Fa : Addr) (vsF : List V), σ = [some (.ref p), some (.ref po), some (.ref lt), x3, x4, some (.ref W), some (.int k), some (.ref Fa), x8, none, none, none] ∧
        H13 Fa = some (.lst vsF) ∧ Paired (WyAt H13) vsF ((ws.take j).flatMap fun w => TT.map fun t => w ++ [(k, t)]) ∧ Same H12 H13)
      ⟨x8, fr, [], rfl, hfr12, .nil, Same.refl _⟩ (fun j σ H13 _ ⟨_, _, _, _, _, _, s⟩ => .inl (.inl (s _ _ (s12 _ _ h11)))) ?_ ?_⟩
    · rintro j y σ H13 hj ⟨x8, Fa, vsF, rfl, h13, PF, s13⟩
      obtain ⟨w, hw, Wy⟩ := paired_get PW12 hj
      have tj : ws.take (j + 1) = ws.take j ++ [w] := by rw [List.take_add_one, hw]; rfl
      have lj : j < ws.length := (List.getElem?_eq_some_iff.mp hw).1
      have Fl := pd_len PF
      have Fb : vsF.length ≤ (ws.take j).length * 98 := by rw [Fl]; exact flatLen fun w _ => by rw [List.length_map]; omega
      rw [List.length_take] at Fb
      obtain ⟨wa, wps, rfl, hwa, Pw⟩ := Wy
      have hlt13 := s13 _ _ (s12 _ _ (s11 _ _ (s10 _ _ hlt9)))
      have s1013 := s11.trans (s12.trans s13)
      have A13 : AllAt H13 vs6 TT := A10.mono fun _ _ z => s1013 _ _ z
      refine ⟨_, rfl, _, rfl, lt, rfl, ⟨_, .inl (.inl hlt13)⟩, fun D hD => lc_list (K := K) (a := lt) (xs := vs6) (fun a H14 => ∃ acc : List V, H14 D = some (.lst acc) ∧ Paired (WyAt H14) acc ((TT.take a).map fun t => w ++ [(k, t)]) ∧ Same H13 H14)
        ⟨[], upd_same, .nil, same_new hD _⟩ (fun a H14 _ ⟨_, _, _, s⟩ => .inl (.inl (s _ _ hlt13))) ?_ ?_⟩
      · rintro a y H14 ha ⟨acc, h14, PA, s14'⟩
        obtain ⟨t, ht, T14⟩ := A13.get ha
        have ta : TT.take (a + 1) = TT.take a ++ [t] := by rw [List.take_add_one, ht]; rfl
        have la : a < TT.length := (List.getElem?_eq_some_iff.mp ht).1
        have al := pd_len PA
        rw [List.length_map, List.length_take] at al
        have wkl : w.length ≤ 2 := by
          have m : w ∈ wysR TT (ns.take i).reverse := by rw [hws]; exact List.mem_of_getElem? hw
          have := congrArg List.length (wysR_mem.mp m).1
          rw [List.length_map, List.length_reverse, List.length_reverse, List.length_take] at this
          omega
        have pl := pd_len Pw
        refine ⟨rfl, ?_⟩
        unfold teWy
        refine ⟨_, rfl, _, rfl, _, rfl, (by show 2 ≤ sizeLine; decide), fun c1 hc1 => ?_⟩
        have s15 := same_new hc1 (.tup [V.int k, y])
        have hc15 : (upd H14 c1 (.tup [V.int k, y])) c1 = some (.tup [V.int k, y]) := upd_same
        generalize upd H14 c1 (.tup [V.int k, y]) = H15 at s15 hc15 ⊢
        refine ⟨(by show 1 ≤ sizeLine; decide), fun c2 o2 od2 hc2 => ?_⟩
        have s16 := same_new hc2 (.frz o2 (.tup [V.ref c1]))
        have hc16 : PlT (upd H15 c2 (.frz o2 (.tup [V.ref c1]))) c2 [V.ref c1] := ⟨o2, od2, upd_same⟩
        generalize upd H15 c2 (.frz o2 (.tup [V.ref c1])) = H16 at s16 hc16 ⊢
        have s1416 := s15.trans s16
        have hwa16 := hwa.same (s13.trans (s14'.trans s1416))
        refine ⟨wa, c2, _, _, rfl, rfl, hwa16, hc16, by rw [List.length_map, List.length_singleton]; omega, fun c3 H17 hc3 s17 => ?_⟩
        have s1417 := s1416.trans s17
        have kp : ∀ b o, H17 b = some o → (∀ xs, o ≠ .lst xs) → upd H17 D (.lst (acc ++ [V.ref c3])) b = some o := fun b o z n => by rw [upd_ne (fun w => by rw [w, s1417 _ _ h14] at z; exact n _ (Option.some.inj z).symm)]; exact z
        refine ⟨acc, s1417 _ _ h14, by omega, acc ++ [.ref c3], upd_same, ?_, fun b o z => by rw [upd_ne (ne_of_none z hD)]; exact s1417 _ _ (s14' _ _ z)⟩
        rw [ta, List.map_append]
        refine pd_app (pd_mono (fun _ _ z => (z.same s1417).keep kp) PA) (.cons (WyAt.keep ⟨c3, wps ++ [c1], rfl, by rw [List.map_append]; exact hc3, ?_⟩ kp) .nil)
        refine pd_app (pd_mono (fun _ _ z => z.mono fun a xs z => (s13.trans (s14'.trans s1417)) _ _ z) Pw) (.cons ⟨y, s17 _ _ (s16 _ _ hc15), (T14.same s14').same s1417⟩ .nil)
      · rintro H14 ⟨acc, h14, PA, s14'⟩
        rw [tl6, List.take_of_length_le (Nat.le_refl _)] at PA
        have al := pd_len PA
        rw [List.length_map] at al
        refine ⟨Fa, D, vsF, acc, rfl, rfl, s14' _ _ h13, h14, by omega, fun c9 hc9 => ?_⟩
        have s15 := same_new hc9 (.lst (vsF ++ acc))
        refine ⟨_, c9, vsF ++ acc, rfl, upd_same, ?_, s13.trans (s14'.trans s15)⟩
        rw [tj, List.flatMap_append]
        have e : ([w] : List Prs).flatMap (fun w => TT.map fun t => w ++ [(k, t)]) = TT.map fun t => w ++ [(k, t)] := by simp
        rw [e]
        exact pd_app (pd_mono (fun _ _ z => z.same (s14'.trans s15)) PF) (pd_mono (fun _ _ z => z.same s15) PA)
    · rintro σ H13 ⟨x8, Fa, vsF, rfl, h13, PF, s13⟩
      rw [wl2, List.take_of_length_le (Nat.le_refl _)] at PF
      refine ⟨_, rfl, _, _, x8, Fa, vsF, rfl, h13, ?_, s11.trans (s12.trans s13)⟩
      rw [er]
      show Paired _ _ ((wysR TT (ns.take i).reverse).flatMap _)
      rw [hws]
      exact PF
  rintro σ H11 ⟨x6, x7, x8, W, vsW, rfl, h11, PW, s11⟩
  rw [List.length_map, List.take_of_length_le (Nat.le_refl _)] at PW
  have wl := wysR_len (TT := TT) ns.reverse
  have wl2 := pd_len PW
  have pw : TT.length ^ ns.reverse.length ≤ 98 ^ 2 := by
    have l1 : ns.reverse.length ≤ 2 := by rw [List.length_reverse]; omega
    have a1 : TT.length ^ ns.reverse.length ≤ 98 ^ ns.reverse.length := Nat.pow_le_pow_left (by omega) _
    exact Nat.le_trans a1 (Nat.pow_le_pow_right (by decide) l1)
  have p98 : (98 : Nat) ^ 2 = 9604 := by decide
  have told := told_law (s := sy) (o := oy) TTn (fun t ht => tkS t ((TTm t).mp ht)) up mem (fun u hu => (TTm u).mpr hu) low
  have wmem : ∀ w ∈ wysR TT ns.reverse, (w.map (·.1)).Nodup ∧ BdF w ∧ w.length ≤ 2 := fun w hw => by
    obtain ⟨e, h⟩ := wysR_mem.mp hw
    rw [List.reverse_reverse] at e
    refine ⟨by rw [e]; exact up_nd up, ⟨fun p hp => ⟨(tkS _ ((TTm _).mp (h p hp))).1, tk8 _ ((TTm _).mp (h p hp))⟩⟩, ?_⟩
    have := congrArg List.length e
    rw [List.length_map] at this
    omega
  generalize wysR TT ns.reverse = ws at PW wl wl2 told wmem
  refine ⟨(by show 0 ≤ sizeLine; decide), fun fd hfd => ?_⟩
  have s12 := same_new hfd (.lst ([] : List V))
  have hfd12 : (upd H11 fd (.lst ([] : List V))) fd = some (.lst []) := upd_same
  have fdW : W ≠ fd := ne_of_none h11 hfd
  have s012 := (s010.trans s11).trans s12
  generalize upd H11 fd (.lst ([] : List V)) = H12 at s12 hfd12 s012 ⊢
  have PW12 : Paired (WyAt H12) vsW ws := pd_mono (fun _ _ z => z.same s12) PW
  have fdn : H fd = none := same_none (s010.trans s11) _ hfd
  refine ⟨_, rfl, W, rfl, ⟨_, .inl (.inl (s12 _ _ h11))⟩, for_list (K := K) (a := W) (xs := vsW) (fun i σ H13 => ∃ (x8 x10 : Option V) (vsF : List V), σ = [some (.ref p), some (.ref po), some (.ref lt), x3, x4, some (.ref W), x6, x7, x8, some (.ref fd), x10, none] ∧
      H13 fd = some (.lst vsF) ∧ Paired (WyAt H13) vsF ((ws.take i).filter (solW sy oy)) ∧ But fd H12 H13)
    ⟨x8, none, [], rfl, hfd12, .nil, But.refl _ _⟩ (fun i σ H13 _ ⟨_, _, _, _, _, _, o⟩ => .inl (.inl (o _ _ (s12 _ _ h11) fdW))) ?_ ?_⟩
  · rintro i y σ H13 hi ⟨x8, x10, vsF, rfl, h13, PF, o13⟩
    obtain ⟨w, hw, Wy⟩ := paired_get PW12 hi
    have wm := wmem w (List.mem_of_getElem? hw)
    have ti : ws.take (i + 1) = ws.take i ++ [w] := by rw [List.take_add_one, hw]; rfl
    have Fl := pd_len PF
    have Ff := List.length_filter_le (solW sy oy) (ws.take i)
    rw [List.length_take] at Ff
    have s013 : Same H H13 := fun b o z => o13 _ _ (s012 _ _ z) (ne_of_none z fdn)
    have kp12 : ∀ b o, H12 b = some o → (∀ xs, o ≠ .lst xs) → H13 b = some o := fun b o z n => o13 _ _ z fun w => by rw [w, hfd12] at z; exact n _ (Option.some.inj z).symm
    obtain ⟨wa, wps, rfl, hwa, Pw⟩ := Wy.keep kp12
    obtain ⟨kvs, k1, k2⟩ := pairs_of (K := K) Pw
    refine ⟨_, rfl, wa, wps, kvs, rfl, hwa, k1, fun D hD => ?_⟩
    have s14' := same_new hD (.dK (mergeK [] kvs))
    have hD1 : (upd H13 D (.dK (mergeK [] kvs))) D = some (.dK (mergeK [] kvs)) := upd_same
    have DB := (dict_of k2 wm.1).mono (Tups.same s14').1
    generalize upd H13 D (.dK (mergeK [] kvs)) = H14 at s14' hD1 DB ⊢
    have s014 := s013.trans s14'
    have h14 := s14' _ _ h13
    have gk := atPut_ok wm.2.1 og7
    refine ⟨_, rfl, po, _, _, _, rfl, rfl, .inl (.inl (s014 _ _ hpo)), at_of (j := 1) rfl rfl, _, rfl, vgo, D, w, _, rfl, hD1, DB, .inr ⟨oy.gl, by decide, atAt_same Ago s014, og7.two, fun u hu => by have := Tm.deep_lt u; have := (og7.sm u hu).2; omega, fun v' H15 T15 s15 => ?_⟩⟩
    have s015 := s014.trans s15
    refine ⟨_, rfl, p, _, _, _, rfl, rfl, .inl (.inl (s015 _ _ hp)), at_of (j := 1) rfl rfl, atD (atPut w oy.gl), atD sy.gl, at_dp T15, at_dp (atAt_same Ag s015), at_shaped gk, at_shaped oks.gl, _, rfl, ?_⟩
    rw [eqv_atD]
    have sol : solW sy oy w = (decide (atPut w oy.gl = sy.gl) && oy.hs.all fun h => decide (atPut w h ∈ sy.hs)) := rfl
    -- not told
    have skip : ∀ (x10 : Option V) (H16 : Hp), solW sy oy w = false → Same H13 H16 → ∃ (x8 x10' : Option V) (vsF : List V), [some (.ref p), some (.ref po), some (.ref lt), x3, x4, some (.ref W), x6, x7, some (.ref wa), some (.ref fd), x10, none] = [some (.ref p), some (.ref po), some (.ref lt), x3, x4, some (.ref W), x6, x7, x8, some (.ref fd), x10', none] ∧
        H16 fd = some (.lst vsF) ∧ Paired (WyAt H16) vsF ((ws.take (i + 1)).filter (solW sy oy)) ∧ But fd H12 H16 := fun x10 H16 e s16 => by
      refine ⟨_, _, vsF, rfl, s16 _ _ h13, ?_, fun b o z n => s16 _ _ (o13 _ _ z n)⟩
      rw [ti, List.filter_append]
      have : ([w] : List Prs).filter (solW sy oy) = [] := by rw [List.filter_cons, e]; rfl
      rw [this, List.append_nil]
      exact pd_mono (fun _ _ z => z.same s16) PF
    by_cases eg : atPut w oy.gl = sy.gl
    case neg =>
      rw [decide_eq_false eg]
      exact iteF (iteF (skip _ H15 (by rw [sol, decide_eq_false eg]; rfl) (s14'.trans s15)))
    rw [decide_eq_true eg]
    refine iteT ⟨_, rfl, po, _, _, _, rfl, rfl, .inl (.inl (s015 _ _ hpo)), at_of (j := 0) rfl rfl, qo, rfl, ⟨_, .inl (.inl (s015 _ _ hqo))⟩, fun DD hDD => lc_tup (K := K) (a := qo) (xs := xo) (fun j H16 => H16 DD = some (.lst (((oy.hs.take j).map fun a => decide (atPut w a ∈ sy.hs)).map V.bl)) ∧ Same H15 H16)
      ⟨upd_same, same_new hDD _⟩ (fun j H16 _ ⟨_, s⟩ => .inl (.inl (s _ _ (s015 _ _ hqo)))) ?_ ?_⟩
    · rintro j y H16 hj ⟨h16, s16⟩
      obtain ⟨t, ht, Tx⟩ := Ao.get hj
      have t7 := oh7 t (List.mem_of_getElem? ht)
      have lj : j < xo.length := (List.getElem?_eq_some_iff.mp hj).1
      have tk : oy.hs.take (j + 1) = oy.hs.take j ++ [t] := by rw [List.take_add_one, ht]; rfl
      have s016 := s015.trans s16
      have s1416 := s15.trans s16
      refine ⟨rfl, ?_⟩
      unfold teInA
      refine ⟨_, rfl, _, rfl, y, D, w, _, rfl, s1416 _ _ hD1, DB.mono (Tups.same s1416).1, .inr ⟨t, by decide, atAt_same Tx s016, t7.two, fun u hu => by have := Tm.deep_lt u; have := (t7.sm u hu).2; omega, fun v' H17 T17 s17 => ?_⟩⟩
      have s017 := s016.trans s17
      refine ⟨_, rfl, p, _, _, _, rfl, rfl, .inl (.inl (s017 _ _ hp)), at_of (j := 0) rfl rfl, atD (atPut w t), sy.hs.map atD, at_dp T17, .tup (.inl (.inl (s017 _ _ hq))) (ats_dp (As.same s017)), at_shaped (atPut_ok wm.2.1 t7), ats_shapedT oks.hs.ok, ?_⟩
      rw [in_ats]
      refine ⟨_, s17 _ _ h16, by rw [List.length_map, List.length_map, List.length_take]; omega, ?_, fun c o z => by rw [upd_ne (ne_of_none z hDD)]; exact s17 _ _ (s16 _ _ z)⟩
      rw [upd_same, tk, List.map_append, List.map_append]
      rfl
    · rintro H16 ⟨h16, s16⟩
      rw [xol, List.take_of_length_le (Nat.le_refl _)] at h16
      have s1316 := s14'.trans (s15.trans s16)
      refine ⟨DD, _, rfl, .inl (.inl h16), solW sy oy w, ?_, ?_⟩
      · rw [sol, decide_eq_true eg, Bool.true_and]
        refine congrArg V.bl ?_
        rw [List.all_map]
        rfl
      cases es : solW sy oy w with
      | false => exact iteF (skip _ H16 es s1316)
      | true =>
        have h16' := s1316 _ _ h13
        refine iteT ⟨_, rfl, .inl ⟨rfl, _, .inl (.inl h16')⟩, _, rfl, fd, vsF, .ref wa, rfl, rfl, h16', by omega, ?_⟩
        have kp : ∀ b o, H16 b = some o → (∀ xs, o ≠ .lst xs) → upd H16 fd (.lst (vsF ++ [V.ref wa])) b = some o := fun b o z n => by rw [upd_ne (fun w => by rw [w, h16'] at z; exact n _ (Option.some.inj z).symm)]; exact z
        refine ⟨_, _, vsF ++ [.ref wa], rfl, upd_same, ?_, fun b o z n => by rw [upd_ne n]; exact s1316 _ _ (o13 _ _ z n)⟩
        rw [ti, List.filter_append]
        have e : ([w] : List Prs).filter (solW sy oy) = [w] := by rw [List.filter_cons, es]; rfl
        rw [e]
        exact pd_app (pd_mono (fun _ _ z => (z.same s1316).keep kp) PF) (.cons (WyAt.keep (WyAt.same ⟨wa, wps, rfl, hwa, Pw⟩ s1316) kp) .nil)
  rintro σ H13 ⟨x8, x10, vsF, rfl, h13, PF, o13⟩
  rw [wl2, List.take_of_length_le (Nat.le_refl _)] at PF
  have s013 : Same H H13 := fun b o z => o13 _ _ (s012 _ _ z) (ne_of_none z fdn)
  have lL : (ws.filter (solW sy oy)).length ≤ 10000 := by have := List.length_filter_le (solW sy oy) ws; omega
  generalize ws.filter (solW sy oy) = L at PF told lL
  have PB : Paired (BiAt H13) vsF L := pd_mono (fun _ _ z => wy_bi z) PF
  obtain ⟨z1, z2, z3⟩ := bis_zip PB
  refine ⟨_, rfl, tabs_to (hT.ext s013), fd, (vsF.zip L).map zB, rfl, by rw [z3]; exact .inl (.inl h13), fun y hy H14 H15 e14 t14 s15 => ?_, fun l H14 H15 e14 t14 s15 hl hl15 => ?_⟩
  · obtain ⟨z, hz, rfl⟩ := List.mem_map.mp hy
    exact ⟨_, rfl, z.1, z.2, rfl, biAt_same (biAt_ext (z1 z hz) e14) s15, told.ok z.2 (List.of_mem_zip hz).2, fun H16 s16 => ⟨rfl, s16⟩⟩
  · refine go l _ L H15 hl15 told lL (pd_mono (fun _ _ k => biAt_same (biAt_ext k e14) s15) (sorted_bis PB)) ⟨(ExtN.of s013).trans (e14.trans (ExtN.of s15)), tabs_of (t14.ext s15)⟩
end
end Rp

set_option maxHeartbeats 8000000
/-! _law_same, where a tuple may stand plain or not; what is alike. -/
namespace Rp
open PySem PySem.Spec PyProof.Rows L2 TL RZ
theorem tupAt_ty {K : PySem.W.Frag} {H : Hp} {a : Addr} {xs : List V} (h : TupAt H a xs) : TyX K H (.ref a) (.type "tuple") := by
  have D : DAt H 0 (.ref a) (.tuple []) ∨ True := .inr trivial
  rcases h with h | ⟨o, h⟩
  · exact .base (.tup h)
  · exact .fTuple h
def AlikeP (H : Hp) : Nat → V → V → Prop
  | 0, x, y => Plain x ∧ x = y
  | n + 1, x, y => (Plain x ∧ x = y) ∨ ∃ a b xs ys, x = .ref a ∧ y = .ref b ∧ ((H a = some (.lst xs) ∧ H b = some (.lst ys)) ∨ (TupAt H a xs ∧ TupAt H b ys)) ∧
      xs.length = ys.length ∧ xs.length ≤ 1000000 ∧ ∀ (i : Nat) (u v : V), xs[i]? = some u → ys[i]? = some v → AlikeP H n u v
theorem AlikeP.mono {H H' : Hp} (e : Same H H') : ∀ (n : Nat) {x y : V}, AlikeP H n x y → AlikeP H' n x y
  | 0, _, _, h => by unfold AlikeP at h ⊢; exact h
  | n + 1, x, y, h => by
    unfold AlikeP at h ⊢
    rcases h with h | ⟨a, b, xs, ys, h1, h2, h3, h4, h5, h6⟩
    · exact .inl h
    · exact .inr ⟨a, b, xs, ys, h1, h2, h3.imp (fun q => ⟨e _ _ q.1, e _ _ q.2⟩) (fun q => ⟨q.1.same e, q.2.same e⟩), h4, h5, fun i u v p q => AlikeP.mono e n (h6 i u v p q)⟩
def spSameP (n : Nat) : Sp := fun vs H Q _ => ∃ (x y : V) (m : Nat), vs = [x, y] ∧ n = m + 1 ∧ AlikeP H m x y ∧ ∀ H', Same H H' → Q (.bl true) H'
theorem alikeP_of {H : Hp} : ∀ {n : Nat} {x y : V}, Alike H n x y → AlikeP H n x y
  | 0, _, _, h => by unfold Alike at h; unfold AlikeP; exact h
  | n + 1, x, y, h => by
    unfold Alike at h
    unfold AlikeP
    rcases h with h | ⟨a, b, xs, ys, h1, h2, h3, h4, h5, h6⟩
    · exact .inl h
    · exact .inr ⟨a, b, xs, ys, h1, h2, h3.imp id (fun q => ⟨.inl q.1, .inl q.2⟩), h4, h5, fun i u v p q => alikeP_of (h6 i u v p q)⟩
theorem AlikeP.up {H : Hp} : ∀ {n : Nat} {x y : V}, AlikeP H n x y → AlikeP H (n + 1) x y
  | 0, x, y, h => by unfold AlikeP at h ⊢; exact .inl h
  | n + 1, x, y, h => by
    unfold AlikeP at h ⊢
    rcases h with h | ⟨a, b, xs, ys, h1, h2, h3, h4, h5, h6⟩
    · exact .inl h
    · exact .inr ⟨a, b, xs, ys, h1, h2, h3, h4, h5, fun i u v p q => AlikeP.up (h6 i u v p q)⟩
theorem alikeP_tm {H : Hp} {t : Tm} {n : Nat} {x y : V} (h : TmAt H x t) (h' : TmAt H y t) (hd : t.deep < n) : AlikeP H n x y := alikeP_of (alike_tm h h' hd)
theorem alikeP_pl {H : Hp} {n : Nat} {x : V} (p : Plain x) : AlikeP H n x x := alikeP_of (alike_plain p)
theorem alikeP_l {H : Hp} {n : Nat} {a b : Addr} {xs ys : List V} (ha : H a = some (.lst xs)) (hb : H b = some (.lst ys)) (l : xs.length = ys.length) (few : xs.length ≤ 100) (h : ∀ (i : Nat) (u v : V), xs[i]? = some u → ys[i]? = some v → AlikeP H n u v) : AlikeP H (n + 1) (.ref a) (.ref b) := by
  unfold AlikeP
  exact .inr ⟨a, b, xs, ys, rfl, rfl, .inl ⟨ha, hb⟩, l, by omega, h⟩
theorem prs_of {H : Hp} : ∀ {ps : List Addr} {bd : Bd}, Paired (PrAt H) ps bd → PrsAt H (ps.map V.ref) bd
  | _, _, .nil => trivial
  | _, _, .cons (b := (n, t)) ⟨y, h, T⟩ r => ⟨⟨_, y, rfl, h, T⟩, prs_of r⟩
theorem bi_of {H : Hp} {a : Addr} {bd : Bd} (h : BdAt H a bd) : BiAt H (.ref a) bd := by
  obtain ⟨ps, ⟨o, _, hp⟩, pr, _, _⟩ := h
  exact ⟨a, ps.map V.ref, rfl, .inr ⟨o, hp⟩, prs_of pr⟩
theorem prs_alike {H : Hp} {n : Nat} : ∀ {ps : Prs} {xs ys : List V}, (∀ p ∈ ps, p.2.size ≤ n) → PrsAt H xs ps → PrsAt H ys ps → ∀ (i : Nat) (u v : V), xs[i]? = some u → ys[i]? = some v → AlikeP H (n + 1) u v
  | [], [], [], _, _, _, i, u, v, h, _ => by simp at h
  | (m, t) :: ps, x :: xs, y :: ys, hs, A, B, 0, u, v, h, h' => by
    obtain rfl : x = u := by simpa using h
    obtain rfl : y = v := by simpa using h'
    obtain ⟨b, y1, rfl, h1, T1⟩ := A.1
    obtain ⟨c, y2, rfl, h2, T2⟩ := B.1
    unfold AlikeP
    have sz := hs (m, t) (by simp)
    have dl := Tm.deep_lt t
    exact .inr ⟨b, c, _, _, rfl, rfl, .inr ⟨.inl h1, .inl h2⟩, rfl, by simp, atC (alikeP_pl trivial) (atC (alikeP_tm T1 T2 (by have : t.size ≤ n := sz; omega)) at0)⟩
  | (m, t) :: ps, x :: xs, y :: ys, hs, A, B, i + 1, u, v, h, h' => prs_alike (fun p hp => hs p (by simp [hp])) A.2 B.2 i u v (by simpa using h) (by simpa using h')
theorem bi_alike {H : Hp} {ps : Prs} {x y : V} (few : ps.length ≤ 100) (sz : ∀ p ∈ ps, p.2.size ≤ 40) (h : BiAt H x ps) (h' : BiAt H y ps) : AlikeP H 42 x y := by
  obtain ⟨a, xs, rfl, ha, A⟩ := h
  obtain ⟨b, ys, rfl, hb, B⟩ := h'
  have l1 := A.len
  have l2 := B.len
  unfold AlikeP
  exact .inr ⟨a, b, xs, ys, rfl, rfl, .inr ⟨ha, hb⟩, by omega, by omega, prs_alike sz A B⟩
section
variable {P : Program} {w : World} {K : PySem.W.Frag} {mg : Str → Option Value} {base : Heap}
theorem ok_sameP {n : Nat} {f : Addr} {fd : FuncData} (F : Fun K "_law_same" "_law_same" sSame f fd) (b2 : Binds K fd ["_law_found", "_law_due"] []) (mF : mg "_law_same" = some (.ref f)) (G : FnOk P w K mg base CX0 n f fd ["_law_found", "_law_due"] (spSameP n)) (M : SameG mg) :
    FnOk P w K mg base CX0 (n + 1) f fd ["_law_found", "_law_due"] (spSameP (n + 1)) := by
  refine F.ok scSame (fun vs H Q E h => ?_) (fun cdv A outer s H vs Q E hr h => ?_)
  · obtain ⟨x, y, m, rfl, _⟩ := h
    rfl
  obtain ⟨x, y, m, rfl, em, hA, q⟩ := h
  have em : n = m := by omega
  subst em
  refine ⟨_, pss_cons (ps_if (pt_val (pe_callB (id := "isinstance") call_isiT (by rfl) M.isi (by decide +kernel) (pa_cons (pv 1) (pa_cons (pe_tup (pa_cons (pe_bltn (v := .ty "list") (by rfl) M.list (by decide +kernel) rfl) (pa_cons (pe_bltn (v := .ty "tuple") (by rfl) M.tuple (by decide +kernel) rfl) pa_nil))) pa_nil))))
      (pss_cons (ps_if (PW.pt (pw_or (pt_cmpR op_ne
            (pe_callB (id := "isinstance") call_isi (by rfl) M.isi (by decide +kernel) (pa_cons (pv 0) (pa_cons (pe_bltn (v := .ty "list") (by rfl) M.list (by decide +kernel) rfl) pa_nil)))
            (pe_callB (id := "isinstance") call_isi (by rfl) M.isi (by decide +kernel) (pa_cons (pv 1) (pa_cons (pe_bltn (v := .ty "list") (by rfl) M.list (by decide +kernel) rfl) pa_nil))) (nomark _))
          (pw_or1 (pt_cmpR op_ne
            (pe_callB (id := "isinstance") call_isi (by rfl) M.isi (by decide +kernel) (pa_cons (pv 0) (pa_cons (pe_bltn (v := .ty "tuple") (by rfl) M.tuple (by decide +kernel) rfl) pa_nil)))
            (pe_callB (id := "isinstance") call_isi (by rfl) M.isi (by decide +kernel) (pa_cons (pv 1) (pa_cons (pe_bltn (v := .ty "tuple") (by rfl) M.tuple (by decide +kernel) rfl) pa_nil))) (nomark _))))) (pss_one (ps_ret pe_bl)) pss_nil)
      (pss_cons (ps_if (pt_cmpR op_ne (pe_callB call_len_seq (by rfl) M.len PySem.boot_len (pa_cons (pv 0) pa_nil)) (pe_callB call_len_seq (by rfl) M.len PySem.boot_len (pa_cons (pv 1) pa_nil)) (nomark _)) (pss_one (ps_ret pe_bl)) pss_nil)
      (pss_one (ps_ret (pe_callB (cr_all rfl) (by rfl) M.all (by decide +kernel) (pa_cons (pe_lc (own := [("_law_one", 2), ("_law_two", 3)]) (g := gTup K 2 (gCons (gName 2) (gCons (gName 3) gNil))) (tt := tYes) (te := tCall (spSameP n) [] E0 (tCons (tVar 2) (tCons (tVar 3) tNil))) rfl scSame.nd
        (pi_zipA (by rfl) M.zip (pa_cons (pv 0) (pa_cons (pv 1) pa_nil))) (blkOk_by (N := ["_law_found", "_law_due", "_law_one", "_law_two"]) (sc := defScope sSame) (by decide +kernel))
        (fun _ _ _ _ _ => pg_tup (by rfl) (pgs_cons (pg_name (i := 2) scSame.nd rfl (Or.inl rfl)) (pgs_cons (pg_name (i := 3) scSame.nd rfl (Or.inl rfl)) pgs_nil)))
        (fun _ _ _ _ _ => pts_nil) (fun _ _ _ _ _ => pe_call G hr (by rfl) mF F.kp b2 .nil pass0 (pa_cons (pv 2) (pa_cons (pv 3) pa_nil)))) pa_nil)))))) pss_nil)
    (pss_cons (ps_if (PW.pt (pw_or (pt_cmpR op_isN (pv 1) pe_non (nomark _)) (pw_or1 (pt_val (pe_callB (id := "isinstance") call_isi (by rfl) M.isi (by decide +kernel) (pa_cons (pv 1) (pa_cons (pe_bltn (v := .ty "str") (by rfl) M.str (by decide +kernel) rfl) pa_nil)))))))
      (pss_one (ps_ret (pe_and (pe_cmpR op_eq (pv 0) (pv 1) (nomark _)) (pe_one (pe_cmpR op_eq
            (pe_callB (id := "isinstance") call_isi (by rfl) M.isi (by decide +kernel) (pa_cons (pv 0) (pa_cons (pe_bltn (v := .ty "str") (by rfl) M.str (by decide +kernel) rfl) pa_nil)))
            (pe_callB (id := "isinstance") call_isi (by rfl) M.isi (by decide +kernel) (pa_cons (pv 1) (pa_cons (pe_bltn (v := .ty "str") (by rfl) M.str (by decide +kernel) rfl) pa_nil))) (nomark _)))))) pss_nil)
    (pss_one (ps_ret (pe_and (pe_callB (id := "isinstance") call_isi (by rfl) M.isi (by decide +kernel) (pa_cons (pv 0) (pa_cons (pe_bltn (v := .ty "int") (by rfl) M.int (by decide +kernel) rfl) pa_nil)))
      (pe_and (pe_cmpR op_eq
            (pe_callB (id := "isinstance") call_isi (by rfl) M.isi (by decide +kernel) (pa_cons (pv 0) (pa_cons (pe_bltn (v := .ty "bool") (by rfl) M.bool (by decide +kernel) rfl) pa_nil)))
            (pe_callB (id := "isinstance") call_isi (by rfl) M.isi (by decide +kernel) (pa_cons (pv 1) (pa_cons (pe_bltn (v := .ty "bool") (by rfl) M.bool (by decide +kernel) rfl) pa_nil))) (nomark _))
        (pe_one (pe_cmpR op_eq (pv 0) (pv 1) (nomark _)))))))), ?_⟩
  refine ⟨_, rfl, (by show 2 ≤ sizeLine; decide), fun p hp => ?_⟩
  have s1 := same_new hp (.tup [V.ty "list", V.ty "tuple"])
  have plain : Plain x ∧ x = y ∨ ∃ m a b xs ys, n = m + 1 ∧ x = .ref a ∧ y = .ref b ∧ ((H a = some (.lst xs) ∧ H b = some (.lst ys)) ∨ (TupAt H a xs ∧ TupAt H b ys)) ∧
      xs.length = ys.length ∧ xs.length ≤ 1000000 ∧ ∀ (i : Nat) (u v : V), xs[i]? = some u → ys[i]? = some v → AlikeP H m u v := by
    cases n with
    | zero => unfold AlikeP at hA; exact .inl hA
    | succ m =>
      unfold AlikeP at hA
      rcases hA with h | ⟨a, b, xs, ys, h⟩
      · exact .inl h
      · exact .inr ⟨m, a, b, xs, ys, rfl, h⟩
  rcases plain with ⟨px, rfl⟩ | ⟨m, a, b, xs, ys, rfl, rfl, rfl, kinds, hl, hz, each⟩
  · cases x with
    | int i =>
      refine ⟨_, p, _, _, [.type "list", .type "tuple"], false, rfl, upd_same, .cons (.ty _) (.cons (.ty _) .nil), .base (.int i), kit_lt (p := false) (r := false) (by decide +kernel) (by decide +kernel), false, rfl, iteF ?_⟩
      refine ⟨_, rfl, rfl, false, congrArg V.bl (decide_eq_false (fun z => nomatch z)), iteF ?_⟩
      refine ⟨_, rfl, _, _, _, _, false, rfl, .ty "str", .base (.int i), kitB_of (by decide +kernel), false, rfl, iteF ?_⟩
      refine ⟨_, rfl, _, _, _, _, true, rfl, .ty "int", .base (.int i), kitB_of (by decide +kernel), true, rfl, iteT ?_⟩
      refine ⟨_, rfl, _, _, _, _, false, rfl, .ty "bool", .base (.int i), kitB_of (by decide +kernel), _, rfl, _, _, _, _, false, rfl, .ty "bool", .base (.int i), kitB_of (by decide +kernel), rfl, true, congrArg V.bl (decide_eq_true rfl), iteT ?_⟩
      refine ⟨_, rfl, _, rfl, rfl, ?_⟩
      have e : decide (V.int i = V.int i) = true := decide_eq_true rfl
      rw [e]
      exact q _ s1
    | bl i =>
      refine ⟨_, p, _, _, [.type "list", .type "tuple"], false, rfl, upd_same, .cons (.ty _) (.cons (.ty _) .nil), .base (.bl i), kit_lt (p := false) (r := false) (by decide +kernel) (by decide +kernel), false, rfl, iteF ?_⟩
      refine ⟨_, rfl, rfl, false, congrArg V.bl (decide_eq_false (fun z => nomatch z)), iteF ?_⟩
      refine ⟨_, rfl, _, _, _, _, false, rfl, .ty "str", .base (.bl i), kitB_of (by decide +kernel), false, rfl, iteF ?_⟩
      refine ⟨_, rfl, _, _, _, _, true, rfl, .ty "int", .base (.bl i), kitB_of (by decide +kernel), true, rfl, iteT ?_⟩
      refine ⟨_, rfl, _, _, _, _, true, rfl, .ty "bool", .base (.bl i), kitB_of (by decide +kernel), _, rfl, _, _, _, _, true, rfl, .ty "bool", .base (.bl i), kitB_of (by decide +kernel), rfl, true, congrArg V.bl (decide_eq_true rfl), iteT ?_⟩
      refine ⟨_, rfl, _, rfl, rfl, ?_⟩
      have e : decide (V.bl i = V.bl i) = true := decide_eq_true rfl
      rw [e]
      exact q _ s1
    | str i =>
      refine ⟨_, p, _, _, [.type "list", .type "tuple"], false, rfl, upd_same, .cons (.ty _) (.cons (.ty _) .nil), .base (.str i), kit_lt (p := false) (r := false) (by decide +kernel) (by decide +kernel), false, rfl, iteF ?_⟩
      refine ⟨_, rfl, rfl, false, congrArg V.bl (decide_eq_false (fun z => nomatch z)), iteF ?_⟩
      refine ⟨_, rfl, _, _, _, _, true, rfl, .ty "str", .base (.str i), kitB_of (by decide +kernel), true, rfl, iteT ?_⟩
      refine ⟨_, rfl, _, rfl, rfl, true, congrArg V.bl (decide_eq_true rfl), iteT ?_⟩
      refine ⟨_, rfl, _, _, _, _, true, rfl, .ty "str", .base (.str i), kitB_of (by decide +kernel), _, rfl, _, _, _, _, true, rfl, .ty "str", .base (.str i), kitB_of (by decide +kernel), rfl, ?_⟩
      have e : decide (V.bl true = V.bl true) = true := decide_eq_true rfl
      rw [e]
      exact q _ s1
    | non =>
      refine ⟨_, p, _, _, [.type "list", .type "tuple"], false, rfl, upd_same, .cons (.ty _) (.cons (.ty _) .nil), .base .non, kit_lt (p := false) (r := false) (by decide +kernel) (by decide +kernel), false, rfl, iteF ?_⟩
      refine ⟨_, rfl, rfl, true, congrArg V.bl (decide_eq_true rfl), iteT ?_⟩
      refine iteT ?_
      refine ⟨_, rfl, _, rfl, rfl, true, congrArg V.bl (decide_eq_true rfl), iteT ?_⟩
      refine ⟨_, rfl, _, _, _, _, false, rfl, .ty "str", .base .non, kitB_of (by decide +kernel), _, rfl, _, _, _, _, false, rfl, .ty "str", .base .non, kitB_of (by decide +kernel), rfl, ?_⟩
      have e : decide (V.bl false = V.bl false) = true := decide_eq_true rfl
      rw [e]
      exact q _ s1
    | _ => exact px.elim
  · rcases kinds with ⟨ha, hb⟩ | ⟨ha, hb⟩
    · have ha1 := s1 _ _ ha
      have hb1 := s1 _ _ hb
      refine ⟨_, p, _, _, [.type "list", .type "tuple"], true, rfl, upd_same, .cons (.ty _) (.cons (.ty _) .nil), .base (.lst hb1), kit_lt (p := true) (r := false) (by decide +kernel) (by decide +kernel), true, rfl, iteT ?_⟩
      refine ⟨_, rfl, _, _, _, _, true, rfl, .ty "list", .base (.lst ha1), kitB_of (by decide +kernel), _, rfl, _, _, _, _, true, rfl, .ty "list", .base (.lst hb1), kitB_of (by decide +kernel), rfl, false, congrArg (fun z => V.bl (!z)) (decide_eq_true rfl), iteF ?_⟩
      refine ⟨_, rfl, _, _, _, _, false, rfl, .ty "tuple", .base (.lst ha1), kitB_of (by decide +kernel), _, rfl, _, _, _, _, false, rfl, .ty "tuple", .base (.lst hb1), kitB_of (by decide +kernel), rfl, false, congrArg (fun z => V.bl (!z)) (decide_eq_true rfl), iteF ?_⟩
      refine ⟨_, rfl, a, _, rfl, .inl (.inl (.inl ha1)), _, rfl, b, _, rfl, .inl (.inl (.inl hb1)), rfl, false, congrArg (fun z => V.bl (!z)) (decide_eq_true (by rw [hl])), iteF ?_⟩
      refine ⟨_, rfl, _, rfl, a, b, xs, ys, rfl, .inl ⟨.inl (.inl ha1), .inl (.inl hb1), fun D hD => ?_⟩⟩
      refine lc_pairs (J := Itz K a b) (xs := xs) (ys := ys) hl (fun i H2 => H2 D = some (.lst (List.replicate i (V.bl true))) ∧ Same _ H2)
        (fun H2 h => ⟨xs, ys, .inl (.inl (h.2 _ _ ha1)), .inl (.inl (h.2 _ _ hb1)), .inl (Nat.le_refl _)⟩)
        (fun i H2 lt h => ⟨xs, ys, xs[i], ys[i]'(by omega), .inl (.inl (h.2 _ _ ha1)), .inl (.inl (h.2 _ _ hb1)), List.getElem?_eq_getElem lt, List.getElem?_eq_getElem (by omega)⟩)
        (fun i H2 v H3 h ⟨T, u, v', e1, hT, e2, f1, f2⟩ => ⟨T, u, v', e1, f1 xs (.inl (.inl (h.2 _ _ ha1))), f2 ys (.inl (.inl (h.2 _ _ hb1))), hT, e2⟩)
        ⟨upd_same, same_new hD _⟩ (fun i u v T H2 hu hv h hT => ?_) (fun H2 h => ⟨D, List.replicate xs.length true, rfl, .inl (.inl (by rw [List.map_replicate]; exact h.1)), ?_⟩)
      · have sT := same_new hT (.tup [u, v])
        refine ⟨T, _, rfl, .inl (.inl upd_same), rfl, _, _, rfl, _, _, rfl, rfl, rfl, ?_⟩
        have lt : i < xs.length := (List.getElem?_eq_some_iff.mp hu).1
        refine ⟨_, rfl, _, rfl, u, v, m, rfl, rfl, AlikeP.mono (s1.trans (h.2.trans sT)) m (each i u v hu hv), fun H4 s4 => ⟨_, s4 _ _ (sT _ _ h.1), ?_, ?_, ?_⟩⟩
        · rw [List.length_replicate]; exact Nat.lt_of_lt_of_le (by omega : i < 1000000) (by decide)
        · rw [upd_same, List.replicate_succ']
        · intro c o z
          have nD : c ≠ D := fun e => by subst e; rw [hD] at z; cases z
          rw [upd_ne nD]
          exact s4 _ _ (sT _ _ (h.2 _ _ z))
      · have e : (List.replicate xs.length true).all id = true := by rw [List.all_eq_true]; intro x hx; rw [List.eq_of_mem_replicate hx]; rfl
        rw [e]
        exact q _ (s1.trans h.2)
    · have ha1 := ha.same s1
      have hb1 := hb.same s1
      refine ⟨_, p, _, _, [.type "list", .type "tuple"], true, rfl, upd_same, .cons (.ty _) (.cons (.ty _) .nil), tupAt_ty hb1, kit_lt (p := false) (r := true) (by decide +kernel) (by decide +kernel), true, rfl, iteT ?_⟩
      refine ⟨_, rfl, _, _, _, _, false, rfl, .ty "list", tupAt_ty ha1, kitB_of (by decide +kernel), _, rfl, _, _, _, _, false, rfl, .ty "list", tupAt_ty hb1, kitB_of (by decide +kernel), rfl, false, congrArg (fun z => V.bl (!z)) (decide_eq_true rfl), iteF ?_⟩
      refine ⟨_, rfl, _, _, _, _, true, rfl, .ty "tuple", tupAt_ty ha1, kitB_of (by decide +kernel), _, rfl, _, _, _, _, true, rfl, .ty "tuple", tupAt_ty hb1, kitB_of (by decide +kernel), rfl, false, congrArg (fun z => V.bl (!z)) (decide_eq_true rfl), iteF ?_⟩
      refine ⟨_, rfl, a, _, rfl, .inr (.inl ha1), _, rfl, b, _, rfl, .inr (.inl hb1), rfl, false, congrArg (fun z => V.bl (!z)) (decide_eq_true (by rw [hl])), iteF ?_⟩
      refine ⟨_, rfl, _, rfl, a, b, xs, ys, rfl, .inr ⟨.inl ha1, .inl hb1, fun D hD => ?_⟩⟩
      refine lc_pairs (J := ItzT K a b) (xs := xs) (ys := ys) hl (fun i H2 => H2 D = some (.lst (List.replicate i (V.bl true))) ∧ Same _ H2)
        (fun H2 h => ⟨xs, ys, .inl (ha1.same h.2), .inl (hb1.same h.2), .inl (Nat.le_refl _)⟩)
        (fun i H2 lt h => ⟨xs, ys, xs[i], ys[i]'(by omega), .inl (ha1.same h.2), .inl (hb1.same h.2), List.getElem?_eq_getElem lt, List.getElem?_eq_getElem (by omega)⟩)
        (fun i H2 v H3 h ⟨T, u, v', e1, hT, e2, f1, f2⟩ => ⟨T, u, v', e1, f1 xs (.inl (ha1.same h.2)), f2 ys (.inl (hb1.same h.2)), hT, e2⟩)
        ⟨upd_same, same_new hD _⟩ (fun i u v T H2 hu hv h hT => ?_) (fun H2 h => ⟨D, List.replicate xs.length true, rfl, .inl (.inl (by rw [List.map_replicate]; exact h.1)), ?_⟩)
      · have sT := same_new hT (.tup [u, v])
        refine ⟨T, _, rfl, .inl (.inl upd_same), rfl, _, _, rfl, _, _, rfl, rfl, rfl, ?_⟩
        have lt : i < xs.length := (List.getElem?_eq_some_iff.mp hu).1
        refine ⟨_, rfl, _, rfl, u, v, m, rfl, rfl, AlikeP.mono (s1.trans (h.2.trans sT)) m (each i u v hu hv), fun H4 s4 => ⟨_, s4 _ _ (sT _ _ h.1), ?_, ?_, ?_⟩⟩
        · rw [List.length_replicate]; exact Nat.lt_of_lt_of_le (by omega : i < 1000000) (by decide)
        · rw [upd_same, List.replicate_succ']
        · intro c o z
          have nD : c ≠ D := fun e => by subst e; rw [hD] at z; cases z
          rw [upd_ne nD]
          exact s4 _ _ (sT _ _ (h.2 _ _ z))
      · have e : (List.replicate xs.length true).all id = true := by rw [List.all_eq_true]; intro x hx; rw [List.eq_of_mem_replicate hx]; rfl
        rw [e]
        exact q _ (s1.trans h.2)
theorem same_okP {f : Addr} {fd : FuncData} (F : Fun K "_law_same" "_law_same" sSame f fd) (b2 : Binds K fd ["_law_found", "_law_due"] []) (mF : mg "_law_same" = some (.ref f)) (M : SameG mg) :
    ∀ n : Nat, FnOk P w K mg base CX0 n f fd ["_law_found", "_law_due"] (spSameP n)
  | 0 => none_left fun vs H Q E h => by
    obtain ⟨x, y, m, _, e, _⟩ := h
    omega
  | n + 1 => ok_sameP F b2 mF (same_okP F b2 mF M n) M
end
end Rp

set_option maxHeartbeats 16000000
/-! What the law's sayings are: variables, shapes. -/
namespace Rp
open PySem PySem.Spec PyProof.Rows L2 TL StX
/-- what is put: terms of few variables, small -/
structure PutOk (ks ns : List Int) (bd : Bd) : Prop where
  dom : ∀ n ∈ ks, n ∈ bd.map (·.1)
  sm : ∀ n t, bd.lookup n = some t → Sm ns t ∧ t.size ≤ 3
/-- an atom with variables of ns, of its name's shape -/
structure AtV (ns : List Int) (kvs : KVs) (a : At) : Prop where
  ok : AtOk 7 a
  vs : ∀ t ∈ a.ts, ∀ n ∈ t.nums, n ∈ ns
  sh : valV kvs (Sum.inr a.nm) = some (V.int ((a.ts.length : Nat) : Int))
theorem AtW.v {ks : List Int} {kvs : KVs} {a : At} (h : AtW ks kvs a) : AtV ks kvs a := ⟨h.ok, h.vs, h.sh⟩
theorem put_sz {ks ns : List Int} {bd : Bd} (P : PutOk ks ns bd) : ∀ {t : Tm}, (∀ n ∈ t.nums, n ∈ ks) → Sm ns (t.put bd) ∧ (t.put bd).size ≤ t.size + 2 * t.nums.length
  | .v n, h => by
    have hn := P.dom n (h n (by simp [Tm.nums]))
    show Sm ns ((bd.lookup n).getD (.v n)) ∧ ((bd.lookup n).getD (.v n)).size ≤ 1 + 2 * 1
    cases e : bd.lookup n with
    | none => exact absurd hn (nolook.mp e)
    | some t => exact P.sm n t e
  | .z, _ => ⟨fun n hn => by simp [Tm.put, Tm.nums] at hn, by show (1 : Nat) ≤ 1 + 2 * 0; omega⟩
  | .s t, h => by
    obtain ⟨a, b⟩ := put_sz P (t := t) h
    refine ⟨a, ?_⟩
    show (t.put bd).size + 1 ≤ t.size + 1 + 2 * t.nums.length
    omega
  | .f l r, h => by
    obtain ⟨a, b⟩ := put_sz P (t := l) fun n hn => h n (List.mem_append_left _ hn)
    obtain ⟨a', b'⟩ := put_sz P (t := r) fun n hn => h n (List.mem_append_right _ hn)
    refine ⟨fun n hn => ?_, ?_⟩
    · rcases List.mem_append.mp hn with hn | hn
      · exact a n hn
      · exact a' n hn
    · show (l.put bd).size + (r.put bd).size + 1 ≤ l.size + r.size + 1 + 2 * (l.nums ++ r.nums).length
      rw [List.length_append]
      omega
theorem nums_sz : ∀ t : Tm, 2 * t.nums.length ≤ t.size + 1
  | .v n => by simp [Tm.nums, Tm.size]
  | .z => by simp [Tm.nums, Tm.size]
  | .s t => by have := nums_sz t; simp only [Tm.nums, Tm.size]; omega
  | .f l r => by have := nums_sz l; have := nums_sz r; simp only [Tm.nums, Tm.size, List.length_append]; omega
theorem AtW.put {ks ns : List Int} {kvs : KVs} {bd : Bd} {a : At} (P : PutOk ks ns bd) (h : AtW ks kvs a) : AtV ns kvs (atPut bd a) := by
  have each : ∀ t ∈ (atPut bd a).ts, Sm ns t ∧ t.size ≤ 7 := fun t ht => by
    obtain ⟨u, hu, rfl⟩ := List.mem_map.mp (show t ∈ a.ts.map (Tm.put bd) from ht)
    obtain ⟨x, y⟩ := put_sz P (h.vs u hu)
    have := nums_sz u
    have := h.sz u hu
    exact ⟨x, by omega⟩
  have l : (atPut bd a).ts.length = a.ts.length := List.length_map _
  refine ⟨⟨h.ok.nm, by rw [l]; exact h.ok.one, by rw [l]; exact h.ok.two, fun t ht => ⟨(each t ht).1.small, (each t ht).2⟩⟩, fun t ht n hn => ((each t ht).1 n hn).1, ?_⟩
  rw [l]
  exact h.sh
/-- a saying whose atoms have so few variables -/
structure SyV (ns : List Int) (s : Sy) : Prop where
  ok : SyOk s
  h7 : ∀ a ∈ s.hs, AtOk 7 a
  g7 : AtOk 7 s.gl
  vs : ∀ k ∈ syNums s, k ∈ ns
  few : ns.length ≤ 2
theorem SyV.two {ns : List Int} {s : Sy} (S : SyV ns s) : ∀ ms : List Int, ms.Nodup → (∀ k ∈ ms, k ∈ syNums s) → ms.length ≤ 2 := fun ms nd h => Nat.le_trans (nodup_in nd fun k hk => S.vs k (h k hk)) S.few
theorem syV_of {ns : List Int} {kvs : KVs} {s : Sy} (nd : s.hs.Nodup) (few6 : s.hs.length ≤ 6) (h : ∀ a ∈ s.hs, AtV ns kvs a) (g : AtV ns kvs s.gl) (few : ns.length ≤ 2) : SyV ns s := by
  refine ⟨⟨⟨few6, fun a ha => (h a ha).ok.more (by decide)⟩, nd, g.ok.more (by decide)⟩, fun a ha => (h a ha).ok, g.ok, fun k hk => ?_, few⟩
  obtain ⟨a, ha, t, ht, hn⟩ := sy_nm.mp hk
  rcases List.mem_cons.mp ha with rfl | ha
  · exact g.vs t ht k hn
  · exact (h a ha).vs t ht k hn
/-- an atom of one term, grown -/
def grow (a : At) : At := ⟨a.nm, a.ts ++ [.z]⟩
def longHs (hs : List At) : List At := hs ++ ((hs.take 1).filter fun a => decide (a.ts.length = 1)).map grow
theorem long_ok {ns : List Int} {kvs : KVs} {s : Sy} (nd : s.hs.Nodup) (few4 : s.hs.length ≤ 4) (h : ∀ a ∈ s.hs, AtV ns kvs a) (g : AtV ns kvs s.gl) (few : ns.length ≤ 2) : SyV ns ⟨longHs s.hs, s.gl⟩ := by
  have gm : ∀ a ∈ ((s.hs.take 1).filter fun a => decide (a.ts.length = 1)), a ∈ s.hs ∧ a.ts.length = 1 := fun a ha => ⟨List.mem_of_mem_take (List.mem_filter.mp ha).1, of_decide_eq_true (List.mem_filter.mp ha).2⟩
  have gl : ((s.hs.take 1).filter fun a => decide (a.ts.length = 1)).length ≤ 1 := Nat.le_trans (List.length_filter_le _ _) (by rw [List.length_take]; omega)
  generalize hG : ((s.hs.take 1).filter fun a => decide (a.ts.length = 1)) = G at gm gl
  have e : longHs s.hs = s.hs ++ G.map grow := by unfold longHs; rw [hG]
  rw [e]
  have grown : ∀ a ∈ G.map grow, AtOk 7 a ∧ (∀ t ∈ a.ts, ∀ n ∈ t.nums, n ∈ ns) ∧ a ∉ s.hs := fun a ha => by
    obtain ⟨b, hb, rfl⟩ := List.mem_map.mp ha
    obtain ⟨b1, b2⟩ := gm b hb
    have vb := h b b1
    have l2 : (grow b).ts.length = 2 := by show (b.ts ++ [Tm.z]).length = 2; rw [List.length_append, b2]; rfl
    refine ⟨⟨vb.ok.nm, by omega, by omega, fun t ht => ?_⟩, fun t ht n hn => ?_, fun hin => ?_⟩
    · rcases List.mem_append.mp ht with ht | ht
      · exact vb.ok.sm t ht
      · obtain rfl : t = .z := by simpa using ht
        exact ⟨fun n hn => by simp [Tm.nums] at hn, by decide⟩
    · rcases List.mem_append.mp ht with ht | ht
      · exact vb.vs t ht n hn
      · obtain rfl : t = .z := by simpa using ht
        simp [Tm.nums] at hn
    · have a1 := (h _ hin).sh
      have a2 := vb.sh
      have a1 : valV kvs (Sum.inr b.nm) = some (V.int (((grow b).ts.length : Nat) : Int)) := a1
      rw [a2, l2, b2] at a1
      injection a1 with a1
      injection a1 with a1
      omega
  refine ⟨⟨⟨by show (s.hs ++ G.map grow).length ≤ 6; rw [List.length_append, List.length_map]; omega, fun a ha => ?_⟩, ?_, g.ok.more (by decide)⟩, fun a ha => ?_, g.ok, fun k hk => ?_, few⟩
  · rcases List.mem_append.mp ha with ha | ha
    · exact (h a ha).ok.more (by decide)
    · exact (grown a ha).1.more (by decide)
  · show (s.hs ++ G.map grow).Nodup
    refine List.nodup_append.mpr ⟨nd, ?_, fun x hx y hy e => (grown y hy).2.2 (e ▸ hx)⟩
    match G, gl with
    | [], _ => simp
    | [a], _ => simp
    | _ :: _ :: _, l => simp at l
  · rcases List.mem_append.mp ha with ha | ha
    · exact (h a ha).ok
    · exact (grown a ha).1
  · obtain ⟨a, ha, t, ht, hn⟩ := sy_nm.mp hk
    rcases List.mem_cons.mp ha with rfl | ha
    · exact g.vs t ht k hn
    · rcases List.mem_append.mp ha with ha | ha
      · exact (h a ha).vs t ht k hn
      · exact (grown a ha).2.1 t ht k hn
mutual
theorem sh_shownL {W L : Nat} (hL : L ≤ 60) : ∀ {d : PyData}, shG W L d → d.hasDict = false → d.showable = true ∧ d.intsShort 13 = true ∧ d.weight + 1 ≤ 100 * nd d
  | .none, _, _ => ⟨rfl, rfl, by decide⟩
  | .bool b, _, _ => ⟨rfl, rfl, by simp [PyData.weight, nd]⟩
  | .int i, h, _ => by
    unfold shG at h
    have a : i.natAbs ≤ 2000 := by omega
    have b : i.natAbs.log2 ≤ 11 := by
      by_cases h0 : i.natAbs = 0
      · rw [h0]; decide
      · exact Nat.le_of_lt_succ ((Nat.log2_lt h0).mpr (by omega))
    refine ⟨?_, ?_, ?_⟩
    · simp only [PyData.showable, decide_eq_true_eq]; omega
    · simp only [PyData.intsShort, decide_eq_true_eq]; exact PyData.shown_int_le (by omega)
    · simp only [PyData.weight, nd]; split <;> omega
  | .str x, h, _ => by
    unfold shG at h
    have : x.cps.size ≤ L := h.1
    refine ⟨rfl, rfl, ?_⟩
    simp only [PyData.weight, nd]
    omega
  | .list ds, h, n => by
    unfold shG at h
    have z := shs_shownL hL h.2 (by simpa [PyData.hasDict] using n)
    simp only [PyData.showable, PyData.intsShort, PyData.weight, nd]
    exact ⟨z.1, z.2.1, by omega⟩
  | .tuple ds, h, n => by
    unfold shG at h
    have z := shs_shownL hL h.2 (by simpa [PyData.hasDict] using n)
    simp only [PyData.showable, PyData.intsShort, PyData.weight, nd]
    exact ⟨z.1, z.2.1, by omega⟩
  | .dict _, _, n => by simp [PyData.hasDict] at n
theorem shs_shownL {W L : Nat} (hL : L ≤ 60) : ∀ {ds : List PyData}, shGs W L ds → PyData.hasDictAll ds = false → PyData.showableAll ds = true ∧ PyData.intsShortAll 13 ds = true ∧ PyData.weightAll ds ≤ 100 * ndAll ds
  | [], _, _ => ⟨rfl, rfl, by decide⟩
  | d :: ds, h, n => by
    unfold shGs at h
    rw [PyData.hasDictAll, Bool.or_eq_false_iff] at n
    have a := sh_shownL hL h.1 n.1
    have b := shs_shownL hL h.2 n.2
    simp only [PyData.showableAll, PyData.intsShortAll, PyData.weightAll, ndAll, Bool.and_eq_true]
    exact ⟨⟨a.1, b.1⟩, ⟨a.2.1, b.2.1⟩, by omega⟩
end
theorem fq_shownL {k W L : Nat} {d : PyData} (h : Fq k W L d) (N : d.hasDict = false) (hk : k ≤ 60) (hL : L ≤ 60) (hn : nd d ≤ 10000) : d.showable = true ∧ d.hasDict = false ∧ d.depth ≤ 64 ∧ d.shown.length ≤ sizeLine := by
  obtain ⟨h2, h3, h5⟩ := sh_shownL hL h.sh N
  have dp := h.dp
  have big : (15728653 : Nat) ≤ sizeLine := by decide
  refine ⟨h2, N, by omega, Nat.le_trans (shown_le13 ?_ h3) big⟩
  unfold PyData.layable0
  rw [h.lay, decide_eq_true (by omega : d.depth ≤ 64), decide_eq_true (by omega : d.weight ≤ 2 ^ 20)]
  rfl
/-- two sayings in a list, shown -/
theorem two_shown {K : PySem.W.Frag} {H : Hp} {vs vo : V} {l : Addr} {s o : Sy} {n m : List Int} (S : SyAt H vs s) (sv : SyV n s) (O : SyAt H vo o) (ov : SyV m o) (hl : H l = some (.lst [vs, vo])) :
    Dp K H (.ref l) (.list [syD s, syD o]) ∧ (PyData.list [syD s, syD o]).showable = true ∧ (PyData.list [syD s, syD o]).hasDict = false ∧ (PyData.list [syD s, syD o]).depth ≤ 64 ∧ (PyData.list [syD s, syD o]).shown.length ≤ sizeLine := by
  have D1 : DAt H 0 vs (syD s) := S.dat
  have D2 : DAt H 0 vo (syD o) := O.dat
  have f1 := fq_sy sv.ok sv.h7 sv.g7
  have f2 := fq_sy ov.ok ov.h7 ov.g7
  have fq : Fq 11 6 7 (.list [syD s, syD o]) := fq_list.mpr ⟨by simp, fun d hd => by
    simp only [List.mem_cons, List.not_mem_nil, or_false] at hd
    rcases hd with rfl | rfl
    · exact f1.1
    · exact f2.1⟩
  have N : (PyData.list [syD s, syD o]).hasDict = false := by
    simp only [PyData.hasDict, PyData.hasDictAll, D1.nodict, D2.nodict]
    rfl
  refine ⟨.lst (.inl (.inl hl)) (.cons D1.dp (.cons D2.dp .nil)), fq_shownL fq N (by decide) (by decide) ?_⟩
  simp only [nd, ndAll]
  have := f1.2.1
  have := f2.2.1
  omega
/-- told rows are alike -/
theorem rows_alike {H : Hp} {a b : Addr} {xs ys : List V} {L : List Prs} (ha : H a = some (.lst xs)) (hb : H b = some (.lst ys)) (X : Paired (BiAt H) xs L) (Y : Paired (BiAt H) ys L) (ok : ∀ p ∈ L, PrOk p) (few : L.length ≤ 1000000) : AlikeP H 43 (.ref a) (.ref b) := by
  have xl := pd_len X
  have yl := pd_len Y
  unfold AlikeP
  refine .inr ⟨a, b, xs, ys, rfl, rfl, .inl ⟨ha, hb⟩, by omega, by omega, fun i u v hu hv => ?_⟩
  obtain ⟨p, hp, Bu⟩ := paired_get X hu
  obtain ⟨p', hp', Bv⟩ := paired_get Y hv
  rw [hp] at hp'
  cases hp'
  have o := ok p (List.mem_of_getElem? hp)
  exact bi_alike o.few o.sz Bu Bv
end Rp

set_option maxHeartbeats 16000000
/-! _law_right. -/
namespace Rp
open PySem PySem.Spec PyProof.Rows L2 TL StX NdefX LamX
theorem hu66 {A : Around} {k : Nat} (hr : Room k A) : A.units + 66 < cLine := by have := hr.un; omega
def spRightL (T : List NTab) : Sp := fun vs H Q _ => ∃ (b p d : Addr) (ws : List Str) (kvs : KVs) (j : Nat), vs = [.ref b, .ref p, .ref d] ∧ BoxAt H b j ∧ Wsh H b d p ws kvs ∧ (∀ x ∈ ws, NameOk x) ∧ j + 2000 ≤ 1000000 ∧ TabsN T H ∧
  ∀ H', BoxAt H' b (j + 2000) → ExtB T b H H' → Q (.bl true) H'
abbrev NRt : List Str := ["_law_box_here", "_law_words", "_law_shapes_here", "_law_pool", "_law_other", "_law_hyps", "_law_named", "_law_turn", "_law_one", "_law_puts", "_law_saying_here", "_law_before", "_law_longer", "_law_two", "_law_due", "_law_found", "_law_hyp"]
def tePt : TE := tTup (tCons (tVar 8) (tCons (tCall (spLTerm 3) [] E0 (tCons (tVar 0) (tCons (tVar 6) (tCons (tC (.int 1)) tNil)))) tNil))
def teHp : TE := tCall (spLPutD 9) [] E0 (tCons (tVar 16) (tCons (tVar 9) tNil))
def teLo (K : PySem.W.Frag) : TE := tOp (rCatA K) (tVar 16) (tTup (tCons (tTup (tCons (tC (.str "0")) tNil)) tNil))
def ttLo (K : PySem.W.Frag) : TT := tTest (tOp rEq (tCB (fun xs H Q => ∃ p ys, xs = [V.ref p] ∧ (SqL K H p ys ∨ SqT K H p ys) ∧ Q (V.int ys.length) H) (tCons (tVar 16) tNil)) (tC (.int 2)))
def PairOk (H : Hp) (x : V) : Prop := ∃ (c : Addr) (u v : V) (s o : Sy) (n m : List Int), x = .ref c ∧ H c = some (.tup [u, v]) ∧ SyAt H u s ∧ SyV n s ∧ SyAt H v o ∧ SyV m o
theorem boxAt_ext {H H' : Hp} {b : Addr} {j : Nat} (B : BoxAt H b j) (e : ExtN H H') : BoxAt H' b j := by
  obtain ⟨x, y, z, h, r⟩ := B.ex
  exact ⟨x, y, z, e _ _ h fun _ w => (by cases w), r⟩
section
variable {P : Program} {w : World} {K : PySem.W.Frag} {mg : Str → Option Value} {base : Heap}
theorem scRt : FnScope NRt ["_law_box_here", "_law_words", "_law_shapes_here"] (defScope sRightL) := ⟨rfl, rfl, rfl, by decide +kernel, rfl, by decide +kernel, by decide +kernel⟩
theorem ok_rightl {T : List NTab} {f fT fSa fPk fTm fL fU fBs fS fA : Addr} {fd dT dSa dPk dTm dL dU dBs dS dA : FuncData} (F : Fun K "_law_right" "_law_right" sRightL f fd)
    (GT : FnOk P w K mg base CX0 1 fT dT ["_law_box_here", "_law_reach"] spTake) (kT : PySem.W.keepIn K (.ref fT) = true) (bT : Binds K dT ["_law_box_here", "_law_reach"] []) (mT : mg "_law_take" = some (.ref fT))
    (GSa : FnOk P w K mg base CX0 7 fSa dSa ["_law_box_here", "_law_shapes_here", "_law_names_here", "_law_pool", "_law_count"] spSayingL) (kSa : PySem.W.keepIn K (.ref fSa) = true) (bSa : Binds K dSa ["_law_box_here", "_law_shapes_here", "_law_names_here", "_law_pool", "_law_count"] []) (mSa : mg "_law_saying" = some (.ref fSa))
    (GPk : FnOk P w K mg base CX0 2 fPk dPk ["_law_box_here", "_law_things"] spPick) (kPk : PySem.W.keepIn K (.ref fPk) = true) (bPk : Binds K dPk ["_law_box_here", "_law_things"] []) (mPk : mg "_law_pick" = some (.ref fPk))
    (GTm : FnOk P w K mg base CX0 5 fTm dTm ["_law_box_here", "_law_pool", "_law_deep"] (spLTerm 3)) (kTm : PySem.W.keepIn K (.ref fTm) = true) (bTm : Binds K dTm ["_law_box_here", "_law_pool", "_law_deep"] []) (mTm : mg "_law_term" = some (.ref fTm))
    (GL : FnOk P w K mg base CX0 9 fL dL ["_law_thing", "_law_puts"] (spLPutD 9)) (kL : PySem.W.keepIn K (.ref fL) = true) (bL : Binds K dL ["_law_thing", "_law_puts"] []) (mL : mg "_law_put" = some (.ref fL))
    (GU : FnOk P w K mg base CX0 1 fU dU ["_law_atoms"] spUnlikeB) (kU : PySem.W.keepIn K (.ref fU) = true) (bU : Binds K dU ["_law_atoms"] []) (mU : mg "_law_unlike" = some (.ref fU))
    (GBs : FnOk P w K mg base CX0 8 fBs dBs ["saying", "other"] spBindings) (kBs : PySem.W.keepIn K (.ref fBs) = true) (bBs : Binds K dBs ["saying", "other"] []) (mBs : mg "bindings" = some (.ref fBs))
    (GS : FnOk P w K mg base CX0 44 fS dS ["_law_found", "_law_due"] (spSameP 44)) (kS : PySem.W.keepIn K (.ref fS) = true) (bS : Binds K dS ["_law_found", "_law_due"] []) (mS : mg "_law_same" = some (.ref fS))
    (GA : FnOk P w K mg base CX0 65 fA dA ["_law_saying_here", "_law_other"] (spAll T)) (kA : PySem.W.keepIn K (.ref fA) = true) (bA : Binds K dA ["_law_saying_here", "_law_other"] []) (mA : mg "_law_all" = some (.ref fA))
    (mDict : mg "dict" = none) (mRange : mg "range" = none) (mRepr : mg "repr" = none) (mLen : mg "len" = none) (mTuple : mg "tuple" = none) : GnOk P w K mg base 66 f fd ["_law_box_here", "_law_words", "_law_shapes_here"] (spRightL T) := by
  refine gok F scRt (fun vs H Q E h => ?_) (fun cdv A outer s H vs Q E hg hr h => ?_)
  · obtain ⟨b, p, d, ws, kvs, j, rfl, _⟩ := h
    rfl
  obtain ⟨b, p, d, ws, kvs, j, rfl, B, W, wo, hj, hT, q⟩ := h
  have r1 : Room 1 _ := hr.mono (by decide)
  have r2 : Room 2 _ := hr.mono (by decide)
  have r5 : Room 5 _ := hr.mono (by decide)
  have r7 : Room 7 _ := hr.mono (by decide)
  have r8 : Room 8 _ := hr.mono (by decide)
  have r9 : Room 9 _ := hr.mono (by decide)
  have r44 : Room 44 _ := hr.mono (by decide)
  have r65 : Room 65 _ := hr
  refine ⟨_, pss_cons (ps_set (i := 3) scRt.nd rfl (Or.inl rfl) (pe_slice sl_list (pe_lst (pa_cons pe_int (pa_cons pe_int pa_nil))) po_none (po_some (pe_call GT r1 rfl mT kT bT .nil pass0 (pa_cons (pv 0) (pa_cons pe_int pa_nil))))))
    (pss_cons (ps_set (i := 4) scRt.nd rfl (Or.inl rfl) (pe_call GSa r7 rfl mSa kSa bSa .nil pass0 (pa_cons (pv 0) (pa_cons (pv 2) (pa_cons (pv 1) (pa_cons (pv 3) (pa_cons pe_int pa_nil)))))))
    (pss_cons (ps_asg (pe_tup (pa_cons (pe_lst pa_nil) (pa_cons (pe_call GPk r2 rfl mPk kPk bPk .nil pass0 (pa_cons (pv 0) (pa_cons (pe_lst (pa_cons (pe_lst (pa_cons pe_int pa_nil)) (pa_cons (pe_lst (pa_cons pe_int (pa_cons pe_int pa_nil))) (pa_cons (pe_lst (pa_cons pe_int (pa_cons pe_int pa_nil))) (pa_cons (pe_lst (pa_cons pe_int (pa_cons pe_int pa_nil))) pa_nil))))) pa_nil))) pa_nil))) (pg_tup (by rfl) (pgs_cons (pg_name (i := 5) scRt.nd rfl (Or.inl rfl)) (pgs_cons (pg_name (i := 6) scRt.nd rfl (Or.inr rfl)) pgs_nil))))
    (pss_cons (ps_for PassesOwn.never rfl (pi_range1 (by rfl) mRange (pa_cons pe_int pa_nil)) (pg_name (i := 7) scRt.nd rfl (Or.inl rfl)) (pss_cons (ps_set (i := 9) scRt.nd rfl (Or.inr rfl) (pe_callTy (call_dictP rfl) (by rfl) mDict (by decide +kernel) (pa_cons (pe_lc (own := [("_law_one", 8)]) (g := gName 8) (tt := tYes) (te := tePt) rfl scRt.nd (pi_list (pv 3)) (blkOk_by (N := NRt) (sc := defScope sRightL) (by decide +kernel)) (fun _ _ _ _ _ => (pg_name (i := 8) scRt.nd rfl (Or.inl rfl))) (fun _ _ _ _ _ => pts_nil) (fun _ _ _ _ _ => (pe_tup (pa_cons (pv 8) (pa_cons (pe_call GTm r5 (by rfl) mTm kTm bTm .nil pass0 (pa_cons (pv 0) (pa_cons (pv 6) (pa_cons pe_int pa_nil)))) pa_nil))))) pa_nil))) (pss_one (ps_set (i := 5) scRt.nd rfl (Or.inl rfl) (pe_op op_cat (pv 5) (pe_lc (own := [("_law_hyp", 16)]) (g := gName 16) (tt := tYes) (te := teHp) rfl scRt.nd (pi_tup (pe_ix ix_tup (pv 4) pe_int (fun _ _ => rfl))) (blkOk_by (N := NRt) (sc := defScope sRightL) (by decide +kernel)) (fun _ _ _ _ _ => (pg_name (i := 16) scRt.nd rfl (Or.inl rfl))) (fun _ _ _ _ _ => pts_nil) (fun _ _ _ _ _ => (pe_call GL r9 (by rfl) mL kL bL .nil pass0 (pa_cons (pv 16) (pa_cons (pv 9) pa_nil))))))))))
    (pss_cons (ps_set (i := 10) scRt.nd rfl (Or.inl rfl) (pe_tup (pa_cons (pe_slice sl_tupA (pe_call GU r1 rfl mU kU bU .nil pass0 (pa_cons (pv 5) pa_nil)) po_none (po_some pe_int)) (pa_cons (pe_call GL r9 rfl mL kL bL .nil pass0 (pa_cons (pe_ix ix_tup (pv 4) pe_int (fun _ _ => rfl)) (pa_cons (pv 9) pa_nil))) pa_nil))))
    (pss_cons (ps_set (i := 11) scRt.nd rfl (Or.inl rfl) (pe_callB (cr_reprD hg (hu66 hr)) (by rfl) mRepr (by decide +kernel) (pa_cons (pe_lst (pa_cons (pv 10) (pa_cons (pv 4) pa_nil))) pa_nil)))
    (pss_cons (ps_set (i := 12) scRt.nd rfl (Or.inl rfl) (pe_tup (pa_cons (pe_op op_catA (pe_ix ix_tup (pv 10) pe_int (fun _ _ => rfl)) (pe_callTy call_tuple_of (by rfl) mTuple (by decide +kernel) (pa_cons (pe_lc (own := [("_law_hyp", 16)]) (g := gName 16) (tt := (ttLo K)) (te := (teLo K)) rfl scRt.nd (pi_tup (pe_slice sl_tupA (pe_ix ix_tup (pv 10) pe_int (fun _ _ => rfl)) po_none (po_some pe_int))) (blkOk_by (N := NRt) (sc := defScope sRightL) (by decide +kernel)) (fun _ _ _ _ _ => (pg_name (i := 16) scRt.nd rfl (Or.inl rfl))) (fun _ _ _ _ _ => pts_one (pt_cmpR op_eq (pe_callB call_len_seq (by rfl) mLen PySem.boot_len (pa_cons (pv 16) pa_nil)) pe_int (nomark _))) (fun _ _ _ _ _ => (pe_op op_catA (pv 16) (pe_tup (pa_cons (pe_tup (pa_cons pe_str pa_nil)) pa_nil))))) pa_nil))) (pa_cons (pe_ix ix_tup (pv 10) pe_int (fun _ _ => rfl)) pa_nil))))
    (pss_cons (ps_for PassesOwn.never rfl (pi_tup (pe_tup (pa_cons (pe_tup (pa_cons (pv 10) (pa_cons (pv 4) pa_nil))) (pa_cons (pe_tup (pa_cons (pv 4) (pa_cons (pv 10) pa_nil))) (pa_cons (pe_tup (pa_cons (pv 10) (pa_cons (pv 10) pa_nil))) (pa_cons (pe_tup (pa_cons (pv 12) (pa_cons (pv 4) pa_nil))) (pa_cons (pe_tup (pa_cons (pv 10) (pa_cons (pv 12) pa_nil))) pa_nil))))))) (pg_tup (by rfl) (pgs_cons (pg_name (i := 8) scRt.nd rfl (Or.inl rfl)) (pgs_cons (pg_name (i := 13) scRt.nd rfl (Or.inl rfl)) pgs_nil))) (pss_cons (ps_set (i := 14) scRt.nd rfl (Or.inl rfl) (pe_call GA r65 rfl mA kA bA .nil pass0 (pa_cons (pv 8) (pa_cons (pv 13) pa_nil)))) (pss_one (ps_for PassesOwn.never rfl (pi_range1 (by rfl) mRange (pa_cons pe_int pa_nil)) (pg_name (i := 7) scRt.nd rfl (Or.inl rfl)) (pss_cons (ps_set (i := 15) scRt.nd rfl (Or.inl rfl) (pe_call GBs r8 rfl mBs kBs bBs .nil pass0 (pa_cons (pv 8) (pa_cons (pv 13) pa_nil)))) (pss_cons (ps_if (pt_not (pt_val (pe_call GS r44 rfl mS kS bS .nil pass0 (pa_cons (pv 15) (pa_cons (pv 14) pa_nil))))) (pss_one (ps_ret pe_bl)) pss_nil) (pss_one (ps_expr (pe_bm PySem.F.plainAttrs_list PySem.F.slot_list_append PySem.F.type_list_append mt_append (pv 15) (pa_cons (pe_tup pa_nil) pa_nil))))))))))
    (pss_one (ps_ret (pe_cmpR op_eq (pe_callB (cr_reprD hg (hu66 hr)) (by rfl) mRepr (by decide +kernel) (pa_cons (pe_lst (pa_cons (pv 10) (pa_cons (pv 4) pa_nil))) pa_nil)) (pv 11) (nomark _))))))))))), ?_⟩
  have big : (100000 : Nat) ≤ sizeLine := by decide
  -- the pool
  refine ⟨(by show 2 ≤ sizeLine; decide), fun g1 hg1 => ?_⟩
  have s1 := same_new hg1 (.lst [V.int 0, V.int 1])
  have hg1' : (upd H g1 (.lst [V.int 0, V.int 1])) g1 = some (.lst [V.int 0, V.int 1]) := upd_same
  have g1b : g1 ≠ b := ne_box B hg1
  have B1 := B.same s1
  have W1 := W.same s1
  generalize upd H g1 (.lst [V.int 0, V.int 1]) = H1 at s1 hg1' B1 W1 ⊢
  refine ⟨_, rfl, b, _, _, rfl, B1, by omega, by decide, by decide, fun c H2 c0 c1 B2 o2 => ?_⟩
  obtain ⟨m, rfl⟩ := Int.eq_ofNat_of_zero_le c0
  refine ⟨_, rfl, g1, _, rfl, .inl (.inl (o2 _ _ hg1' g1b)), fun pp hpp => ?_⟩
  have s3 := same_new hpp (.lst (cutV [V.int 0, V.int 1] none (some (m : Int))))
  have hp3 : (upd H2 pp (.lst (cutV [V.int 0, V.int 1] none (some (m : Int))))) pp = some (.lst ((([0, 1] : List Int).take m).map V.int)) := by
    rw [upd_same, cut_to, List.map_take]; rfl
  have ppb : pp ≠ b := ne_box B2 hpp
  have B3 := B2.same s3
  have W3 := (W1.but B1 o2).same s3
  have o03 := (but_of s1).trans (o2.trans (but_of s3))
  generalize upd H2 pp (.lst (cutV [V.int 0, V.int 1] none (some (m : Int)))) = H3 at s3 hp3 B3 W3 o03 ⊢
  have ksm : ∀ k ∈ ([0, 1] : List Int).take m, k = 0 ∨ k = 1 := fun k hk => by
    have := List.mem_of_mem_take hk
    simpa using this
  have ksl : (([0, 1] : List Int).take m).length ≤ 2 := by rw [List.length_take]; simp; omega
  have ksn : (([0, 1] : List Int).take m).Nodup := List.Sublist.nodup (List.take_sublist _ _) (by decide)
  generalize ([0, 1] : List Int).take m = ks at hp3 ksm ksl ksn
  have W3' : Wrd H3 b d p pp ws ks kvs := ⟨W3.hd, W3.sh, W3.hp, hp3, fun k hk => by have := ksm k hk; omega, by omega, W3.pb, ppb, wo, W3.one, W3.four⟩
  -- the other
  refine ⟨_, rfl, _, rfl, _, rfl, _, rfl, b, d, p, pp, ws, ks, kvs, _, 2, rfl, B3, W3', by decide, by omega, fun vo oy H4 O4 oo l2 hW gW B4 o4 => ?_⟩
  have o04 := o03.trans o4
  have hp4 := o4 _ _ hp3 ppb
  have ovV : SyV ks oy := syV_of oo.nd (by omega) (fun a ha => (hW a ha).v) gW.v ksl
  -- hyps, named
  refine ⟨(by show 0 ≤ sizeLine; decide), fun h0 hh0 => ?_⟩
  have s5 := same_new hh0 (.lst ([] : List V))
  have hh5 : (upd H4 h0 (.lst ([] : List V))) h0 = some (.lst []) := upd_same
  have h0b : h0 ≠ b := ne_box B4 hh0
  have B5 := B4.same s5
  generalize upd H4 h0 (.lst ([] : List V)) = H5 at s5 hh5 B5 ⊢
  refine ⟨_, rfl, (by show 1 ≤ sizeLine; decide), fun a1 ha1 => ?_⟩
  have t1 := same_new ha1 (.lst [V.int 0])
  have e1 : (upd H5 a1 (.lst [V.int 0])) a1 = some (.lst (([0] : List Int).map V.int)) := upd_same
  have n1 : a1 ≠ b := ne_box B5 ha1
  have C1 := B5.same t1
  generalize upd H5 a1 (.lst [V.int 0]) = K1 at t1 e1 C1 ⊢
  refine ⟨(by show 2 ≤ sizeLine; decide), fun a2 ha2 => ?_⟩
  have t2 := same_new ha2 (.lst [V.int 2, V.int 10])
  have e2 : (upd K1 a2 (.lst [V.int 2, V.int 10])) a2 = some (.lst (([2, 10] : List Int).map V.int)) := upd_same
  have n2 : a2 ≠ b := ne_box C1 ha2
  have C2 := C1.same t2
  generalize upd K1 a2 (.lst [V.int 2, V.int 10]) = K2 at t2 e2 C2 ⊢
  refine ⟨(by show 2 ≤ sizeLine; decide), fun a3 ha3 => ?_⟩
  have t3 := same_new ha3 (.lst [V.int 10, V.int 9])
  have e3 : (upd K2 a3 (.lst [V.int 10, V.int 9])) a3 = some (.lst (([10, 9] : List Int).map V.int)) := upd_same
  have n3 : a3 ≠ b := ne_box C2 ha3
  have C3 := C2.same t3
  generalize upd K2 a3 (.lst [V.int 10, V.int 9]) = K3 at t3 e3 C3 ⊢
  refine ⟨(by show 2 ≤ sizeLine; decide), fun a4 ha4 => ?_⟩
  have t4 := same_new ha4 (.lst [V.int 1, V.int 99])
  have e4 : (upd K3 a4 (.lst [V.int 1, V.int 99])) a4 = some (.lst (([1, 99] : List Int).map V.int)) := upd_same
  have n4 : a4 ≠ b := ne_box C3 ha4
  have C4 := C3.same t4
  generalize upd K3 a4 (.lst [V.int 1, V.int 99]) = K4 at t4 e4 C4 ⊢
  refine ⟨(by show 4 ≤ sizeLine; decide), fun a5 ha5 => ?_⟩
  have t5 := same_new ha5 (.lst [V.ref a1, V.ref a2, V.ref a3, V.ref a4])
  have e5 : (upd K4 a5 (.lst [V.ref a1, V.ref a2, V.ref a3, V.ref a4])) a5 = some (.lst [V.ref a1, V.ref a2, V.ref a3, V.ref a4]) := upd_same
  have n5 : a5 ≠ b := ne_box C4 ha5
  have C5 := C4.same t5
  generalize upd K4 a5 (.lst [V.ref a1, V.ref a2, V.ref a3, V.ref a4]) = K5 at t5 e5 C5 ⊢
  have sK : Same H4 K5 := s5.trans (t1.trans (t2.trans (t3.trans (t4.trans t5))))
  refine ⟨b, a5, _, _, rfl, C5, by omega, e5, n5, by simp, by simp, fun v H6 hv B6 o6 => ?_⟩
  have pick : ∃ (np : Addr) (ns : List Int), v = .ref np ∧ H6 np = some (.lst (ns.map V.int)) ∧ (∀ k ∈ ns, 0 ≤ k ∧ k ≤ 99) ∧ ns.length ≤ 2 ∧ np ≠ b := by
    simp only [List.mem_cons, List.not_mem_nil, or_false] at hv
    rcases hv with rfl | rfl | rfl | rfl
    · exact ⟨a1, [0], rfl, o6 _ _ (t5 _ _ (t4 _ _ (t3 _ _ (t2 _ _ e1)))) n1, by decide, by decide, n1⟩
    · exact ⟨a2, [2, 10], rfl, o6 _ _ (t5 _ _ (t4 _ _ (t3 _ _ e2))) n2, by decide, by decide, n2⟩
    · exact ⟨a3, [10, 9], rfl, o6 _ _ (t5 _ _ (t4 _ _ e3)) n3, by decide, by decide, n3⟩
    · exact ⟨a4, [1, 99], rfl, o6 _ _ (t5 _ _ e4) n4, by decide, by decide, n4⟩
  obtain ⟨np, ns, rfl, hnp, nsk, nsl, npb⟩ := pick
  refine ⟨(by show 2 ≤ sizeLine; decide), fun tt htt => ?_⟩
  have s7 := same_new htt (.tup [V.ref h0, V.ref np])
  have htt7 : (upd H6 tt (.tup [V.ref h0, V.ref np])) tt = some (.tup [V.ref h0, V.ref np]) := upd_same
  have B7 := B6.same s7
  have hnp7 := s7 _ _ hnp
  have o47 : But b H4 (upd H6 tt (.tup [V.ref h0, V.ref np])) := (but_of sK).trans (o6.trans (but_of s7))
  have hh7 : (upd H6 tt (.tup [V.ref h0, V.ref np])) h0 = some (.lst []) := s7 _ _ (o6 _ _ (t5 _ _ (t4 _ _ (t3 _ _ (t2 _ _ (t1 _ _ hh5))))) h0b)
  generalize upd H6 tt (.tup [V.ref h0, V.ref np]) = H7 at s7 htt7 B7 hnp7 o47 hh7 ⊢
  refine ⟨tt, _, rfl, .inl (.inl htt7), rfl, _, _, rfl, _, _, rfl, rfl, ?_⟩
  have O7 := syAt_mono (keepB B4 o47) O4
  have hp7 := o47 _ _ hp4 ppb
  have o07 := o04.trans o47
  clear t1 t2 t3 t4 t5 e1 e2 e3 e4 e5 C1 C2 C3 C4 C5 n1 n2 n3 n4 n5 ha1 ha2 ha3 ha4 ha5 o6 hv sK hnp
  obtain ⟨po, qo, vgo, xo, rfl, hpo, hqo, Ao, Ago⟩ := id O7
  have xol := Ao.len
  have pob : po ≠ b := ne_boxT B7 hpo (by intro xs e; cases e)
  have qob : qo ≠ b := ne_boxT B7 hqo (by intro xs e; cases e)
  -- two turns
  refine ⟨2, rfl, by decide, by decide, for_range (lo := 0) (n := 2) (fun n σ H8 => ∃ (x7 x8 x9 : Option V) (hl : Addr) (vsH : List V) (as : List At), σ = [some (.ref b), some (.ref p), some (.ref d), some (.ref pp), some (.ref po), some (.ref hl), some (.ref np), x7, x8, x9, none, none, none, none, none, none, none] ∧
      H8 hl = some (.lst vsH) ∧ hl ≠ b ∧ AtsAt H8 vsH as ∧ as.length ≤ 2 * n ∧ (∀ a ∈ as, AtV ns kvs a) ∧ BoxAt H8 b (j + 310 + 20 * n) ∧ But b H7 H8 ∧
      (n = 0 ∨ ∃ (D : Addr) (bd : Bd) (kv2 : List (Key × V)), x9 = some (.ref D) ∧ H8 D = some (.dK kv2) ∧ DbAt H8 kv2 bd ∧ PutOk ks ns bd))
    ⟨none, none, none, h0, [], [], rfl, hh7, h0b, trivial, by simp, by simp, B7.more (by omega), But.refl _ _, .inl rfl⟩ ?_ ?_⟩
  · rintro n σ H8 hn ⟨x7, x8, x9, hl, vsH, as, rfl, h8, hlb, A8, al, aV, B8, o8, _⟩
    have hp8 := o8 _ _ hp7 ppb
    have hnp8 := o8 _ _ hnp7 npb
    refine ⟨_, rfl, pp, rfl, ⟨_, .inl (.inl hp8)⟩, fun D hD => lc_list (K := K) (a := pp) (xs := ks.map V.int) (fun e H9 => ∃ (ps : List Addr) (bd : Bd), H9 D = some (.lst (ps.map V.ref)) ∧ Paired (PrAt H9) ps bd ∧ bd.map (·.1) = ks.take e ∧ (∀ q ∈ bd, Sm ns q.2 ∧ q.2.size ≤ 3) ∧ BoxAt H9 b (j + 310 + 20 * n + 8 * e) ∧ But b H8 H9)
      ⟨[], [], upd_same, .nil, by simp, by simp, (B8.same (same_new hD _)).more (by omega), but_of (same_new hD _)⟩ (fun e H9 _ ⟨_, _, _, _, _, _, _, o⟩ => .inl (.inl (o _ _ hp8 ppb))) ?_ ?_⟩
    · rintro e y H9 hy ⟨ps, bd, h9, P9, km, f9, B9, o9⟩
      have Db : D ≠ b := ne_box B8 hD
      obtain ⟨k, hk, rfl⟩ : ∃ k, ks[e]? = some k ∧ y = .int k := by
        rw [List.getElem?_map] at hy
        cases hq : ks[e]? with
        | none => rw [hq] at hy; cases hy
        | some k => rw [hq] at hy; exact ⟨k, rfl, by simpa using hy.symm⟩
      have le : e < ks.length := (List.getElem?_eq_some_iff.mp hk).1
      have pl2 := paired_len P9
      have kl := congrArg List.length km
      rw [List.length_map, List.length_take] at kl
      refine ⟨rfl, ?_⟩
      unfold tePt
      refine ⟨_, rfl, _, rfl, _, rfl, b, np, ns, _, 1, rfl, B9, o9 _ _ hnp8 npb, nsk, by omega, npb, by omega, by decide, by omega, fun v t H10 T10 sm sz B10 o10 => ⟨(by show 2 ≤ sizeLine; decide), fun c hc => ?_⟩⟩
      have s11 := same_new hc (.tup [V.int k, v])
      have h11 := s11 _ _ (o10 _ _ h9 Db)
      have cD : c ≠ D := (ne_of_none (o10 _ _ h9 Db) hc).symm
      have u12 : Tups (upd H10 c (.tup [V.int k, v])) (upd (upd H10 c (.tup [V.int k, v])) D (.lst (ps.map V.ref ++ [.ref c]))) := Tups.but (but_upd _) h11
      have u912 := ((Tups.but o10 B9.some.choose_spec).trans (Tups.same s11)).trans u12
      refine ⟨ps.map V.ref, h11, by rw [List.length_map]; omega, ps ++ [c], bd ++ [(k, t)], by rw [upd_same, List.map_append]; rfl, Paired.snoc2 (L2.Paired.mapP P9 fun _ _ z => z.mono u912.1) ⟨v, by rw [upd_ne cD, upd_same], (T10.same s11).mono u12.1⟩, ?_, fun q' hq' => ?_, ((B10.same s11).upd Db _).more (by omega), but_new hD o9 fun x u hx nb => s11 _ _ (o10 _ _ hx nb)⟩
      · rw [List.map_append, km, List.take_add_one, hk]; rfl
      · rcases List.mem_append.mp hq' with hq' | hq'
        · exact f9 q' hq'
        · obtain rfl : q' = (k, t) := by simpa using hq'
          exact ⟨sm, by show t.size ≤ 3; omega⟩
    rintro H9 ⟨ps, bd, h9, P9, km, f9, B9, o9⟩
    rw [List.length_map, List.take_length] at km
    rw [List.length_map] at B9
    obtain ⟨kv2, k1, k2⟩ := pairs_of (K := K) P9
    have kvl := pd_len k2
    have knd : (bd.map (·.1)).Nodup := by
      rw [km]
      exact ksn
    refine ⟨D, ps, kv2, rfl, .inl (.inl h9), k1, fun D2 hD2 => ?_⟩
    have s10 := same_new hD2 (.dK (mergeK [] kv2))
    have hD10 : (upd H9 D2 (.dK (mergeK [] kv2))) D2 = some (.dK (mergeK [] kv2)) := upd_same
    have DB := (dict_of k2 knd).mono (Tups.same s10).1
    have B10 := B9.same s10
    have o810 := o9.trans (but_of s10)
    have PO : PutOk ks ns bd := ⟨fun k hk => by rw [km]; exact hk, fun k t hk => f9 (k, t) (mem_look hk)⟩
    generalize upd H9 D2 (.dK (mergeK [] kv2)) = H10 at s10 hD10 DB B10 o810 ⊢
    have h10 := o810 _ _ h8 hlb
    have A10 : AtsAt H10 vsH as := A8.mono (keepB B8 o810)
    have o710 := o8.trans o810
    have hpo10 := o710 _ _ hpo pob
    have hqo10 := o710 _ _ hqo qob
    have Ao10 : AtsAt H10 xo oy.hs := Ao.mono (keepB B7 o710)
    -- hyps + [..]
    refine ⟨_, rfl, _, rfl, po, _, _, _, rfl, rfl, .inl (.inl hpo10), at_of (j := 0) rfl rfl, qo, rfl, ⟨_, .inl (.inl hqo10)⟩, fun D3 hD3 => lc_tup (K := K) (a := qo) (xs := xo) (fun e H11 => ∃ ys : List V, H11 D3 = some (.lst ys) ∧ AtsAt H11 ys ((oy.hs.take e).map (atPut bd)) ∧ Same H10 H11)
      ⟨[], upd_same, trivial, same_new hD3 _⟩ (fun e H11 _ ⟨_, _, _, s⟩ => .inl (.inl (s _ _ hqo10))) ?_ ?_⟩
    · rintro e y H11 hy ⟨ys, h11, A11, s11⟩
      obtain ⟨t, ht, Tx⟩ := Ao10.get hy
      have tW := hW t (List.mem_of_getElem? ht)
      have le : e < oy.hs.length := (List.getElem?_eq_some_iff.mp ht).1
      have ylen := A11.len
      rw [List.length_map, List.length_take] at ylen
      have tk : oy.hs.take (e + 1) = oy.hs.take e ++ [t] := by rw [List.take_add_one, ht]; rfl
      refine ⟨rfl, ?_⟩
      unfold teHp
      refine ⟨_, rfl, _, rfl, y, D2, bd, _, rfl, s11 _ _ hD10, DB.mono (Tups.same s11).1, .inr ⟨t, by decide, atAt_same Tx s11, tW.ok.two, fun u hu => by have := Tm.deep_lt u; have := tW.sz u hu; omega, fun v' H12 T12 s12 => ?_⟩⟩
      have h12 := s12 _ _ h11
      refine ⟨ys, h12, by omega, ys ++ [v'], upd_same, ?_, fun c o z => by rw [upd_ne (ne_of_none z hD3)]; exact s12 _ _ (s11 _ _ z)⟩
      rw [tk, List.map_append]
      exact ((A11.same s12).mono (keepU h12)).append ⟨atAt_mono (keepU h12) T12, trivial⟩
    · rintro H11 ⟨ys, h11, A11, s11⟩
      rw [xol, List.take_of_length_le (Nat.le_refl _)] at A11
      have ylen := A11.len
      rw [List.length_map] at ylen
      have vlen := A10.len
      refine ⟨hl, D3, vsH, ys, rfl, rfl, s11 _ _ h10, h11, by omega, fun c9 hc9 => ?_⟩
      have s12 := same_new hc9 (.lst (vsH ++ ys))
      have s1012 := s11.trans s12
      refine ⟨_, _, _, c9, vsH ++ ys, as ++ oy.hs.map (atPut bd), rfl, upd_same, ne_box (B10.same s11) hc9, (A10.same s1012).append (A11.same s12), by rw [List.length_append, List.length_map]; omega, fun a ha => ?_, (B10.same s1012).more (by omega), o710.trans (but_of s1012), .inr ⟨D2, bd, _, rfl, s1012 _ _ hD10, DB.mono (Tups.same s1012).1, PO⟩⟩
      rcases List.mem_append.mp ha with ha | ha
      · exact aV a ha
      · obtain ⟨t, ht, rfl⟩ := List.mem_map.mp ha
        exact (hW t ht).put PO
  rintro σ H8 ⟨x7, x8, x9, hl, vsH, as, rfl, h8, hlb, A8, al, aV, B8, o8, z⟩
  obtain ⟨D, bd, kv2, rfl, hD, DB, PO⟩ := z.resolve_left (by decide)
  have hpo8 := o8 _ _ hpo pob
  have Ago8 : AtAt H8 vgo oy.gl := atAt_mono (keepB B7 o8) Ago
  have O8 := syAt_mono (keepB B7 o8) O7
  have vl8 := A8.len
  -- the saying
  refine ⟨_, rfl, .inl ⟨hl, vsH, as, rfl, h8, A8, AtsOk.mk (by omega) (fun a ha => (aV a ha).ok.more (by decide)), fun g ys H9 hg A9 s9 => ⟨4, rfl, slP_ok hg fun p2 H10 hp2 s10 => ?_⟩⟩⟩
  have e4 : cutV ys none (some (4 : Int)) = ys.take 4 := cut_to 4
  rw [e4] at hp2
  have s810 := s9.trans s10
  refine ⟨_, rfl, po, _, _, _, rfl, rfl, .inl (.inl (s810 _ _ hpo8)), at_of (j := 1) rfl rfl, _, rfl, vgo, D, bd, _, rfl, s810 _ _ hD, DB.mono (Tups.same s810).1, .inr ⟨oy.gl, by decide, atAt_same Ago8 s810, gW.ok.two, fun u hu => by have := Tm.deep_lt u; have := gW.sz u hu; omega, fun gv H11 G11 s11 => ⟨(by show 2 ≤ sizeLine; decide), fun sa hsa => ?_⟩⟩⟩
  have s12 := same_new hsa (.tup [V.ref p2, gv])
  have hsa12 : (upd H11 sa (.tup [V.ref p2, gv])) sa = some (.tup [V.ref p2, gv]) := upd_same
  have s812 := s810.trans (s11.trans s12)
  have hp12 : (upd H11 sa (.tup [V.ref p2, gv])) p2 = some (.tup (ys.take 4)) := s12 _ _ (s11 _ _ hp2)
  have A12 : AtsAt (upd H11 sa (.tup [V.ref p2, gv])) (ys.take 4) ((unl as).take 4) := AtsAt.take 4 (A9.same (s10.trans (s11.trans s12)))
  have G12 : AtAt (upd H11 sa (.tup [V.ref p2, gv])) gv (atPut bd oy.gl) := atAt_same G11 s12
  generalize upd H11 sa (.tup [V.ref p2, gv]) = H12 at s12 hsa12 s812 hp12 A12 G12 ⊢
  have O12 := O8.same s812
  have hsV : ∀ a ∈ (unl as).take 4, AtV ns kvs a := fun a ha => aV a (mem_unl (List.mem_of_mem_take ha))
  have hsn : ((unl as).take 4).Nodup := List.Sublist.nodup (List.take_sublist _ _) (unl_nd as)
  have hsl : ((unl as).take 4).length ≤ 4 := by rw [List.length_take]; omega
  have gV : AtV ns kvs (atPut bd oy.gl) := gW.put PO
  generalize (unl as).take 4 = hs at A12 hsV hsn hsl
  generalize ys.take 4 = us at hp12 A12
  generalize atPut bd oy.gl = gl at G12 gV
  have syV : SyV ns ⟨hs, gl⟩ := syV_of hsn (by show hs.length ≤ 6; omega) hsV gV nsl
  have S12 : SyAt H12 (.ref sa) ⟨hs, gl⟩ := ⟨sa, p2, gv, us, rfl, hsa12, hp12, A12, G12⟩
  -- before
  refine ⟨_, rfl, _, rfl, (by show 2 ≤ sizeLine; decide), fun l1 hl1 => ?_⟩
  have s13 := same_new hl1 (.lst [V.ref sa, V.ref po])
  obtain ⟨d1, d2, d3, d4, d5⟩ := two_shown (K := K) (S12.same s13) syV (O12.same s13) ovV (upd_same : (upd H12 l1 (.lst [V.ref sa, V.ref po])) l1 = _)
  refine ⟨_, _, rfl, d1, d2, d3, d4, d5, ?_⟩
  have hsa13 := s13 _ _ hsa12
  have hp13 := s13 _ _ hp12
  have A13 := A12.same s13
  have G13 := atAt_same G12 s13
  have s813 := s812.trans s13
  generalize upd H12 l1 (.lst [V.ref sa, V.ref po]) = H13 at s13 d1 hsa13 hp13 A13 G13 s813 ⊢
  -- longer
  refine ⟨_, rfl, sa, _, _, _, rfl, rfl, .inl (.inl hsa13), at_of (j := 0) rfl rfl, _, rfl, sa, _, _, _, rfl, rfl, .inl (.inl hsa13), at_of (j := 0) rfl rfl, 1, rfl, slP_ok hp13 fun p3 H14 hp14 s14 => ?_⟩
  have e1 : cutV us none (some (1 : Int)) = us.take 1 := cut_to 1
  rw [e1] at hp14
  have A14 : AtsAt H14 (us.take 1) (hs.take 1) := AtsAt.take 1 (A13.same s14)
  have a1l := A14.len
  have h1l : (hs.take 1).length ≤ 1 := by rw [List.length_take]; omega
  have hsV1 : ∀ a ∈ hs.take 1, AtV ns kvs a := fun a ha => hsV a (List.mem_of_mem_take ha)
  have hlong : longHs hs = hs ++ ((hs.take 1).filter fun a : At => decide (a.ts.length = 1)).map grow := rfl
  generalize us.take 1 = us1 at hp14 A14 a1l
  generalize hs.take 1 = hs1 at A14 a1l h1l hsV1 hlong
  refine ⟨p3, rfl, ⟨_, .inl (.inl hp14)⟩, fun D4 hD4 => lc_tup (K := K) (a := p3) (xs := us1) (fun e H15 => ∃ zs : List V, H15 D4 = some (.lst zs) ∧ AtsAt H15 zs (((hs1.take e).filter fun a : At => decide (a.ts.length = 1)).map grow) ∧ Same H14 H15)
    ⟨[], upd_same, trivial, same_new hD4 _⟩ (fun e H15 _ ⟨_, _, _, s⟩ => .inl (.inl (s _ _ hp14))) ?_ ?_⟩
  · rintro e y H15 hy ⟨zs, h15, A15, s15⟩
    obtain ⟨t, ht, Tx⟩ := A14.get hy
    obtain ⟨pa, ks3, rfl, hpa, Ak⟩ := atAt_same Tx s15
    have kl := Ak.len
    have tV := hsV1 t (List.mem_of_getElem? ht)
    have le : e < hs1.length := (List.getElem?_eq_some_iff.mp ht).1
    have zl := A15.len
    have zl2 : zs.length ≤ 1 := by
      rw [zl, List.length_map]
      have := List.length_filter_le (fun a : At => decide (a.ts.length = 1)) (hs1.take e)
      rw [List.length_take] at this
      omega
    have tk : hs1.take (e + 1) = hs1.take e ++ [t] := by rw [List.take_add_one, ht]; rfl
    refine ⟨rfl, ?_⟩
    unfold ttLo teLo
    refine ⟨_, rfl, pa, _, rfl, .inr (.inl (.inl hpa)), rfl, decide (t.ts.length = 1), ?_, ?_⟩
    · by_cases e1 : t.ts.length = 1
      · rw [decide_eq_true e1, decide_eq_true (by simp only [List.length_cons, kl, e1]; rfl)]
      · rw [decide_eq_false e1, decide_eq_false fun z => e1 (by injection z with z; simp only [List.length_cons] at z; omega)]
    by_cases e1 : t.ts.length = 1
    · rw [decide_eq_true e1]
      refine iteT ⟨_, rfl, (by show 1 ≤ sizeLine; decide), fun z1 hz1 => ?_⟩
      have s16 := same_new hz1 (.tup [V.str "0"])
      have hz16 : (upd H15 z1 (.tup [V.str "0"])) z1 = some (.tup [V.str "0"]) := upd_same
      generalize upd H15 z1 (.tup [V.str "0"]) = H16 at s16 hz16 ⊢
      refine ⟨(by show 1 ≤ sizeLine; decide), fun z2 hz2 => ?_⟩
      have s17 := same_new hz2 (.tup [V.ref z1])
      have two7 := tV.ok.two
      refine catP_ok (s17 _ _ (s16 _ _ hpa)) upd_same (by simp only [List.length_cons, List.length_nil]; omega) fun p' H18 hp' s18 => ?_
      have s1518 := s16.trans (s17.trans s18)
      have h18 := s1518 _ _ h15
      refine ⟨zs, h18, by omega, zs ++ [.ref p'], upd_same, ?_, fun c o z => by rw [upd_ne (ne_of_none z hD4)]; exact s1518 _ _ (s15 _ _ z)⟩
      have e2 : ((hs1.take (e + 1)).filter fun a : At => decide (a.ts.length = 1)).map grow = ((hs1.take e).filter fun a : At => decide (a.ts.length = 1)).map grow ++ [grow t] := by
        rw [tk, List.filter_append, List.map_append]
        have : ([t] : List At).filter (fun a => decide (a.ts.length = 1)) = [t] := by rw [List.filter_cons, decide_eq_true e1]; rfl
        rw [this]; rfl
      rw [e2]
      refine ((A15.same s1518).mono (keepU h18)).append ⟨atAt_mono (keepU h18) ⟨p', ks3 ++ [.ref z1], rfl, (show H18 p' = some (.tup (V.str (grow t).nm :: (ks3 ++ [V.ref z1]))) from hp'), ?_⟩, trivial⟩
      exact (Ak.mono fun _ _ z => s1518 _ _ z).append ⟨.z (s18 _ _ (s17 _ _ hz16)), trivial⟩
    · rw [decide_eq_false e1]
      refine iteF ⟨zs, h15, ?_, s15⟩
      have e2 : (hs1.take (e + 1)).filter (fun a => decide (a.ts.length = 1)) = (hs1.take e).filter fun a : At => decide (a.ts.length = 1) := by
        rw [tk, List.filter_append]
        have : ([t] : List At).filter (fun a => decide (a.ts.length = 1)) = [] := by rw [List.filter_cons, decide_eq_false e1]; rfl
        rw [this, List.append_nil]
      rw [e2]
      exact A15
  rintro H15 ⟨zs, h15, A15, s15⟩
  rw [a1l, List.take_of_length_le (Nat.le_refl _)] at A15
  have s1315 := s14.trans s15
  have usl := A13.len
  have zl := A15.len
  have zl2 : zs.length ≤ 1 := by
    rw [zl, List.length_map]
    have := List.length_filter_le (fun a : At => decide (a.ts.length = 1)) hs1
    omega
  refine ⟨D4, zs, rfl, .inl ⟨.inl (.inl h15), fun l3 hl3 => ?_⟩⟩
  have s16 := same_new hl3 (.tup zs)
  have hl16 : (upd H15 l3 (.tup zs)) l3 = some (.tup zs) := upd_same
  have A16 := A15.same s16
  generalize upd H15 l3 (.tup zs) = H16 at s16 hl16 A16 ⊢
  have s1316 := s1315.trans s16
  refine catP_ok (s1316 _ _ hp13) hl16 (by omega) fun p5 H17 hp17 s17 => ?_
  have s1317 := s1316.trans s17
  have A17 : AtsAt H17 (us ++ zs) (longHs hs) := by rw [hlong]; exact (A13.same s1317).append (A16.same s17)
  refine ⟨_, rfl, sa, _, _, _, rfl, rfl, .inl (.inl (s1317 _ _ hsa13)), at_of (j := 1) rfl rfl, (by show 2 ≤ sizeLine; decide), fun la hla => ?_⟩
  have s18 := same_new hla (.tup [V.ref p5, gv])
  have hla18 : (upd H17 la (.tup [V.ref p5, gv])) la = some (.tup [V.ref p5, gv]) := upd_same
  have lV : SyV ns ⟨longHs hs, gl⟩ := long_ok (s := ⟨hs, gl⟩) hsn hsl hsV gV nsl
  have L18 : SyAt (upd H17 la (.tup [V.ref p5, gv])) (.ref la) ⟨longHs hs, gl⟩ := ⟨la, p5, gv, us ++ zs, rfl, hla18, s18 _ _ hp17, A17.same s18, atAt_same G13 (s1317.trans s18)⟩
  have s1318 := s1317.trans s18
  have s818 := s813.trans s1318
  have S18 := (S12.same s13).same s1318
  have O18 := O8.same s818
  have B18 := B8.same s818
  generalize upd H17 la (.tup [V.ref p5, gv]) = H18 at s18 hla18 L18 s1318 s818 S18 O18 B18 ⊢
  clear hlong
  -- the pairs
  refine ⟨_, rfl, _, rfl, (by show 2 ≤ sizeLine; decide), fun q1 hq1 => ?_⟩
  have u1 := same_new hq1 (.tup [V.ref sa, V.ref po])
  have k1 : (upd H18 q1 (.tup [V.ref sa, V.ref po])) q1 = some (.tup [V.ref sa, V.ref po]) := upd_same
  generalize upd H18 q1 (.tup [V.ref sa, V.ref po]) = K1 at u1 k1 ⊢
  refine ⟨_, rfl, _, rfl, (by show 2 ≤ sizeLine; decide), fun q2 hq2 => ?_⟩
  have u2 := same_new hq2 (.tup [V.ref po, V.ref sa])
  have k2 : (upd K1 q2 (.tup [V.ref po, V.ref sa])) q2 = some (.tup [V.ref po, V.ref sa]) := upd_same
  generalize upd K1 q2 (.tup [V.ref po, V.ref sa]) = K2 at u2 k2 ⊢
  refine ⟨_, rfl, _, rfl, (by show 2 ≤ sizeLine; decide), fun q3 hq3 => ?_⟩
  have u3 := same_new hq3 (.tup [V.ref sa, V.ref sa])
  have k3 : (upd K2 q3 (.tup [V.ref sa, V.ref sa])) q3 = some (.tup [V.ref sa, V.ref sa]) := upd_same
  generalize upd K2 q3 (.tup [V.ref sa, V.ref sa]) = K3 at u3 k3 ⊢
  refine ⟨_, rfl, _, rfl, (by show 2 ≤ sizeLine; decide), fun q4 hq4 => ?_⟩
  have u4 := same_new hq4 (.tup [V.ref la, V.ref po])
  have k4 : (upd K3 q4 (.tup [V.ref la, V.ref po])) q4 = some (.tup [V.ref la, V.ref po]) := upd_same
  generalize upd K3 q4 (.tup [V.ref la, V.ref po]) = K4 at u4 k4 ⊢
  refine ⟨_, rfl, _, rfl, (by show 2 ≤ sizeLine; decide), fun q5 hq5 => ?_⟩
  have u5 := same_new hq5 (.tup [V.ref sa, V.ref la])
  have k5 : (upd K4 q5 (.tup [V.ref sa, V.ref la])) q5 = some (.tup [V.ref sa, V.ref la]) := upd_same
  generalize upd K4 q5 (.tup [V.ref sa, V.ref la]) = K5 at u5 k5 ⊢
  refine ⟨(by show 5 ≤ sizeLine; decide), fun q0 hq0 => ?_⟩
  have u6 := same_new hq0 (.tup [V.ref q1, V.ref q2, V.ref q3, V.ref q4, V.ref q5])
  have k6 : (upd K5 q0 (.tup [V.ref q1, V.ref q2, V.ref q3, V.ref q4, V.ref q5])) q0 = some (.tup [V.ref q1, V.ref q2, V.ref q3, V.ref q4, V.ref q5]) := upd_same
  generalize upd K5 q0 (.tup [V.ref q1, V.ref q2, V.ref q3, V.ref q4, V.ref q5]) = K6 at u6 k6 ⊢
  have u16 : Same H18 K6 := u1.trans (u2.trans (u3.trans (u4.trans (u5.trans u6))))
  have SK := S18.same u16
  have OK := O18.same u16
  have LK := L18.same u16
  have pairs : ∀ x ∈ [V.ref q1, V.ref q2, V.ref q3, V.ref q4, V.ref q5], PairOk K6 x := by
    intro x hx
    simp only [List.mem_cons, List.not_mem_nil, or_false] at hx
    rcases hx with rfl | rfl | rfl | rfl | rfl
    · exact ⟨_, _, _, _, _, _, _, rfl, u6 _ _ (u5 _ _ (u4 _ _ (u3 _ _ (u2 _ _ k1)))), SK, syV, OK, ovV⟩
    · exact ⟨_, _, _, _, _, _, _, rfl, u6 _ _ (u5 _ _ (u4 _ _ (u3 _ _ k2))), OK, ovV, SK, syV⟩
    · exact ⟨_, _, _, _, _, _, _, rfl, u6 _ _ (u5 _ _ (u4 _ _ k3)), SK, syV, SK, syV⟩
    · exact ⟨_, _, _, _, _, _, _, rfl, u6 _ _ (u5 _ _ k4), LK, lV, OK, ovV⟩
    · exact ⟨_, _, _, _, _, _, _, rfl, u6 _ _ k5, SK, syV, LK, lV⟩
  generalize hits : [V.ref q1, V.ref q2, V.ref q3, V.ref q4, V.ref q5] = its at k6 pairs ⊢
  have s8K := s818.trans u16
  have BK := B18.same u16
  have hT7 : TabsN T H7 := tabs_but hT B.some.choose_spec o07
  have hTK : TabsN T K6 := (tabs_but hT7 B7.some.choose_spec o8).ext s8K
  clear k1 k2 k3 k4 k5 u1 u2 u3 u4 u5 u6 hq1 hq2 hq3 hq4 hq5
  refine ⟨q0, rfl, ⟨_, .inl (.inl k6)⟩, for_tup (K := K) (a := q0) (xs := its) (fun i σ H19 => ∃ (y3 y5 y6 y7 y8 y9 y12 y13 y14 y15 y16 : Option V), σ = [some (.ref b), some (.ref p), some (.ref d), y3, some (.ref po), y5, y6, y7, y8, y9, some (.ref sa), some (.str (PyData.list [syD ⟨hs, gl⟩, syD oy]).shown), y12, y13, y14, y15, y16] ∧ ExtL T K6 H19)
    ⟨_, _, _, _, _, _, _, _, _, _, _, rfl, ⟨ExtN.refl _, hTK⟩⟩ (fun i σ H19 _ ⟨_, _, _, _, _, _, _, _, _, _, _, _, e⟩ => .inl (.inl (e.ext _ _ k6 fun _ z => by cases z))) ?_ ?_⟩
  · rintro i x σ H19 hi ⟨y3, y5, y6, y7, y8, y9, y12, y13, y14, y15, y16, rfl, e19⟩
    have tup19 : ∀ a xs, K6 a = some (.tup xs) → H19 a = some (.tup xs) := fun a xs z => e19.ext _ _ z fun _ z => by cases z
    obtain ⟨c, u, v, s1', o1', n1, m1, rfl, hc, Su, sV, Sv, oV⟩ := pairs x (List.mem_of_getElem? hi)
    have Su19 := syAt_mono tup19 Su
    have Sv19 := syAt_mono tup19 Sv
    refine ⟨c, _, rfl, .inl (.inl (tup19 _ _ hc)), rfl, _, _, rfl, _, _, rfl, rfl, ?_⟩
    refine ⟨_, rfl, _, rfl, u, v, s1', o1', rfl, Su19, sV.ok, Sv19, oV.ok, sV.h7, sV.g7, oV.h7, oV.g7, oV.two, e19.tab, fun ld vsd L1 H20 hld told1 few1 P1 e20 => ?_⟩
    have tup20 : ∀ a xs, H19 a = some (.tup xs) → H20 a = some (.tup xs) := fun a xs z => e20.ext _ _ z fun _ z => by cases z
    have Su20 := syAt_mono tup20 Su19
    have Sv20 := syAt_mono tup20 Sv19
    refine ⟨2, rfl, by decide, by decide, for_range (lo := 0) (n := 2) (fun n σ H21 => ∃ (z7 z15 : Option V), σ = [some (.ref b), some (.ref p), some (.ref d), y3, some (.ref po), y5, y6, z7, some u, y9, some (.ref sa), some (.str (PyData.list [syD ⟨hs, gl⟩, syD oy]).shown), y12, some v, some (.ref ld), z15, y16] ∧ Same H20 H21)
      ⟨_, _, rfl, Same.refl _⟩ ?_ ?_⟩
    · rintro n σ H21 hn ⟨z7, z15, rfl, s21⟩
      refine ⟨_, rfl, _, rfl, u, v, s1', o1', rfl, Su20.same s21, sV.ok, Sv20.same s21, oV.ok, fun a ha => (sV.h7 a ha).more (by decide), sV.g7.more (by decide), fun a ha => (oV.h7 a ha).more (by decide), oV.g7.more (by decide), fun lf vsf L2 H22 hlf hlf' told2 P2 s22 => ?_⟩
      have eL : sortB L2 = sortB L1 := told_one told2 told1
      rw [eL] at P2
      have s2022 := s21.trans s22
      have fl := pd_len P2
      rw [sortB_len] at fl
      have al := rows_alike hlf' (s2022 _ _ hld) P2 (pd_mono (fun _ _ z => biAt_same z s2022) P1) (fun p hp => told1.ok p ((List.mergeSort_perm L1 leB).mem_iff.mp hp)) (by rw [sortB_len]; omega)
      refine ⟨_, rfl, _, rfl, .ref lf, .ref ld, 43, rfl, rfl, al, fun H23 s23 => ⟨_, rfl, iteF ?_⟩⟩
      have h23 := s23 _ _ hlf'
      refine ⟨_, rfl, .inl ⟨rfl, _, .inl (.inl h23)⟩, (by show 0 ≤ sizeLine; decide), fun e0 he0 => ?_⟩
      have s24 := same_new he0 (.tup ([] : List V))
      refine ⟨lf, vsf, .ref e0, rfl, rfl, s24 _ _ h23, by omega, ?_⟩
      exact ⟨_, _, rfl, fun c o z => by rw [upd_ne (ne_of_none (s21 _ _ z) hlf)]; exact s24 _ _ (s23 _ _ (s2022 _ _ z))⟩
    · rintro σ H21 ⟨z7, z15, rfl, s21⟩
      exact ⟨_, _, _, _, _, _, _, _, _, _, _, rfl, ⟨e19.ext.trans (e20.ext.trans (ExtN.of s21)), e20.tab.ext s21⟩⟩
  rintro σ H19 ⟨y3, y5, y6, y7, y8, y9, y12, y13, y14, y15, y16, rfl, e19⟩
  have tup19 : ∀ a xs, K6 a = some (.tup xs) → H19 a = some (.tup xs) := fun a xs z => e19.ext _ _ z fun _ z => by cases z
  have S19 := syAt_mono tup19 SK
  have O19 := syAt_mono tup19 OK
  refine ⟨_, rfl, _, rfl, (by show 2 ≤ sizeLine; decide), fun l2 hl2 => ?_⟩
  have s20 := same_new hl2 (.lst [V.ref sa, V.ref po])
  obtain ⟨f1, f2, f3, f4, f5⟩ := two_shown (K := K) (S19.same s20) syV (O19.same s20) ovV (upd_same : (upd H19 l2 (.lst [V.ref sa, V.ref po])) l2 = _)
  refine ⟨_, _, rfl, f1, f2, f3, f4, f5, _, rfl, rfl, ?_⟩
  rw [decide_eq_true rfl]
  have o0K : But b H K6 := o07.trans (o8.trans (but_of s8K))
  obtain ⟨bx, hbx⟩ := BK.some
  refine q _ (((boxAt_ext BK e19.ext).same s20).more (by omega)) ⟨fun c o z n1 n2 => s20 _ _ (e19.ext _ _ (o0K _ _ z n1) n2), e19.tab.ext s20⟩
end
end Rp

set_option maxHeartbeats 16000000
/-! The law k25. -/
namespace Rp
open PySem PySem.Spec PyProof.Rows L2 TL StX NdefX LamX
def spLaw (T : List NTab) (K : PySem.W.Frag) : Sp := fun vs H Q _ => ∃ (a : Addr) (ns : List Int), vs = [.ref a] ∧ SqL K H a (ns.map V.int) ∧ ns.length ≤ 63 ∧ TabsN T H ∧ ∀ H', Q (.bl true) H'
abbrev NLw : List Str := ["_law_script", "_law_k", "_law_box_here", "_law_words", "_law_shapes_here", "_law_rules_here", "_law_turn"]
def teRt (T : List NTab) : TE := tCall (spRightL T) [] E0 (tCons (tVar 2) (tCons (tVar 3) (tCons (tVar 4) tNil)))
theorem fnB {P : Program} {w : World} {K : PySem.W.Frag} {mg : Str → Option Value} {base : Heap} {k : Nat} {f : Addr} {fd : FuncData} {ps : List Str} (G : FnOk P w K mg base CX0 k f fd ps spUnlikeB) : FnOk P w K mg base CX0 k f fd ps spUnlikeL :=
  ⟨fun vs H Q E h => G.len vs H Q E (.inl h), fun A outer s H args us vs Q E hr e0 hb r h => G.run A outer s H args us vs Q E hr e0 hb r (.inl h)⟩
section
variable {P : Program} {w : World} {K : PySem.W.Frag} {mg : Str → Option Value} {base : Heap}
theorem ok_sayinglB {f fT fA fU : Addr} {fd dT dA dU : FuncData} (F : Fun K "_law_saying" "_law_saying" sSayingL f fd)
    (GT : FnOk P w K mg base CX0 1 fT dT ["_law_box_here", "_law_reach"] spTake) (kT : PySem.W.keepIn K (.ref fT) = true) (bT : Binds K dT ["_law_box_here", "_law_reach"] []) (mT : mg "_law_take" = some (.ref fT))
    (GA : FnOk P w K mg base CX0 6 fA dA ["_law_box_here", "_law_shapes_here", "_law_names_here", "_law_pool", "_law_deep"] spAtomL) (kA : PySem.W.keepIn K (.ref fA) = true) (bA : Binds K dA ["_law_box_here", "_law_shapes_here", "_law_names_here", "_law_pool", "_law_deep"] []) (mA : mg "_law_atom" = some (.ref fA))
    (GU : FnOk P w K mg base CX0 1 fU dU ["_law_atoms"] spUnlikeB) (kU : PySem.W.keepIn K (.ref fU) = true) (bU : Binds K dU ["_law_atoms"] []) (mU : mg "_law_unlike" = some (.ref fU))
    (mRange : mg "range" = none) : FnOk P w K mg base CX0 7 f fd ["_law_box_here", "_law_shapes_here", "_law_names_here", "_law_pool", "_law_count"] spSayingL := ok_sayingl F GT kT bT mT GA kA bA mA (fnB GU) kU bU mU mRange
theorem scLaw : FnScope NLw ["_law_script"] (defScope sLaw) := ⟨rfl, rfl, rfl, by decide +kernel, rfl, by decide +kernel, by decide +kernel⟩
theorem ok_law {T : List NTab} {f fB fG fR : Addr} {fd dB dG dR : FuncData} (F : Fun K "law" "law" sLaw f fd)
    (GB : FnOk P w K mg base CX0 1 fB dB ["_law_script", "_law_k"] (spBox K)) (kB : PySem.W.keepIn K (.ref fB) = true) (bB : Binds K dB ["_law_script", "_law_k"] []) (mB : mg "_law_box" = some (.ref fB))
    (GG : FnOk P w K mg base CX0 5 fG dG ["_law_box_here", "_law_count"] spBegin) (kG : PySem.W.keepIn K (.ref fG) = true) (bG : Binds K dG ["_law_box_here", "_law_count"] []) (mG : mg "_law_begin" = some (.ref fG))
    (GR : GnOk P w K mg base 66 fR dR ["_law_box_here", "_law_words", "_law_shapes_here"] (spRightL T)) (kR : PySem.W.keepIn K (.ref fR) = true) (bR : Binds K dR ["_law_box_here", "_law_words", "_law_shapes_here"] []) (mR : mg "_law_right" = some (.ref fR))
    (mRange : mg "range" = none) (mMax : mg "max" = none) (mMin : mg "min" = none) (mLen : mg "len" = none) (mAll : mg "all" = none) : GnOk P w K mg base 67 f fd ["_law_script"] (spLaw T K) := by
  refine gok F scLaw (fun vs H Q E h => ?_) (fun cdv A outer s H vs Q E hg hr h => ?_)
  · obtain ⟨a, ns, rfl, _⟩ := h
    rfl
  obtain ⟨a, ns, rfl, hS, hl, hT, q⟩ := h
  have r1 : Room 1 _ := hr.mono (by decide)
  have r5 : Room 5 _ := hr.mono (by decide)
  refine ⟨_, pss_cons (ps_for PassesOwn.never rfl (pi_range1 (by rfl) mRange (pa_cons (pe_callB (call_max2 rfl) (by rfl) mMax (by decide +kernel) (pa_cons pe_int (pa_cons (pe_callB (call_min2 rfl) (by rfl) mMin (by decide +kernel) (pa_cons pe_int (pa_cons (pe_callB call_len_seq (by rfl) mLen PySem.boot_len (pa_cons (pv 0) pa_nil)) pa_nil))) pa_nil))) pa_nil)) (pg_name (i := 1) scLaw.nd rfl (Or.inl rfl)) (pss_cons (ps_set (i := 2) scLaw.nd rfl (Or.inr rfl) (pe_call GB r1 rfl mB kB bB .nil pass0 (pa_cons (pv 0) (pa_cons (pv 1) pa_nil)))) (pss_cons (ps_asg (pe_call GG r5 rfl mG kG bG .nil pass0 (pa_cons (pv 2) (pa_cons pe_int pa_nil))) (pg_tup (by rfl) (pgs_cons (pg_name (i := 3) scLaw.nd rfl (Or.inr rfl)) (pgs_cons (pg_name (i := 4) scLaw.nd rfl (Or.inr rfl)) (pgs_cons (pg_name (i := 5) scLaw.nd rfl (Or.inl rfl)) pgs_nil))))) (pss_one (ps_if (pt_not (pt_val (pe_callB (cr_all rfl) (by rfl) mAll (by decide +kernel) (pa_cons (pe_lc (own := [("_law_turn", 6)]) (g := gName 6) (tt := tYes) (te := teRt T) rfl scLaw.nd (pi_range1 (by rfl) mRange (pa_cons pe_int pa_nil)) (blkOk_by (N := NLw) (sc := defScope sLaw) (by decide +kernel)) (fun _ _ _ _ _ => (pg_name (i := 6) scLaw.nd rfl (Or.inl rfl))) (fun _ _ _ _ _ => pts_nil) (fun _ _ _ _ _ => pe_callG GR hg hr (by rfl) mR kR bR (pa_cons (pv 2) (pa_cons (pv 3) (pa_cons (pv 4) pa_nil))))) pa_nil)))) (pss_one (ps_ret pe_bl)) pss_nil)))))
    (pss_one (ps_ret pe_bl)), ?_⟩
  have big : (10000 : Nat) ≤ sizeLine := by decide
  have lim : ∀ n : Int, 0 ≤ n → 0 ≤ (if (if n < 3 then n else 3) > (1 : Int) then (if n < 3 then n else 3) else 1) ∧ (if (if n < 3 then n else 3) > (1 : Int) then (if n < 3 then n else 3) else 1) ≤ 3 := by
    intro n hn
    split <;> split <;> omega
  have lim2 := lim (((ns.map V.int).length : Nat) : Int) (by omega)
  refine ⟨_, rfl, a, _, rfl, .inl hS, _, _, rfl, _, _, rfl, _, rfl, by omega, by omega, for_range (lo := 0) (fun i σ H3 => ∃ (y1 y2 y3 y4 y5 y6 : Option V), σ = [some (.ref a), y1, y2, y3, y4, y5, y6] ∧ SqL K H3 a (ns.map V.int) ∧ TabsN T H3)
    ⟨_, _, _, _, _, _, rfl, hS, hT⟩ ?_ (fun σ H3 ⟨_, _, _, _, _, _, e, _⟩ => q H3)⟩
  rintro i σ H3 hi ⟨y1, y2, y3, y4, y5, y6, rfl, hS3, hT3⟩
  have i6 : (i : Int) < 3 := by omega
  clear lim lim2 hS hT
  refine ⟨_, rfl, _, rfl, a, ns, _, rfl, hS3, hl, by omega, by omega, fun b H4 hb B4 s4 => ?_⟩
  refine ⟨_, rfl, b, _, 1, rfl, by decide, by decide, B4, by decide, fun t d p r ws kvs H5 ht5 W5 wo B5 o5 => ?_⟩
  refine ⟨t, _, rfl, .inl (.inl ht5), rfl, _, _, rfl, _, _, rfl, _, _, rfl, rfl, ?_⟩
  have hT5 : TabsN T H5 := tabs_but (hT3.ext s4) B4.some.choose_spec o5
  have db : d ≠ b := ne_boxT B5 W5.hd (by intro xs e; cases e)
  refine ⟨3, rfl, by decide, by decide, fun D hD => lc_range (lo := 0) (fun e H6 => H6 D = some (.lst (List.replicate e (V.bl true))) ∧ BoxAt H6 b (270 + 2000 * e) ∧ TabsN T H6 ∧ ∀ c o, H5 c = some o → c ≠ b → (∀ ps, o ≠ .tbl ps) → H6 c = some o)
    ⟨upd_same, (B5.same (same_new hD _)).more (by omega), hT5.ext (same_new hD _), fun c o z _ _ => same_new hD _ _ _ z⟩ ?_ ?_⟩
  · rintro e H6 he ⟨h6, B6, T6, keep⟩
    have he : e < 3 := he
    have Db : D ≠ b := ne_box B5 hD
    have W6 : Wsh H6 b d p ws kvs := ⟨keep _ _ W5.hd db (fun _ z => by cases z), W5.sh, keep _ _ W5.hp W5.pb (fun _ z => by cases z), W5.pb, W5.one, W5.four⟩
    refine ⟨rfl, ?_⟩
    unfold teRt
    refine ⟨_, rfl, _, rfl, _, rfl, b, p, d, ws, kvs, _, rfl, B6, W6, wo, by omega, T6, fun H7 B7 e7 => ?_⟩
    have h7 := e7.ext _ _ h6 Db (fun _ z => by cases z)
    refine ⟨_, h7, by rw [List.length_replicate]; omega, ?_, (B7.upd Db _).more (by omega), tabs_but e7.tab h7 (but_upd _), fun c o z n m => ?_⟩
    · rw [upd_same, ← List.replicate_succ']
    · rw [upd_ne (ne_of_none z hD)]
      exact e7.ext _ _ (keep _ _ z n m) n m
  · rintro H6 ⟨h6, B6, T6, keep⟩
    refine ⟨D, List.replicate 3 true, rfl, .inl (.inl (by rw [List.map_replicate]; exact h6)), _, rfl, iteF ?_⟩
    refine ⟨_, _, _, _, _, _, rfl, ?_, T6⟩
    have keep2 : ∀ o, H3 a = some o → (∀ ps, o ≠ .tbl ps) → H6 a = some o := fun o z m => by
      have nb := ne_of_none z hb
      exact keep _ _ (o5 _ _ (s4 _ _ z) nb) nb m
    rcases hS3 with (z | ⟨o, z⟩) | z
    · exact .inl (.inl (keep2 _ z fun ps e => by cases e))
    · exact .inl (.inr ⟨o, keep2 _ z fun ps e => by cases e⟩)
    · exact .inr z
end
end Rp

/-! The end of a law whose promise is a GnOk, and in whose run a def within a def is made: its table of code objects is tracked. -/
namespace Rp
open PySem PySem.Spec PyProof.Rows L2 LamX NdefX
/-- the law's own call; Pt: the table of the def that makes the inner one -/
theorem law_callGT {Pr : Program} {w : World} {K : PySem.W.Frag} {mg mb : Str → Option Value} {k : Nat} {fa a c Pt : Addr} {fd : FuncData} {x : Str} {sp : Sp} {s₁ : Shared} {vs : List Value} {ns : List Int}
    (KX : K.In s₁.heap) (hns : s₁.heap.Ns mainGlobals mg) (hb : s₁.heap.Ns builtinsNs mb) (hbb : ∀ x : Str, x ≠ "__name__" → mb x = bootBuiltins x) (hlim : s₁.heap.NoLimit) (hg : s₁.gens = #[])
    (hT : s₁.heap.get? Pt = some { cls := .none, data := .fields #[] }) (nT : K.lookup Pt = none) (C : PySem.W.CodeHd s₁.heap c Pt)
    (hbm : ∃ (bm : Addr) (ob : Obj), mg "__builtins__" = some (.ref bm) ∧ bm ≠ builtinsNs ∧ s₁.heap.get? bm = some ob ∧ ob.cls = .type "module" ∧ ob.dict = some builtinsNs ∧ ob.data = .plain)
    (ha : s₁.heap.get? a = some { cls := .type "list", data := .seq vs.toArray }) (hi : IntsAre vs ns) (hl : ns.length ≤ sizeLine) (hr : Room k callerA)
    (F : ∀ base : Heap, K.In base → base.Ns mainGlobals mg → TabB base mg c Pt → GnOk Pr w K mg base k fa fd [x] sp) (bind : ∀ (s : Shared) (u : Value), BindsTo s fd ⟨[u], []⟩ [(x, u)])
    (ask : ∀ H : Hp, H Pt = some (.tbl #[]) → SqL K H a (ns.map V.int) → sp [.ref a] H (fun v _ => v = .bl true) E0) :
    codeAny (model Pr w) callerA (.call (.ref fa) ⟨[.ref a], []⟩) (fun r s' => r = .ok (.ret (.bool true)) ∧ OldK s₁.heap s'.heap ∧ s'.os = s₁.os ∧ AllBare s'.gens) s₁ := by
  have rv := vals_ints hi
  have lenV := hi.length
  have aP : a ≠ Pt := by
    rintro rfl
    rw [ha] at hT
    have z : Data.seq vs.toArray _ = Data.fields #[] := congrArg Obj.data (Option.some.inj hT)
    cases z
  have from_ : ∀ H : Hp, H Pt = some (.tbl #[]) → (∀ b, b ≠ Pt → H b = none ∨ ∃ o ys, H b = some (.frz o (.lst ys))) → SqL K H a (ns.map V.int) → HOk Pr w H s₁.heap → (∀ b, H b ≠ none → b = Pt ∨ (b = a ∧ K.lookup a = none)) →
      codeAny (model Pr w) callerA (.call (.ref fa) ⟨[.ref a], []⟩) (fun r s' => r = .ok (.ret (.bool true)) ∧ OldK s₁.heap s'.heap ∧ s'.os = s₁.os ∧ AllBare s'.gens) s₁ := by
    intro H hP only hS hok hA
    have free : ∀ {b : Addr} {o : Obj}, s₁.heap.get? b = some o → o.data ≠ .fields #[] → (b = a → False) → H b = none := fun {b o} e n1 n2 => by
      cases q : H b with
      | none => rfl
      | some u =>
        rcases hA b (by rw [q]; simp) with z | z
        · subst z
          rw [hT] at e
          cases e
          exact (n1 rfl).elim
        · exact (n2 z.1).elim
    have low : ∀ {b : Addr} {o : Obj}, s₁.heap.get? b = some o → H b = none → (hidT s₁.heap H).get? b = some o := fun e n => hidT_get e n
    have apart : ∀ {b : Addr} {o : Obj}, s₁.heap.get? b = some o → (∀ us n, o.data ≠ .seq us n) → b = a → False := fun {b o} e n z => by
      subst z
      rw [ha] at e
      cases e
      exact n _ _ rfl
    have names : ∀ {b : Addr} {m : Str → Option Value}, s₁.heap.Ns b m → (hidT s₁.heap H).Ns b m := fun {b m} ⟨o, es, ep, e, d, r⟩ =>
      ⟨o, es, ep, low e (free e (by rw [d]; intro z; cases z) (apart e (by rw [d]; intro us n z; cases z))), d, r⟩
    have hK : K.In (hidT s₁.heap H) := fun b o e => low (KX b o e) (by
      cases q : H b with
      | none => rfl
      | some u =>
        rcases hA b (by rw [q]; simp) with z | ⟨z, zk⟩
        · subst z; rw [nT] at e; cases e
        · subst z; rw [zk] at e; cases e)
    have M : Mod K mg (hidT s₁.heap H) := ⟨hK, names hns, ⟨mb, names hb, hbb⟩, let ⟨mc, h1, h2⟩ := hlim; ⟨mc, names h1, h2⟩⟩
    have gP : mainGlobals ≠ Pt := by
      rintro rfl
      obtain ⟨o, es, ep, e, d, _⟩ := hns
      rw [hT] at e
      cases e
      cases d
    have TB : TabB (hidT s₁.heap H) mg c Pt := by
      refine ⟨?_, ?_, gP⟩
      · obtain ⟨o, us, file, tf, flags, tg, inF, text, tt, e1, r1, r2, r3, r4, r5, r6, r7, r8, hne⟩ := C
        refine ⟨o, us, file, tf, flags, tg, inF, text, tt, low e1 (free e1 (fun z => ?_) (apart e1 fun us n z => ?_)), r1, r2, r3, r4, r5, r6, r7, r8, hne⟩
        · rw [r2] at z
          cases z
          simp at r3
        · rw [r2] at z; cases z
      · obtain ⟨bm, ob, b1, b2, b3, b4, b5, b6⟩ := hbm
        refine ⟨bm, ob, b1, b2, fun z => ?_, fun z => ?_, low b3 (free b3 (by rw [b6]; intro z; cases z) (apart b3 (by rw [b6]; intro us n z; cases z))), b4, b5, b6⟩
        · obtain ⟨o, es, ep, e, d, _⟩ := hns
          rw [z, e] at b3
          cases b3
          rw [d] at b6; cases b6
        · rw [z, hT] at b3
          cases b3
          cases b6
    have e0 : Env0 Pr w K mg (hidT s₁.heap H) callerA [] s₁ H := ⟨rfl, M, fun b o e => of_hidT e, Nat.le_of_eq (hidT_size _ _), trivial, fun b z => absurd (show b ∈ ([] : List Addr) from z) (by simp), hok, .of_eq hg⟩
    refine codeAny_mono ((F _ hK (names hns) TB).run callerA [] s₁ H ⟨[.ref a], []⟩ [.ref a] [.ref a] _ _ rfl hr e0 (bind s₁ (.ref a)) (.cons rfl .nil) (ask H hP hS)) fun r s' h => ?_
    rcases r with e | fl
    · exact h.elim
    · rcases fl with _ | _ | _ | u
      · exact h.elim
      · exact h.elim
      · exact h.elim
      · obtain ⟨v, H', os, bare, un, hok', r', q⟩ := h
        obtain rfl : v = .bl true := q
        obtain rfl : u = Value.bool true := r'
        have same : ∀ b o, b ≠ Pt → s₁.heap.get? b = some o → s'.heap.get? b = some o := fun b o nb e => by
          cases q : H b with
          | none => exact un.keep b o e q (by intro z; exact absurd (show b ∈ ([] : List Addr) from z) (by simp)) (by simp)
          | some u =>
            rcases only b nb with z | ⟨ob, ys, z⟩
            · rw [q] at z; cases z
            · obtain ⟨e1, _⟩ := hok b _ z
              obtain ⟨e2, _⟩ := hok' b _ (un.frzs b ob _ z)
              rw [e] at e1; cases e1
              exact e2
        obtain ⟨more, grown⟩ : ∃ more : Array Value, s'.heap.get? Pt = some { cls := .none, data := .fields more } := by
          obtain ⟨more, z⟩ := un.tbls Pt #[] hP
          exact ⟨_, hok' Pt _ z⟩
        refine ⟨rfl, ⟨fun b o e => ?_, fun b o e => ?_⟩, os, bare⟩
        · by_cases nb : b = Pt
          · subst nb
            rw [hT] at e
            cases e
            exact .inr (.inl ⟨(C.tab hT).isCodeTable, rfl, #[], more, rfl, by rw [Array.empty_append]; exact grown⟩)
          · exact .inl (same b o nb e)
        · by_cases nb : b = Pt
          · subst nb
            exact ⟨_, grown⟩
          · exact ⟨o, same b o nb e⟩
  cases hk : K.lookup a with
  | some o =>
    have e := KX a o hk
    rw [ha] at e
    cases e
    refine from_ (fun b => if b = Pt then some (.tbl #[]) else none) (if_pos rfl) (fun b nb => .inl (if_neg nb)) (.inr ⟨_, vs.toArray, _, hk, rfl, rfl, rfl, by rw [List.size_toArray, lenV]; exact hl, by simpa using rv⟩) (fun b u z => ?_) fun b z => ?_
    · by_cases nb : b = Pt
      · subst nb
        have z' := (if_pos rfl).symm.trans z
        cases z'
        exact hT
      · have z' := (if_neg nb).symm.trans z
        cases z'
    · by_cases nb : b = Pt
      · exact .inl nb
      · exact absurd (if_neg nb) z
  | none =>
    refine from_ (fun b => if b = Pt then some (.tbl #[]) else if b = a then some (.frz { cls := .type "list", data := .seq vs.toArray } (.lst (ns.map V.int))) else none) (if_pos rfl) (fun b nb => ?_) (.inl (.inr ⟨_, (if_neg aP).trans (if_pos rfl)⟩)) (fun b u z => ?_) fun b z => ?_
    · by_cases n2 : b = a
      · exact .inr ⟨_, _, (if_neg nb).trans (if_pos n2)⟩
      · exact .inl ((if_neg nb).trans (if_neg n2))
    · by_cases nb : b = Pt
      · subst nb
        have z' := (if_pos rfl).symm.trans z
        cases z'
        exact hT
      · have z1 := (if_neg nb).symm.trans z
        by_cases n2 : b = a
        · subst n2
          have z' := (if_pos rfl).symm.trans z1
          cases z'
          exact ⟨ha, by rw [List.length_map]; exact hl, vs, _, rv, ha⟩
        · have z' := (if_neg n2).symm.trans z1
          cases z'
    · by_cases nb : b = Pt
      · exact .inl nb
      · by_cases n2 : b = a
        · exact .inr ⟨n2, hk⟩
        · exact absurd ((if_neg nb).trans (if_neg n2)) z
/-- a def of this name makes inner ones; its table is nobody else's -/
def tabB (K : PySem.W.Frag) (x : Str) : Bool := match PySem.W.tabIn K x with
  | some q => (K.lookup q.2).isNone
  | none => false
theorem tab_told {K : PySem.W.Frag} {x : Str} (h : tabB K x = true) : ∃ c Pt, PySem.W.tabIn K x = some (c, Pt) ∧ K.lookup Pt = none := by
  unfold tabB at h
  split at h
  · rename_i q hq
    exact ⟨q.1, q.2, hq, by simpa using h⟩
  · cases h
theorem walk_ofGT {l : PySem.W.OpenLaw} {n k : Nat} {q : Program} {loose : List Str} {XP : (Str → Option Value) → Heap → Prop} {YP : World → Heap → Prop} {d : DefRec} {K : Params → PySem.W.Frag} {sp : List NTab → PySem.W.Frag → Sp} {x y : Str} {nm : Nat → Nat → Str}
    (hn : l.most = some n) (hn2 : n ≤ sizeLine) (hdf : d.params.defaults = []) (hr : Room k callerA) (hY : ∀ (w : World) (h : Heap), YP w h → (K w.params).In h)
    (hrec : ((recsOf q).find? fun e => e.name == y).isSome = true) (htab : ∀ w : World, tabB (K w.params) y = true)
    (F : ∀ (w : World) (mg : Str → Option Value) (fa c Pt : Addr) (h : Heap), (K w.params).In h → h.Ns mainGlobals mg → mg d.name = some (.ref fa) → PySem.W.tabIn (K w.params) y = some (c, Pt) →
      ∃ fd : FuncData, (∀ (s : Shared) (u : Value), BindsTo s fd ⟨[u], []⟩ [(x, u)]) ∧ ∀ base : Heap, (K w.params).In base → base.Ns mainGlobals mg → TabB base mg c Pt → GnOk l.prog w (K w.params) mg base k fa fd [x] (sp [(Pt, nm)] (K w.params)))
    (ask : ∀ (K : PySem.W.Frag) (H : Hp) (a Pt : Addr) (ns : List Int), ns.length ≤ n → H Pt = some (.tbl #[]) → SqL K H a (ns.map V.int) → sp [(Pt, nm)] K [.ref a] H (fun v _ => v = .bl true) E0) :
    PySem.W.WalkO q loose XP YP l.row.toRowW d [] (fun f vs => PySem.call f vs) := by
  refine Att.attach_call hn hdf fun w s₀ s₁ mg mb fa o pm cd doc a vs ns G Y ho hd hcd hmg hobj hints hlen hg => ?_
  have KX := hY w _ Y
  obtain ⟨c, Pt, ht, nT⟩ := tab_told (htab w)
  obtain ⟨dd, hdd⟩ := Option.isSome_iff_exists.mp hrec
  obtain ⟨C, hT⟩ := PySem.W.tab_of G.T KX hdd ht
  obtain ⟨fd, hb, hF⟩ := F w mg fa c Pt _ KX G.T.g hmg ht
  exact law_callGT KX G.T.g G.T.b G.T.builtins G.T.nolimit hg hT nT C G.T.bmain hobj hints (Nat.le_trans hlen hn2) hr hF hb fun H hP hS => ask _ H a Pt ns hlen hP hS
end Rp

namespace Rp
open PySem L2
theorem all_mk {l : PySem.W.OpenLaw} {w : World} {K : PySem.W.Frag} {h : Heap} {mg : Str → Option Value} {fa f1 f2 f3 f4 f5 f6 f7 f8 f9 f10 f11 f12 f13 f14 f15 f16 f17 f18 f19 f20 f21 f22 f23 f24 f25 f26 f27 f28 f29 f30 : Addr} (X : K.In h) (G : h.Ns mainGlobals mg) (hfa : mg "law" = some (.ref fa))
    {od1 an1 od2 an2 od3 an3 od4 an4 od5 an5 od6 an6 od7 an7 od8 an8 od9 an9 od10 an10 od11 an11 od12 an12 od13 an13 od14 an14 od15 an15 od16 an16 od17 an17 od18 an18 od19 an19 od20 an20 od21 an21 od22 an22 od23 an23 od24 an24 od25 an25 od26 an26 od27 an27 od28 an28 od29 an29 od30 an30 : Option Addr} {sl1 sl2 sl3 sl4 sl5 sl6 sl7 sl8 sl9 sl10 sl11 sl12 sl13 sl14 sl15 sl16 sl17 sl18 sl19 sl20 sl21 sl22 sl23 sl24 sl25 sl26 sl27 sl28 sl29 sl30 : Array (Option Value)} {oc1 kV1 dc1 pm1 cd1 ct1 oc2 kV2 dc2 pm2 cd2 ct2 oc3 kV3 dc3 pm3 cd3 ct3 oc4 kV4 dc4 pm4 cd4 ct4 oc5 kV5 dc5 pm5 cd5 ct5 oc6 kV6 dc6 pm6 cd6 ct6 oc7 kV7 dc7 pm7 cd7 ct7 oc8 kV8 dc8 pm8 cd8 ct8 oc9 kV9 dc9 pm9 cd9 ct9 oc10 kV10 dc10 pm10 cd10 ct10 oc11 kV11 dc11 pm11 cd11 ct11 oc12 kV12 dc12 pm12 cd12 ct12 oc13 kV13 dc13 pm13 cd13 ct13 oc14 kV14 dc14 pm14 cd14 ct14 oc15 kV15 dc15 pm15 cd15 ct15 oc16 kV16 dc16 pm16 cd16 ct16 oc17 kV17 dc17 pm17 cd17 ct17 oc18 kV18 dc18 pm18 cd18 ct18 oc19 kV19 dc19 pm19 cd19 ct19 oc20 kV20 dc20 pm20 cd20 ct20 oc21 kV21 dc21 pm21 cd21 ct21 oc22 kV22 dc22 pm22 cd22 ct22 oc23 kV23 dc23 pm23 cd23 ct23 oc24 kV24 dc24 pm24 cd24 ct24 oc25 kV25 dc25 pm25 cd25 ct25 oc26 kV26 dc26 pm26 cd26 ct26 oc27 kV27 dc27 pm27 cd27 ct27 oc28 kV28 dc28 pm28 cd28 ct28 oc29 kV29 dc29 pm29 cd29 ct29 oc30 kV30 dc30 pm30 cd30 ct30 : Value}
     {c Pt : Addr} (ht : PySem.W.tabIn K "_law_all" = some (c, Pt))
    (a1 : PySem.W.nsIn K mainGlobals "_parts" = some (some (.ref f1))) (l1 : K.lookup f1 = some ⟨oc1, od1, .func (PySem.W.fnOf "_parts" "_parts" (defArgs sParts) (defBody sParts) (defScope sParts) .none kV1 dc1 pm1 an1 cd1 ct1), sl1⟩) (c1 : PySem.W.codeIn K cd1 "_parts" = true) (k1 : PySem.W.keepIn K (.ref f1) = true)
    (a2 : PySem.W.nsIn K mainGlobals "inside_out" = some (some (.ref f2))) (l2 : K.lookup f2 = some ⟨oc2, od2, .func (PySem.W.fnOf "inside_out" "inside_out" (defArgs sInside) (defBody sInside) (defScope sInside) .none kV2 dc2 pm2 an2 cd2 ct2), sl2⟩) (c2 : PySem.W.codeIn K cd2 "inside_out" = true) (k2 : PySem.W.keepIn K (.ref f2) = true)
    (a3 : PySem.W.nsIn K mainGlobals "_text_of" = some (some (.ref f3))) (l3 : K.lookup f3 = some ⟨oc3, od3, .func (PySem.W.fnOf "_text_of" "_text_of" (defArgs sTextOf) (defBody sTextOf) (defScope sTextOf) .none kV3 dc3 pm3 an3 cd3 ct3), sl3⟩) (c3 : PySem.W.codeIn K cd3 "_text_of" = true) (k3 : PySem.W.keepIn K (.ref f3) = true)
    (a4 : PySem.W.nsIn K mainGlobals "fold" = some (some (.ref f4))) (l4 : K.lookup f4 = some ⟨oc4, od4, .func (PySem.W.fnOf "fold" "fold" (defArgs sFold) (defBody sFold) (defScope sFold) .none kV4 dc4 pm4 an4 cd4 ct4), sl4⟩) (c4 : PySem.W.codeIn K cd4 "fold" = true) (k4 : PySem.W.keepIn K (.ref f4) = true)
    (a5 : PySem.W.nsIn K mainGlobals "term_text" = some (some (.ref f5))) (l5 : K.lookup f5 = some ⟨oc5, od5, .func (PySem.W.fnOf "term_text" "term_text" (defArgs sTermText) (defBody sTermText) (defScope sTermText) .none kV5 dc5 pm5 an5 cd5 ct5), sl5⟩) (c5 : PySem.W.codeIn K cd5 "term_text" = true) (k5 : PySem.W.keepIn K (.ref f5) = true)
    (a6 : PySem.W.nsIn K mainGlobals "binding_text" = some (some (.ref f6))) (l6 : K.lookup f6 = some ⟨oc6, od6, .func (PySem.W.fnOf "binding_text" "binding_text" (defArgs sBindingText) (defBody sBindingText) (defScope sBindingText) .none kV6 dc6 pm6 an6 cd6 ct6), sl6⟩) (c6 : PySem.W.codeIn K cd6 "binding_text" = true) (k6 : PySem.W.keepIn K (.ref f6) = true)
    (a7 : PySem.W.nsIn K mainGlobals "_matched" = some (some (.ref f7))) (l7 : K.lookup f7 = some ⟨oc7, od7, .func (PySem.W.fnOf "_matched" "_matched" (defArgs sMatched) (defBody sMatched) (defScope sMatched) .none kV7 dc7 pm7 an7 cd7 ct7), sl7⟩) (c7 : PySem.W.codeIn K cd7 "_matched" = true) (k7 : PySem.W.keepIn K (.ref f7) = true)
    (a8 : PySem.W.nsIn K mainGlobals "bindings" = some (some (.ref f8))) (l8 : K.lookup f8 = some ⟨oc8, od8, .func (PySem.W.fnOf "bindings" "bindings" (defArgs sBindings) (defBody sBindings) (defScope sBindings) .none kV8 dc8 pm8 an8 cd8 ct8), sl8⟩) (c8 : PySem.W.codeIn K cd8 "bindings" = true) (k8 : PySem.W.keepIn K (.ref f8) = true)
    (a9 : PySem.W.nsIn K mainGlobals "_law_box" = some (some (.ref f9))) (l9 : K.lookup f9 = some ⟨oc9, od9, .func (PySem.W.fnOf "_law_box" "_law_box" (defArgs sBox) (defBody sBox) (defScope sBox) .none kV9 dc9 pm9 an9 cd9 ct9), sl9⟩) (c9 : PySem.W.codeIn K cd9 "_law_box" = true) (k9 : PySem.W.keepIn K (.ref f9) = true)
    (a10 : PySem.W.nsIn K mainGlobals "_law_take" = some (some (.ref f10))) (l10 : K.lookup f10 = some ⟨oc10, od10, .func (PySem.W.fnOf "_law_take" "_law_take" (defArgs sTake) (defBody sTake) (defScope sTake) .none kV10 dc10 pm10 an10 cd10 ct10), sl10⟩) (c10 : PySem.W.codeIn K cd10 "_law_take" = true) (k10 : PySem.W.keepIn K (.ref f10) = true)
    (a11 : PySem.W.nsIn K mainGlobals "_law_pick" = some (some (.ref f11))) (l11 : K.lookup f11 = some ⟨oc11, od11, .func (PySem.W.fnOf "_law_pick" "_law_pick" (defArgs sPick) (defBody sPick) (defScope sPick) .none kV11 dc11 pm11 an11 cd11 ct11), sl11⟩) (c11 : PySem.W.codeIn K cd11 "_law_pick" = true) (k11 : PySem.W.keepIn K (.ref f11) = true)
    (a12 : PySem.W.nsIn K mainGlobals "_law_same" = some (some (.ref f12))) (l12 : K.lookup f12 = some ⟨oc12, od12, .func (PySem.W.fnOf "_law_same" "_law_same" (defArgs sSame) (defBody sSame) (defScope sSame) .none kV12 dc12 pm12 an12 cd12 ct12), sl12⟩) (c12 : PySem.W.codeIn K cd12 "_law_same" = true) (k12 : PySem.W.keepIn K (.ref f12) = true)
    (a13 : PySem.W.nsIn K mainGlobals "_law_names" = some (some (.ref f13))) (l13 : K.lookup f13 = some ⟨oc13, od13, .func (PySem.W.fnOf "_law_names" "_law_names" (defArgs sNames) (defBody sNames) (defScope sNames) .none kV13 dc13 pm13 an13 cd13 ct13), sl13⟩) (c13 : PySem.W.codeIn K cd13 "_law_names" = true) (k13 : PySem.W.keepIn K (.ref f13) = true)
    (a14 : PySem.W.nsIn K mainGlobals "_law_term" = some (some (.ref f14))) (l14 : K.lookup f14 = some ⟨oc14, od14, .func (PySem.W.fnOf "_law_term" "_law_term" (defArgs sTermL) (defBody sTermL) (defScope sTermL) .none kV14 dc14 pm14 an14 cd14 ct14), sl14⟩) (c14 : PySem.W.codeIn K cd14 "_law_term" = true) (k14 : PySem.W.keepIn K (.ref f14) = true)
    (a15 : PySem.W.nsIn K mainGlobals "_law_put" = some (some (.ref f15))) (l15 : K.lookup f15 = some ⟨oc15, od15, .func (PySem.W.fnOf "_law_put" "_law_put" (defArgs sPutL) (defBody sPutL) (defScope sPutL) .none kV15 dc15 pm15 an15 cd15 ct15), sl15⟩) (c15 : PySem.W.codeIn K cd15 "_law_put" = true) (k15 : PySem.W.keepIn K (.ref f15) = true)
    (a16 : PySem.W.nsIn K mainGlobals "_law_unlike" = some (some (.ref f16))) (l16 : K.lookup f16 = some ⟨oc16, od16, .func (PySem.W.fnOf "_law_unlike" "_law_unlike" (defArgs sUnlikeL) (defBody sUnlikeL) (defScope sUnlikeL) .none kV16 dc16 pm16 an16 cd16 ct16), sl16⟩) (c16 : PySem.W.codeIn K cd16 "_law_unlike" = true) (k16 : PySem.W.keepIn K (.ref f16) = true)
    (a17 : PySem.W.nsIn K mainGlobals "_law_term_words" = some (some (.ref f17))) (l17 : K.lookup f17 = some ⟨oc17, od17, .func (PySem.W.fnOf "_law_term_words" "_law_term_words" (defArgs sText) (defBody sText) (defScope sText) .none kV17 dc17 pm17 an17 cd17 ct17), sl17⟩) (c17 : PySem.W.codeIn K cd17 "_law_term_words" = true) (k17 : PySem.W.keepIn K (.ref f17) = true)
    (a18 : PySem.W.nsIn K mainGlobals "_law_shapes" = some (some (.ref f18))) (l18 : K.lookup f18 = some ⟨oc18, od18, .func (PySem.W.fnOf "_law_shapes" "_law_shapes" (defArgs sShapes) (defBody sShapes) (defScope sShapes) .none kV18 dc18 pm18 an18 cd18 ct18), sl18⟩) (c18 : PySem.W.codeIn K cd18 "_law_shapes" = true) (k18 : PySem.W.keepIn K (.ref f18) = true)
    (a19 : PySem.W.nsIn K mainGlobals "_law_base" = some (some (.ref f19))) (l19 : K.lookup f19 = some ⟨oc19, od19, .func (PySem.W.fnOf "_law_base" "_law_base" (defArgs sBaseL) (defBody sBaseL) (defScope sBaseL) .none kV19 dc19 pm19 an19 cd19 ct19), sl19⟩) (c19 : PySem.W.codeIn K cd19 "_law_base" = true) (k19 : PySem.W.keepIn K (.ref f19) = true)
    (a20 : PySem.W.nsIn K mainGlobals "_law_rule" = some (some (.ref f20))) (l20 : K.lookup f20 = some ⟨oc20, od20, .func (PySem.W.fnOf "_law_rule" "_law_rule" (defArgs sRuleL) (defBody sRuleL) (defScope sRuleL) .none kV20 dc20 pm20 an20 cd20 ct20), sl20⟩) (c20 : PySem.W.codeIn K cd20 "_law_rule" = true) (k20 : PySem.W.keepIn K (.ref f20) = true)
    (a21 : PySem.W.nsIn K mainGlobals "_law_rules" = some (some (.ref f21))) (l21 : K.lookup f21 = some ⟨oc21, od21, .func (PySem.W.fnOf "_law_rules" "_law_rules" (defArgs sRulesL) (defBody sRulesL) (defScope sRulesL) .none kV21 dc21 pm21 an21 cd21 ct21), sl21⟩) (c21 : PySem.W.codeIn K cd21 "_law_rules" = true) (k21 : PySem.W.keepIn K (.ref f21) = true)
    (a22 : PySem.W.nsIn K mainGlobals "_law_atom" = some (some (.ref f22))) (l22 : K.lookup f22 = some ⟨oc22, od22, .func (PySem.W.fnOf "_law_atom" "_law_atom" (defArgs sAtomL) (defBody sAtomL) (defScope sAtomL) .none kV22 dc22 pm22 an22 cd22 ct22), sl22⟩) (c22 : PySem.W.codeIn K cd22 "_law_atom" = true) (k22 : PySem.W.keepIn K (.ref f22) = true)
    (a23 : PySem.W.nsIn K mainGlobals "_law_saying" = some (some (.ref f23))) (l23 : K.lookup f23 = some ⟨oc23, od23, .func (PySem.W.fnOf "_law_saying" "_law_saying" (defArgs sSayingL) (defBody sSayingL) (defScope sSayingL) .none kV23 dc23 pm23 an23 cd23 ct23), sl23⟩) (c23 : PySem.W.codeIn K cd23 "_law_saying" = true) (k23 : PySem.W.keepIn K (.ref f23) = true)
    (a24 : PySem.W.nsIn K mainGlobals "_law_binding_words" = some (some (.ref f24))) (l24 : K.lookup f24 = some ⟨oc24, od24, .func (PySem.W.fnOf "_law_binding_words" "_law_binding_words" (defArgs sLawBT) (defBody sLawBT) (defScope sLawBT) .none kV24 dc24 pm24 an24 cd24 ct24), sl24⟩) (c24 : PySem.W.codeIn K cd24 "_law_binding_words" = true) (k24 : PySem.W.keepIn K (.ref f24) = true)
    (a25 : PySem.W.nsIn K mainGlobals "_law_begin" = some (some (.ref f25))) (l25 : K.lookup f25 = some ⟨oc25, od25, .func (PySem.W.fnOf "_law_begin" "_law_begin" (defArgs sBegin) (defBody sBegin) (defScope sBegin) .none kV25 dc25 pm25 an25 cd25 ct25), sl25⟩) (c25 : PySem.W.codeIn K cd25 "_law_begin" = true) (k25 : PySem.W.keepIn K (.ref f25) = true)
    (a26 : PySem.W.nsIn K mainGlobals "_law_spots" = some (some (.ref f26))) (l26 : K.lookup f26 = some ⟨oc26, od26, .func (PySem.W.fnOf "_law_spots" "_law_spots" (defArgs sSpots) (defBody sSpots) (defScope sSpots) .none kV26 dc26 pm26 an26 cd26 ct26), sl26⟩) (c26 : PySem.W.codeIn K cd26 "_law_spots" = true) (k26 : PySem.W.keepIn K (.ref f26) = true)
    (a27 : PySem.W.nsIn K mainGlobals "_law_parts" = some (some (.ref f27))) (l27 : K.lookup f27 = some ⟨oc27, od27, .func (PySem.W.fnOf "_law_parts" "_law_parts" (defArgs sPartsL) (defBody sPartsL) (defScope sPartsL) .none kV27 dc27 pm27 an27 cd27 ct27), sl27⟩) (c27 : PySem.W.codeIn K cd27 "_law_parts" = true) (k27 : PySem.W.keepIn K (.ref f27) = true)
    (a28 : PySem.W.nsIn K mainGlobals "_law_all" = some (some (.ref f28))) (l28 : K.lookup f28 = some ⟨oc28, od28, .func (PySem.W.fnOf "_law_all" "_law_all" (defArgs sAllL) (defBody sAllL) (defScope sAllL) .none kV28 dc28 pm28 an28 cd28 ct28), sl28⟩) (c28 : PySem.W.codeIn K cd28 "_law_all" = true) (k28 : PySem.W.keepIn K (.ref f28) = true)
    (a29 : PySem.W.nsIn K mainGlobals "_law_right" = some (some (.ref f29))) (l29 : K.lookup f29 = some ⟨oc29, od29, .func (PySem.W.fnOf "_law_right" "_law_right" (defArgs sRightL) (defBody sRightL) (defScope sRightL) .none kV29 dc29 pm29 an29 cd29 ct29), sl29⟩) (c29 : PySem.W.codeIn K cd29 "_law_right" = true) (k29 : PySem.W.keepIn K (.ref f29) = true)
    (a30 : PySem.W.nsIn K mainGlobals "law" = some (some (.ref f30))) (l30 : K.lookup f30 = some ⟨oc30, od30, .func (PySem.W.fnOf "law" "law" (defArgs sLaw) (defBody sLaw) (defScope sLaw) .none kV30 dc30 pm30 an30 cd30 ct30), sl30⟩) (c30 : PySem.W.codeIn K cd30 "law" = true) (k30 : PySem.W.keepIn K (.ref f30) = true)
    (z1 : PySem.W.nsIn K mainGlobals "isinstance" = some none)
    (z2 : PySem.W.nsIn K mainGlobals "int" = some none)
    (z3 : PySem.W.nsIn K mainGlobals "len" = some none)
    (z4 : PySem.W.nsIn K mainGlobals "dict" = some none)
    (z5 : PySem.W.nsIn K mainGlobals "list" = some none)
    (z6 : PySem.W.nsIn K mainGlobals "zip" = some none)
    (z7 : PySem.W.nsIn K mainGlobals "tuple" = some none)
    (z8 : PySem.W.nsIn K mainGlobals "sorted" = some none)
    (z9 : PySem.W.nsIn K mainGlobals "abs" = some none)
    (z10 : PySem.W.nsIn K mainGlobals "range" = some none)
    (z11 : PySem.W.nsIn K mainGlobals "str" = some none)
    (z12 : PySem.W.nsIn K mainGlobals "set" = some none)
    (z13 : PySem.W.nsIn K mainGlobals "all" = some none)
    (z14 : PySem.W.nsIn K mainGlobals "repr" = some none)
    (z15 : PySem.W.nsIn K mainGlobals "max" = some none)
    (z16 : PySem.W.nsIn K mainGlobals "min" = some none)
    (z17 : PySem.W.nsIn K mainGlobals "bool" = some none)
    : ∃ fd : FuncData, (∀ (s : Shared) (v : Value), BindsTo s fd ⟨[v], []⟩ [("_law_script", v)]) ∧ ∀ base : Heap, K.In base → base.Ns mainGlobals mg → LamX.TabB base mg c Pt → GnOk l.prog w K mg base 67 fa fd ["_law_script"] (spLaw [(Pt, nmLm)] K) := by
  have e := hfa.symm.trans (PySem.W.mg_of X G a30)
  cases e
  have F1 := fun_mk (st := sParts) l1 c1 k1
  have b1 := F1.binds (ps := ["term"]) fun _ _ _ _ _ _ us hl => match us, hl with | [_], _ => rfl
  have m1 := PySem.W.mg_of X G a1
  have F2 := fun_mk (st := sInside) l2 c2 k2
  have b2 := F2.binds (ps := ["term"]) fun _ _ _ _ _ _ us hl => match us, hl with | [_], _ => rfl
  have m2 := PySem.W.mg_of X G a2
  have F3 := fun_mk (st := sTextOf) l3 c3 k3
  have b3 := F3.binds (ps := ["part", "texts"]) fun _ _ _ _ _ _ us hl => match us, hl with | [_, _], _ => rfl
  have m3 := PySem.W.mg_of X G a3
  have F4 := fun_mk (st := sFold) l4 c4 k4
  have b4 := F4.binds (ps := ["term", "made_of"]) fun _ _ _ _ _ _ us hl => match us, hl with | [_, _], _ => rfl
  have m4 := PySem.W.mg_of X G a4
  have F5 := fun_mk (st := sTermText) l5 c5 k5
  have b5 := F5.binds (ps := ["term"]) fun _ _ _ _ _ _ us hl => match us, hl with | [_], _ => rfl
  have m5 := PySem.W.mg_of X G a5
  have F6 := fun_mk (st := sBindingText) l6 c6 k6
  have b6 := F6.binds (ps := ["binding"]) fun _ _ _ _ _ _ us hl => match us, hl with | [_], _ => rfl
  have m6 := PySem.W.mg_of X G a6
  have F7 := fun_mk (st := sMatched) l7 c7 k7
  have b7 := F7.binds (ps := ["pattern", "atom", "ahead"]) fun _ _ _ _ _ _ us hl => match us, hl with | [_, _, _], _ => rfl
  have m7 := PySem.W.mg_of X G a7
  have F8 := fun_mk (st := sBindings) l8 c8 k8
  have b8 := F8.binds (ps := ["saying", "other"]) fun _ _ _ _ _ _ us hl => match us, hl with | [_, _], _ => rfl
  have m8 := PySem.W.mg_of X G a8
  have F9 := fun_mk (st := sBox) l9 c9 k9
  have b9 := F9.binds (ps := ["_law_script", "_law_k"]) fun _ _ _ _ _ _ us hl => match us, hl with | [_, _], _ => rfl
  have m9 := PySem.W.mg_of X G a9
  have F10 := fun_mk (st := sTake) l10 c10 k10
  have b10 := F10.binds (ps := ["_law_box_here", "_law_reach"]) fun _ _ _ _ _ _ us hl => match us, hl with | [_, _], _ => rfl
  have m10 := PySem.W.mg_of X G a10
  have F11 := fun_mk (st := sPick) l11 c11 k11
  have b11 := F11.binds (ps := ["_law_box_here", "_law_things"]) fun _ _ _ _ _ _ us hl => match us, hl with | [_, _], _ => rfl
  have m11 := PySem.W.mg_of X G a11
  have F12 := fun_mk (st := sSame) l12 c12 k12
  have b12 := F12.binds (ps := ["_law_found", "_law_due"]) fun _ _ _ _ _ _ us hl => match us, hl with | [_, _], _ => rfl
  have m12 := PySem.W.mg_of X G a12
  have F13 := fun_mk (st := sNames) l13 c13 k13
  have b13 := F13.binds (ps := ["_law_box_here", "_law_count"]) fun _ _ _ _ _ _ us hl => match us, hl with | [_, _], _ => rfl
  have m13 := PySem.W.mg_of X G a13
  have F14 := fun_mk (st := sTermL) l14 c14 k14
  have b14 := F14.binds (ps := ["_law_box_here", "_law_pool", "_law_deep"]) fun _ _ _ _ _ _ us hl => match us, hl with | [_, _, _], _ => rfl
  have m14 := PySem.W.mg_of X G a14
  have F15 := fun_mk (st := sPutL) l15 c15 k15
  have b15 := F15.binds (ps := ["_law_thing", "_law_puts"]) fun _ _ _ _ _ _ us hl => match us, hl with | [_, _], _ => rfl
  have m15 := PySem.W.mg_of X G a15
  have F16 := fun_mk (st := sUnlikeL) l16 c16 k16
  have b16 := F16.binds (ps := ["_law_atoms"]) fun _ _ _ _ _ _ us hl => match us, hl with | [_], _ => rfl
  have m16 := PySem.W.mg_of X G a16
  have F17 := fun_mk (st := sText) l17 c17 k17
  have b17 := F17.binds (ps := ["_law_term_here"]) fun _ _ _ _ _ _ us hl => match us, hl with | [_], _ => rfl
  have m17 := PySem.W.mg_of X G a17
  have F18 := fun_mk (st := sShapes) l18 c18 k18
  have b18 := F18.binds (ps := ["_law_box_here", "_law_names_here"]) fun _ _ _ _ _ _ us hl => match us, hl with | [_, _], _ => rfl
  have m18 := PySem.W.mg_of X G a18
  have F19 := fun_mk (st := sBaseL) l19 c19 k19
  have b19 := F19.binds (ps := ["_law_shapes_here", "_law_word"]) fun _ _ _ _ _ _ us hl => match us, hl with | [_, _], _ => rfl
  have m19 := PySem.W.mg_of X G a19
  have F20 := fun_mk (st := sRuleL) l20 c20 k20
  have b20 := F20.binds (ps := ["_law_box_here", "_law_shapes_here", "_law_names_here"]) fun _ _ _ _ _ _ us hl => match us, hl with | [_, _, _], _ => rfl
  have m20 := PySem.W.mg_of X G a20
  have F21 := fun_mk (st := sRulesL) l21 c21 k21
  have b21 := F21.binds (ps := ["_law_box_here", "_law_shapes_here", "_law_names_here", "_law_count"]) fun _ _ _ _ _ _ us hl => match us, hl with | [_, _, _, _], _ => rfl
  have m21 := PySem.W.mg_of X G a21
  have F22 := fun_mk (st := sAtomL) l22 c22 k22
  have b22 := F22.binds (ps := ["_law_box_here", "_law_shapes_here", "_law_names_here", "_law_pool", "_law_deep"]) fun _ _ _ _ _ _ us hl => match us, hl with | [_, _, _, _, _], _ => rfl
  have m22 := PySem.W.mg_of X G a22
  have F23 := fun_mk (st := sSayingL) l23 c23 k23
  have b23 := F23.binds (ps := ["_law_box_here", "_law_shapes_here", "_law_names_here", "_law_pool", "_law_count"]) fun _ _ _ _ _ _ us hl => match us, hl with | [_, _, _, _, _], _ => rfl
  have m23 := PySem.W.mg_of X G a23
  have F24 := fun_mk (st := sLawBT) l24 c24 k24
  have b24 := F24.binds (ps := ["_law_binding"]) fun _ _ _ _ _ _ us hl => match us, hl with | [_], _ => rfl
  have m24 := PySem.W.mg_of X G a24
  have F25 := fun_mk (st := sBegin) l25 c25 k25
  have b25 := F25.binds (ps := ["_law_box_here", "_law_count"]) fun _ _ _ _ _ _ us hl => match us, hl with | [_, _], _ => rfl
  have m25 := PySem.W.mg_of X G a25
  have F26 := fun_mk (st := sSpots) l26 c26 k26
  have b26 := F26.binds (ps := ["_law_thing"]) fun _ _ _ _ _ _ us hl => match us, hl with | [_], _ => rfl
  have m26 := PySem.W.mg_of X G a26
  have F27 := fun_mk (st := sPartsL) l27 c27 k27
  have b27 := F27.binds (ps := ["_law_term_here"]) fun _ _ _ _ _ _ us hl => match us, hl with | [_], _ => rfl
  have m27 := PySem.W.mg_of X G a27
  have F28 := fun_mk (st := sAllL) l28 c28 k28
  have b28 := F28.binds (ps := ["_law_saying_here", "_law_other"]) fun _ _ _ _ _ _ us hl => match us, hl with | [_, _], _ => rfl
  have m28 := PySem.W.mg_of X G a28
  have F29 := fun_mk (st := sRightL) l29 c29 k29
  have b29 := F29.binds (ps := ["_law_box_here", "_law_words", "_law_shapes_here"]) fun _ _ _ _ _ _ us hl => match us, hl with | [_, _, _], _ => rfl
  have m29 := PySem.W.mg_of X G a29
  have F30 := fun_mk (st := sLaw) l30 c30 k30
  have y1 := PySem.W.mg_none_of X G z1
  have y2 := PySem.W.mg_none_of X G z2
  have y3 := PySem.W.mg_none_of X G z3
  have y4 := PySem.W.mg_none_of X G z4
  have y5 := PySem.W.mg_none_of X G z5
  have y6 := PySem.W.mg_none_of X G z6
  have y7 := PySem.W.mg_none_of X G z7
  have y8 := PySem.W.mg_none_of X G z8
  have y9 := PySem.W.mg_none_of X G z9
  have y10 := PySem.W.mg_none_of X G z10
  have y11 := PySem.W.mg_none_of X G z11
  have y12 := PySem.W.mg_none_of X G z12
  have y13 := PySem.W.mg_none_of X G z13
  have y14 := PySem.W.mg_none_of X G z14
  have y15 := PySem.W.mg_none_of X G z15
  have y16 := PySem.W.mg_none_of X G z16
  have y17 := PySem.W.mg_none_of X G z17
  refine ⟨PySem.W.fnOf "law" "law" (defArgs sLaw) (defBody sLaw) (defScope sLaw) .none kV30 dc30 pm30 an30 cd30 ct30, fun s v => .of_eq rfl, fun base _ _ TB => ?_⟩
  have M : SameG mg := ⟨y1, y5, y7, y3, y13, y6, y11, y2, y17⟩
  have hcode := PySem.W.law_code X G ht m28 (X _ _ l28) rfl
  have G1_ := ok_parts (P := l.prog) (w := w) (mg := mg) (base := base) F1 y1 y2
  have G2_ := ok_inside (P := l.prog) (w := w) (mg := mg) (base := base) F2 F1 b1 m1 y1 y2
  have G3_ := ok_textof (P := l.prog) (w := w) (mg := mg) (base := base) F3 y1 y2
  have G4_ := ok_fold (P := l.prog) (w := w) (mg := mg) (base := base) F4 G2_ k2 b2 m2 G1_ k1 b1 m1 G3_ k3 b3 y3
  have G5_ := ok_termtext (P := l.prog) (w := w) (mg := mg) (base := base) F5 G4_ k4 b4 m4 m3
  have G6_ := ok_btext (P := l.prog) (w := w) (mg := mg) (base := base) F6 G5_ k5 b5 m5
  have G7_ := ok_matched (P := l.prog) (w := w) (mg := mg) (base := base) F7 y3 y4 y5 y6 y1 y2
  have G8_ := ok_bindings (P := l.prog) (w := w) (mg := mg) (base := base) F8 G7_ k7 b7 m7 G6_ k6 b6 m6 y7 y8
  have G9_ := ok_box (P := l.prog) (w := w) (mg := mg) (base := base) F9 y3 y9 y2
  have G10_ := ok_take (P := l.prog) (w := w) (mg := mg) (base := base) F10
  have G11_ := ok_pick (P := l.prog) (w := w) (mg := mg) (base := base) F11 F10 b10 m10 y3
  have G12_ := same_okP (P := l.prog) (w := w) (mg := mg) (base := base) F12 b12 m12 M 44
  have G13_ := ok_words (P := l.prog) (w := w) (mg := mg) (base := base) F13 F10 b10 m10 y10 y3
  have G14_ := lterm_ok (P := l.prog) (w := w) (mg := mg) (base := base) F14 b14 m14 G10_ k10 b10 m10 G11_ k11 b11 m11 3
  have G15_ := lputd_ok (P := l.prog) (w := w) (mg := mg) (base := base) F15 b15 m15 y1 y2 y7 9
  have G16_ := ok_unlikeB (P := l.prog) (w := w) (mg := mg) (base := base) F16 y7
  have G17_ := ltext_ok (P := l.prog) (w := w) (mg := mg) (base := base) F17 b17 m17 M 60
  have G18_ := ok_shapes (P := l.prog) (w := w) (mg := mg) (base := base) F18 G10_ k10 b10 m10 y4
  have G19_ := ok_basel (P := l.prog) (w := w) (mg := mg) (base := base) F19
  have G20_ := ok_rulel (P := l.prog) (w := w) (mg := mg) (base := base) F20 G10_ k10 b10 m10 G11_ k11 b11 m11 y10 y7
  have G21_ := ok_rulesl (P := l.prog) (w := w) (mg := mg) (base := base) F21 G10_ k10 b10 m10 G19_ k19 b19 m19 G20_ k20 b20 m20 y10
  have G22_ := ok_atoml (P := l.prog) (w := w) (mg := mg) (base := base) F22 G11_ k11 b11 m11 G14_ k14 b14 m14 y10 y7
  have G23_ := ok_sayinglB (P := l.prog) (w := w) (mg := mg) (base := base) F23 G10_ k10 b10 m10 G22_ k22 b22 m22 G16_ k16 b16 m16 y10
  have G24_ := ok_lbind (P := l.prog) (w := w) (mg := mg) (base := base) F24 G17_ k17 b17 m17 y11
  have G25_ := ok_begin (P := l.prog) (w := w) (mg := mg) (base := base) F25 G10_ k10 b10 m10 G13_ k13 b13 m13 G18_ k18 b18 m18 G21_ k21 b21 m21
  have G26_ := spots_ok (P := l.prog) (w := w) (mg := mg) (base := base) F26 b26 m26 M y8 y12 12
  have G27_ := partsl_ok (P := l.prog) (w := w) (mg := mg) (base := base) F27 b27 m27 M 9
  have G28_ := ok_all (P := l.prog) (w := w) (mg := mg) (base := base) F28 hcode TB G27_ k27 b27 m27 G16_ k16 b16 m16 G26_ k26 b26 m26 G15_ k15 b15 m15 G24_ k24 b24 m24 y5 y4 y13 y8
  have G29_ := ok_rightl (P := l.prog) (w := w) (mg := mg) (base := base) F29 G10_ k10 b10 m10 G23_ k23 b23 m23 G11_ k11 b11 m11 G14_ k14 b14 m14 G15_ k15 b15 m15 G16_ k16 b16 m16 G8_ k8 b8 m8 G12_ k12 b12 m12 G28_ k28 b28 m28 y4 y10 y14 y3 y7
  exact ok_law F30 G9_ k9 b9 m9 G25_ k25 b25 m25 G29_ k29 b29 m29 y10 y15 y16 y3 y13
theorem walk {l : PySem.W.OpenLaw} {q : Program} {loose : List Str} {XP : (Str → Option Value) → Heap → Prop} {YP : World → Heap → Prop} {d : DefRec} {K : Params → PySem.W.Frag} (hn : l.most = some 63) (hdf : d.params.defaults = [])
    (hY : ∀ (w : World) (h : Heap), YP w h → (K w.params).In h) (hrec : ((PyProof.Rows.recsOf q).find? fun e => e.name == ("_law_all" : Str)).isSome = true) (htab : ∀ w : World, tabB (K w.params) "_law_all" = true)
    (F : ∀ (w : World) (mg : Str → Option Value) (fa c Pt : Addr) (h : Heap), (K w.params).In h → h.Ns mainGlobals mg → mg d.name = some (.ref fa) → PySem.W.tabIn (K w.params) "_law_all" = some (c, Pt) →
      ∃ fd : FuncData, (∀ (s : Shared) (u : Value), BindsTo s fd ⟨[u], []⟩ [("_law_script", u)]) ∧ ∀ base : Heap, (K w.params).In base → base.Ns mainGlobals mg → LamX.TabB base mg c Pt → GnOk l.prog w (K w.params) mg base 67 fa fd ["_law_script"] (spLaw [(Pt, nmLm)] (K w.params))) :
    PySem.W.WalkO q loose XP YP l.row.toRowW d [] (fun f vs => PySem.call f vs) :=
  walk_ofGT (n := 63) (k := 67) (x := "_law_script") (sp := spLaw) (nm := nmLm) hn (by decide) hdf ⟨rfl, by decide, by decide⟩ hY hrec htab F
    (fun _ _ a Pt ns hl hP hS => ⟨a, ns, rfl, hS, hl, fun p hp => by rw [List.mem_singleton.mp hp]; exact NdefX.TabN.nil hP, fun _ => rfl⟩)
end Rp
open PySem PySem.W PyProof.Rows
set_option maxRecDepth 100000 in
set_option maxHeartbeats 0 in
theorem PySem.Challenge.cw_ringproofs_k25_all_bindings_holds : PySem.Challenge.rw_ringproofs_k25_all_bindings.Holds := by
  w_on; o_law; k_head; (case hw => w_witness2)
  k_fill
  refine Rp.walk (l := PySem.Challenge.rw_ringproofs_k25_all_bindings) rfl rfl (fun w h Y => PySem.W.km_in_of Y) ?hR ?hT ?F
  case hR => kernel_rfl
  case hT => intro w; kernel_rfl
  case F =>
    intro w mg fa c Pt h KX G hmg ht
    refine' Rp.all_mk KX G hmg ht ?a1 ?l1 ?c1 ?k1 ?a2 ?l2 ?c2 ?k2 ?a3 ?l3 ?c3 ?k3 ?a4 ?l4 ?c4 ?k4 ?a5 ?l5 ?c5 ?k5 ?a6 ?l6 ?c6 ?k6 ?a7 ?l7 ?c7 ?k7 ?a8 ?l8 ?c8 ?k8 ?a9 ?l9 ?c9 ?k9 ?a10 ?l10 ?c10 ?k10 ?a11 ?l11 ?c11 ?k11 ?a12 ?l12 ?c12 ?k12 ?a13 ?l13 ?c13 ?k13 ?a14 ?l14 ?c14 ?k14 ?a15 ?l15 ?c15 ?k15 ?a16 ?l16 ?c16 ?k16 ?a17 ?l17 ?c17 ?k17 ?a18 ?l18 ?c18 ?k18 ?a19 ?l19 ?c19 ?k19 ?a20 ?l20 ?c20 ?k20 ?a21 ?l21 ?c21 ?k21 ?a22 ?l22 ?c22 ?k22 ?a23 ?l23 ?c23 ?k23 ?a24 ?l24 ?c24 ?k24 ?a25 ?l25 ?c25 ?k25 ?a26 ?l26 ?c26 ?k26 ?a27 ?l27 ?c27 ?k27 ?a28 ?l28 ?c28 ?k28 ?a29 ?l29 ?c29 ?k29 ?a30 ?l30 ?c30 ?k30 ?z1 ?z2 ?z3 ?z4 ?z5 ?z6 ?z7 ?z8 ?z9 ?z10 ?z11 ?z12 ?z13 ?z14 ?z15 ?z16 ?z17
    (case a1 => k_is); (case l1 => k_is); (case c1 => k_is); (case k1 => k_is)
    (case a2 => k_is); (case l2 => k_is); (case c2 => k_is); (case k2 => k_is)
    (case a3 => k_is); (case l3 => k_is); (case c3 => k_is); (case k3 => k_is)
    (case a4 => k_is); (case l4 => k_is); (case c4 => k_is); (case k4 => k_is)
    (case a5 => k_is); (case l5 => k_is); (case c5 => k_is); (case k5 => k_is)
    (case a6 => k_is); (case l6 => k_is); (case c6 => k_is); (case k6 => k_is)
    (case a7 => k_is); (case l7 => k_is); (case c7 => k_is); (case k7 => k_is)
    (case a8 => k_is); (case l8 => k_is); (case c8 => k_is); (case k8 => k_is)
    (case a9 => k_is); (case l9 => k_is); (case c9 => k_is); (case k9 => k_is)
    (case a10 => k_is); (case l10 => k_is); (case c10 => k_is); (case k10 => k_is)
    (case a11 => k_is); (case l11 => k_is); (case c11 => k_is); (case k11 => k_is)
    (case a12 => k_is); (case l12 => k_is); (case c12 => k_is); (case k12 => k_is)
    (case a13 => k_is); (case l13 => k_is); (case c13 => k_is); (case k13 => k_is)
    (case a14 => k_is); (case l14 => k_is); (case c14 => k_is); (case k14 => k_is)
    (case a15 => k_is); (case l15 => k_is); (case c15 => k_is); (case k15 => k_is)
    (case a16 => k_is); (case l16 => k_is); (case c16 => k_is); (case k16 => k_is)
    (case a17 => k_is); (case l17 => k_is); (case c17 => k_is); (case k17 => k_is)
    (case a18 => k_is); (case l18 => k_is); (case c18 => k_is); (case k18 => k_is)
    (case a19 => k_is); (case l19 => k_is); (case c19 => k_is); (case k19 => k_is)
    (case a20 => k_is); (case l20 => k_is); (case c20 => k_is); (case k20 => k_is)
    (case a21 => k_is); (case l21 => k_is); (case c21 => k_is); (case k21 => k_is)
    (case a22 => k_is); (case l22 => k_is); (case c22 => k_is); (case k22 => k_is)
    (case a23 => k_is); (case l23 => k_is); (case c23 => k_is); (case k23 => k_is)
    (case a24 => k_is); (case l24 => k_is); (case c24 => k_is); (case k24 => k_is)
    (case a25 => k_is); (case l25 => k_is); (case c25 => k_is); (case k25 => k_is)
    (case a26 => k_is); (case l26 => k_is); (case c26 => k_is); (case k26 => k_is)
    (case a27 => k_is); (case l27 => k_is); (case c27 => k_is); (case k27 => k_is)
    (case a28 => k_is); (case l28 => k_is); (case c28 => k_is); (case k28 => k_is)
    (case a29 => k_is); (case l29 => k_is); (case c29 => k_is); (case k29 => k_is)
    (case a30 => k_is); (case l30 => k_is); (case c30 => k_is); (case k30 => k_is)
    (case z1 => k_is); (case z2 => k_is); (case z3 => k_is); (case z4 => k_is)
    (case z5 => k_is); (case z6 => k_is); (case z7 => k_is); (case z8 => k_is)
    (case z9 => k_is); (case z10 => k_is); (case z11 => k_is); (case z12 => k_is)
    (case z13 => k_is); (case z14 => k_is); (case z15 => k_is); (case z16 => k_is)
    (case z17 => k_is)


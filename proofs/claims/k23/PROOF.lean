import PyProof.Rows.All
import Wide.All
import OpenK.AllK
import Wide.FinOn
import HandS.ForMost
import HandS.GenList
import HandS.AnyAll
import PyProof.TupleOfGen
import HandS.EndOwn
import HandS.SetKeys
import HandS.More
import HandS.Conv
import HandS.IsInst
import HandS.Sort
import HandS.Wide
import KE.KNest
import HandS.Evl
import PySem.Challenge.RW_moatways_k23_answers_of_a_yard
import HandS.Walk
import HandS.Deep
import HandS.Gcd
import KE.GoesEnum
import HandS.SortRule
import HandS.TupSets
import HandS.SortInts
import HandS.Small
import HandS.TryOnly
import HandS.Rev
import KE.GoesEnumKw
import HandS.FStr
import HandS.Text
import HandS.StrMore
import HandS.SortKw
import PyProof.Rows.CallKwBuiltin
import HandS.ForExc
import HandS.ExcInit
import HandS.ExcIs
import HandS.ExcField
import HandS.ExcInitHot
import HandS.ClsMeth
import HandS.CallLocal
import HandS.HeadHook4
import HandS.Codes
import KE.OsScanText
import PyProof.Rows.StrSplitJoin
import KE.KDictKeyed
import HandS.Dict
import HandS.RaiseOp
import HandS.TryElse
import HandS.Remove
import HandS.Flow
import HandS.DictTup
import HandS.TupAny
import HandS.SetBool
import HandS.Style
import HandS.HeadWalk
import HandS.CallRecv
set_option Elab.async false
set_option linter.all false
set_option maxRecDepth 100000
set_option maxHeartbeats 2000000
/-! Generator expressions over the hand layer, consumed at once: all, any, sum, tuple. -/
namespace GE
open PySem PySem.Spec PyProof.Rows L2 GenW

/-- what the consumer keeps at S when ys is out -/
abbrev CO := List V → Obj → Prop
structure Slp (C : CO) (S : Addr) (ys : List V) (s s' : Shared) : Prop where
  os : s'.os = s.os
  bare : AllBare s'.gens
  keep : ∀ b o, b ≠ S → s.heap.get? b = some o → s'.heap.get? b = some o
  own : ∃ o, s'.heap.get? S = some o ∧ C ys o
structure Mid (P : Program) (w : World) (outer : List Env) (ex : List Addr) (H : Hp) (s : Shared) (S a : Addr) (g : Nat) (C : CO) (ys : List V) (H' : Hp) (s' : Shared) : Prop where
  os : s'.os = s.os
  bare : AllBare s'.gens
  lim : s'.heap.NoLimit
  gen : s'.heap.IsGen a g
  un : Un (frs outer) ex H H' s.heap s'.heap
  hok : HOk P w H' s'.heap
  free : H' S = none
  own : ∃ o, s'.heap.get? S = some o ∧ C ys o
/-- what is wanted when an item is handed out; the last: that it may go on -/
abbrev YO := List V → V → Hp → Prop → Prop
abbrev EN := List V → Hp → Prop
def GYx (P : Program) (w : World) (outer : List Env) (ex : List Addr) (H : Hp) (s : Shared) (S a : Addr) (g : Nat) (C : CO) (Yo : YO) : Protocol := fun n s₀ v s' kap =>
  ∃ ys x H', n + 1 + ys.length = sizeLine ∧ RelV x v ∧ (∀ ob, s₀.heap.get? S = some ob → s'.heap.get? S = some ob) ∧ Mid P w outer ex H s S a g C ys H' s' ∧ Yo ys x H' (∀ s'', Slp C S (ys ++ [x]) s' s'' → kap (.send .none) s'')
def Fi (P : Program) (w : World) (outer : List Env) (ex : List Addr) (H : Hp) (s : Shared) (S a : Addr) (g : Nat) (C : CO) (En : EN) : Nat → Shared → Shared → Prop := fun n s₀ s' =>
  ∃ ys H', n + ys.length = sizeLine ∧ (∀ ob, s₀.heap.get? S = some ob → s'.heap.get? S = some ob) ∧ Mid P w outer ex H s S a g C ys H' s' ∧ En ys H'
def REx (P : Program) (w : World) (outer : List Env) (ex : List Addr) (H : Hp) (s : Shared) (S a : Addr) (g : Nat) (C : CO) (En : EN) : GenEnd := fun n s₀ r s1 =>
  ((r = .ok (.ret .none) ∨ r = .ok .next) ∧ Fi P w outer ex H s S a g C En n s₀ s1) ∨ ∃ e, r = .error e ∧ (fun (_ : Value) (_ : Shared) => False) e s1

/-- running: ys is out -/
def GIx (X : Cx) (S : Addr) (C : CO) (ip : List (Addr × Obj)) (ys : List V) (σ : L2.St) (H : Hp) (s : Shared) : Prop := ∃ o, C ys o ∧ Inv X ((S, o) :: ip) σ H s
theorem GIx.woken {X : Cx} {S : Addr} {C : CO} {ip : List (Addr × Obj)} {ys zs : List V} {σ : L2.St} {H : Hp} {s s' : Shared} (hC : ∀ ys o, C ys o → ∀ v, o.data ≠ .cell v) (hpn : ∀ p ∈ X.pn, p.1 ≠ S) (hip : ∀ p ∈ ip, p.1 ≠ S) (hA : Apart X S) (h : GIx X S C ip ys σ H s) (z : Slp C S zs s s') :
    GIx X S C ip zs σ H s' := by
  obtain ⟨o, hCo, I⟩ := h
  obtain ⟨eS, hS0, hSL, hSf, _⟩ := I.pin (S, o) (List.mem_append_right _ List.mem_cons_self)
  have I0 : Inv X ip σ H s := I.pins_of fun p hp => I.pin p (List.mem_append_right _ (List.mem_cons_of_mem _ hp))
  have nt : ∀ b u, H b = some u → b ≠ S := fun b u q hb => by rw [hb, hS0] at q; cases q
  obtain ⟨z1, z2, z3, o', eS', hCo'⟩ := z
  obtain ⟨hh, g, d, t, o9⟩ := s'
  have ho : o9 = s.os := z1
  subst ho
  have nc : ∀ b, b ∉ [S] → b ≠ S := fun b hb e => hb (by rw [e]; exact List.mem_singleton.mpr rfl)
  have J : Inv X ip σ H { s with heap := hh, gens := g, drawn := d, toks := t } := by
    refine I0.step (g' := g) (t' := t) (d' := d) (ch := [S]) (fun b hb => ?_)
      (fun b ob _ _ hc q _ => z3 b ob (nc b hc) q) (fun b ob _ _ hc q _ => ⟨ob.slots, z3 b ob (nc b hc) q⟩) (fun _ _ _ _ n => n) (fun b ob hc q => ⟨ob, z3 b ob (nc b hc) q⟩)
      (fun _ _ q => q) (fun _ _ _ q => q) (fun b ps q => ⟨#[], by rw [q]; simp⟩) (fun m hm => ?_) (fun b u q => ?_) z2
    · rw [List.mem_singleton.mp hb]
      refine ⟨.inr hA.1, hA.2.1, hA.2.2, fun p hp => ?_⟩
      rcases List.mem_append.mp hp with hp | hp
      · exact hpn p hp
      · exact hip p hp
    · obtain ⟨ob, es, ep, ho, r⟩ := hm
      exact ⟨ob, es, ep, z3 _ ob (Ne.symm hSL) ho, r⟩
    · refine (I0.hok b u q).stay (fun c v hc y => z3 c v ?_ y) (fun _ y => y) fun _ _ y => y
      rcases hc with y | y
      · rw [y]; exact nt b u q
      · exact nt c _ y
  refine ⟨o', hCo', J.pins_of fun p hp => ?_⟩
  rcases List.mem_cons.mp hp with hp | hp
  · rw [hp]
    exact ⟨eS', hS0, hSL, hSf, hC _ _ hCo'⟩
  · exact J.pin p (List.mem_append_right _ hp)

/-- the context of a generator expression's frame -/
abbrev gcx (X : Cx) (A : Around) (s : Shared) (H : Hp) (cenv : Env) (fp : List Addr) (gp : List (Addr × Obj)) : Cx :=
  { X with A := A.deeper cenv, s_0 := s, H_0 := H, env := cenv, outer := X.stack, stack := cenv :: X.stack, ex := fp, fn := fun _ => false, calm := true, pn := gp, xe := fun _ _ => False }

theorem mid_of {X : Cx} {A : Around} {s s' : Shared} {H H' : Hp} {cenv : Env} {fp : List Addr} {gp ip : List (Addr × Obj)} {S a : Addr} {g : Nat} {C : CO} {ys : List V} {σ : L2.St}
    (hgen : ∀ (s' : Shared) (ys : List V) (o : Obj), s'.heap.get? S = some o → C ys o → (∀ p ∈ gp, s'.heap.get? p.1 = some p.2) → s'.heap.IsGen a g)
    (h : GIx (gcx X A s H cenv fp gp) S C ip ys σ H' s') : Mid X.prog X.w X.stack fp H s S a g C ys H' s' := by
  obtain ⟨o, hCo, I⟩ := h
  obtain ⟨eS, hS0, _⟩ := I.pin (S, o) (List.mem_append_right _ List.mem_cons_self)
  exact ⟨I.os, I.bare, I.nolimit, hgen s' ys o eS hCo fun p hp => (I.pin p (List.mem_append_left _ hp)).1, I.base, I.hok, hS0, o, eS, hCo⟩

theorem over_comp {A : Around} {elt : Expr} {gs : List Comprehension} {scope : Scope} {pos : Pos} {u v : Value} {env : Env} : A.over (.compLoop (.GeneratorExp elt gs scope pos) 0 u v env) [] = A.deeper env := by
  first
    | rfl
    | (obtain ⟨hd, d, fr, gs, u⟩ := A; simp [Around.over, Around.deeper, marksOver, frameCount, unitsOf, envsOf, guardsOf, pushEnvs, pushGuards, Code.envs, Code.env?, Code.isFrame, Code.guards, Code.isGuard, Code.weight, Code.frames, Code.isCreation, Code.isCaller, Code.cUnits])
theorem over_compS {A : Around} {elt : Expr} {gs : List Comprehension} {scope : Scope} {pos : Pos} {u v : Value} {env : Env} : A.over (.compStart (.GeneratorExp elt gs scope pos) 0 u v env) [] = A.deeper env := by
  first
    | rfl
    | (obtain ⟨hd, d, fr, gs, u⟩ := A; simp [Around.over, Around.deeper, marksOver, frameCount, unitsOf, envsOf, guardsOf, pushEnvs, pushGuards, Code.envs, Code.env?, Code.isFrame, Code.guards, Code.isGuard, Code.weight, Code.frames, Code.isCreation, Code.isCaller, Code.cUnits])

/-- a turn of the loop -/
def turnX (g : TG) (tt : TT) (te : TE) (vs : List Nat) (σ : L2.St) (Yo : YO) (En : EN) (J : It) (W : Nat → Nat → List V → Hp → Prop) : Prop := ∀ i m ys H, W i m ys H →
  (J.stop i H ∧ En ys H) ∨ (J.go i H ∧ ∀ x H', J.yld i H x H' → g x (wipe σ vs) H' fun σ2 H2 => wipe σ2 vs = wipe σ vs ∧ tt σ2 H2 fun b H3 =>
    if b = true then te σ2 H3 fun y H4 => ys.length < sizeLine ∧ Yo ys y H4 (∃ m', m' < m ∧ W (i + 1) m' (ys ++ [y]) H4) else ∃ m', m' < m ∧ W (i + 1) m' ys H3)

section
variable {X : Cx} {A : Around} {s : Shared} {H : Hp} {cenv : Env} {fp : List Addr} {gp : List (Addr × Obj)} {S a : Addr} {g0 : Nat} {C : CO} {Yo : YO} {En : EN}
  {elt tg iter : Expr} {ifs : List Expr} {scope : Scope} {pos : Pos} {it : Addr} {vs : List Nat} {σ : L2.St} {g : TG} {tt : TT} {te : TE} {J : It} {tn : Nat → Heap → Prop} {W : Nat → Nat → List V → Hp → Prop}
theorem seg_loop (hC : ∀ ys o, C ys o → ∀ v, o.data ≠ .cell v) (hY : ∀ ys y H K K', (K → K') → Yo ys y H K → Yo ys y H K')
    (hgen : ∀ (s' : Shared) (ys : List V) (o : Obj), s'.heap.get? S = some o → C ys o → (∀ p ∈ gp, s'.heap.get? p.1 = some p.2) → s'.heap.IsGen a g0)
    (hpn : ∀ p ∈ gp, p.1 ≠ S ∧ p.1 ∉ fp) (hSf : S ∉ fp) (hA : Apart (gcx X A s H cenv fp gp) S) (hco : cenv.scope.isCoroutine = false)
    (T : Turn X.prog X.w X.K tg J fp it tn) (pg : PG (gcx X A s H cenv fp gp) tg g) (pt : PTs (gcx X A s H cenv fp gp) ifs tt) (pe : PE (gcx X A s H cenv fp gp) elt te) (turn : turnX g tt te vs σ Yo En J W) :
    ∀ (m n i : Nat) (ys : List V) (H' : Hp) (s₀ s' : Shared), n + ys.length = sizeLine → W i m ys H' → GIx (gcx X A s H cenv fp gp) S C [] ys (wipe σ vs) H' s' → tn i s'.heap → (∀ b ∈ fp, H' b = none) → (∀ ob, s₀.heap.get? S = some ob → s'.heap.get? S = some ob) →
      Seg (model X.prog X.w) A (REx X.prog X.w X.stack fp H s S a g0 C En) (GYx X.prog X.w X.stack fp H s S a g0 C Yo) n s₀
        (.compLoop (.GeneratorExp elt [⟨tg, iter, ifs, 0⟩] scope pos) 0 (.ref it) .none cenv) ((model X.prog X.w).den (.compLoop (.GeneratorExp elt [⟨tg, iter, ifs, 0⟩] scope pos) 0 (.ref it) .none cenv)) [] s' := by
  have stat : ∀ {σ' : L2.St} {H' : Hp} {s' : Shared} {pins : List (Addr × Obj)}, Inv (gcx X A s H cenv fp gp) pins σ' H' s' → (∀ p ∈ pins, p.1 ∉ fp) → (∀ b ∈ fp, H' b = none) → ∀ b ∈ fp, FpOk (gcx X A s H cenv fp gp) pins H' b := fun {σ' H' s' pins} I' hp0 hn b hb =>
    ⟨hn b hb, (I'.ok.exf b hb).1, I'.ok.exfs b hb, .inl hb, fun x c e => (I'.ok.exf b hb).2 x c e, fun p hp z => (List.mem_append.mp hp).elim (fun q => (hpn p q).2 (z ▸ hb)) fun q => hp0 p q (z ▸ hb)⟩
  intro m
  induction m using Nat.strongRecOn with
  | ind m ih =>
    intro n i ys H' s₀ s' hn w hG st nf h0
    obtain ⟨o, hCo, I⟩ := _root_.id hG
    have h0' : ∀ ob, s₀.heap.get? S = some ob → ob = o := fun ob e => by
      have e1 := h0 ob e
      rw [(I.pin (S, o) (List.mem_append_right _ List.mem_cons_self)).1] at e1
      exact (Option.some.inj e1).symm
    have hp1 : ∀ p ∈ [(S, o)], p.1 ∉ fp := fun p hp => by rw [List.mem_singleton.mp hp]; exact hSf
    show Seg _ A _ _ n s₀ _ ((compTurn (.GeneratorExp elt [⟨tg, iter, ifs, 0⟩] scope pos) 0 (.ref it) .none cenv).onRaise (leaving cenv)) [] s'
    rw [compTurn_gen, Sem.onRaise_eq_wrap]
    refine seg_bind_wrap (wpAny_standAt ?_)
    rcases turn i m ys H' w with ⟨stop, hend⟩ | ⟨go, step⟩
    · refine seg_bind_wrap ?_
      rw [over_comp]
      refine thnF (T.done (gcx X A s H cenv fp gp) rfl rfl rfl rfl i [(S, o)] s' _ H' (fun _ _ => False) I (stat I hp1 nf) st stop) fun r s1 ⟨hr, I1⟩ => ?_
      subst hr
      exact seg_end (.ok .next) (.inl ⟨.inr rfl, ys, H', hn, fun ob e => by rw [h0' ob e]; exact (I1.pin (S, o) (List.mem_append_right _ List.mem_cons_self)).1, mid_of hgen ⟨o, hCo, I1⟩, hend⟩)
    · refine seg_bind_wrap ?_
      rw [over_comp]
      refine thnF (T.item (gcx X A s H cenv fp gp) rfl rfl rfl rfl i [(S, o)] s' _ H' (fun _ _ => False) I (stat I hp1 nf) st go) fun r s1 ⟨u, hr, h1⟩ => ?_
      subst hr
      refine seg_bind_wrap ?_
      rw [over_comp]
      refine thnF h1 fun _ s2 ⟨x, H2, I2, r2, y2, st2, n2⟩ => ?_
      have I2' := I2.pinned (stat I2 hp1 n2) (T.obj _ _ st2)
      refine seg_bind_wrap ?_
      rw [over_comp]
      refine thnF (pg.run _ s2 _ H2 x u _ I2' r2 (step x H2 y2)) fun _ s3 ⟨σ3, H3, I3, hw3, q3⟩ => ?_
      refine seg_bind_wrap ?_
      rw [over_comp]
      refine thnF (pt.run _ s3 σ3 H3 _ I3 q3) fun b s4 ⟨H4, I4, q4⟩ => ?_
      have hl : (wipe σ vs).length = σ3.length := by rw [← hw3, wipe_length]
      have fin : ∀ {n' : Nat} {s9 s₀' : Shared} {H9 : Hp} {zs : List V} {m' : Nat}, n' + zs.length = sizeLine → GIx (gcx X A s H cenv fp gp) S C (pinsAt fp s2.heap) zs σ3 H9 s9 → m' < m → W (i + 1) m' zs H9 → (∀ ob, s₀'.heap.get? S = some ob → s9.heap.get? S = some ob) →
          Seg (model X.prog X.w) A (REx X.prog X.w X.stack fp H s S a g0 C En) (GYx X.prog X.w X.stack fp H s S a g0 C Yo) n' s₀'
            (.compLoop (.GeneratorExp elt [⟨tg, iter, ifs, 0⟩] scope pos) 0 (.ref it) .none cenv) ((model X.prog X.w).den (.compLoop (.GeneratorExp elt [⟨tg, iter, ifs, 0⟩] scope pos) 0 (.ref it) .none cenv)) [] s9 := fun {n' s9 s₀' H9 zs m'} hn' hG9 hm' w9 h9 => by
        obtain ⟨o9, hCo9, I9⟩ := hG9
        have pin9 : ∀ b ∈ fp, ∀ ob, s2.heap.get? b = some ob → s9.heap.get? b = some ob ∧ H9 b = none := fun b hb ob e =>
          let z := I9.pin (b, ob) (List.mem_append_right _ (List.mem_cons_of_mem _ (mem_pinsAt hb e)))
          ⟨z.1, z.2.1⟩
        refine ih m' hm' n' (i + 1) zs H9 s₀' s9 hn' w9 ⟨o9, hCo9, ?_⟩ (T.keep _ _ _ st2 fun b hb ob e => (pin9 b hb ob e).1) (fun b hb => ?_) h9
        · refine Inv.weak (I9.pins_of fun p hp => I9.pin p (List.mem_append_right _ ?_)) hl fun j v e => ?_
          · rw [List.mem_singleton.mp hp]; exact List.mem_cons_self
          · rw [← hw3] at e
            exact (wipe_some e).1
        · obtain ⟨ob, e, _⟩ := T.obj _ _ st2 b hb
          exact (pin9 b hb ob e).2
      cases b with
      | false =>
        simp only [Bool.false_eq_true, if_false] at q4 ⊢
        obtain ⟨m', hm', w4⟩ := q4
        exact seg_again rfl (fin hn ⟨o, hCo, I4⟩ hm' w4 fun ob e => by rw [h0' ob e]; exact (I4.pin (S, o) (List.mem_append_right _ List.mem_cons_self)).1)
      | true =>
        simp only [if_true] at q4 ⊢
        have hy : ∀ v, yieldOut cenv v = yieldValue v := fun v => by simp only [yieldOut, hco, Bool.false_eq_true, if_false]
        simp only [hy]
        rw [Sem.bind_eq_wrap', Sem.bind_eq_wrap', Sem.wrap_wrap, Sem.wrap_wrap]
        refine seg_wrap ?_
        rw [over_comp]
        refine thnF (pe.run _ s4 σ3 H4 _ I4 q4) fun u5 s5 ⟨y, H5, I5, r5, hlt, q5⟩ => ?_
        obtain ⟨n, rfl⟩ : ∃ k, n = k + 1 := ⟨n - 1, by omega⟩
        have G5 : GIx (gcx X A s H cenv fp gp) S C (pinsAt fp s2.heap) ys σ3 H5 s5 := ⟨o, hCo, I5⟩
        refine seg_at (seg_yield rfl rfl rfl ⟨ys, y, H5, hn, r5, fun ob e => by rw [h0' ob e]; exact (I5.pin (S, o) (List.mem_append_right _ List.mem_cons_self)).1, mid_of hgen G5, hY _ _ _ _ _ (fun ⟨m', hm', w5⟩ s6 z => ?_) q5⟩)
        refine seg_again rfl (fin ?_ (G5.woken hC (fun p hp => (hpn p hp).1) (fun p hp z => hSf (z ▸ (of_pinsAt hp).1)) hA z) hm' w5 fun _ e => e)
        rw [List.length_append, List.length_singleton]; omega
end
end GE

set_option Elab.async false
set_option linter.all false
set_option maxRecDepth 100000
set_option maxHeartbeats 2000000
namespace GE
open PySem PySem.Spec PyProof.Rows L2 GenW
section
variable {X : Cx} {A : Around} {s : Shared} {H : Hp} {cenv : Env} {fp : List Addr} {gp : List (Addr × Obj)} {S a : Addr} {g0 : Nat} {C : CO} {Yo : YO} {En : EN}
  {elt tg iter : Expr} {ifs : List Expr} {scope : Scope} {pos : Pos} {it : Addr} {vs : List Nat} {σ : L2.St} {g : TG} {tt : TT} {te : TE} {J : It} {tn : Nat → Heap → Prop} {W : Nat → Nat → List V → Hp → Prop}
theorem seg_start {m : Nat} {H' : Hp} {s₀ s' : Shared} (hC : ∀ ys o, C ys o → ∀ v, o.data ≠ .cell v) (hY : ∀ ys y H K K', (K → K') → Yo ys y H K → Yo ys y H K')
    (hgen : ∀ (s' : Shared) (ys : List V) (o : Obj), s'.heap.get? S = some o → C ys o → (∀ p ∈ gp, s'.heap.get? p.1 = some p.2) → s'.heap.IsGen a g0)
    (hpn : ∀ p ∈ gp, p.1 ≠ S ∧ p.1 ∉ fp) (hSf : S ∉ fp) (hA : Apart (gcx X A s H cenv fp gp) S) (hco : cenv.scope.isCoroutine = false)
    (T : Turn X.prog X.w X.K tg J fp it tn) (pg : PG (gcx X A s H cenv fp gp) tg g) (pt : PTs (gcx X A s H cenv fp gp) ifs tt) (pe : PE (gcx X A s H cenv fp gp) elt te) (turn : turnX g tt te vs σ Yo En J W)
    (w : W 0 m [] H') (hG : GIx (gcx X A s H cenv fp gp) S C [] [] (wipe σ vs) H' s') (st : tn 0 s'.heap) (nf : ∀ b ∈ fp, H' b = none) (h0 : ∀ ob, s₀.heap.get? S = some ob → s'.heap.get? S = some ob) :
    Seg (model X.prog X.w) A (REx X.prog X.w X.stack fp H s S a g0 C En) (GYx X.prog X.w X.stack fp H s S a g0 C Yo) sizeLine s₀
        (.compStart (.GeneratorExp elt [⟨tg, iter, ifs, 0⟩] scope pos) 0 (.ref it) .none cenv) ((model X.prog X.w).den (.compStart (.GeneratorExp elt [⟨tg, iter, ifs, 0⟩] scope pos) 0 (.ref it) .none cenv)) [] s' := by
  have loop := seg_loop (pos := pos) (iter := iter) (scope := scope) hC hY hgen hpn hSf hA hco T pg pt pe turn m sizeLine 0 [] H' s₀ s' (Nat.add_zero _) w hG st nf h0
  show Seg _ A _ _ _ s₀ _ ((compStart (.GeneratorExp elt [⟨tg, iter, ifs, 0⟩] scope pos) 0 (.ref it) .none cenv).onRaise (leaving cenv)) [] s'
  unfold compStart
  rw [Sem.onRaise_eq_wrap]
  show Seg _ A _ _ _ s₀ _ ((ask >>= _).wrap _ _ _ _) [] s'
  refine seg_bind_wrap (wpAny_askSetting ?_)
  split
  · exact seg_again rfl loop
  · first
      | exact seg_bind_wrap (wpAny_rule (seg_bind_wrap (wpAny_standAt (seg_bind_wrap (T.self _ 0 s' _ _ st (seg_again rfl loop))))))
      | (refine seg_bind_wrap (wpAny_rule ?_); show Seg _ A _ _ _ s₀ _ ((standAt iter.pos >>= _).wrap _ _ _ _) [] s'; exact seg_bind_wrap (wpAny_standAt (seg_bind_wrap (T.self _ 0 s' _ _ st (seg_again rfl loop)))))

/-- the frame's start, in any later state that keeps what stood -/
theorem gen_start {pins pl : List (Addr × Obj)} {own : List (Str × Nat)} {code : Value} {m : Str → Option Value} {s2 : Shared} (I : Inv X pins σ H s) (ok : BlkOk X.N X.env.scope scope own) (hN : X.N.Nodup) (hnc : ∀ y ∈ scope.names, y.2 ≠ .cell)
    (hfp : ∀ b ∈ fp, FpOk X pins H b ∧ b < s.heap.objs.size) (hd : A.handled = none) (hfr : A.frames = some X.stack)
    (hce : cenv = genEnv scope (cloFrom X.env.cells scope.names []) s.heap.objs.size code builtinsNs X.env)
    (kp : ∀ b o, s.heap.get? b = some o → s2.heap.get? b = some o) (hns : s2.heap.Ns s.heap.objs.size m) (hos : s2.os = s.os) (hba : AllBare s2.gens)
    (hpl : ∀ p ∈ gp ++ pl, s2.heap.get? p.1 = some p.2 ∧ s.heap.objs.size < p.1 ∧ ∀ v, p.2.data ≠ .cell v) :
    Inv (gcx X A s H cenv fp gp) pl (wipe σ (own.map (·.2))) H s2 := by
  have hfree : ∀ y ∈ scope.names, y.2 = .free → ∃ c, X.env.cells.lookup y.1 = some c := fun y hy e => by
    rcases ok.free y hy e with k | k
    · exact I.ok.has _ (.inl k)
    · exact I.ok.has _ (.inr k)
  have hL : cenv.locals = s.heap.objs.size := by rw [hce]; rfl
  have hcl : cenv.cells = cloFrom X.env.cells scope.names [] := by rw [hce]; rfl
  have hsc : cenv.scope = scope := by rw [hce]; rfl
  have cm : ∀ {y c}, (y, c) ∈ cloFrom X.env.cells scope.names [] → X.env.cells.lookup y = some c ∧ c < s.heap.objs.size := fun {y c} hm => by
    rcases cloFrom_mem hm with hm | ⟨h1, rfl⟩
    · cases hm
    · obtain ⟨c, hc⟩ := hfree _ h1 rfl
      rw [hc]
      obtain ⟨w, z⟩ := I.cell _ _ hc
      exact ⟨rfl, z.lt⟩
  have mem : ∀ {y c}, cenv.cells.lookup y = some c → X.env.cells.lookup y = some c ∧ c < s.heap.objs.size := fun {y c} e => by
    rw [hcl] at e
    exact cm (PySem.mem_of_lookup e)
  have look : ∀ {y}, scope.names.lookup y = some .free → ∃ c, cenv.cells.lookup y = some c ∧ X.env.cells.lookup y = some c := fun {y} hl => by
    have hy : (y, NameKind.free) ∈ scope.names := PySem.mem_of_lookup hl
    obtain ⟨c', e'⟩ := mem_lookup (cloFrom_has (cells := X.env.cells) (acc := []) hy)
    rw [← hcl] at e'
    exact ⟨c', e', (mem e').1⟩
  have stkLt : ∀ b ∈ frs X.stack, b < s.heap.objs.size := fun b hb => by
    obtain ⟨_, o, ho, _⟩ := I.stack.mem hb
    exact Heap.lt_size ho
  have okB : (gcx X A s H cenv fp gp).Ok := by
    refine ⟨I.ok.mod, by show cenv.scope.kind = _; rw [hsc]; exact ok.kind, by show cenv.globals = _; rw [hce]; exact I.ok.glob, by show cenv.builtins = _; rw [hce]; rfl, by show s.heap.objs.size ≤ cenv.locals; rw [hL]; exact Nat.le_refl _,
      fun y z c e1 e2 => ?_, fun y hy => ?_, fun y c z e => ?_, fun _ => hd, ?_, .inr ⟨rfl, ?_⟩, fun b hb => ⟨?_, fun y c e z => ?_⟩, I.bs, Nat.le_trans I.ok.bsz I.sz, fun b o e hb => ?_, fun b hb z => ?_, I.stack, I.stkFree⟩
    · exact I.ok.inj y z c (mem e1).1 (mem e2).1
    · have key : ∀ k, scope.names.lookup y = some k → (k = .cell ∨ k = .free) → ∃ c, cenv.cells.lookup y = some c := fun k hk hk' => by
        rcases hk' with rfl | rfl
        · exact absurd rfl (hnc _ (PySem.mem_of_lookup hk))
        · obtain ⟨c, h1, _⟩ := look hk
          exact ⟨c, h1⟩
      have hy' : cenv.scope.names.lookup y = some .cell ∨ cenv.scope.names.lookup y = some .free := hy
      rw [hsc] at hy'
      rcases hy' with hy' | hy'
      · exact key _ hy' (.inl rfl)
      · exact key _ hy' (.inr rfl)
    · cases z
    · show (A.deeper cenv).frames = some (cenv :: X.stack)
      have e : (A.deeper cenv).frames = A.frames.map (cenv :: ·) := by first | rfl | (obtain ⟨a1, a2, a3, a4, a5⟩ := A; cases a3 <;> rfl)
      rw [e, hfr]; rfl
    · show cenv.frame = some cenv.locals
      rw [hce]; rfl
    · show b ≠ cenv.locals
      rw [hL]; exact Nat.ne_of_lt (hfp b hb).2
    · exact (hfp b hb).1.2.2.2.2.1 y c (mem e).1 z
    · rcases (hfp b hb).1.2.2.2.1 with z | z
      · exact I.ok.noex b o e z
      · exact absurd (Nat.lt_of_lt_of_le (Heap.lt_size e) (Nat.le_trans I.ok.bsz z)) (Nat.lt_irrefl _)
    · rcases List.mem_cons.mp (I.stkSub b z) with z | z
      · exact (hfp b hb).1.2.1 z
      · exact (hfp b hb).1.2.2.1 z
  refine ⟨okB, hos, hba, Un.kept kp, ⟨m, by show s2.heap.Ns cenv.locals m; rw [hL]; exact hns, fun i y av e1 e2 e3 => ?_⟩, fun y c e => ?_, ?_, fun y c e => ?_, fun p hp => ?_, I.hok.kept kp, by rw [wipe_length]; exact I.len⟩
  · obtain ⟨e2, hne⟩ := wipe_some e2
    have hfr : scope.names.lookup y = some .free := by
      have e3 : Vis cenv.scope y := e3
      rw [hsc] at e3
      have no : ∀ k, scope.names.lookup y = some k → ¬ (k = .local ∨ k = .cell) := fun k hk hh => by
        rcases ok.own _ (PySem.mem_of_lookup hk) hh with e' | e'
        · obtain ⟨p, hp, hpy⟩ := List.mem_map.mp e'
          have e3 := ok.ix p hp
          have : p.1 = y := hpy
          rw [this] at e3
          exact hne (List.mem_map.mpr ⟨p, hp, nodup_ix hN e3 e1⟩)
        · exact e' (List.mem_of_getElem? e1)
      rcases e3 with e3 | e3 | e3
      · exact absurd (.inl rfl) (no _ e3)
      · exact absurd (.inr rfl) (no _ e3)
      · exact e3
    obtain ⟨m', hn, hl⟩ := I.loc
    have hvis : Vis X.env.scope y := (ok.free _ (PySem.mem_of_lookup hfr) rfl).elim (fun k => .inr (.inl k)) (fun k => .inr (.inr k))
    obtain ⟨w, r, q⟩ := hl i y av e1 e2 hvis
    have hkf : cenv.kindOf y = some .free := by show cenv.scope.names.lookup y = _; rw [hsc]; exact hfr
    refine ⟨w, r, .inr ⟨.inr hkf, ?_⟩⟩
    obtain ⟨c, h1, h2⟩ := look hfr
    rcases q with ⟨k, _⟩ | ⟨_, c', e', z⟩
    · have k : X.env.scope.names.lookup y = some .local := k
      rcases ok.free _ (PySem.mem_of_lookup hfr) rfl with k' | k' <;> rw [show X.env.scope.names.lookup y = _ from k'] at k <;> cases k
    · rw [h2] at e'; cases e'
      exact ⟨c, h1, z.keeps kp⟩
  · obtain ⟨w, z⟩ := I.cell y c (mem e).1
    exact ⟨w, z.keeps kp⟩
  · show H cenv.locals = none
    rw [hL]; exact I.hok.fresh (Nat.le_refl _)
  · exact I.freeC y c (mem e).1
  · obtain ⟨h1, h2, h3⟩ := hpl p hp
    refine ⟨h1, I.hok.fresh (Nat.le_of_lt h2), by show p.1 ≠ cenv.locals; rw [hL]; exact Nat.ne_of_gt h2, fun z => ?_, h3⟩
    exact absurd (Nat.lt_trans h2 (stkLt _ z)) (Nat.lt_irrefl _)
end
end GE

set_option Elab.async false
set_option linter.all false
set_option maxRecDepth 100000
set_option maxHeartbeats 2000000
namespace GE
open PySem PySem.Spec PyProof.Rows L2 GenW
/-- the reading of a generator expression that is consumed at once: Yo at each item, En at the end; P: the def's table of code objects -/
def tGx (wi : TI) (g : TG) (tt : TT) (te : TE) (vs : List Nat) (P : Addr) (Yo : YO) (En : EN) : L2.St → Hp → Prop := fun σ H => wi σ H fun J H1 => GxR.TabG H1 P ∧ ∀ H2, GxR.Tabbed P H1 H2 →
  ∃ W : Nat → Nat → List V → Hp → Prop, (∃ m, W 0 m [] H2) ∧ turnX g tt te vs σ Yo En J W
/-- a generator that has not begun -/
def MadeX (X : Cx) (k : Nat) (H : Hp) (sc : Shared) (fp : List Addr) (Yo : YO) (En : EN) (u : Value) (s5 : Shared) : Prop :=
  ∃ (a : Addr) (g : Nat) (c : Code), u = .ref a ∧ sc.heap.objs.size < a ∧ a < s5.heap.objs.size ∧ s5.heap.IsGen a g ∧ s5.gens[g]? = some (.fresh c) ∧ (∃ go, s5.heap.get? a = some go ∧ (∀ h : Heap, h.get? a = some go → h.IsGen a g) ∧ ∀ v, go.data ≠ .cell v) ∧
    s5.os = sc.os ∧ AllBare s5.gens ∧ s5.heap.NoLimit ∧ (∀ b o, sc.heap.get? b = some o → s5.heap.get? b = some o) ∧
    ∀ (A : Around) (S : Addr) (C : CO) (gp : List (Addr × Obj)) (s2 : Shared), Room (k + 1) A → A.frames = some X.stack → (∀ ys o, C ys o → ∀ v, o.data ≠ .cell v) →
      (∀ (s' : Shared) (ys : List V) (o : Obj), s'.heap.get? S = some o → C ys o → (∀ p ∈ gp, s'.heap.get? p.1 = some p.2) → s'.heap.IsGen a g) →
      (∀ p ∈ gp, p.1 ≠ S ∧ sc.heap.objs.size < p.1 ∧ s2.heap.get? p.1 = some p.2 ∧ ∀ v, p.2.data ≠ .cell v) → sc.heap.objs.size < S → (∀ b o, s5.heap.get? b = some o → s2.heap.get? b = some o) →
      (∃ o, s2.heap.get? S = some o ∧ C [] o) → s2.os = sc.os → AllBare s2.gens →
      Seg (model X.prog X.w) A (REx X.prog X.w X.stack fp H sc S a g C En) (GYx X.prog X.w X.stack fp H sc S a g C Yo) sizeLine s2 c ((model X.prog X.w).den c) [] s2

section
variable {X : Cx} {pins : List (Addr × Obj)} {σ : L2.St} {H : Hp} {s : Shared}
theorem gen_make {c P : Addr} {elt iter tg : Expr} {ifs : List Expr} {gpos : Pos} {scope : Scope} {own : List (Str × Nat)} {wi : TI} {g : TG} {tt : TT} {te : TE} {k : Nat} {Yo : YO} {En : EN} {Q' : Value → Shared → Prop}
    (hr : Room (k + 2) X.A) (hN : X.N.Nodup) (TB : GxR.TabB X.base X.mg c P) (hcode : X.env.code = .ref c) (hi : PI X tg iter wi) (ok : BlkOk X.N X.env.scope scope own) (hnc : ∀ y ∈ scope.names, y.2 ≠ .cell) (hco : scope.isCoroutine = false)
    (h0 : scope.names.lookup (".0" : Str) = some NameKind.local)
    (hg : ∀ (A : Around) (s : Shared) (H : Hp) (C : Addr) (cl : List (Str × Addr)) (code : Value) (fp : List Addr) (gp : List (Addr × Obj)), PG (gcx X A s H (genEnv scope cl C code builtinsNs X.env) fp gp) tg g)
    (ht : ∀ (A : Around) (s : Shared) (H : Hp) (C : Addr) (cl : List (Str × Addr)) (code : Value) (fp : List Addr) (gp : List (Addr × Obj)), Room k (A.deeper (genEnv scope cl C code builtinsNs X.env)) → PTs (gcx X A s H (genEnv scope cl C code builtinsNs X.env) fp gp) ifs tt)
    (he : ∀ (A : Around) (s : Shared) (H : Hp) (C : Addr) (cl : List (Str × Addr)) (code : Value) (fp : List Addr) (gp : List (Addr × Obj)), Room k (A.deeper (genEnv scope cl C code builtinsNs X.env)) → PE (gcx X A s H (genEnv scope cl C code builtinsNs X.env) fp gp) elt te)
    (hY : ∀ ys y H K K', (K → K') → Yo ys y H K → Yo ys y H K')
    (hs : ∀ v, genFold iter X.env v = pure v) (I : Inv X pins σ H s) (h : tGx wi g tt te (own.map (·.2)) P Yo En σ H)
    (hQ : ∀ H2 sc fp u s5, Inv X pins σ H2 sc → ExOk X pins fp → MadeX X k H2 sc fp Yo En u s5 → Q' u s5) :
    wpAny (model X.prog X.w) X.A (eval (.GeneratorExp elt [⟨tg, iter, ifs, 0⟩] scope gpos) X.env) Q' X.xe s := by
  have hfree : ∀ y ∈ scope.names, y.2 = .free → ∃ c, X.env.cells.lookup y.1 = some c := fun y hy e => by
    rcases ok.free y hy e with k | k
    · exact I.ok.has _ (.inl k)
    · exact I.ok.has _ (.inr k)
  refine wpAny_GeneratorExp_make hco (closure_ok hfree) hnc h0 ok.kind (by have := hr.dp; omega) (thn (hi.run pins s σ H _ I h) fun xv s1 hx => thn hx fun itv s2 h2 => ?_) hs
  obtain ⟨it, fp, tn, J, H2, e, I2, T, st2, f2, ⟨ps, hP, htr⟩, q⟩ := h2
  subst e
  have hPs : s2.heap.get? P = some { cls := .none, data := .fields ps } := I2.hok P _ hP
  have cd : PySem.W.CodeHd s2.heap c P := TB.code.keeps fun b u e => I2.bk b u e
  refine ⟨I2.nolimit, ?_⟩
  have fpne : ∀ b ∈ fp, b ≠ P := fun b hb z => by
    have := (f2 b hb).1
    rw [z, hP] at this
    cases this
  have cont : ∀ (code : Value) (h3 : Heap) (tk : Nat) (ps' : Array Value), Heap.ExtBut P s2.heap h3 → h3.get? P = some { cls := .none, data := .fields ps' } → (∃ more, ps' = ps ++ more) → TriplesOk ps'.toList →
      wpAny (model X.prog X.w) X.A (builtinsFor X.env.globals X.env.builtins) (fun bi s₄ =>
        ∀ h', h'.Ns s₄.heap.objs.size (fun y => if y = ".0" then some (.ref it) else none) → Heap.SameBut s₄.heap.objs.size (s₄.heap.push { cls := .type "frame", data := .dict #[] }) h' →
          Q' (.ref h'.objs.size) { s₄ with
            gens := s₄.gens.push (.fresh (.compStart (.GeneratorExp elt [⟨tg, iter, ifs, 0⟩] scope gpos) 0 (.ref it) .none (genEnv scope (cloFrom X.env.cells scope.names []) s₄.heap.objs.size code bi X.env))),
            toks := s₄.toks + 1 + 1 + 1,
            heap := h'.push { cls := .type "generator", data := .fields #[.int s₄.gens.size 0, .str "<genexpr>" (s₄.toks + 1), .str (X.env.qual ++ "<genexpr>") (s₄.toks + 1 + 1)] } }) X.xe { s2 with heap := h3, toks := tk } := by
    intro code h3 tk ps' hx hP3 hmore ht3
    obtain ⟨more, em⟩ := hmore
    have I3 : Inv X pins σ (upd H2 P (.tbl (ps ++ more))) { s2 with heap := h3, gens := s2.gens, drawn := s2.drawn, toks := tk } :=
      GxR.inv_tab I2 hP (fun b u hb e => hx b u hb e) (by rw [← em]; exact hP3) I2.bare
    generalize hsc : ({ s2 with heap := h3, gens := s2.gens, drawn := s2.drawn, toks := tk } : Shared) = sc at I3
    have hh3 : sc.heap = h3 := by rw [← hsc]
    generalize hH3 : upd H2 P (.tbl (ps ++ more)) = H3 at I3
    have tab : GxR.Tabbed P H2 H3 := by rw [← hH3]; exact ⟨⟨ps ++ more, upd_same, by rw [← em]; exact ht3⟩, fun b hb => upd_ne hb⟩
    obtain ⟨bm, ob, e1, e2, e3, e4, e5, e6, e7, e8⟩ := TB.bm
    refine wpAny_builtinsFor (m := X.mg) (by rw [I3.ok.glob]; exact I3.mod.glob.keeps I3.bk) e1 e2 (I3.bk _ _ e5) e6 e7 e8 ?_
    intro h' hns hsb
    obtain ⟨W, ⟨m0, w0⟩, turn⟩ := q H3 tab
    have st3 : tn 0 sc.heap := T.keep _ _ _ st2 fun b hb o e => by rw [hh3]; exact hx b o (fpne b hb) e
    have f3 : ∀ b ∈ fp, FpOk X pins H3 b ∧ b < sc.heap.objs.size := fun b hb => by
      obtain ⟨o, e, _⟩ := T.obj _ _ st3 b hb
      exact ⟨⟨(tab.2 b (fpne b hb)).trans (f2 b hb).1, (f2 b hb).2⟩, Heap.lt_size e⟩
    have hsz : h'.objs.size = sc.heap.objs.size + 1 := by rw [hsb.1, Heap.size_push]
    have kp1 : ∀ b o, sc.heap.get? b = some o → h'.get? b = some o := fun b o e => hsb.extBut b o (Nat.ne_of_lt (Heap.lt_size e)) (Heap.get?_push_of_some _ e)
    have limc : sc.heap.NoLimit := I3.nolimit
    have main : ∀ (go : Obj) (nm qn : Value) (tk2 : Nat), go.cls = .type "generator" → go.data = .fields #[.int sc.gens.size 0, nm, qn] → go.slots = #[] → (∀ h : Heap, (h.push go).get? h.objs.size = some go) →
        Q' (.ref h'.objs.size) { sc with gens := sc.gens.push (.fresh (.compStart (.GeneratorExp elt [⟨tg, iter, ifs, 0⟩] scope gpos) 0 (.ref it) .none (genEnv scope (cloFrom X.env.cells scope.names []) sc.heap.objs.size code builtinsNs X.env))), toks := tk2, heap := h'.push go } := by
      intro go nm qn tk2 hgc hgd0 hgs hgp
      have hgen : ∀ h : Heap, h.get? h'.objs.size = some go → h.IsGen h'.objs.size sc.gens.size := fun h e => ⟨go, nm, qn, e, hgc, hgd0, hgs⟩
      have hgd : ∀ v, go.data ≠ .cell v := fun v q => by rw [hgd0] at q; cases q
      have kp5 : ∀ b o, sc.heap.get? b = some o → (h'.push go).get? b = some o := fun b o e => Heap.get?_push_of_some _ (kp1 b o e)
      refine hQ H3 sc fp _ _ I3 (fun b hb => ⟨(f3 b hb).1.2.2.2.1, (f3 b hb).1.2.1, (f3 b hb).1.2.2.2.2.1, (f3 b hb).1.2.2.2.2.2⟩) ⟨h'.objs.size, sc.gens.size, _, rfl, by omega, by show _ < (h'.push go).objs.size; rw [Heap.size_push]; exact Nat.lt_succ_self _, hgen _ (hgp _), Array.getElem?_push_size .., ⟨go, hgp _, hgen, hgd⟩, rfl, AllBare.push I3.bare rfl, limc.keeps kp5, kp5, ?_⟩
      intro A S C gp s9 hrA hfr hC hgn hgp9 hSy hk9 hS9 hos9 hba9
      obtain ⟨oS, eS, hCo⟩ := hS9
      have kp9 : ∀ b o, sc.heap.get? b = some o → s9.heap.get? b = some o := fun b o e => hk9 b o (kp5 b o e)
      have hns9 : s9.heap.Ns sc.heap.objs.size (fun y => if y = ".0" then some (.ref it) else none) := hns.keeps fun b o e => hk9 b o (Heap.get?_push_of_some _ e)
      have I9 := gen_start (A := A) (gp := gp) (pl := [(S, oS)]) (cenv := genEnv scope (cloFrom X.env.cells scope.names []) sc.heap.objs.size code builtinsNs X.env) (s2 := s9) I3 ok hN hnc f3 hrA.hd hfr rfl kp9 hns9 hos9 hba9 (fun p hp => by
        rcases List.mem_append.mp hp with hp | hp
        · exact ⟨(hgp9 p hp).2.2.1, (hgp9 p hp).2.1, (hgp9 p hp).2.2.2⟩
        · rw [List.mem_singleton.mp hp]
          exact ⟨eS, hSy, hC _ _ hCo⟩)
      have hSf : S ∉ fp := fun z => absurd (Nat.lt_trans hSy (f3 S z).2) (Nat.lt_irrefl _)
      have hAp : Apart (gcx X A sc H3 (genEnv scope (cloFrom X.env.cells scope.names []) sc.heap.objs.size code builtinsNs X.env) fp gp) S := by
        refine ⟨Nat.le_of_lt hSy, Nat.ne_of_gt hSy, fun y cc e z => ?_⟩
        obtain ⟨v, ob, ho, _⟩ := I9.cell y cc e
        have e' : (cloFrom X.env.cells scope.names []).lookup y = some cc := e
        rcases cloFrom_mem (PySem.mem_of_lookup e') with hm | ⟨h1, h2⟩
        · cases hm
        · obtain ⟨c2, hc2⟩ := hfree _ h1 rfl
          obtain ⟨w, z2⟩ := I3.cell _ _ hc2
          have h3 : cc = c2 := by rw [h2, hc2]; rfl
          have hl : c2 < sc.heap.objs.size := z2.lt
          rw [← h3, z] at hl
          exact absurd (Nat.lt_trans hSy hl) (Nat.lt_irrefl _)
      exact seg_start hC hY hgn (fun p hp => ⟨(hgp9 p hp).1, fun z => absurd (Nat.lt_trans (hgp9 p hp).2.1 (f3 _ z).2) (Nat.lt_irrefl _)⟩) hSf hAp hco T (hg A sc H3 _ _ _ fp gp) (ht A sc H3 _ _ _ fp gp (hrA.deeper _)) (he A sc H3 _ _ _ fp gp (hrA.deeper _)) turn w0
        ⟨oS, hCo, I9⟩ (T.keep _ _ _ st3 fun b hb o e => kp9 b o e) (fun b hb => (f3 b hb).1.1) fun _ e => e
    exact main _ _ _ _ rfl rfl rfl fun h => Heap.get?_push_size _ rfl
  cases hf : codeAmong gpos ps.toList with
  | none =>
    refine wpAny_genexprCodeX hcode (cd.code hPs htr) (cd.tab hPs) hf fun c' h' tk hx hge hlt hco' _ htab' _ => ?_
    obtain ⟨o1, vs, f1, tf, fl, tg, inF, tx, tt, op, _, _, _, _, _, _, _, _, _, htr', _⟩ := hco'
    exact cont _ h' tk _ hx htab'.2 ⟨_, rfl⟩ htr'
  | some cv =>
    refine wpAny_genexprCode_hit hcode (cd.code hPs htr) hf ?_
    exact cont cv s2.heap s2.toks ps (Heap.ExtBut.refl _ _) hPs ⟨#[], by simp⟩ htr
end
end GE

set_option Elab.async false
set_option linter.all false
set_option maxRecDepth 100000
set_option maxHeartbeats 2000000
namespace GE
open PySem PySem.Spec PyProof.Rows L2 GenW
structure Out (P : Program) (w : World) (outer : List Env) (ex : List Addr) (H : Hp) (s : Shared) (S : Addr) (C : CO) (ys : List V) (H' : Hp) (s' : Shared) : Prop where
  os : s'.os = s.os
  bare : AllBare s'.gens
  un : Un (frs outer) ex H H' s.heap s'.heap
  hok : HOk P w H' s'.heap
  free : H' S = none
  own : ∃ o, s'.heap.get? S = some o ∧ C ys o
section
variable {P : Program} {w : World} {outer : List Env} {ex : List Addr} {H : Hp} {sc : Shared} {S a : Addr} {g : Nat} {C : CO} {Yo : YO} {En : EN}
def RdyX (P : Program) (w : World) (outer : List Env) (ex : List Addr) (H : Hp) (sc : Shared) (S a : Addr) (g : Nat) (C : CO) (Yo : YO) (En : EN) (A1 : Around) (m : Nat) (s : Shared) : Prop :=
  s.heap.IsGen a g ∧ s.heap.NoLimit ∧ ∃ gs, s.gens[g]? = some gs ∧ gs.Goes (model P w) A1 (REx P w outer ex H sc S a g C En) (GYx P w outer ex H sc S a g C Yo) m (.send .none) (s.setGen g .running)
theorem next_x {A0 : Around} {s : Shared} {m : Nat} {Q : Option Value → Shared → Prop} {E : Value → Shared → Prop} (hY : ∀ ys y H K K', (K → K') → Yo ys y H K → Yo ys y H K') (hh : A0.handled = none) (hd : A0.depth < recursionLimit)
    (hr : RdyX P w outer ex H sc S a g C Yo En A0.in1 m s)
    (hend : ∀ ys H' s', Out P w outer ex H sc S C ys H' s' → (∀ ob, s.heap.get? S = some ob → s'.heap.get? S = some ob) → ys.length ≤ sizeLine → En ys H' → Q none s')
    (hyl : ∀ ys x H' v s', RelV x v → Out P w outer ex H sc S C ys H' s' → s'.heap.NoLimit → s'.heap.IsGen a g → (∀ ob, s.heap.get? S = some ob → s'.heap.get? S = some ob) → ys.length < sizeLine →
      Yo ys x H' (∀ s'', s''.os = s'.os → s''.gens = s'.gens → (∀ b o, b ≠ S → s'.heap.get? b = some o → s''.heap.get? b = some o) → (∃ o, s''.heap.get? S = some o ∧ C (ys ++ [x]) o) → s''.heap.IsGen a g → s''.heap.NoLimit →
        ∃ k, m = k + 1 ∧ RdyX P w outer ex H sc S a g C Yo En A0.in1 k s'') → Q (some v) s') :
    wpAny (model P w) A0 (pyNext (.ref a)) Q E s := by
  obtain ⟨hg, hl, gs, hgs, hgo⟩ := hr
  have hgl : g < s.gens.size := (Array.getElem?_eq_some_iff.mp hgs).1
  refine wpAny_gsz (n := g + 1) hgl (next_genG (F := Fi P w outer ex H sc S a g C En) (Er := fun _ _ => False) hh hl hd hg hgs hgo (fun v s₁ gs' hbare hv => ?_) (fun s₁ hp h' hk => ?_) fun e s₁ he => he.elim)
  · intro hsz
    have hsz1 : g < s₁.gens.size := by
      have q : (s₁.setGen g gs').gens.size = s₁.gens.size := setGen_size _ _ _
      have hsz' : g + 1 ≤ (s₁.setGen g gs').gens.size := hsz
      omega
    obtain ⟨ys, x, H', hn, rv, h0, M, hyo⟩ := hv
    refine hyl ys x H' v _ rv ⟨M.os, allBare_setGen M.bare hbare, M.un, M.hok, M.free, M.own⟩ M.lim M.gen h0 (by omega) (hY _ _ _ _ _ (fun hk s'' h1 h2 h3 h4 h5 h6 => ?_) hyo)
    have z := hk (s''.setGen g .running) ⟨h1, allBare_setGen (by rw [h2]; exact allBare_setGen M.bare hbare) rfl, h3, h4⟩
    cases m with
    | zero => exact False.elim z
    | succ k => exact ⟨k, rfl, h5, h6, gs', by rw [h2]; exact setGen_at hsz1, z⟩
  · intro _
    obtain ⟨ys, H', hn, h0, M, he⟩ := hp
    obtain ⟨o, eS, hCo⟩ := M.own
    exact hend ys H' _ ⟨M.os, allBare_setGen M.bare rfl, M.un.trans (Un.kept hk), M.hok.kept hk, M.free, o, hk _ _ eS, hCo⟩ (fun ob e => hk _ _ (h0 ob e)) (by omega) he

/-! ### all, any -/
def YAll (Qf : Hp → Prop) : YO := fun _ y H K => ∃ b, y = .bl b ∧ (b = true → K) ∧ (b = false → Qf H)
def YAny (Qt : Hp → Prop) : YO := fun _ y H K => ∃ b, y = .bl b ∧ (b = false → K) ∧ (b = true → Qt H)
theorem YAll.mono {Qf : Hp → Prop} : ∀ ys y H K K', (K → K') → YAll Qf ys y H K → YAll Qf ys y H K' := fun _ _ _ _ _ f ⟨b, e, h1, h2⟩ => ⟨b, e, fun z => f (h1 z), h2⟩
theorem YAny.mono {Qf : Hp → Prop} : ∀ ys y H K K', (K → K') → YAny Qf ys y H K → YAny Qf ys y H K' := fun _ _ _ _ _ f ⟨b, e, h1, h2⟩ => ⟨b, e, fun z => f (h1 z), h2⟩
theorem all_loop {A : Around} {R : Result → Shared → Prop} {go : Obj} {Qf : Hp → Prop} (hh : A.handled = none) (hd : A.depth < recursionLimit)
    (hT : ∀ ys H' s', Out P w outer ex H sc a (fun _ o => o = go) ys H' s' → En ys H' → R (.ok (.ret (.bool true))) s') (hF : ∀ ys H' s', Out P w outer ex H sc a (fun _ o => o = go) ys H' s' → Qf H' → R (.ok (.ret (.bool false))) s') :
    ∀ (m : Nat) (s : Shared), RdyX P w outer ex H sc a a g (fun _ o => o = go) (YAll Qf) En A.in1.in1 m s → codeAny (model P w) A (.builtin "all.loop" ⟨[.ref a], []⟩) R s := by
  intro m
  induction m using Nat.strongRecOn with
  | ind m ih =>
    intro s hr
    refine codeAny_builtin F.entry_all_loop ?_
    rw [Around.under_plainId F.plain_all_loop _]
    show wpAny _ A.in1 (pyNext (.ref a) >>= _) _ _ s
    refine wpAny_bind (next_x (A0 := A.in1) YAll.mono hh hd hr (fun ys H' s' O _ _ he => ?_) fun ys x H' v s' rv O hl hg _ hlt hy => ?_)
    · exact wpAny_bind (wpAny_rule (wpAny_pure (hT ys H' s' O he)))
    · obtain ⟨b, rfl, h1, h2⟩ := hy
      obtain rfl : v = Value.bool b := rv
      refine wpAny_bind (wpAny_holding (wpAny_truthy_bool ?_))
      refine wpAny_bind (wpAny_letGo ?_)
      cases b with
      | true =>
        simp only [if_true]
        obtain ⟨k, rfl, hr'⟩ := h1 rfl s' rfl rfl (fun _ _ _ e => e) O.own hg hl
        exact wpAny_pure ⟨plainId_quiet F.plain_all_loop _, ih k (Nat.lt_succ_self k) s' hr'⟩
      | false =>
        simp only [Bool.false_eq_true, if_false]
        exact wpAny_bind (wpAny_rule (wpAny_pure (hF ys H' s' O (h2 rfl))))
theorem any_loop {A : Around} {R : Result → Shared → Prop} {go : Obj} {Qt : Hp → Prop} (hh : A.handled = none) (hd : A.depth < recursionLimit)
    (hF : ∀ ys H' s', Out P w outer ex H sc a (fun _ o => o = go) ys H' s' → En ys H' → R (.ok (.ret (.bool false))) s') (hT : ∀ ys H' s', Out P w outer ex H sc a (fun _ o => o = go) ys H' s' → Qt H' → R (.ok (.ret (.bool true))) s') :
    ∀ (m : Nat) (s : Shared), RdyX P w outer ex H sc a a g (fun _ o => o = go) (YAny Qt) En A.in1.in1 m s → codeAny (model P w) A (.builtin "any.loop" ⟨[.ref a], []⟩) R s := by
  intro m
  induction m using Nat.strongRecOn with
  | ind m ih =>
    intro s hr
    refine codeAny_builtin F.entry_any_loop ?_
    rw [Around.under_plainId F.plain_any_loop _]
    show wpAny _ A.in1 (pyNext (.ref a) >>= _) _ _ s
    refine wpAny_bind (next_x (A0 := A.in1) YAny.mono hh hd hr (fun ys H' s' O _ _ he => ?_) fun ys x H' v s' rv O hl hg _ hlt hy => ?_)
    · exact wpAny_bind (wpAny_rule (wpAny_pure (hF ys H' s' O he)))
    · obtain ⟨b, rfl, h1, h2⟩ := hy
      obtain rfl : v = Value.bool b := rv
      refine wpAny_bind (wpAny_holding (wpAny_truthy_bool ?_))
      refine wpAny_bind (wpAny_letGo ?_)
      cases b with
      | false =>
        simp only [Bool.false_eq_true, if_false]
        obtain ⟨k, rfl, hr'⟩ := h1 rfl s' rfl rfl (fun _ _ _ e => e) O.own hg hl
        exact wpAny_pure ⟨plainId_quiet F.plain_any_loop _, ih k (Nat.lt_succ_self k) s' hr'⟩
      | true =>
        simp only [if_true]
        exact wpAny_bind (wpAny_rule (wpAny_pure (hT ys H' s' O (h2 rfl))))

/-! ### sum -/
def iv : V → Int
  | .int z => z
  | _ => 0
def isum (ys : List V) : Int := (ys.map iv).sum
theorem isum_snoc (ys : List V) (z : Int) : isum (ys ++ [.int z]) = isum ys + z := by
  unfold isum
  rw [List.map_append, List.sum_append]
  show _ + ([z] : List Int).sum = _
  rw [show ([z] : List Int).sum = z by simp]
def YSum : YO := fun ys y _ K => ∃ z, y = .int z ∧ (-(2 ^ 63) ≤ z ∧ z < 2 ^ 63) ∧ (-(2 ^ 63) ≤ isum ys + z ∧ isum ys + z < 2 ^ 63) ∧ K
theorem YSum.mono : ∀ ys y H K K', (K → K') → YSum ys y H K → YSum ys y H K' := fun _ _ _ _ _ f ⟨b, e, h1, h2, h3⟩ => ⟨b, e, h1, h2, f h3⟩
def CSum : CO := fun ys o => ∃ (t : Tok) (c : Nat), o = { cls := .type "list", dict := none, data := .seq #[.int (isum ys) t] c, slots := #[] }
theorem sum_loop {A : Around} {R : Result → Shared → Prop} (hh : A.handled = none) (hd : A.depth < recursionLimit) (hSa : S ≠ a) (hSc : S ≠ cStatics)
    (hT : ∀ ys H' s' t, Out P w outer ex H sc S CSum ys H' s' → En ys H' → R (.ok (.ret (.int (isum ys) t))) s') :
    ∀ (m : Nat) (s : Shared) (ys : List V), RdyX P w outer ex H sc S a g CSum YSum En A.in1.in1 m s → (∃ o, s.heap.get? S = some o ∧ CSum ys o) →
      codeAny (model P w) A (.builtin "sum.loop" ⟨[.ref a, .ref S, rawInt 0, rawInt 0], []⟩) R s := by
  have same : ∀ {zs ws : List V} {o : Obj}, CSum zs o → CSum ws o → isum zs = isum ws := fun {zs ws o} h1 h2 => by
    obtain ⟨t, c, e1⟩ := h1
    obtain ⟨t', c', e2⟩ := h2
    rw [e1] at e2
    have e3 := congrArg Obj.data e2
    injection e3 with e4 _
    have e5 := congrArg (fun v : Array Value => v[0]?) e4
    simp at e5
    exact e5.1
  intro m
  induction m using Nat.strongRecOn with
  | ind m ih =>
    intro s ys hr hS
    obtain ⟨o, eS, hCo⟩ := hS
    obtain ⟨t, c, eo⟩ := _root_.id hCo
    refine codeAny_builtin F.entry_sum_loop ?_
    rw [Around.under_plainId F.plain_sum_loop _]
    show wpAny _ A.in1 (seqItems? (.ref S) >>= _) _ _ s
    refine wpAny_bind (wpAny_seqItems eS (by rw [eo]) ?_)
    show wpAny _ A.in1 (tryCatch (pyNext (.ref a)) _ >>= _) _ _ s
    refine wpAny_bind (wpAny_tryCatch (next_x (A0 := A.in1) YSum.mono hh hd hr (fun zs H' s' O h0 _ he => ?_) fun zs x H' v s' rv O hl hg h0 hlt hy => ?_))
    · obtain ⟨o', eS', hCo'⟩ := O.own
      have eoo := h0 o eS
      rw [eS'] at eoo
      have : o' = o := Option.some.inj eoo
      rw [this] at hCo'
      have hsum := same hCo hCo'
      have := hT zs H' s' t O he
      rw [← hsum] at this
      exact wpAny_pure this
    · obtain ⟨o', eS', hCo'⟩ := O.own
      have eoo := h0 o eS
      rw [eS'] at eoo
      have e9 : o' = o := Option.some.inj eoo
      rw [e9] at hCo' eS'
      have hsum := same hCo hCo'
      obtain ⟨z, rfl, ⟨f1, f2⟩, ⟨f3, f4⟩, hk⟩ := hy
      obtain ⟨tz, rfl⟩ := (show ∃ t, v = Value.int z t from rv)
      rw [← hsum] at f3 f4
      have hc : ((decide (-(2 ^ 63) ≤ z) && decide (z < 2 ^ 63)) && (decide (-(2 ^ 63) ≤ isum ys + z) && decide (isum ys + z < 2 ^ 63))) = true := by
        simp only [Bool.and_eq_true, decide_eq_true_eq]
        exact ⟨⟨f1, f2⟩, f3, f4⟩
      show wpAny _ A.in1 (if (_ : Bool) = true then (mkInt (isum ys + z) >>= _) else _) _ _ _
      split
      · refine wpAny_bind (wpAny_mkInt ?_)
        show wpAny _ A.in1 (updateSeq S (fun _ => #[.int (isum ys + z) s'.toks]) >>= _) _ _ _
        refine wpAny_bind ?_
        have eS2 : s'.heap.get? S = some { cls := .type "list", dict := none, data := .seq #[.int (isum ys) t] c, slots := #[] } := by rw [eS', eo]
        have keep3 : ∀ b ob, b ≠ S → s'.heap.get? b = some ob → (s'.heap.update S (Obj.mapSeq (fun _ => #[.int (isum ys + z) s'.toks]))).get? b = some ob := fun b ob hb e => (Heap.get?_update_other _ _ (Ne.symm hb)).trans e
        refine wpAny_updateSeq eS2 rfl (wpAny_pure ⟨plainId_quiet F.plain_sum_loop _, ?_⟩)
        have own2 : ∃ o, (s'.heap.update S (Obj.mapSeq (fun _ => #[.int (isum ys + z) s'.toks]))).get? S = some o ∧ CSum (zs ++ [.int z]) o := ⟨_, Heap.get?_update_self _ eS2 rfl, s'.toks, _, by rw [isum_snoc, ← hsum]; rfl⟩
        obtain ⟨k, rfl, hr'⟩ := hk { s' with heap := s'.heap.update S (Obj.mapSeq (fun _ => #[.int (isum ys + z) s'.toks])), toks := s'.toks + 1 } rfl rfl keep3 own2 (by obtain ⟨og, nm, qn, ho, r⟩ := hg; exact ⟨og, nm, qn, keep3 a og (Ne.symm hSa) ho, r⟩)
          (by obtain ⟨mc, hns, hnn⟩ := hl; exact ⟨mc, hns.at' fun o e => keep3 _ o (Ne.symm hSc) e, hnn⟩)
        exact ih k (Nat.lt_succ_self k) _ (zs ++ [.int z]) hr' own2
      · rename_i hneg
        exact absurd hc hneg
end
end GE

set_option Elab.async false
set_option linter.all false
set_option maxRecDepth 100000
set_option maxHeartbeats 2000000
namespace GE
open PySem PySem.Spec PyProof.Rows L2 GenW
open Sem (wp)
open AutoSeq1 (wpAny_loadPart')
/-! ### a list filled -/
def CLst : CO := fun ys o => ∃ (acc : Array Value) (c : Nat), Vals ys acc.toList ∧ o = lstObj acc c
def YItm : YO := fun _ _ _ K => K
theorem YItm.mono : ∀ ys y H K K', (K → K') → YItm ys y H K → YItm ys y H K' := fun _ _ _ _ _ f h => f h
section
variable {P : Program} {w : World} {outer : List Env} {ex : List Addr} {H : Hp} {sc : Shared} {S a : Addr} {g : Nat} {En : EN}
theorem lst_loop {A : Around} {R : Result → Shared → Prop} {res : Value} (hh : A.handled = none) (hd : A.depth < recursionLimit) (hSa : S ≠ a) (hSc : S ≠ cStatics)
    (hT : ∀ ys H' s', Out P w outer ex H sc S CLst ys H' s' → ys.length ≤ sizeLine → En ys H' → R (.ok (.ret res)) s') :
    ∀ (m : Nat) (s : Shared), RdyX P w outer ex H sc S a g CLst YItm En A.in1.in1 m s → codeAny (model P w) A (.builtin "list.extend.loop" ⟨[.ref S, .ref a, res], []⟩) R s := by
  intro m
  induction m using Nat.strongRecOn with
  | ind m ih =>
    intro s hr
    refine codeAny_builtin F.entry_extend_loop ?_
    rw [Around.under_plainId F.plain_extend_loop _]
    show wpAny _ A.in1 (pyNext (.ref a) >>= _) _ _ s
    refine wpAny_bind (next_x (A0 := A.in1) YItm.mono hh hd hr (fun zs H' s' O h0 hle he => ?_) fun zs x H' v s' rv O hl hg h0 hlt hk => ?_)
    · exact wpAny_pure (hT zs H' s' O hle he)
    · obtain ⟨o', eS', acc, c, r, eo⟩ := O.own
      rw [eo] at eS'
      have hsz : acc.size = zs.length := by
        have e1 := r.length
        have e2 : acc.toList.length = acc.size := by simp
        omega
      show wpAny _ A.in1 (updateSeq S (·.push v) >>= _) _ _ _
      refine wpAny_bind ?_
      have keep3 : ∀ b ob, b ≠ S → s'.heap.get? b = some ob → (s'.heap.update S (Obj.mapSeq (·.push v))).get? b = some ob := fun b ob hb e => (Heap.get?_update_other _ _ (Ne.symm hb)).trans e
      refine wpAny_updateSeq eS' rfl (wpAny_pure ⟨plainId_quiet F.plain_extend_loop _, ?_⟩) (by omega) (by show (acc.push v).size ≤ sizeLine + 1; rw [Array.size_push]; omega)
      obtain ⟨k, rfl, hr'⟩ := hk { s' with heap := s'.heap.update S (Obj.mapSeq (·.push v)) } rfl rfl keep3 ⟨_, Heap.get?_update_self _ eS' rfl, acc.push v, _, by rw [Array.toList_push]; exact r.append (.cons rv .nil), rfl⟩
        (by obtain ⟨og, nm, qn, ho, r⟩ := hg; exact ⟨og, nm, qn, keep3 a og (Ne.symm hSa) ho, r⟩) (by obtain ⟨mc, hns, hnn⟩ := hl; exact ⟨mc, hns.at' fun o e => keep3 _ o (Ne.symm hSc) e, hnn⟩)
      exact ih k (Nat.lt_succ_self k) _ hr'
end
/-- a generator that has not begun, collected -/
theorem collect_x {X : Cx} {k : Nat} {H : Hp} {sc s : Shared} {fp : List Addr} {En : EN} {u : Value} {A : Around} {Q : List Value → Shared → Prop} {E : Value → Shared → Prop} (hr : Room (k + 1) A.in1.in1) (hfr : A.in1.in1.frames = some X.stack) (hM : MadeX X k H sc fp YItm En u s)
    (hQ : ∀ ys H' s' acc, Out X.prog X.w X.stack fp H sc s.heap.objs.size CLst ys H' s' → Vals ys acc → ys.length ≤ sizeLine → En ys H' → Q acc s') : wpAny (model X.prog X.w) A (collect u) Q E s := by
  obtain ⟨a, g, c, rfl, ha1, ha2, hg, hgs, ⟨go, hgo, hgen, hgd⟩, hos, hb, hl, hkp, wake⟩ := hM
  have hcl : cStatics < s.heap.objs.size := let ⟨_, hn, _⟩ := hl; hn.lt
  have hSc : s.heap.objs.size ≠ cStatics := Nat.ne_of_gt hcl
  have hSI : s.heap.objs.size ≠ a := Nat.ne_of_gt ha2
  unfold collect
  refine wpAny_bind (wpAny_runValue (codeAny_builtin F.entry_proto_collect ?_))
  rw [Around.under_plainId F.plain_proto_collect _]
  show wpAny _ A.in1 (newList [] >>= fun l => again (.builtin "list.__iadd__" ⟨[l, .ref a], []⟩)) _ _ s
  refine wpAny_bind (wpAny_newObj_type ?_)
  refine wpAny_pure ⟨plainId_quiet F.plain_list_iadd _, codeAny_builtin F.entry_list_iadd ?_⟩
  rw [Around.under_plainId F.plain_list_iadd _]
  have k1 : ∀ b o, s.heap.get? b = some o → (s.heap.push { cls := .type "list", data := .seq ([] : List Value).toArray }).get? b = some o := fun b o e => Heap.get?_push_of_some _ e
  have gty : ∀ {h : Heap}, (∀ b o, s.heap.get? b = some o → h.get? b = some o) → h.IsGen a g := fun {h} q => hg.keeps q
  show wpAny _ A.in1 (Builtin.List.listExtendWith (.ref s.heap.objs.size) (.ref a) (.ref s.heap.objs.size)) _ _ _
  unfold Builtin.List.listExtendWith
  refine wpAny_bind (wpAny_typeOf (Heap.IsGen.typeIs (s := { s with heap := _ }) (gty k1)) ?_)
  have h1 : Builtin.List.listSameRef (.ref s.heap.objs.size) (.ref a) = false := by simp [Builtin.List.listSameRef, hSI]
  have h2 : (Value.type "generator" == Value.type "list") = false := by decide
  have h3 : (Value.type "generator" == Value.type "tuple") = false := by decide
  simp only [h1, h2, h3, Bool.or_false, Bool.false_eq_true, if_false]
  refine wpAny_bind (wpAny_pyIter_gen (s := { s with heap := _ }) (gty k1) ?_)
  refine wpAny_bind (wpAny_holding ?_)
  unfold Builtin.List.listLengthHint
  refine wpAny_bind (wpAny_specialOf (Heap.IsGen.typeIs (s := { s with heap := _ }) (gty k1)) F.gen_no_len ?_)
  show wpAny _ A.in1 (specialOf (Value.ref a) (Str.ofString "__length_hint__") >>= _) _ _ _
  refine wpAny_bind (wpAny_specialOf (Heap.IsGen.typeIs (s := { s with heap := _ }) (gty k1)) F.gen_no_hint ?_)
  refine wpAny_pure ?_
  show wpAny _ A.in1 (rule "list.extend.makes-room" >>= fun _ => Builtin.List.listTouch (.ref s.heap.objs.size) >>= fun _ =>
    again (.builtin "list.extend.loop" ⟨[.ref s.heap.objs.size, .ref a, .ref s.heap.objs.size], []⟩)) _ _ _
  refine wpAny_bind (wpAny_rule ?_)
  have hS₁ : (s.heap.push { cls := .type "list", data := .seq ([] : List Value).toArray }).get? s.heap.objs.size = some { cls := .type "list", data := .seq ([] : List Value).toArray } := Heap.get?_push_size _ rfl
  refine wpAny_bind ?_
  show wpAny _ A.in1 (updateSeq s.heap.objs.size (·.push .none) >>= fun _ => updateSeq s.heap.objs.size (·.pop)) _ _ _
  refine wpAny_bind (wpAny_updateSeq hS₁ rfl ?_)
  have hS₂ := Heap.get?_update_self (Obj.mapSeq (·.push Value.none)) hS₁ rfl
  refine wpAny_updateSeq hS₂ rfl ?_
  have hS₃ := Heap.get?_update_self (Obj.mapSeq (·.pop)) hS₂ rfl
  have k3 : ∀ b o, s.heap.get? b = some o →
      (((s.heap.push { cls := .type "list", data := .seq ([] : List Value).toArray }).update s.heap.objs.size (Obj.mapSeq (·.push Value.none))).update s.heap.objs.size (Obj.mapSeq (·.pop))).get? b = some o :=
    fun b o e => (Heap.get?_update_other _ _ (Ne.symm (Nat.ne_of_lt (Heap.lt_size e)))).trans ((Heap.get?_update_other _ _ (Ne.symm (Nat.ne_of_lt (Heap.lt_size e)))).trans (k1 b o e))
  refine wpAny_pure ⟨plainId_quiet F.plain_extend_loop _, lst_loop (A := A) (P := X.prog) (w := X.w) (outer := X.stack) (ex := fp) (H := H) (sc := sc) (En := En) (g := g) (show A.handled = none from hr.hd) (by have := hr.dp; show A.depth < _; have : A.in1.in1.depth = A.depth := rfl; omega) hSI hSc (fun ys H' s' O hle he => ?_) sizeLine _ ⟨gty k3, hl.keeps k3, _, hgs, rfl, ?_⟩⟩
  · obtain ⟨o, eS, acc, c', r, eo⟩ := _root_.id O.own
    rw [eo] at eS
    show wpAny _ A (load s.heap.objs.size >>= _) _ _ s'
    refine wpAny_bind (wpAny_load eS ?_)
    exact wpAny_pure (hQ ys H' s' acc.toList O r hle he)
  · refine wake A.in1.in1 s.heap.objs.size CLst [(a, go)] _ hr hfr (fun ys o hc v => ?_) (fun s' ys o e1 e2 e3 => hgen _ (e3 (a, go) (List.mem_singleton.mpr rfl))) (fun p hp => ?_) (Nat.lt_trans ha1 ha2) (fun b o e => k3 b o e) ⟨_, hS₃, #[], _, .nil, rfl⟩ hos (allBare_setGen (s := { s with heap := _ }) hb rfl)
    · obtain ⟨acc, cc, _, eo⟩ := hc
      rw [eo]
      exact fun z => by cases z
    · rw [List.mem_singleton.mp hp]
      exact ⟨Ne.symm hSI, ha1, k3 _ _ hgo, hgd⟩
theorem tuple_new_x {X : Cx} {k : Nat} {H : Hp} {sc s : Shared} {fp : List Addr} {En : EN} {u : Value} {A : Around} {Q₁ : Value → Shared → Prop} {E : Value → Shared → Prop} (hr : Room (k + 1) A.in1.in1.in1) (hfr : A.in1.in1.in1.frames = some X.stack) (hM : MadeX X k H sc fp YItm En u s)
    (hQ : ∀ ys H' s' acc, Out X.prog X.w X.stack fp H sc s.heap.objs.size CLst ys H' s' → Vals ys acc → ys.length ≤ sizeLine → En ys H' → Q₁ (.ref s'.heap.objs.size) { s' with heap := s'.heap.push { cls := .type "tuple", data := .seq acc.toArray } }) :
    codeAny (model X.prog X.w) A (.call (.builtin "tuple.__new__") ⟨[.type "tuple", u], []⟩) (wants Q₁ E) s := by
  have hM' := hM
  obtain ⟨a, g, c, rfl, ha1, ha2, hg, hgs, ⟨go, hgo, hgen, hgd⟩, hos, hb, hl, hkp, wake⟩ := hM'
  refine codeAny_of_tree ?_
  show wpAny _ A.in1 (do checkBuiltinCall "tuple.__new__" ⟨[.type "tuple", .ref a], []⟩; again (.builtin "tuple.__new__" ⟨[.type "tuple", .ref a], []⟩)) _ _ s
  refine wpAny_bind (wpAny_of_eq (F.newCall_tuple_1 _) (wpAny_pure ⟨plainId_quiet F.plain_tuple_new _, codeAny_builtin F.entry_tuple_new ?_⟩))
  rw [Around.under_plainId F.plain_tuple_new _]
  have hsub := sub_tuple_self
  have hinit := init_tuple_lookup
  have hmh := madeHere_tuple
  have hTI : s.TypeIs (.ref a) "generator" := hg.typeIs
  wp_walk using wpAny_typeOf hTI, collect_x hr hfr hM
  intro ys H' s' acc O r hle he
  show wpAny _ _ (Builtin.Tuple.tupleExact acc.toArray >>= fun v => ret v) _ _ _
  unfold Builtin.Tuple.tupleExact
  have hsz : acc.toArray.size ≤ sizeLine := by
    have e1 := r.length
    rw [List.size_toArray]; omega
  refine wpAny_bind (wpAny_newObj_type ?_ hsz)
  exact wpAny_pure (hQ ys H' s' acc O r hle he)
theorem call_tuple_x {X : Cx} {k : Nat} {H : Hp} {sc s : Shared} {fp : List Addr} {En : EN} {u : Value} {A : Around} {Q : Value → Shared → Prop} {E : Value → Shared → Prop} (hr : Room (k + 1) A.in1.in1.in1.in1) (hfr : A.in1.in1.in1.in1.frames = some X.stack) (hM : MadeX X k H sc fp YItm En u s)
    (hQ : ∀ ys H' s' acc, Out X.prog X.w X.stack fp H sc s.heap.objs.size CLst ys H' s' → Vals ys acc → ys.length ≤ sizeLine → En ys H' → Q (.ref s'.heap.objs.size) { s' with heap := s'.heap.push { cls := .type "tuple", data := .seq acc.toArray } }) :
    wpAny (model X.prog X.w) A (call (.type "tuple") [u]) Q E s := by
  obtain ⟨a, _, _, rfl, _⟩ := _root_.id hM
  refine callType_codes (Q₁ := fun obj s₁ => s₁.TypeIs obj "tuple" ∧ Q obj s₁) F.called_tuple (F.typeCall_tuple_1 _) F.entry_object_init
    (tuple_new_x hr hfr hM fun ys H' s' acc O r hle he => ⟨⟨_, Heap.get?_push_size _ rfl, rfl⟩, hQ ys H' s' acc O r hle he⟩) fun obj s₁ h₁ => ?_
  exact ⟨h₁.1, F.args_object_init_2 obj _, object_init_meets F.called_tuple.init.lookup F.called_tuple.made (by decide) _ _ A.in1 _ s₁ ⟨h₁.1, rfl, h₁.2⟩⟩
end GE

set_option Elab.async false
set_option linter.all false
set_option maxRecDepth 100000
set_option maxHeartbeats 2000000
namespace GE
open PySem PySem.Spec PyProof.Rows L2 GenW
section
variable {X : Cx}
theorem back {pins : List (Addr × Obj)} {σ : L2.St} {H2 H' : Hp} {sc s' : Shared} {fp : List Addr} {S : Addr} {C : CO} {ys : List V} (I : Inv X pins σ H2 sc) (hex : ExOk X pins fp) (O : Out X.prog X.w X.stack fp H2 sc S C ys H' s') : Inv X pins σ H' s' :=
  I.call' (ch := fp) O.os O.un O.hok O.bare hex
variable {c P : Addr} {elt iter tg : Expr} {ifs : List Expr} {gpos p pos : Pos} {scope : Scope} {own : List (Str × Nat)} {wi : TI} {g : TG} {tt : TT} {te : TE} {k : Nat}
def tAllG (wi : TI) (g : TG) (tt : TT) (te : TE) (vs : List Nat) (P : Addr) : TE := fun σ H Q => tGx wi g tt te vs P (YAll fun H' => Q (.bl false) H') (fun _ H' => Q (.bl true) H') σ H
def tAnyG (wi : TI) (g : TG) (tt : TT) (te : TE) (vs : List Nat) (P : Addr) : TE := fun σ H Q => tGx wi g tt te vs P (YAny fun H' => Q (.bl true) H') (fun _ H' => Q (.bl false) H') σ H
def tSumG (wi : TI) (g : TG) (tt : TT) (te : TE) (vs : List Nat) (P : Addr) : TE := fun σ H Q => tGx wi g tt te vs P YSum (fun ys H' => Q (.int (isum ys)) H') σ H
def tTupG (wi : TI) (g : TG) (tt : TT) (te : TE) (vs : List Nat) (P : Addr) : TE := fun σ H Q => tGx wi g tt te vs P YItm (fun ys H' => ∀ q, H' q = none → Q (.ref q) (upd H' q (.tup ys))) σ H
/-- what a genexpr's block asks -/
structure GBlk (X : Cx) (scope : Scope) (own : List (Str × Nat)) : Prop where
  ok : BlkOk X.N X.env.scope scope own
  nc : ∀ y ∈ scope.names, y.2 ≠ .cell
  co : scope.isCoroutine = false
  dot : scope.names.lookup (".0" : Str) = some NameKind.local
def gblkC (N : List Str) (sc scope : Scope) (own : List (Str × Nat)) : Bool := blkC N sc scope own && (scope.names.all fun y => match y.2 with | .cell => false | _ => true) && (!scope.isCoroutine) && (match scope.names.lookup (".0" : Str) with | some .local => true | _ => false)
theorem gblk_by {N : List Str} {sc : Scope} (h : gblkC N sc scope own = true) (hN : X.N = N := by rfl) (hsc : X.env.scope = sc := by rfl) : GBlk X scope own := by
  unfold gblkC at h
  simp only [Bool.and_eq_true, List.all_eq_true] at h
  obtain ⟨⟨⟨h1, h2⟩, h3⟩, h4⟩ := h
  refine ⟨by rw [hN, hsc]; exact blkOk_by h1, fun y hy e => ?_, by simpa using h3, ?_⟩
  · have := h2 y hy
    rw [e] at this
    cases this
  · split at h4
    · assumption
    · cases h4
theorem pe_allG (hr : Room (k + 2) X.A) (hgl : Gl X "all") (hm : X.mg "all" = none) (hN : X.N.Nodup) (TB : GxR.TabB X.base X.mg c P) (hcode : X.env.code = .ref c) (hi : PI X tg iter wi) (B : GBlk X scope own)
    (hg : ∀ (A : Around) (s : Shared) (H : Hp) (C : Addr) (cl : List (Str × Addr)) (code : Value) (fp : List Addr) (gp : List (Addr × Obj)), PG (gcx X A s H (genEnv scope cl C code builtinsNs X.env) fp gp) tg g)
    (ht : ∀ (A : Around) (s : Shared) (H : Hp) (C : Addr) (cl : List (Str × Addr)) (code : Value) (fp : List Addr) (gp : List (Addr × Obj)), Room k (A.deeper (genEnv scope cl C code builtinsNs X.env)) → PTs (gcx X A s H (genEnv scope cl C code builtinsNs X.env) fp gp) ifs tt)
    (hel : ∀ (A : Around) (s : Shared) (H : Hp) (C : Addr) (cl : List (Str × Addr)) (code : Value) (fp : List Addr) (gp : List (Addr × Obj)), Room k (A.deeper (genEnv scope cl C code builtinsNs X.env)) → PE (gcx X A s H (genEnv scope cl C code builtinsNs X.env) fp gp) elt te)
    (hs : ∀ v, genFold iter X.env v = pure v := by intro _; rfl) (hb : bootBuiltins "all" = some (.builtin "all") := by decide +kernel)
    (he : starEach [.GeneratorExp elt [⟨tg, iter, ifs, 0⟩] scope gpos] X.env = (false, eval (.GeneratorExp elt [⟨tg, iter, ifs, 0⟩] scope gpos) X.env) :: starEach [] X.env := by rfl) :
    PE X (.Call (.Name "all" p) [.GeneratorExp elt [⟨tg, iter, ifs, 0⟩] scope gpos] [] pos) (tAllG wi g tt te (own.map (·.2)) P) := by
  refine ⟨fun pins s σ H Q I h => ?_⟩
  refine wpAny_Call_Name_kw (ld_blt I hgl hm hb ?_)
  refine PyProof.Rows.callWith_builtin1 ?_ he (by rfl)
  rw [he]
  show wpAny _ _ (spliced ((false, eval (.GeneratorExp elt [⟨tg, iter, ifs, 0⟩] scope gpos) X.env) :: backTo pos (starEach [] X.env))) _ _ s
  refine Calls.spliced_cons (gen_make hr hN TB hcode hi B.ok B.nc B.co B.dot hg ht hel YAll.mono hs I h fun H2 sc fp u s5 I2 hex hM => ?_)
  refine Calls.spliced_nil ?_
  obtain ⟨a, g, cc, rfl, ha1, ha2, hgn, hgs, ⟨go, hgo, hgen, hgd⟩, hos, hba, hl, hkp, wake⟩ := hM
  refine call_function_tree F.kind_all F.plain_all F.entry_all (F.args_all1 _) ?_
  unfold Builtin.«all»
  refine wpAny_bind (m := oneArg "all" _) (wpAny_pure ?_)
  refine wpAny_bind (wpAny_pyIter_gen hgn ?_)
  refine wpAny_pure ⟨plainId_quiet F.plain_all_loop _, all_loop (A := X.A) (P := X.prog) (w := X.w) (outer := X.stack) (ex := fp) (H := H2) (sc := sc) (g := g) (go := go) hr.hd (by have := hr.dp; omega)
    (fun ys H' s' O he => ⟨.bl true, H', back I2 hex O, rfl, he⟩) (fun ys H' s' O he => ⟨.bl false, H', back I2 hex O, rfl, he⟩) sizeLine s5 ⟨hgn, hl, _, hgs, rfl, ?_⟩⟩
  refine wake X.A.in1.in1 a (fun _ o => o = go) [] _ ⟨hr.hd, ?_, ?_⟩ I.ok.frames (fun _ o e v => by rw [e]; exact hgd v) (fun s' ys o e1 e2 _ => hgen _ (by rw [e1, e2])) (fun p hp => by simp at hp) ha1 (fun b o e => e) ⟨go, hgo, rfl⟩ hos (allBare_setGen hba rfl)
  · have := hr.dp
    show X.A.depth + 3 * (k + 1) + 5 < _
    omega
  · have := hr.un
    show X.A.units + 1 + 1 + 16 * (k + 1) + 200 < _
    omega
theorem pe_anyG (hr : Room (k + 2) X.A) (hgl : Gl X "any") (hm : X.mg "any" = none) (hN : X.N.Nodup) (TB : GxR.TabB X.base X.mg c P) (hcode : X.env.code = .ref c) (hi : PI X tg iter wi) (B : GBlk X scope own)
    (hg : ∀ (A : Around) (s : Shared) (H : Hp) (C : Addr) (cl : List (Str × Addr)) (code : Value) (fp : List Addr) (gp : List (Addr × Obj)), PG (gcx X A s H (genEnv scope cl C code builtinsNs X.env) fp gp) tg g)
    (ht : ∀ (A : Around) (s : Shared) (H : Hp) (C : Addr) (cl : List (Str × Addr)) (code : Value) (fp : List Addr) (gp : List (Addr × Obj)), Room k (A.deeper (genEnv scope cl C code builtinsNs X.env)) → PTs (gcx X A s H (genEnv scope cl C code builtinsNs X.env) fp gp) ifs tt)
    (hel : ∀ (A : Around) (s : Shared) (H : Hp) (C : Addr) (cl : List (Str × Addr)) (code : Value) (fp : List Addr) (gp : List (Addr × Obj)), Room k (A.deeper (genEnv scope cl C code builtinsNs X.env)) → PE (gcx X A s H (genEnv scope cl C code builtinsNs X.env) fp gp) elt te)
    (hs : ∀ v, genFold iter X.env v = pure v := by intro _; rfl) (hb : bootBuiltins "any" = some (.builtin "any") := by decide +kernel)
    (he : starEach [.GeneratorExp elt [⟨tg, iter, ifs, 0⟩] scope gpos] X.env = (false, eval (.GeneratorExp elt [⟨tg, iter, ifs, 0⟩] scope gpos) X.env) :: starEach [] X.env := by rfl) :
    PE X (.Call (.Name "any" p) [.GeneratorExp elt [⟨tg, iter, ifs, 0⟩] scope gpos] [] pos) (tAnyG wi g tt te (own.map (·.2)) P) := by
  refine ⟨fun pins s σ H Q I h => ?_⟩
  refine wpAny_Call_Name_kw (ld_blt I hgl hm hb ?_)
  refine PyProof.Rows.callWith_builtin1 ?_ he (by rfl)
  rw [he]
  show wpAny _ _ (spliced ((false, eval (.GeneratorExp elt [⟨tg, iter, ifs, 0⟩] scope gpos) X.env) :: backTo pos (starEach [] X.env))) _ _ s
  refine Calls.spliced_cons (gen_make hr hN TB hcode hi B.ok B.nc B.co B.dot hg ht hel YAny.mono hs I h fun H2 sc fp u s5 I2 hex hM => ?_)
  refine Calls.spliced_nil ?_
  obtain ⟨a, g, cc, rfl, ha1, ha2, hgn, hgs, ⟨go, hgo, hgen, hgd⟩, hos, hba, hl, hkp, wake⟩ := hM
  refine call_function_tree F.kind_any F.plain_any F.entry_any (F.args_any1 _) ?_
  unfold Builtin.«any»
  refine wpAny_bind (m := oneArg "any" _) (wpAny_pure ?_)
  refine wpAny_bind (wpAny_pyIter_gen hgn ?_)
  refine wpAny_pure ⟨plainId_quiet F.plain_any_loop _, any_loop (A := X.A) (P := X.prog) (w := X.w) (outer := X.stack) (ex := fp) (H := H2) (sc := sc) (g := g) (go := go) hr.hd (by have := hr.dp; omega)
    (fun ys H' s' O he => ⟨.bl false, H', back I2 hex O, rfl, he⟩) (fun ys H' s' O he => ⟨.bl true, H', back I2 hex O, rfl, he⟩) sizeLine s5 ⟨hgn, hl, _, hgs, rfl, ?_⟩⟩
  refine wake X.A.in1.in1 a (fun _ o => o = go) [] _ ⟨hr.hd, ?_, ?_⟩ I.ok.frames (fun _ o e v => by rw [e]; exact hgd v) (fun s' ys o e1 e2 _ => hgen _ (by rw [e1, e2])) (fun p hp => by simp at hp) ha1 (fun b o e => e) ⟨go, hgo, rfl⟩ hos (allBare_setGen hba rfl)
  · have := hr.dp
    show X.A.depth + 3 * (k + 1) + 5 < _
    omega
  · have := hr.un
    show X.A.units + 1 + 1 + 16 * (k + 1) + 200 < _
    omega
theorem pe_sumG (hr : Room (k + 2) X.A) (hgl : Gl X "sum") (hm : X.mg "sum" = none) (hN : X.N.Nodup) (TB : GxR.TabB X.base X.mg c P) (hcode : X.env.code = .ref c) (hi : PI X tg iter wi) (B : GBlk X scope own)
    (hg : ∀ (A : Around) (s : Shared) (H : Hp) (C : Addr) (cl : List (Str × Addr)) (code : Value) (fp : List Addr) (gp : List (Addr × Obj)), PG (gcx X A s H (genEnv scope cl C code builtinsNs X.env) fp gp) tg g)
    (ht : ∀ (A : Around) (s : Shared) (H : Hp) (C : Addr) (cl : List (Str × Addr)) (code : Value) (fp : List Addr) (gp : List (Addr × Obj)), Room k (A.deeper (genEnv scope cl C code builtinsNs X.env)) → PTs (gcx X A s H (genEnv scope cl C code builtinsNs X.env) fp gp) ifs tt)
    (hel : ∀ (A : Around) (s : Shared) (H : Hp) (C : Addr) (cl : List (Str × Addr)) (code : Value) (fp : List Addr) (gp : List (Addr × Obj)), Room k (A.deeper (genEnv scope cl C code builtinsNs X.env)) → PE (gcx X A s H (genEnv scope cl C code builtinsNs X.env) fp gp) elt te)
    (hs : ∀ v, genFold iter X.env v = pure v := by intro _; rfl) (hb : bootBuiltins "sum" = some (.builtin "sum") := by decide +kernel)
    (he : starEach [.GeneratorExp elt [⟨tg, iter, ifs, 0⟩] scope gpos] X.env = (false, eval (.GeneratorExp elt [⟨tg, iter, ifs, 0⟩] scope gpos) X.env) :: starEach [] X.env := by rfl) :
    PE X (.Call (.Name "sum" p) [.GeneratorExp elt [⟨tg, iter, ifs, 0⟩] scope gpos] [] pos) (tSumG wi g tt te (own.map (·.2)) P) := by
  refine ⟨fun pins s σ H Q I h => ?_⟩
  refine wpAny_Call_Name_kw (ld_blt I hgl hm hb ?_)
  refine PyProof.Rows.callWith_builtin1 ?_ he (by rfl)
  rw [he]
  show wpAny _ _ (spliced ((false, eval (.GeneratorExp elt [⟨tg, iter, ifs, 0⟩] scope gpos) X.env) :: backTo pos (starEach [] X.env))) _ _ s
  refine Calls.spliced_cons (gen_make hr hN TB hcode hi B.ok B.nc B.co B.dot hg ht hel YSum.mono hs I h fun H2 sc fp u s5 I2 hex hM => ?_)
  refine Calls.spliced_nil ?_
  obtain ⟨a, g, cc, rfl, ha1, ha2, hgn, hgs, ⟨go, hgo, hgen, hgd⟩, hos, hba, hl, hkp, wake⟩ := hM
  refine call_function_tree F.kind_sum F.plain_sum F.entry_sum (F.args_sum1 _) ?_
  unfold Builtin.«sum»
  simp only [List.length_cons, List.length_nil]
  rw [if_neg (by decide)]
  refine wpAny_bind (wpAny_of_eq (show Builtin.Builtins.bindParams "sum" ["start"] 0 { } = pure [none] from rfl) ?_)
  refine wpAny_bind (wpAny_pyIter_gen hgn ?_)
  refine wpAny_bind (wpAny_mkInt ?_)
  refine wpAny_bind (wpAny_pure ?_)
  simp only [List.forIn_cons, List.forIn_nil]
  refine wpAny_bind (wpAny_bind (wpAny_bind (wpAny_isInstance (T := "int") (b := false) (typeIs_int _ _ _) PySem.sub_int_str ?_)))
  simp only [Bool.false_eq_true, if_false]
  refine wpAny_pure (wpAny_bind (wpAny_bind (wpAny_isInstance (T := "int") (b := false) (typeIs_int _ _ _) PySem.sub_int_bytes ?_)))
  simp only [Bool.false_eq_true, if_false]
  refine wpAny_pure (wpAny_bind (wpAny_bind (wpAny_isInstance (T := "int") (b := false) (typeIs_int _ _ _) PySem.sub_int_bytearray ?_)))
  simp only [Bool.false_eq_true, if_false]
  refine wpAny_pure (wpAny_pure ?_)
  refine wpAny_bind (wpAny_newObj_type ?_)
  have hcl : cStatics < s5.heap.objs.size := let ⟨_, hn, _⟩ := hl; hn.lt
  have k1 : ∀ b o, s5.heap.get? b = some o → (s5.heap.push { cls := .type "list", data := .seq ([Value.int 0 s5.toks] : List Value).toArray }).get? b = some o := fun b o e => Heap.get?_push_of_some _ e
  have hS1 : (s5.heap.push { cls := .type "list", data := .seq ([Value.int 0 s5.toks] : List Value).toArray }).get? s5.heap.objs.size = some { cls := .type "list", data := .seq ([Value.int 0 s5.toks] : List Value).toArray } := Heap.get?_push_size _ rfl
  have hC0 : CSum [] { cls := .type "list", data := .seq ([Value.int 0 s5.toks] : List Value).toArray } := ⟨_, _, rfl⟩
  refine wpAny_pure ⟨plainId_quiet F.plain_sum_loop _, sum_loop (A := X.A) (P := X.prog) (w := X.w) (outer := X.stack) (ex := fp) (H := H2) (sc := sc) (g := g) (S := s5.heap.objs.size) hr.hd (by have := hr.dp; omega) (Nat.ne_of_gt ha2) (Nat.ne_of_gt hcl)
    (fun ys H' s' t O he => ⟨.int (isum ys), H', back I2 hex O, ⟨t, rfl⟩, he⟩) sizeLine _ [] ⟨hgn.keeps k1, hl.keeps k1, _, hgs, rfl, ?_⟩ ⟨_, hS1, hC0⟩⟩
  refine wake X.A.in1.in1 s5.heap.objs.size CSum [(a, go)] _ ⟨hr.hd, ?_, ?_⟩ I.ok.frames (fun _ o e v => by obtain ⟨t, c', e⟩ := e; rw [e]; exact fun z => by cases z) (fun s' ys o e1 e2 e3 => hgen _ (e3 (a, go) (List.mem_singleton.mpr rfl)))
    (fun p hp => by rw [List.mem_singleton.mp hp]; exact ⟨Nat.ne_of_lt ha2, ha1, k1 _ _ hgo, hgd⟩) (Nat.lt_trans ha1 ha2) (fun b o e => k1 b o e) ⟨_, hS1, hC0⟩ hos (allBare_setGen (s := { s5 with heap := _ }) hba rfl)
  · have := hr.dp
    show X.A.depth + 3 * (k + 1) + 5 < _
    omega
  · have := hr.un
    show X.A.units + 1 + 1 + 16 * (k + 1) + 200 < _
    omega
theorem pe_tupG (hr : Room (k + 2) X.A) (hgl : Gl X "tuple") (hm : X.mg "tuple" = none) (hN : X.N.Nodup) (TB : GxR.TabB X.base X.mg c P) (hcode : X.env.code = .ref c) (hi : PI X tg iter wi) (B : GBlk X scope own)
    (hg : ∀ (A : Around) (s : Shared) (H : Hp) (C : Addr) (cl : List (Str × Addr)) (code : Value) (fp : List Addr) (gp : List (Addr × Obj)), PG (gcx X A s H (genEnv scope cl C code builtinsNs X.env) fp gp) tg g)
    (ht : ∀ (A : Around) (s : Shared) (H : Hp) (C : Addr) (cl : List (Str × Addr)) (code : Value) (fp : List Addr) (gp : List (Addr × Obj)), Room k (A.deeper (genEnv scope cl C code builtinsNs X.env)) → PTs (gcx X A s H (genEnv scope cl C code builtinsNs X.env) fp gp) ifs tt)
    (hel : ∀ (A : Around) (s : Shared) (H : Hp) (C : Addr) (cl : List (Str × Addr)) (code : Value) (fp : List Addr) (gp : List (Addr × Obj)), Room k (A.deeper (genEnv scope cl C code builtinsNs X.env)) → PE (gcx X A s H (genEnv scope cl C code builtinsNs X.env) fp gp) elt te)
    (hs : ∀ v, genFold iter X.env v = pure v := by intro _; rfl) (hb : bootBuiltins "tuple" = some (.type "tuple") := by decide +kernel)
    (he : starEach [.GeneratorExp elt [⟨tg, iter, ifs, 0⟩] scope gpos] X.env = (false, eval (.GeneratorExp elt [⟨tg, iter, ifs, 0⟩] scope gpos) X.env) :: starEach [] X.env := by rfl) :
    PE X (.Call (.Name "tuple" p) [.GeneratorExp elt [⟨tg, iter, ifs, 0⟩] scope gpos] [] pos) (tTupG wi g tt te (own.map (·.2)) P) := by
  refine ⟨fun pins s σ H Q I h => ?_⟩
  refine wpAny_Call_Name_kw (ld_blt I hgl hm hb ?_)
  refine PyProof.Rows.callWith_type1 ?_ he (by rfl)
  rw [he]
  show wpAny _ _ (spliced ((false, eval (.GeneratorExp elt [⟨tg, iter, ifs, 0⟩] scope gpos) X.env) :: backTo pos (starEach [] X.env))) _ _ s
  refine Calls.spliced_cons (gen_make hr hN TB hcode hi B.ok B.nc B.co B.dot hg ht hel YItm.mono hs I h fun H2 sc fp u s5 I2 hex hM => ?_)
  refine Calls.spliced_nil ?_
  refine call_tuple_x (A := X.A) ⟨hr.hd, ?_, ?_⟩ I.ok.frames hM fun ys H' s' acc O r hle he => ?_
  · have := hr.dp
    show X.A.depth + 3 * (k + 1) + 5 < _
    omega
  · have := hr.un
    show X.A.units + 1 + 1 + 1 + 1 + 16 * (k + 1) + 200 < _
    omega
  · have J := back I2 hex O
    refine ⟨.ref s'.heap.objs.size, upd H' s'.heap.objs.size (.tup ys), ?_, rfl, he _ (O.hok.fresh (Nat.le_refl _))⟩
    exact J.laid (t' := s'.toks) (fun b o e => Heap.get?_push_of_some _ e) (Nat.le_refl _) ⟨hle, acc, r, IsTup.new s'.heap _⟩
end
end GE

set_option Elab.async false
set_option linter.all false
set_option maxRecDepth 100000
set_option maxHeartbeats 2000000
namespace GE
open PySem PySem.Spec PyProof.Rows L2
/-- a def whose code object stands at c -/
structure FunC (K : PySem.W.Frag) (x qual : Str) (st : Stmt) (f : Addr) (fd : FuncData) (c : Addr) : Prop where
  ex : ∃ (oc : Value) (od : Option Addr) (kV doc pm : Value) (an : Option Addr) (ct : Value) (osl : Array (Option Value)),
    fd = PySem.W.fnOf x qual (defArgs st) (defBody st) (defScope st) .none kV doc pm an (.ref c) ct ∧ K.lookup f = some ⟨oc, od, .func fd, osl⟩ ∧ PySem.W.codeIn K (.ref c) qual = true
  kp : PySem.W.keepIn K (.ref f) = true
section
variable {P : Program} {w : World} {K : PySem.W.Frag} {mg : Str → Option Value} {base : Heap}
theorem FunC.fun {x qual : Str} {st : Stmt} {f c : Addr} {fd : FuncData} (F : FunC K x qual st f fd c) : Fun K x qual st f fd := by
  obtain ⟨oc, od, kV, doc, pm, an, ct, osl, h1, h2, h3⟩ := F.ex
  exact ⟨⟨oc, od, kV, doc, pm, an, .ref c, ct, osl, h1, h2, h3⟩, F.kp⟩
theorem FunC.ok {x qual : Str} {st : Stmt} {f c : Addr} {fd : FuncData} {N ps : List Str} {k : Nat} {sp : Sp} (F : FunC K x qual st f fd c) (S : FnScope N ps (defScope st)) (len : ∀ vs H Q E, sp vs H Q E → vs.length = ps.length)
    (hbody : ∀ (A : Around) (outer : List Env) (s : Shared) (H : Hp) (vs : List V) (Q : VK) (E : XK), Room k (A.deeper (envOfC qual (defScope st) s.heap.objs.size f (.ref c))) → sp vs H Q E →
      ∃ t, PSs (cxOf CX0 P w K mg base N qual (defScope st) f (.ref c) A outer s H E).nox (defBody st) t ∧ t { nx := fun _ H' => Q .non H', rt := Q } (start N vs) H) : FnOk P w K mg base CX0 (k + 1) f fd ps sp := by
  obtain ⟨oc, od, kV, doc, pm, an, ct, osl, rfl, lk, hcd⟩ := F.ex
  refine fn_of lk hcd S len fun A outer s H vs Q E hr hsp => ?_
  obtain ⟨t, h, q⟩ := hbody A outer s H vs Q E hr hsp
  exact ⟨t, h.nox, q⟩
theorem funC_mk {x qual : Str} {st : Stmt} {f c : Addr} {oc : Value} {od an : Option Addr} {osl : Array (Option Value)} {kV doc pm ct : Value} (l : K.lookup f = some ⟨oc, od, .func (PySem.W.fnOf x qual (defArgs st) (defBody st) (defScope st) .none kV doc pm an (.ref c) ct), osl⟩)
    (cd : PySem.W.codeIn K (.ref c) qual = true) (k : PySem.W.keepIn K (.ref f) = true) : FunC K x qual st f (PySem.W.fnOf x qual (defArgs st) (defBody st) (defScope st) .none kV doc pm an (.ref c) ct) c := ⟨⟨oc, od, kV, doc, pm, an, ct, osl, rfl, l, cd⟩, k⟩
end
/-- the tables of the defs of the view -/
def TabsOf (q : Program) (K : PySem.W.Frag) (h : Heap) : Prop := ∀ (x : Str) (e : DefRec) (c P : Addr), (recsOf q).find? (fun e => e.name == x) = some e → PySem.W.tabIn K x = some (c, P) → PySem.W.CodeHd h c P ∧ h.get? P = some { cls := .none, data := .fields #[] }
theorem nT_of {K : PySem.W.Frag} {h : Heap} {P : Addr} (X : K.In h) (hK : PySem.W.noTabs K = true) (hP : h.get? P = some { cls := .none, data := .fields #[] }) : K.lookup P = none := by
  cases e : K.lookup P with
  | none => rfl
  | some o =>
    have e2 := X P o e
    rw [hP] at e2
    have h2 := List.all_eq_true.mp hK (P, o) (PySem.W.mem_of_lookupK e)
    cases e2
    exact absurd (show false = true from h2) Bool.false_ne_true
theorem walk_tab {l : PySem.W.OpenLaw} {n k : Nat} {q : Program} {loose : List Str} {XP : (Str → Option Value) → Heap → Prop} {YP : World → Heap → Prop} {d : DefRec} {K : Params → PySem.W.Frag} {CX : World → CXT} {x : Str}
    (hn : l.most = some n) (hn2 : n ≤ sizeLine) (hdf : d.params.defaults = []) (hr : Room k callerA) (hY : ∀ (w : World) (h : Heap), YP w h → (K w.params).In h)
    (F : ∀ (w : World) (mg : Str → Option Value) (fa : Addr) (h : Heap), (K w.params).In h → h.Ns mainGlobals mg → mg d.name = some (.ref fa) → TabsOf q (K w.params) h → LamX.LawAtS l w (K w.params) (CX w) k n x mg fa h)
    (hCX : ∀ (w : World) (H : Hp) (s : Shared) (e : Value) (s' : Shared), CX w [] H s (fun _ _ _ => False) e s' → False) :
    PySem.W.WalkO q loose XP YP l.row.toRowW d [] (fun f vs => PySem.call f vs) := by
  refine Att.attach_callB hn hdf fun w s₀ s₁ mg mb fa o pm cd doc a vs ns G Y ho hd hcd hmg hobj hints hlen hbits hg => ?_
  have KX := hY w _ Y
  obtain ⟨fd, cs, sp, hT, nT, C, hb, hsp, hF⟩ := F w mg fa _ KX G.T.g hmg fun x e c P h1 h2 => PySem.W.tab_of G.T KX h1 h2
  exact LamX.law_callTs KX G.T.g G.T.b G.T.builtins G.T.nolimit hg hT nT C G.T.bmain hobj hints (Nat.le_trans hlen hn2) hr hF hb (fun H hH hS => hsp H a ns hlen hbits hH hS) fun H e s' => hCX w H s₁ e s'
theorem tabB_of {base : Heap} {mg : Str → Option Value} {c P : Addr} (t : LamX.TabB base mg c P) : GxR.TabB base mg c P := ⟨t.code, t.bm, t.gP⟩

/-! ### what is kept -/
structure Ext (T : List Addr) (M : Addr → Prop) (H H' : Hp) : Prop where
  kp : ∀ b o, ¬ M b → H b = some o → (∀ ps, o ≠ .tbl ps) → H' b = some o
  tb : ∀ P ∈ T, GxR.TabG H P → GxR.TabG H' P
  fr : ∀ b, H' b = none → H b = none
abbrev noM : Addr → Prop := fun _ => False
section
variable {T : List Addr} {M : Addr → Prop} {H H' H1 H2 : Hp} {K : PySem.W.Frag}
theorem Ext.refl (T : List Addr) (M : Addr → Prop) (H : Hp) : Ext T M H H := ⟨fun _ _ _ e _ => e, fun _ _ h => h, fun _ h => h⟩
theorem Ext.trans (a : Ext T M H H1) (b : Ext T M H1 H2) : Ext T M H H2 := ⟨fun x o m e n => b.kp x o m (a.kp x o m e n) n, fun P hP h => b.tb P hP (a.tb P hP h), fun x h => a.fr x (b.fr x h)⟩
theorem Ext.weak (a : Ext T noM H H1) : Ext T M H H1 := ⟨fun x o _ e n => a.kp x o (fun z => z) e n, a.tb, a.fr⟩
theorem tabG_ne {P p : Addr} {o : HO} (h : GxR.TabG H P) (e : H p = some o) (n : ∀ ps, o ≠ .tbl ps) : P ≠ p := fun z => by
  obtain ⟨ps, hp, _⟩ := h
  rw [z, e] at hp
  exact n ps (Option.some.inj hp)
theorem Ext.new {p : Addr} {o : HO} (h : H p = none) : Ext T M H (upd H p o) := by
  refine ⟨fun b u _ e _ => ?_, fun P _ ⟨ps, hp, ht⟩ => ⟨ps, ?_, ht⟩, fun b e => ?_⟩
  · rw [upd_ne (ne_of_none e h)]; exact e
  · rw [upd_ne (ne_of_none hp h)]; exact hp
  · by_cases hb : b = p
    · rw [hb]; exact h
    · rw [upd_ne hb] at e; exact e
/-- a thing that was not there, or may change, is written -/
theorem Ext.mut {p : Addr} {o u : HO} (a : Ext T M H H') (h : H p = none ∨ M p) (e : H' p = some u) (n : ∀ ps, u ≠ .tbl ps) : Ext T M H (upd H' p o) := by
  refine ⟨fun b v m eb nb => ?_, fun P hP hg => ?_, fun b eb => ?_⟩
  · have hbp : b ≠ p := fun z => by
      rcases h with h | h
      · rw [z, h] at eb; cases eb
      · exact m (z ▸ h)
    rw [upd_ne hbp]; exact a.kp b v m eb nb
  · have hg' := a.tb P hP hg
    have hne := tabG_ne hg' e n
    obtain ⟨ps, hp, ht⟩ := hg'
    exact ⟨ps, by rw [upd_ne hne]; exact hp, ht⟩
  · by_cases hb : b = p
    · rw [hb, upd_same] at eb; cases eb
    · rw [upd_ne hb] at eb; exact a.fr b eb
theorem Ext.tab {P : Addr} (h : GxR.TabG H P) (t : GxR.Tabbed P H H') : Ext T M H H' := by
  obtain ⟨ps, hp, _⟩ := h
  refine ⟨fun b o _ e n => ?_, fun R _ hR => ?_, fun b e => ?_⟩
  · have hb : b ≠ P := fun z => by rw [z, hp] at e; exact n ps (Option.some.inj e).symm
    rw [t.2 b hb]; exact e
  · by_cases hb : R = P
    · rw [hb]; exact t.1
    · obtain ⟨qs, hq, hqt⟩ := hR
      exact ⟨qs, by rw [t.2 R hb]; exact hq, hqt⟩
  · by_cases hb : b = P
    · obtain ⟨qs, hq, _⟩ := t.1
      rw [hb, hq] at e; cases e
    · rw [t.2 b hb] at e; exact e
theorem Ext.lst {a : Addr} {xs : List V} (e : Ext T M H H') (m : ¬ M a) (h : H a = some (.lst xs)) : H' a = some (.lst xs) := e.kp a _ m h fun ps z => by cases z
theorem Ext.tup {a : Addr} {xs : List V} (e : Ext T M H H') (m : ¬ M a) (h : H a = some (.tup xs)) : H' a = some (.tup xs) := e.kp a _ m h fun ps z => by cases z
theorem Ext.l {a : Addr} {xs : List V} (e : Ext T M H H') (m : ¬ M a) (h : SqL K H a xs) : SqL K H' a xs := by
  rcases h with (h | ⟨o, h⟩) | h
  · exact .inl (.inl (e.lst m h))
  · exact .inl (.inr ⟨o, e.kp _ _ m h fun ps z => by cases z⟩)
  · exact .inr h
/-- the tables stand -/
def Wd (T : List Addr) (H : Hp) : Prop := ∀ P ∈ T, GxR.TabG H P
theorem Wd.ext (h : Wd T H) (e : Ext T M H H') : Wd T H' := fun P hP => e.tb P hP (h P hP)

/-! ### data -/
inductive D where
  | i (n : Int) | non | bl (b : Bool)
  | t (ds : List D)
mutual
def Rp (H : Hp) : D → V → Prop
  | .i n, v => v = .int n
  | .non, v => v = .non
  | .bl b, v => v = .bl b
  | .t ds, v => ∃ a vs, v = .ref a ∧ H a = some (.tup vs) ∧ RpL H ds vs
def RpL (H : Hp) : List D → List V → Prop
  | [], vs => vs = []
  | d :: ds, vs => ∃ v r, vs = v :: r ∧ Rp H d v ∧ RpL H ds r
end
theorem Rp.i {n : Int} {v : V} (h : Rp H (.i n) v) : v = .int n := by unfold Rp at h; exact h
theorem Rp.t {ds : List D} {v : V} (h : Rp H (.t ds) v) : ∃ a vs, v = .ref a ∧ H a = some (.tup vs) ∧ RpL H ds vs := by unfold Rp at h; exact h
theorem rp_i (n : Int) : Rp H (.i n) (.int n) := by unfold Rp; rfl
theorem rp_t {ds : List D} {a : Addr} {vs : List V} (h : H a = some (.tup vs)) (r : RpL H ds vs) : Rp H (.t ds) (.ref a) := by unfold Rp; exact ⟨a, vs, rfl, h, r⟩
theorem rpl_nil : RpL H [] [] := by unfold RpL; rfl
theorem rpl_cons {d : D} {ds : List D} {v : V} {vs : List V} (h : Rp H d v) (r : RpL H ds vs) : RpL H (d :: ds) (v :: vs) := by unfold RpL; exact ⟨v, vs, rfl, h, r⟩
theorem RpL.cons {d : D} {ds : List D} {vs : List V} (h : RpL H (d :: ds) vs) : ∃ v r, vs = v :: r ∧ Rp H d v ∧ RpL H ds r := by unfold RpL at h; exact h
theorem RpL.nil {vs : List V} (h : RpL H [] vs) : vs = [] := by unfold RpL at h; exact h
theorem RpL.len : ∀ {ds : List D} {vs : List V}, RpL H ds vs → vs.length = ds.length
  | [], vs, h => by rw [h.nil] <;> rfl
  | d :: ds, vs, h => by
    obtain ⟨v, r, rfl, _, h2⟩ := h.cons
    rw [List.length_cons, List.length_cons, RpL.len h2]
theorem RpL.get : ∀ {ds : List D} {vs : List V} {i : Nat} {d : D}, RpL H ds vs → ds[i]? = some d → ∃ v, vs[i]? = some v ∧ Rp H d v
  | [], vs, i, d, _, e => by simp at e
  | d :: ds, vs, 0, d', h, e => by
    obtain ⟨v, r, rfl, h1, _⟩ := h.cons
    simp at e
    exact ⟨v, rfl, e ▸ h1⟩
  | d :: ds, vs, i + 1, d', h, e => by
    obtain ⟨v, r, rfl, _, h2⟩ := h.cons
    obtain ⟨u, e1, e2⟩ := RpL.get (i := i) h2 (by simpa using e)
    exact ⟨u, by simpa using e1, e2⟩
theorem RpL.snoc : ∀ {ds : List D} {vs : List V} {d : D} {v : V}, RpL H ds vs → Rp H d v → RpL H (ds ++ [d]) (vs ++ [v])
  | [], vs, d, v, h, hv => by rw [h.nil]; exact rpl_cons hv rpl_nil
  | e :: ds, vs, d, v, h, hv => by
    obtain ⟨u, r, rfl, h1, h2⟩ := h.cons
    exact rpl_cons h1 (RpL.snoc h2 hv)
theorem RpL.take : ∀ {ds : List D} {vs : List V} (n : Nat), RpL H ds vs → RpL H (ds.take n) (vs.take n)
  | ds, vs, 0, h => by simp; exact rpl_nil
  | [], vs, n + 1, h => by rw [h.nil]; exact rpl_nil
  | d :: ds, vs, n + 1, h => by
    obtain ⟨u, r, rfl, h1, h2⟩ := h.cons
    exact rpl_cons h1 (RpL.take n h2)
theorem RpL.drop : ∀ {ds : List D} {vs : List V} (n : Nat), RpL H ds vs → RpL H (ds.drop n) (vs.drop n)
  | ds, vs, 0, h => by simpa using h
  | [], vs, n + 1, h => by rw [h.nil]; exact rpl_nil
  | d :: ds, vs, n + 1, h => by
    obtain ⟨u, r, rfl, h1, h2⟩ := h.cons
    exact RpL.drop n h2
theorem RpL.append : ∀ {ds es : List D} {vs ws : List V}, RpL H ds vs → RpL H es ws → RpL H (ds ++ es) (vs ++ ws)
  | [], es, vs, ws, h, g => by rw [h.nil]; exact g
  | e :: ds, es, vs, ws, h, g => by
    obtain ⟨u, r, rfl, h1, h2⟩ := h.cons
    exact rpl_cons h1 (RpL.append h2 g)
theorem rpl_ints : ∀ (ns : List Int), RpL H (ns.map D.i) (ns.map V.int)
  | [] => rpl_nil
  | n :: r => rpl_cons (rp_i n) (rpl_ints r)
theorem RpL.ints : ∀ {ns : List Int} {vs : List V}, RpL H (ns.map D.i) vs → vs = ns.map V.int
  | [], vs, h => h.nil
  | n :: r, vs, h => by
    obtain ⟨v, s, rfl, h1, h2⟩ := h.cons
    rw [h1.i, RpL.ints h2]; rfl
mutual
theorem Rp.ext (e : Ext T M H H') (hM : ∀ b vs, M b → H b ≠ some (.tup vs)) : ∀ {d : D} {v : V}, Rp H d v → Rp H' d v
  | .i n, v, h => by rw [h.i]; exact rp_i n
  | .non, v, h => by unfold Rp at h ⊢; exact h
  | .bl b, v, h => by unfold Rp at h ⊢; exact h
  | .t ds, v, h => by
    obtain ⟨a, vs, rfl, h1, h2⟩ := h.t
    exact rp_t (e.tup (fun m => hM a vs m h1) h1) (RpL.ext e hM h2)
theorem RpL.ext (e : Ext T M H H') (hM : ∀ b vs, M b → H b ≠ some (.tup vs)) : ∀ {ds : List D} {vs : List V}, RpL H ds vs → RpL H' ds vs
  | [], vs, h => by rw [h.nil]; exact rpl_nil
  | d :: ds, vs, h => by
    obtain ⟨v, r, rfl, h1, h2⟩ := h.cons
    exact rpl_cons (Rp.ext e hM h1) (RpL.ext e hM h2)
end
theorem Rp.x (e : Ext T noM H H') {d : D} {v : V} (h : Rp H d v) : Rp H' d v := h.ext e fun _ _ m => m.elim
theorem RpL.x (e : Ext T noM H H') {ds : List D} {vs : List V} (h : RpL H ds vs) : RpL H' ds vs := h.ext e fun _ _ m => m.elim
end
end GE

set_option Elab.async false
set_option linter.all false
set_option maxRecDepth 100000
set_option maxHeartbeats 4000000

namespace Mw
open PySem PySem.Spec PyProof.Rows L2 GE
def top (i : Nat) : Stmt := PySem.Challenge.pw_moatways_k23_answers_of_a_yard.main.body.getD i (.Pass ⟨0, 0, 0, 0⟩)
abbrev s_wall : Stmt := top 1
theorem sc_wall : FnScope ["k"] ["k"] (defScope s_wall) := ⟨rfl, rfl, rfl, by decide +kernel, rfl, by decide +kernel, by decide +kernel⟩
abbrev sApart___init__ : Stmt := inClass (top 4) 0
theorem scApart___init__ : FnScope ["self", "index"] ["self", "index"] (defScope sApart___init__) := ⟨rfl, rfl, rfl, by decide +kernel, rfl, by decide +kernel, by decide +kernel⟩
abbrev sRefused___init__ : Stmt := inClass (top 5) 0
theorem scRefused___init__ : FnScope ["self", "reason"] ["self", "reason"] (defScope sRefused___init__) := ⟨rfl, rfl, rfl, by decide +kernel, rfl, by decide +kernel, by decide +kernel⟩
abbrev sratio : Stmt := top 8
theorem scratio : FnScope ["top", "bottom", "shared"] ["top", "bottom"] (defScope sratio) := ⟨rfl, rfl, rfl, by decide +kernel, rfl, by decide +kernel, by decide +kernel⟩
abbrev splus : Stmt := top 9
theorem scplus : FnScope ["first", "second"] ["first", "second"] (defScope splus) := ⟨rfl, rfl, rfl, by decide +kernel, rfl, by decide +kernel, by decide +kernel⟩
abbrev sminus : Stmt := top 10
theorem scminus : FnScope ["first", "second"] ["first", "second"] (defScope sminus) := ⟨rfl, rfl, rfl, by decide +kernel, rfl, by decide +kernel, by decide +kernel⟩
abbrev sless : Stmt := top 11
theorem scless : FnScope ["first", "second"] ["first", "second"] (defScope sless) := ⟨rfl, rfl, rfl, by decide +kernel, rfl, by decide +kernel, by decide +kernel⟩
abbrev sField___init__ : Stmt := inClass (top 13) 0
theorem scField___init__ : FnScope ["self", "net", "places", "ways", "place"] ["self", "net"] (defScope sField___init__) := ⟨rfl, rfl, rfl, by decide +kernel, rfl, by decide +kernel, by decide +kernel⟩
abbrev sField_groups_now : Stmt := inClass (top 13) 1
theorem scField_groups_now : FnScope ["self", "place", "home"] ["self"] (defScope sField_groups_now) := ⟨rfl, rfl, rfl, by decide +kernel, rfl, by decide +kernel, by decide +kernel⟩
abbrev sField_grow : Stmt := inClass (top 13) 2
theorem scField_grow : FnScope ["self", "rising", "span", "group", "place"] ["self", "rising", "span"] (defScope sField_grow) := ⟨rfl, rfl, rfl, by decide +kernel, rfl, by decide +kernel, by decide +kernel⟩
abbrev sField_span_until_full : Stmt := inClass (top 13) 3
theorem scField_span_until_full : FnScope ["self", "rising", "best", "a", "b", "cost", "speed", "group", "slack", "span"] ["self", "rising"] (defScope sField_span_until_full) := ⟨rfl, rfl, rfl, by decide +kernel, rfl, by decide +kernel, by decide +kernel⟩
abbrev sField_take_full_ways : Stmt := inClass (top 13) 4
theorem scField_take_full_ways : FnScope ["self", "born", "way"] ["self"] (defScope sField_take_full_ways) := ⟨rfl, rfl, rfl, by decide +kernel, rfl, by decide +kernel, by decide +kernel⟩
abbrev sField_paper : Stmt := inClass (top 13) 5
theorem scField_paper : FnScope ["self"] ["self"] (defScope sField_paper) := ⟨rfl, rfl, rfl, by decide +kernel, rfl, by decide +kernel, by decide +kernel⟩
abbrev sField__ways_between : Stmt := inClass (top 13) 6
theorem scField__ways_between : FnScope ["self", "way"] ["self"] (defScope sField__ways_between) := ⟨rfl, rfl, rfl, by decide +kernel, rfl, by decide +kernel, by decide +kernel⟩
abbrev sField__first_full_way : Stmt := inClass (top 13) 7
theorem scField__first_full_way : FnScope ["self", "way", "a", "b", "cost"] ["self"] (defScope sField__first_full_way) := ⟨rfl, rfl, rfl, by decide +kernel, rfl, by decide +kernel, by decide +kernel⟩
abbrev sField__slack : Stmt := inClass (top 13) 8
theorem scField__slack : FnScope ["self", "a", "b", "cost"] ["self", "a", "b", "cost"] (defScope sField__slack) := ⟨rfl, rfl, rfl, by decide +kernel, rfl, by decide +kernel, by decide +kernel⟩
abbrev sField__take : Stmt := inClass (top 13) 9
theorem scField__take : FnScope ["self", "way", "a", "b", "_", "joined", "place"] ["self", "way"] (defScope sField__take) := ⟨rfl, rfl, rfl, by decide +kernel, rfl, by decide +kernel, by decide +kernel⟩
abbrev sgroups : Stmt := top 17
theorem scgroups : FnScope ["net", "choice", "found", "place", "home", "group"] ["net", "choice"] (defScope sgroups) := ⟨rfl, rfl, rfl, by decide +kernel, rfl, by decide +kernel, by decide +kernel⟩
abbrev sjoins : Stmt := top 18
theorem scjoins : FnScope ["net", "pairs", "choice", "homes", "a", "b"] ["net", "pairs", "choice"] (defScope sjoins) := ⟨rfl, rfl, rfl, by decide +kernel, rfl, by decide +kernel, by decide +kernel⟩
abbrev severy_way : Stmt := top 19
theorem scevery_way : FnScope ["net"] ["net"] (defScope severy_way) := ⟨rfl, rfl, rfl, by decide +kernel, rfl, by decide +kernel, by decide +kernel⟩
abbrev swithout : Stmt := top 20
theorem scwithout : FnScope ["choice", "way", "other"] ["choice", "way"] (defScope swithout) := ⟨rfl, rfl, rfl, by decide +kernel, rfl, by decide +kernel, by decide +kernel⟩
abbrev scheck_joined : Stmt := top 21
theorem sccheck_joined : FnScope ["net", "pairs", "homes", "index", "a", "b"] ["net", "pairs"] (defScope scheck_joined) := ⟨rfl, rfl, rfl, by decide +kernel, rfl, by decide +kernel, by decide +kernel⟩
abbrev sparts_pair : Stmt := top 22
theorem scparts_pair : FnScope ["places", "pairs", "a", "b"] ["places", "pairs"] (defScope sparts_pair) := ⟨rfl, rfl, rfl, by decide +kernel, rfl, by decide +kernel, by decide +kernel⟩
abbrev s_homes : Stmt := top 23
theorem sc_homes : FnScope ["net", "choice", "places", "ways", "homes", "way", "a", "b", "_", "low", "high", "home"] ["net", "choice"] (defScope s_homes) := ⟨rfl, rfl, rfl, by decide +kernel, rfl, by decide +kernel, by decide +kernel⟩
abbrev sgrowth : Stmt := top 25
theorem scgrowth : FnScope ["net", "pairs", "field", "_"] ["net", "pairs"] (defScope sgrowth) := ⟨rfl, rfl, rfl, by decide +kernel, rfl, by decide +kernel, by decide +kernel⟩
abbrev stold : Stmt := top 26
theorem sctold : FnScope ["net", "pairs", "order", "taken", "kept", "way", "rest"] ["net", "pairs"] (defScope stold) := ⟨rfl, rfl, rfl, by decide +kernel, rfl, by decide +kernel, by decide +kernel⟩
abbrev s_grown : Stmt := top 28
theorem sc_grown : FnScope ["net", "pairs", "field", "rising", "seen"] ["net", "pairs"] (defScope s_grown) := ⟨rfl, rfl, rfl, by decide +kernel, rfl, by decide +kernel, by decide +kernel⟩
abbrev s_open_groups : Stmt := top 29
theorem sc_open_groups : FnScope ["field", "pairs", "group"] ["field", "pairs"] (defScope s_open_groups) := ⟨rfl, rfl, rfl, by decide +kernel, rfl, by decide +kernel, by decide +kernel⟩
abbrev sYard___init__ : Stmt := inClass (top 31) 0
theorem scYard___init__ : FnScope ["self", "places"] ["self", "places"] (defScope sYard___init__) := ⟨rfl, rfl, rfl, by decide +kernel, rfl, by decide +kernel, by decide +kernel⟩
abbrev sYard_build : Stmt := inClass (top 31) 1
theorem scYard_build : FnScope ["self", "a", "b", "cost"] ["self", "a", "b", "cost"] (defScope sYard_build) := ⟨rfl, rfl, rfl, by decide +kernel, rfl, by decide +kernel, by decide +kernel⟩
abbrev sYard_change : Stmt := inClass (top 31) 2
theorem scYard_change : FnScope ["self", "way", "cost", "a", "b", "_"] ["self", "way", "cost"] (defScope sYard_change) := ⟨rfl, rfl, rfl, by decide +kernel, rfl, by decide +kernel, by decide +kernel⟩
abbrev sYard_cut : Stmt := inClass (top 31) 3
theorem scYard_cut : FnScope ["self", "way"] ["self", "way"] (defScope sYard_cut) := ⟨rfl, rfl, rfl, by decide +kernel, rfl, by decide +kernel, by decide +kernel⟩
abbrev sYard_want : Stmt := inClass (top 31) 4
theorem scYard_want : FnScope ["self", "a", "b"] ["self", "a", "b"] (defScope sYard_want) := ⟨rfl, rfl, rfl, by decide +kernel, rfl, by decide +kernel, by decide +kernel⟩
abbrev sYard_drop : Stmt := inClass (top 31) 5
theorem scYard_drop : FnScope ["self", "a", "b"] ["self", "a", "b"] (defScope sYard_drop) := ⟨rfl, rfl, rfl, by decide +kernel, rfl, by decide +kernel, by decide +kernel⟩
abbrev sYard_task : Stmt := inClass (top 31) 6
theorem scYard_task : FnScope ["self"] ["self"] (defScope sYard_task) := ⟨rfl, rfl, rfl, by decide +kernel, rfl, by decide +kernel, by decide +kernel⟩
abbrev sYard_told : Stmt := inClass (top 31) 7
theorem scYard_told : FnScope ["self", "net", "pairs", "known", "choice", "part", "indexes", "way"] ["self"] (defScope sYard_told) := ⟨rfl, rfl, rfl, by decide +kernel, rfl, by decide +kernel, by decide +kernel⟩
abbrev sYard_worked : Stmt := inClass (top 31) 8
theorem scYard_worked : FnScope ["self"] ["self"] (defScope sYard_worked) := ⟨rfl, rfl, rfl, by decide +kernel, rfl, by decide +kernel, by decide +kernel⟩
abbrev sYard__told_of : Stmt := inClass (top 31) 9
theorem scYard__told_of : FnScope ["self", "part"] ["self", "part"] (defScope sYard__told_of) := ⟨rfl, rfl, rfl, by decide +kernel, rfl, by decide +kernel, by decide +kernel⟩
abbrev sYard__check_way : Stmt := inClass (top 31) 10
theorem scYard__check_way : FnScope ["self", "way"] ["self", "way"] (defScope sYard__check_way) := ⟨rfl, rfl, rfl, by decide +kernel, rfl, by decide +kernel, by decide +kernel⟩
abbrev s_parts_with_pairs : Stmt := top 32
theorem sc_parts_with_pairs : FnScope ["net", "pairs", "every", "found", "places", "own", "pair", "indexes", "way", "ways"] ["net", "pairs"] (defScope s_parts_with_pairs) := ⟨rfl, rfl, rfl, by decide +kernel, rfl, by decide +kernel, by decide +kernel⟩
abbrev s_law_pool : Stmt := top 34
theorem sc_law_pool : FnScope ["script"] ["script"] (defScope s_law_pool) := ⟨rfl, rfl, rfl, by decide +kernel, rfl, by decide +kernel, by decide +kernel⟩
abbrev s_law_draw : Stmt := top 35
theorem sc_law_draw : FnScope ["pool", "many", "found", "cell", "mixed"] ["pool", "many"] (defScope s_law_draw) := ⟨rfl, rfl, rfl, by decide +kernel, rfl, by decide +kernel, by decide +kernel⟩
abbrev s_law_pick : Stmt := top 36
theorem sc_law_pick : FnScope ["pool", "rows"] ["pool", "rows"] (defScope s_law_pick) := ⟨rfl, rfl, rfl, by decide +kernel, rfl, by decide +kernel, by decide +kernel⟩
abbrev s_law_same : Stmt := top 37
theorem sc_law_same : FnScope ["actual", "due", "k"] ["actual", "due"] (defScope s_law_same) := ⟨rfl, rfl, rfl, by decide +kernel, rfl, by decide +kernel, by decide +kernel⟩
abbrev s_law_cost : Stmt := top 38
theorem sc_law_cost : FnScope ["pool", "pick"] ["pool"] (defScope s_law_cost) := ⟨rfl, rfl, rfl, by decide +kernel, rfl, by decide +kernel, by decide +kernel⟩
abbrev s_law_group : Stmt := top 39
theorem sc_law_group : FnScope ["net", "choice", "place", "found", "turn", "index", "a", "b", "cost"] ["net", "choice", "place"] (defScope s_law_group) := ⟨rfl, rfl, rfl, by decide +kernel, rfl, by decide +kernel, by decide +kernel⟩
abbrev s_law_groups : Stmt := top 40
theorem sc_law_groups : FnScope ["net", "choice", "found", "place", "part"] ["net", "choice"] (defScope s_law_groups) := ⟨rfl, rfl, rfl, by decide +kernel, rfl, by decide +kernel, by decide +kernel⟩
abbrev s_law_joins : Stmt := top 41
theorem sc_law_joins : FnScope ["net", "pairs", "choice", "pair"] ["net", "pairs", "choice"] (defScope s_law_joins) := ⟨rfl, rfl, rfl, by decide +kernel, rfl, by decide +kernel, by decide +kernel⟩
abbrev s_law_parts : Stmt := top 42
theorem sc_law_parts : FnScope ["net", "pairs", "found", "part", "k", "own", "pair", "way"] ["net", "pairs"] (defScope s_law_parts) := ⟨rfl, rfl, rfl, by decide +kernel, rfl, by decide +kernel, by decide +kernel⟩
abbrev s_law_near : Stmt := top 43
theorem sc_law_near : FnScope ["pool", "places", "a"] ["pool", "places"] (defScope s_law_near) := ⟨rfl, rfl, rfl, by decide +kernel, rfl, by decide +kernel, by decide +kernel⟩
abbrev s_law_is_refused : Stmt := top 44
theorem sc_law_is_refused : FnScope ["pool", "yard", "net", "pairs", "pick"] ["pool", "yard"] (defScope s_law_is_refused) := ⟨rfl, rfl, rfl, by decide +kernel, rfl, by decide +kernel, by decide +kernel⟩
abbrev s_law_edits : Stmt := top 45
theorem sc_law_edits : FnScope ["pool", "yard", "places", "net", "pairs", "pick", "a", "b", "way", "cost", "pair"] ["pool", "yard", "places"] (defScope s_law_edits) := ⟨rfl, rfl, rfl, by decide +kernel, rfl, by decide +kernel, by decide +kernel⟩
abbrev s_law_answer : Stmt := top 46
theorem sc_law_answer : FnScope ["yard", "due", "found", "e"] ["yard", "due"] (defScope s_law_answer) := ⟨rfl, rfl, rfl, by decide +kernel, rfl, by decide +kernel, by decide +kernel⟩
abbrev slaw : Stmt := top 47
theorem sclaw : FnScope ["script", "pool", "places", "yard", "known", "many", "k", "a", "b", "turn", "net", "pairs", "whole", "wrong", "due", "parts", "part"] ["script"] (defScope slaw) := ⟨rfl, rfl, rfl, by decide +kernel, rfl, by decide +kernel, by decide +kernel⟩
/-! ### the pool -/
def PoolAt (H : Hp) (p s : Addr) : Prop := ∃ (ns : List Int) (i1 i2 i3 i4 : Int), H p = some (.lst [.ref s, .int i1, .int i2, .int i3, .int i4]) ∧ H s = some (.lst (ns.map V.int)) ∧ ns.length ≤ 63 ∧ 0 ≤ i1 ∧ 0 ≤ i2
abbrev atP (p : Addr) : Addr → Prop := fun b => b = p
theorem PoolAt.tup {H : Hp} {p s : Addr} (h : PoolAt H p s) : ∀ b vs, atP p b → H b ≠ some (.tup vs) := fun b vs e z => by
  obtain ⟨ns, i1, i2, i3, i4, hp, _⟩ := h
  rw [show b = p from e, hp] at z
  cases z
theorem PoolAt.keep {T : List Addr} {H H' : Hp} {p s : Addr} (h : PoolAt H p s) (e : Ext T noM H H') : PoolAt H' p s := by
  obtain ⟨ns, i1, i2, i3, i4, hp, hs, hl, h1, h2⟩ := h
  exact ⟨ns, i1, i2, i3, i4, e.lst (fun z => z) hp, e.lst (fun z => z) hs, hl, h1, h2⟩
theorem Rp.p {T : List Addr} {H H' : Hp} {p s : Addr} {d : D} {v : V} (h : Rp H d v) (hp : PoolAt H p s) (e : Ext T (atP p) H H') : Rp H' d v := h.ext e hp.tup
theorem ltbl {xs : List V} : ∀ ps, HO.lst xs ≠ .tbl ps := fun ps z => by cases z
theorem PoolAt.upd {H : Hp} {p s l : Addr} {o : HO} (h : PoolAt H p s) (h1 : l ≠ p) (h2 : l ≠ s) : PoolAt (upd H l o) p s := by
  obtain ⟨ns, i1, i2, i3, i4, hp, hs, r⟩ := h
  exact ⟨ns, i1, i2, i3, i4, by rw [upd_ne (Ne.symm h1)]; exact hp, by rw [upd_ne (Ne.symm h2)]; exact hs, r⟩
theorem PoolAt.ne {H : Hp} {p s l : Addr} (h : PoolAt H p s) (e : H l = none) : l ≠ p ∧ l ≠ s := by
  obtain ⟨ns, i1, i2, i3, i4, hp, hs, r⟩ := h
  exact ⟨fun z => (by rw [z, hp] at e; cases e), fun z => (by rw [z, hs] at e; cases e)⟩
theorem rpl_upd {H : Hp} {l : Addr} {xs : List V} {o : HO} {ds : List D} {vs : List V} (h : RpL H ds vs) (hl : H l = some (.lst xs)) : RpL (upd H l o) ds vs :=
  h.ext (T := []) ((Ext.refl [] (atP l) H).mut (.inr rfl) hl fun ps z => by cases z) fun b vs e z => by rw [show b = l from e, hl] at z; cases z
theorem rp_upd {H : Hp} {l : Addr} {xs : List V} {o : HO} {d : D} {v : V} (h : Rp H d v) (hl : H l = some (.lst xs)) : Rp (upd H l o) d v :=
  h.ext (T := []) ((Ext.refl [] (atP l) H).mut (.inr rfl) hl fun ps z => by cases z) fun b vs e z => by rw [show b = l from e, hl] at z; cases z
theorem RpL.p {T : List Addr} {H H' : Hp} {p s : Addr} {d : List D} {v : List V} (h : RpL H d v) (hp : PoolAt H p s) (e : Ext T (atP p) H H') : RpL H' d v := h.ext e hp.tup
def spPool (K : PySem.W.Frag) (T : List Addr) : Sp := fun vs H Q _ => ∃ (a : Addr) (ns : List Int), vs = [.ref a] ∧ SqL K H a (ns.map V.int) ∧ ns.length ≤ 63 ∧ ∀ p s H', H p = none → H s = none → PoolAt H' p s → Ext T noM H H' → Q (.ref p) H'
def spDraw (T : List Addr) : Sp := fun vs H Q _ => ∃ (p s : Addr) (many : Int), vs = [.ref p, .int many] ∧ PoolAt H p s ∧ 1 ≤ many ∧ many < 1073741824 ∧ ∀ r H', 0 ≤ r → r < many → PoolAt H' p s → Ext T (atP p) H H' → Q (.int r) H'
def spPick (T : List Addr) : Sp := fun vs H Q _ => ∃ (p s a : Addr) (xs : List V), vs = [.ref p, .ref a] ∧ PoolAt H p s ∧ H a = some (.lst xs) ∧ a ≠ p ∧ 1 ≤ xs.length ∧ xs.length ≤ 1000 ∧ ∀ v H', v ∈ xs → PoolAt H' p s → Ext T (atP p) H H' → Q v H'
def spCost (T : List Addr) : Sp := fun vs H Q _ => ∃ (p s : Addr), vs = [.ref p] ∧ PoolAt H p s ∧ ∀ r H', 1 ≤ r → r ≤ 10000 → PoolAt H' p s → Ext T (atP p) H H' → Q (.int r) H'
section
variable {P : Program} {w : World} {K : PySem.W.Frag} {mg : Str → Option Value} {base : Heap} {T : List Addr}
theorem pool_upd {H : Hp} {p s : Addr} {ns : List Int} {i1 i2 i3 i4 j1 j2 j3 j4 : Int} (hp : H p = some (.lst [.ref s, .int i1, .int i2, .int i3, .int i4])) (hs : H s = some (.lst (ns.map V.int))) (hl : ns.length ≤ 63) (h1 : 0 ≤ j1) (h2 : 0 ≤ j2) :
    PoolAt (upd H p (.lst [.ref s, .int j1, .int j2, .int j3, .int j4])) p s ∧ Ext T (atP p) H (upd H p (.lst [.ref s, .int j1, .int j2, .int j3, .int j4])) := by
  have hsp : s ≠ p := fun z => by
    rw [z, hp] at hs
    have e := HO.lst.inj (Option.some.inj hs)
    cases ns with
    | nil => cases e
    | cons x r => cases e
  exact ⟨⟨ns, j1, j2, j3, j4, upd_same, by rw [upd_ne hsp]; exact hs, hl, h1, h2⟩, (Ext.refl T _ H).mut (.inr rfl) hp fun ps z => by cases z⟩
theorem ok__law_pool {f : Addr} {fd : FuncData} (F : Fun K "_law_pool" "_law_pool" s_law_pool f fd) (m_list : mg "list" = none) : FnOk P w K mg base CX0 1 f fd ["script"] (spPool K T) := by
  refine F.ok sc_law_pool (fun vs H Q E h => ?_) (fun cdv A outer s H vs Q E hr h => ?_)
  · obtain ⟨a, ns, rfl, hS, hlen, k⟩ := h
    rfl
  · obtain ⟨a, ns, rfl, hS, hlen, k⟩ := h
    refine ⟨_, (pss_one (ps_ret (pe_lst (pa_cons (pe_callTy call_list_of (by rfl) m_list (by decide +kernel) (pa_cons (pv 0) pa_nil)) (pa_cons pe_int (pa_cons pe_int (pa_cons pe_int (pa_cons pe_int pa_nil)))))))), ?_⟩
    refine ⟨_, rfl, a, _, rfl, .inl hS, fun l hl => ?_⟩
    refine ⟨by show 5 ≤ sizeLine; decide, fun p hp => ?_⟩
    have hlp : l ≠ p := fun z => by rw [← z, upd_same] at hp; cases hp
    have hpH : H p = none := by rw [upd_ne (Ne.symm hlp)] at hp; exact hp
    exact k p l _ hpH hl ⟨ns, 0, 0, 0, 0, upd_same, by rw [upd_ne hlp, upd_same], hlen, by omega, by omega⟩ ((Ext.new hl).trans (Ext.new hp))
theorem ok__law_draw {f : Addr} {fd : FuncData} (F : Fun K "_law_draw" "_law_draw" s_law_draw f fd) (m_abs : mg "abs" = none) (m_int : mg "int" = none) (m_len : mg "len" = none) : FnOk P w K mg base CX0 1 f fd ["pool", "many"] (spDraw T) := by
  refine F.ok sc_law_draw (fun vs H Q E h => ?_) (fun cdv A outer s H vs Q E hr h => ?_)
  · obtain ⟨p, s, many, rfl, hP, hm1, hm2, k⟩ := h
    rfl
  · obtain ⟨p, s, many, rfl, hP, hm1, hm2, k⟩ := h
    refine ⟨_, (pss_cons (ps_if (pt_cmpR op_gt (pe_ix ix_list (pv 0) pe_int (fun _ _ => rfl)) pe_int (nomark _)) (pss_cons (ps_set (i := 2) sc_law_draw.nd rfl (Or.inl rfl) (pe_op op_mod (pe_callTy call_int1 (by rfl) m_int (by decide +kernel) (pa_cons (pe_ix ix_list (pv 0) pe_int (fun _ _ => rfl)) pa_nil)) (pv 1)))
      (pss_cons (ps_asg (pe_op op_fdivN (pe_ix ix_list (pv 0) pe_int (fun _ _ => rfl)) (pv 1)) (pg_sub (pv 0) pe_int set_list))
      (pss_one (ps_ret (pv 2))))) pss_nil)
      (Evl.pss_cut (ps_if (PW.pt (pw_and (pt_cmpR op_eq (pe_op op_mod (pe_callTy call_int1 (by rfl) m_int (by decide +kernel) (pa_cons (pe_ix ix_list (pv 0) pe_int (fun _ _ => rfl)) pa_nil)) pe_int) pe_int (nomark _)) (pw_and1 (pt_cmpR op_lt (pe_ix ix_list (pv 0) pe_int (fun _ _ => rfl)) (pe_callB call_len_seq (by rfl) m_len PySem.boot_len (pa_cons (pe_ix ix_list (pv 0) pe_int (fun _ _ => rfl)) pa_nil)) (nomark _))))) (pss_cons (ps_set (i := 3) sc_law_draw.nd rfl (Or.inl rfl) (pe_callB call_abs (by rfl) m_abs (by decide +kernel) (pa_cons (pe_ix ix_list (pe_ix ix_list (pv 0) pe_int (fun _ _ => rfl)) (pe_ix ix_list (pv 0) pe_int (fun _ _ => rfl)) (fun _ _ => rfl)) pa_nil)))
      (pss_cons (ps_asg (pe_op op_add (pe_ix ix_list (pv 0) pe_int (fun _ _ => rfl)) pe_int) (pg_sub (pv 0) pe_int set_list))
      (pss_cons (ps_if (pt_cmpR op_ge (pv 3) (pe_op op_pow pe_int pe_int) (nomark _)) (pss_cons (ps_asg (pe_op op_fdivN (pv 3) (pv 1)) (pg_sub (pv 0) pe_int set_list))
      (pss_one (ps_ret (pe_op op_mod (pe_callTy call_int1 (by rfl) m_int (by decide +kernel) (pa_cons (pv 3) pa_nil)) (pv 1))))) pss_nil)
      (pss_one (ps_asg (pv 3) (pg_sub (pv 0) pe_int set_list)))))) pss_nil)
      (pss_cons (ps_asg (pe_op op_add (pe_ix ix_list (pv 0) pe_int (fun _ _ => rfl)) pe_int) (pg_sub (pv 0) pe_int set_list))
      (pss_cons (ps_set (i := 4) sc_law_draw.nd rfl (Or.inl rfl) (pe_op op_mod (pe_callTy call_int1 (by rfl) m_int (by decide +kernel) (pa_cons (pe_op op_add (pe_op op_add (pe_op op_mul (pe_ix ix_list (pv 0) pe_int (fun _ _ => rfl)) pe_int) (pe_op op_mul (pe_ix ix_list (pv 0) pe_int (fun _ _ => rfl)) pe_int)) pe_int) pa_nil)) pe_int))
      (pss_cons (ps_set (i := 4) sc_law_draw.nd rfl (Or.inl rfl) (pe_op op_mod (pe_callTy call_int1 (by rfl) m_int (by decide +kernel) (pa_cons (pe_op op_add (pe_op op_mul (pv 4) (pv 4)) (pe_op op_mul (pe_ix ix_list (pv 0) pe_int (fun _ _ => rfl)) pe_int)) pa_nil)) pe_int))
      (pss_one (ps_ret (pe_op op_mod (pe_callTy call_int1 (by rfl) m_int (by decide +kernel) (pa_cons (pv 4) pa_nil)) (pv 1))))))))), ?_⟩
    obtain ⟨ns, i1, i2, i3, i4, hp, hs, hl, h1, h2⟩ := hP
    have hm0 : (0 : Int) < many := by omega
    have hmod : ∀ z : Int, 0 ≤ z % many ∧ z % many < many := fun z => ⟨Int.emod_nonneg _ (by omega), Int.emod_lt_of_pos _ hm0⟩
    have hsp : s ≠ p := fun z => by
      rw [z, hp] at hs
      have e := HO.lst.inj (Option.some.inj hs)
      cases ns with
      | nil => cases e
      | cons x r => cases e
    refine ⟨_, rfl, p, _, _, _, rfl, rfl, SqL.of hp, at_of (j := 2) rfl rfl, _, _, rfl, rfl, _, rfl, ?_⟩
    refine ite2 (fun c => ?_) (fun c => ?_)
    · have c' : i2 > 0 := of_decide_eq_true c
      refine ⟨_, rfl, p, _, _, _, rfl, rfl, SqL.of hp, at_of (j := 2) rfl rfl, .inl ⟨_, rfl, _, rfl, _, _, rfl, rfl, hm0, ?_⟩⟩
      refine ⟨_, rfl, p, _, _, _, rfl, rfl, SqL.of hp, at_of (j := 2) rfl rfl, _, rfl, _, _, rfl, rfl, ⟨by omega, by omega⟩, _, rfl, p, _, _, 2, rfl, rfl, hp, rfl, ?_⟩
      obtain ⟨g1, g2⟩ := pool_upd (T := T) (j1 := i1) (j2 := i2.fdiv many) (j3 := i3) (j4 := i4) hp hs hl h1 (by rw [Int.fdiv_eq_ediv_of_nonneg _ (by omega)]; exact Int.ediv_nonneg h2 (by omega))
      exact ⟨_, rfl, k _ _ (hmod _).1 (hmod _).2 g1 g2⟩
    · refine ⟨fun σ' H' => ∃ y2 y3 y4, σ' = [some (.ref p), some (.int many), y2, y3, y4] ∧ PoolAt H' p s ∧ Ext T (atP p) H H', ?_, ?_⟩
      · refine ⟨_, rfl, p, _, _, _, rfl, rfl, SqL.of hp, at_of (j := 4) rfl rfl, .inl ⟨_, rfl, _, _, rfl, rfl, (by show (0 : Int) < 8; decide), rfl, _, rfl, ?_⟩⟩
        have stay : ∃ y2 y3 y4, [some (V.ref p), some (V.int many), none, none, none] = [some (V.ref p), some (V.int many), y2, y3, y4] ∧ PoolAt H p s ∧ Ext T (atP p) H H := ⟨none, none, none, rfl, ⟨ns, i1, i2, i3, i4, hp, hs, hl, h1, h2⟩, Ext.refl T _ H⟩
        refine ite2 (fun c1 => ?_) (fun c1 => iteF stay)
        refine ⟨_, rfl, p, _, _, _, rfl, rfl, SqL.of hp, at_of (j := 1) rfl rfl, _, rfl, p, _, _, _, rfl, rfl, SqL.of hp, at_of (j := 0) rfl rfl, s, _, rfl, .inl (SqL.of hs), _, _, rfl, rfl, _, rfl, ?_⟩
        refine ite2 (fun c2 => ?_) (fun c2 => stay)
        have c2' : i1 < ((ns.map V.int).length : Int) := of_decide_eq_true c2
        rw [List.length_map] at c2'
        have hj : i1.toNat < ns.length := by omega
        have ga : atI (ns.map V.int) i1 = some (.int ns[i1.toNat]) := at_of (j := i1.toNat) (by omega) (by rw [List.getElem?_map, List.getElem?_eq_getElem hj]; rfl)
        -- cell = abs(pool[0][pool[1]])
        refine ⟨_, rfl, p, _, _, _, rfl, rfl, SqL.of hp, at_of (j := 0) rfl rfl, _, rfl, p, _, _, _, rfl, rfl, SqL.of hp, at_of (j := 1) rfl rfl, s, _, _, _, rfl, rfl, SqL.of hs, ga, _, rfl, ?_⟩
        generalize hz : (if ns[i1.toNat] < 0 then -ns[i1.toNat] else ns[i1.toNat]) = z
        have z0 : 0 ≤ z := by rw [← hz]; split <;> omega
        -- pool[1] = pool[1] + 1
        refine ⟨_, rfl, p, _, _, _, rfl, rfl, SqL.of hp, at_of (j := 1) rfl rfl, _, _, rfl, rfl, _, rfl, p, _, _, 1, rfl, rfl, hp, rfl, ?_⟩
        obtain ⟨g1, g2⟩ := pool_upd (T := T) (j1 := i1 + 1) (j2 := i2) (j3 := i3) (j4 := i4) hp hs hl (by omega) h2
        have hp1 : (upd H p (.lst [.ref s, .int (i1 + 1), .int i2, .int i3, .int i4])) p = some (.lst [.ref s, .int (i1 + 1), .int i2, .int i3, .int i4]) := upd_same
        have hs1 : (upd H p (.lst [.ref s, .int (i1 + 1), .int i2, .int i3, .int i4])) s = some (.lst (ns.map V.int)) := by rw [upd_ne hsp]; exact hs
        -- if cell >= 10 ** 18
        refine ⟨_, rfl, _, _, rfl, rfl, ⟨by decide, by decide, by decide⟩, _, _, rfl, rfl, _, rfl, ?_⟩
        refine ite2 (fun c3 => ?_) (fun c3 => ?_)
        · refine ⟨_, rfl, _, rfl, _, _, rfl, rfl, ⟨by omega, by omega⟩, _, rfl, p, _, _, 2, rfl, rfl, hp1, rfl, ?_⟩
          obtain ⟨g3, g4⟩ := pool_upd (T := T) (j1 := i1 + 1) (j2 := z.fdiv many) (j3 := i3) (j4 := i4) hp1 hs1 hl (by omega) (by rw [Int.fdiv_eq_ediv_of_nonneg _ (by omega)]; exact Int.ediv_nonneg z0 (by omega))
          exact ⟨_, rfl, .inl ⟨_, rfl, _, rfl, _, _, rfl, rfl, hm0, k _ _ (hmod _).1 (hmod _).2 g3 (g2.trans g4)⟩⟩
        · refine ⟨_, rfl, _, rfl, p, _, _, 3, rfl, rfl, hp1, rfl, ?_⟩
          obtain ⟨g3, g4⟩ := pool_upd (T := T) (j1 := i1 + 1) (j2 := i2) (j3 := z) (j4 := i4) hp1 hs1 hl (by omega) h2
          exact ⟨_, _, _, rfl, g3, g2.trans g4⟩
      · rintro σ' H1 ⟨y2, y3, y4, rfl, ⟨ns, i1, i2, i3, i4, hp, hs, hl, h1, h2⟩, e1⟩
        refine ⟨_, rfl, p, _, _, _, rfl, rfl, SqL.of hp, at_of (j := 4) rfl rfl, _, _, rfl, rfl, _, rfl, p, _, _, 4, rfl, rfl, hp, rfl, ?_⟩
        obtain ⟨g1, g2⟩ := pool_upd (T := T) (j1 := i1) (j2 := i2) (j3 := i3) (j4 := i4 + 1) hp hs hl h1 h2
        have hp : (upd H1 p (.lst [.ref s, .int i1, .int i2, .int i3, .int (i4 + 1)])) p = some (.lst [.ref s, .int i1, .int i2, .int i3, .int (i4 + 1)]) := upd_same
        refine ⟨_, rfl, p, _, _, _, rfl, rfl, SqL.of hp, at_of (j := 3) rfl rfl, _, _, rfl, rfl, .inr ⟨by decide, by decide⟩, _, rfl, p, _, _, _, rfl, rfl, SqL.of hp, at_of (j := 4) rfl rfl, _, _, rfl, rfl, .inr ⟨by decide, by decide⟩, _, _, rfl, rfl, _, _, rfl, rfl, .inl ⟨_, rfl, _, _, rfl, rfl, (by show (0 : Int) < 2147483647; decide), ?_⟩⟩
        have b1 : ∀ z : Int, 0 ≤ z % 2147483647 ∧ z % 2147483647 < 2147483647 := fun z => ⟨Int.emod_nonneg _ (by decide), Int.emod_lt_of_pos _ (by decide)⟩
        refine ⟨_, rfl, _, rfl, _, _, rfl, rfl, .inl ⟨?_, ?_⟩, _, rfl, p, _, _, _, rfl, rfl, SqL.of hp, at_of (j := 4) rfl rfl, _, _, rfl, rfl, .inr ⟨by decide, by decide⟩, _, _, rfl, rfl, .inl ⟨_, rfl, _, _, rfl, rfl, (by show (0 : Int) < 2147483399; decide), ?_⟩⟩
        · have := (b1 (i3 * 48271 + (i4 + 1) * 69621 + 7919)).1; omega
        · have := (b1 (i3 * 48271 + (i4 + 1) * 69621 + 7919)).2; omega
        exact ⟨_, rfl, .inl ⟨_, rfl, _, rfl, _, _, rfl, rfl, hm0, k _ _ (hmod _).1 (hmod _).2 g1 (e1.trans g2)⟩⟩
theorem ok__law_pick {f : Addr} {fd : FuncData} (F : Fun K "_law_pick" "_law_pick" s_law_pick f fd) (m_len : mg "len" = none) {f_law_draw : Addr} {fd_law_draw : FuncData} (F_law_draw : Fun K "_law_draw" "_law_draw" s_law_draw f_law_draw fd_law_draw) (G_law_draw : FnOk P w K mg base CX0 1 f_law_draw fd_law_draw ["pool", "many"] (spDraw T)) (b_law_draw : Binds K fd_law_draw ["pool", "many"] []) (g_law_draw : mg "_law_draw" = some (.ref f_law_draw)) : FnOk P w K mg base CX0 2 f fd ["pool", "rows"] (spPick T) := by
  refine F.ok sc_law_pick (fun vs H Q E h => ?_) (fun cdv A outer s H vs Q E hr h => ?_)
  · obtain ⟨p, s, a, xs, rfl, hP, ha, hap, hl1, hl2, k⟩ := h
    rfl
  · obtain ⟨p, s, a, xs, rfl, hP, ha, hap, hl1, hl2, k⟩ := h
    refine ⟨_, (pss_one (ps_ret (pe_ix ix_list (pv 1) (pe_call G_law_draw hr (by rfl) g_law_draw F_law_draw.kp b_law_draw .nil pass0 (pa_cons (pv 0) (pa_cons (pe_callB call_len_seq (by rfl) m_len PySem.boot_len (pa_cons (pv 1) pa_nil)) pa_nil))) (fun _ _ => rfl)))), ?_⟩
    refine ⟨_, rfl, _, rfl, _, rfl, a, xs, rfl, .inl (SqL.of ha), p, s, _, rfl, hP, by omega, by omega, fun r H1 r0 r1 hP1 e1 => ?_⟩
    have hj : r.toNat < xs.length := by omega
    refine ⟨a, xs, r, xs[r.toNat], rfl, rfl, SqL.of (e1.lst hap ha), at_of (j := r.toNat) (by omega) (List.getElem?_eq_getElem hj), ?_⟩
    exact k _ _ (List.getElem_mem hj) hP1 e1
theorem ok__law_cost {f : Addr} {fd : FuncData} (F : Fun K "_law_cost" "_law_cost" s_law_cost f fd) {f_law_draw : Addr} {fd_law_draw : FuncData} (F_law_draw : Fun K "_law_draw" "_law_draw" s_law_draw f_law_draw fd_law_draw) (G_law_draw : FnOk P w K mg base CX0 1 f_law_draw fd_law_draw ["pool", "many"] (spDraw T)) (b_law_draw : Binds K fd_law_draw ["pool", "many"] []) (g_law_draw : mg "_law_draw" = some (.ref f_law_draw)) : FnOk P w K mg base CX0 2 f fd ["pool"] (spCost T) := by
  refine F.ok sc_law_cost (fun vs H Q E h => ?_) (fun cdv A outer s H vs Q E hr h => ?_)
  · obtain ⟨p, s, rfl, hP, k⟩ := h
    rfl
  · obtain ⟨p, s, rfl, hP, k⟩ := h
    refine ⟨_, (pss_cons (ps_set (i := 1) sc_law_cost.nd rfl (Or.inl rfl) (pe_call G_law_draw hr (by rfl) g_law_draw F_law_draw.kp b_law_draw .nil pass0 (pa_cons (pv 0) (pa_cons pe_int pa_nil))))
      (pss_cons (ps_if (pt_cmpR op_eq (pv 1) pe_int (nomark _)) (pss_one (ps_ret (pe_op op_add pe_int (pe_call G_law_draw hr (by rfl) g_law_draw F_law_draw.kp b_law_draw .nil pass0 (pa_cons (pv 0) (pa_cons pe_int pa_nil)))))) pss_nil)
      (pss_cons (ps_if (pt_cmpR op_lt (pv 1) pe_int (nomark _)) (pss_one (ps_ret (pe_ix ix_list (pe_lst (pa_cons pe_int (pa_cons pe_int (pa_cons pe_int (pa_cons pe_int (pa_cons pe_int pa_nil)))))) (pe_call G_law_draw hr (by rfl) g_law_draw F_law_draw.kp b_law_draw .nil pass0 (pa_cons (pv 0) (pa_cons pe_int pa_nil))) (fun _ _ => rfl)))) pss_nil)
      (pss_one (ps_ret (pe_op op_add pe_int (pe_call G_law_draw hr (by rfl) g_law_draw F_law_draw.kp b_law_draw .nil pass0 (pa_cons (pv 0) (pa_cons pe_int pa_nil))))))))), ?_⟩
    refine ⟨_, rfl, p, s, _, rfl, hP, by decide, by decide, fun r H1 r0 r1 hP1 e1 => ?_⟩
    refine ⟨_, rfl, rfl, _, rfl, ?_⟩
    refine ite2 (fun c => ?_) (fun c => ?_)
    · refine ⟨_, rfl, p, s, _, rfl, hP1, by decide, by decide, fun r2 H2 r20 r21 hP2 e2 => ⟨_, _, rfl, rfl, ?_⟩⟩
      exact k _ _ (by omega) (by omega) hP2 (e1.trans e2)
    · refine ⟨_, rfl, _, _, rfl, rfl, _, rfl, ?_⟩
      refine ite2 (fun c => ?_) (fun c => ?_)
      · refine ⟨by show 5 ≤ sizeLine; decide, fun l hl => ?_⟩
        have hlp : p ≠ l := fun z => by obtain ⟨_, _, _, _, _, q, _⟩ := hP1; rw [z, hl] at q; cases q
        refine ⟨_, rfl, p, s, _, rfl, hP1.keep (T := T) (Ext.new hl), by decide, by decide, fun r2 H2 r20 r21 hP2 e2 => ?_⟩
        have hl2 : H2 l = some (.lst [.int 1, .int 2, .int 2, .int 3, .int 4]) := e2.lst (fun z => hlp z.symm) upd_same
        obtain ⟨j, rfl⟩ : ∃ j : Nat, r2 = (j : Int) := ⟨r2.toNat, by omega⟩
        have done : ∀ z : Int, 1 ≤ z → z ≤ 10000 → ([.int 1, .int 2, .int 2, .int 3, .int 4] : List V)[j]? = some (.int z) → tRet (tOp (rIxL K) (tC (.ref l)) (tC (.int (j : Int)))) { nx := fun _ H' => Q .non H', rt := Q } [] H2 := fun z z1 z2 e => ⟨l, _, _, _, rfl, rfl, SqL.of hl2, at_of rfl e, k _ _ z1 z2 hP2 ((e1.trans (Ext.new hl)).trans e2)⟩
        have hj : j < 5 := by omega
        match j, hj with
        | 0, _ => exact done 1 (by decide) (by decide) rfl
        | 1, _ => exact done 2 (by decide) (by decide) rfl
        | 2, _ => exact done 2 (by decide) (by decide) rfl
        | 3, _ => exact done 3 (by decide) (by decide) rfl
        | 4, _ => exact done 4 (by decide) (by decide) rfl
      · refine ⟨_, rfl, p, s, _, rfl, hP1, by decide, by decide, fun r2 H2 r20 r21 hP2 e2 => ⟨_, _, rfl, rfl, ?_⟩⟩
        exact k _ _ (by omega) (by omega) hP2 (e1.trans e2)
end
end Mw

set_option Elab.async false
set_option linter.all false
set_option maxRecDepth 100000
set_option maxHeartbeats 4000000
namespace Mw
open PySem PySem.Spec PyProof.Rows L2 GE
/-! ### nets -/
abbrev Wy := Nat × Nat × Nat
def wayD (w : Wy) : D := .t [.i w.1, .i w.2.1, .i w.2.2]
def netD (n : Nat) (ws : List Wy) : D := .t [.i n, .t (ws.map wayD)]
def chD (cs : List Nat) : D := .t (cs.map fun (c : Nat) => D.i (c : Int))
def WayOk (n : Nat) (w : Wy) : Prop := w.1 < w.2.1 ∧ w.2.1 < n ∧ 1 ≤ w.2.2 ∧ w.2.2 ≤ 10000
structure Wf (n : Nat) (ws : List Wy) : Prop where
  n1 : 1 ≤ n
  n12 : n ≤ 12
  ln : ws.length ≤ 24
  ok : ∀ w ∈ ws, WayOk n w
structure Ch (m : Nat) (cs : List Nat) : Prop where
  lt : ∀ c ∈ cs, c < m
  asc : cs.Pairwise (· < ·)
theorem Ch.len {m : Nat} {cs : List Nat} (h : Ch m cs) : cs.length ≤ m := by
  have key : ∀ (cs : List Nat) (lo m : Nat), cs.Pairwise (· < ·) → (∀ c ∈ cs, lo ≤ c ∧ c < m) → cs.length ≤ m - lo := by
    intro cs
    induction cs with
    | nil => intro lo m _ _; exact Nat.zero_le _
    | cons c r ih =>
      intro lo m hp hb
      have h1 := hb c List.mem_cons_self
      obtain ⟨h2, h3⟩ := List.pairwise_cons.mp hp
      have := ih (c + 1) m h3 fun x hx => ⟨h2 x hx, (hb x (List.mem_cons_of_mem _ hx)).2⟩
      rw [List.length_cons]; omega
  have := key cs 0 m h.asc fun c hc => ⟨Nat.zero_le _, h.lt c hc⟩
  omega
def spWay (T : List Addr) : Sp := fun vs H Q _ => ∃ (p s : Addr) (n : Nat), vs = [.ref p, .int n] ∧ PoolAt H p s ∧ 2 ≤ n ∧ n ≤ 1000 ∧ ∀ v w H', WayOk n w → Rp H' (wayD w) v → PoolAt H' p s → Ext T (atP p) H H' → Q v H'
def spNet (T : List Addr) : Sp := fun vs H Q _ => ∃ (p s : Addr) (most ways : Int), vs = [.ref p, .int most, .int ways] ∧ PoolAt H p s ∧ 1 ≤ most ∧ most ≤ 12 ∧ 0 ≤ ways ∧ ways ≤ 24 ∧ ∀ v n ws H', Wf n ws → Rp H' (netD n ws) v → PoolAt H' p s → Ext T (atP p) H H' → Q v H'
def spChoice (T : List Addr) : Sp := fun vs H Q _ => ∃ (p s : Addr) (v : V) (n : Nat) (ws : List Wy), vs = [.ref p, v] ∧ PoolAt H p s ∧ Wf n ws ∧ Rp H (netD n ws) v ∧ ∀ u cs H', Ch ws.length cs → Rp H' (chD cs) u → PoolAt H' p s → Ext T (atP p) H H' → Q u H'
theorem rp_way {H : Hp} {a : Addr} {x y z : Nat} (h : H a = some (.tup [.int x, .int y, .int z])) : Rp H (wayD (x, y, z)) (.ref a) := rp_t h (rpl_cons (rp_i _) (rpl_cons (rp_i _) (rpl_cons (rp_i _) rpl_nil)))
theorem way_at {H : Hp} {w : Wy} {v : V} (h : Rp H (wayD w) v) : ∃ a, v = .ref a ∧ H a = some (.tup [.int w.1, .int w.2.1, .int w.2.2]) := by
  obtain ⟨a, vs, rfl, h1, h2⟩ := h.t
  exact ⟨a, rfl, by rw [h1, RpL.ints (ns := [w.1, w.2.1, w.2.2]) h2]; rfl⟩
theorem net_at {H : Hp} {n : Nat} {ws : List Wy} {v : V} (h : Rp H (netD n ws) v) : ∃ a b vs, v = .ref a ∧ H a = some (.tup [.int n, .ref b]) ∧ H b = some (.tup vs) ∧ RpL H (ws.map wayD) vs := by
  obtain ⟨a, us, rfl, h1, h2⟩ := h.t
  obtain ⟨u1, r1, rfl, g1, h3⟩ := h2.cons
  obtain ⟨u2, r2, rfl, g2, h4⟩ := h3.cons
  rw [h4.nil, g1.i] at h1
  obtain ⟨b, vs, rfl, k1, k2⟩ := g2.t
  exact ⟨a, b, vs, rfl, h1, k1, k2⟩
theorem rp_net {H : Hp} {n : Nat} {ws : List Wy} {a b : Addr} {vs : List V} (h1 : H a = some (.tup [.int n, .ref b])) (h2 : H b = some (.tup vs)) (h3 : RpL H (ws.map wayD) vs) : Rp H (netD n ws) (.ref a) :=
  rp_t h1 (rpl_cons (rp_i _) (rpl_cons (rp_t h2 h3) rpl_nil))
theorem ch_at {H : Hp} {cs : List Nat} {v : V} (h : Rp H (chD cs) v) : ∃ a, v = .ref a ∧ H a = some (.tup (cs.map fun (c : Nat) => V.int (c : Int))) := by
  obtain ⟨a, us, rfl, h1, h2⟩ := h.t
  refine ⟨a, rfl, ?_⟩
  have e : us = (cs.map fun c : Nat => (c : Int)).map V.int := RpL.ints (H := H) (by rw [List.map_map]; exact h2)
  rw [h1, e, List.map_map]; rfl
theorem rp_ch {H : Hp} {cs : List Nat} {a : Addr} (h : H a = some (.tup (cs.map fun (c : Nat) => V.int (c : Int)))) : Rp H (chD cs) (.ref a) := by
  refine rp_t h ?_
  have e := rpl_ints (H := H) (cs.map fun c : Nat => (c : Int))
  rw [List.map_map, List.map_map] at e
  exact e
theorem ne_of_pool {H : Hp} {p s l : Addr} (h : PoolAt H p s) (e : H l = none) : p ≠ l := fun z => (h.ne e).1 z.symm
theorem nat_of {r : Int} (h : 0 ≤ r) : ∃ j : Nat, r = (j : Int) := ⟨r.toNat, by omega⟩
section
variable {P : Program} {w : World} {K : PySem.W.Frag} {mg : Str → Option Value} {base : Heap} {T : List Addr}
/-- the list that is filled with ways -/
def FillAt (H0 H : Hp) (T : List Addr) (p s l : Addr) (n m : Nat) : Prop := ∃ (ws : List Wy) (vs : List V), PoolAt H p s ∧ Ext T (atP p) H0 H ∧ H l = some (.lst vs) ∧ RpL H (ws.map wayD) vs ∧ ws.length ≤ m ∧ ∀ w ∈ ws, WayOk n w
theorem FillAt.draw {H0 H H' : Hp} {p s l : Addr} {n m : Nat} (f : FillAt H0 H T p s l n m) (hl : l ≠ p) (hP : PoolAt H' p s) (e : Ext T (atP p) H H') : FillAt H0 H' T p s l n m := by
  obtain ⟨ws, vs, hP0, e0, hv, r, hm, ok⟩ := f
  exact ⟨ws, vs, hP, e0.trans e, e.lst hl hv, RpL.p r hP0 e, hm, ok⟩
theorem FillAt.pool {H0 H : Hp} {p s l : Addr} {n m : Nat} (f : FillAt H0 H T p s l n m) : PoolAt H p s := by
  obtain ⟨ws, vs, hP0, _⟩ := f
  exact hP0
theorem FillAt.lst {H0 H : Hp} {p s l : Addr} {n m : Nat} (f : FillAt H0 H T p s l n m) : ∃ vs, H l = some (.lst vs) := by
  obtain ⟨ws, vs, hP0, e0, hv, _⟩ := f
  exact ⟨vs, hv⟩
theorem cutTo (xs : List V) (j : Nat) : cutV xs none (some (j : Int)) = xs.take j := by
  unfold cutV
  rw [HT.sIx_none, HT.sIx_nat]
  show List.take (min j xs.length - 0) (xs.drop 0) = _
  rw [List.drop_zero, Nat.sub_zero]
  by_cases h : j ≤ xs.length
  · rw [Nat.min_eq_left h]
  · rw [Nat.min_eq_right (by omega), List.take_of_length_le (Nat.le_refl _), List.take_of_length_le (by omega)]
theorem minI (a b : Int) : (if b < a then b else a) ≤ a ∧ (if b < a then b else a) ≤ b := by split <;> omega
end
end Mw

set_option linter.all false
namespace Mw
/-- connected by the edges -/
inductive Cn (es : List (Nat × Nat)) : Nat → Nat → Prop where
  | refl (x : Nat) : Cn es x x
  | fwd {x a b : Nat} : Cn es x a → (a, b) ∈ es → Cn es x b
  | bwd {x a b : Nat} : Cn es x b → (a, b) ∈ es → Cn es x a
namespace Cn
variable {es fs : List (Nat × Nat)}
theorem trans {x y z : Nat} (h : Cn es x y) (g : Cn es y z) : Cn es x z := by
  induction g with
  | refl => exact h
  | fwd _ he ih => exact ih.fwd he
  | bwd _ he ih => exact ih.bwd he
theorem symm {x y : Nat} (h : Cn es x y) : Cn es y x := by
  induction h with
  | refl => exact .refl _
  | fwd _ he ih => exact (Cn.bwd (.refl _) he).trans ih
  | bwd _ he ih => exact (Cn.fwd (.refl _) he).trans ih
theorem mono (hs : ∀ e ∈ es, e ∈ fs) {x y : Nat} (h : Cn es x y) : Cn fs x y := by
  induction h with
  | refl => exact .refl _
  | fwd _ he ih => exact ih.fwd (hs _ he)
  | bwd _ he ih => exact ih.bwd (hs _ he)
theorem inv {x y : Nat} (h : Cn es x y) {P : Nat → Prop} (hP : ∀ e ∈ es, P e.1 ↔ P e.2) : P x ↔ P y := by
  induction h with
  | refl => exact Iff.rfl
  | fwd _ he ih => exact ih.trans (hP _ he)
  | bwd _ he ih => exact ih.trans (hP _ he).symm
theorem nil {x y : Nat} (h : Cn [] x y) : x = y := by
  induction h with
  | refl => rfl
  | fwd _ he _ => cases he
  | bwd _ he _ => cases he
end Cn

/-- h tells of each place below n the first place of its group -/
structure Hom (n : Nat) (es : List (Nat × Nat)) (h : Nat → Nat) : Prop where
  le : ∀ x, x < n → h x ≤ x
  idem : ∀ x, x < n → h (h x) = h x
  iff : ∀ x y, x < n → y < n → (h x = h y ↔ Cn es x y)
  bd : ∀ e ∈ es, e.1 < n ∧ e.2 < n
theorem Hom.start (n : Nat) : Hom n [] (fun x => x) := ⟨fun _ _ => Nat.le_refl _, fun _ _ => rfl, fun x y _ _ => ⟨fun e => by rw [show x = y from e]; exact .refl _, fun h => h.nil⟩, fun e he => by cases he⟩
def relab (h : Nat → Nat) (a b : Nat) : Nat → Nat := fun x => if h x = max (h a) (h b) then min (h a) (h b) else h x
theorem Hom.step {n : Nat} {es : List (Nat × Nat)} {h : Nat → Nat} (H : Hom n es h) {a b : Nat} (ha : a < n) (hb : b < n) : Hom n (es ++ [(a, b)]) (relab h a b) := by
  have la := H.le a ha
  have lb := H.le b hb
  have ia := H.idem a ha
  have ib := H.idem b hb
  have ilow : h (min (h a) (h b)) = min (h a) (h b) := by
    rcases Nat.le_total (h a) (h b) with q | q
    · rw [Nat.min_eq_left q]; exact ia
    · rw [Nat.min_eq_right q]; exact ib
  have lowhigh : min (h a) (h b) ≤ max (h a) (h b) := by omega
  refine ⟨fun x hx => ?_, fun x hx => ?_, fun x y hx hy => ⟨fun e => ?_, fun c => ?_⟩, fun e he => ?_⟩
  · unfold relab
    have := H.le x hx
    split <;> omega
  · by_cases hxm : h x = max (h a) (h b)
    · have e1 : relab h a b x = min (h a) (h b) := if_pos hxm
      rw [e1]
      unfold relab
      rw [ilow]; split <;> rfl
    · have e1 : relab h a b x = h x := if_neg hxm
      rw [e1]
      unfold relab
      rw [H.idem x hx, if_neg hxm]
  · -- the same label: connected
    have up : ∀ {u v : Nat}, Cn es u v → Cn (es ++ [(a, b)]) u v := fun c => c.mono fun e he => List.mem_append_left _ he
    have ab : Cn (es ++ [(a, b)]) a b := .fwd (.refl _) (List.mem_append_right _ (List.mem_singleton.mpr rfl))
    have toHigh : ∀ {u : Nat}, u < n → h u = max (h a) (h b) → Cn (es ++ [(a, b)]) u a := fun {u} hu e => by
      rcases Nat.le_total (h a) (h b) with q | q
      · rw [Nat.max_eq_right q] at e
        exact (up ((H.iff u b hu hb).mp e)).trans ab.symm
      · rw [Nat.max_eq_left q] at e
        exact up ((H.iff u a hu ha).mp e)
    have toLow : ∀ {u : Nat}, u < n → h u = min (h a) (h b) → Cn (es ++ [(a, b)]) u a := fun {u} hu e => by
      rcases Nat.le_total (h a) (h b) with q | q
      · rw [Nat.min_eq_left q] at e
        exact up ((H.iff u a hu ha).mp e)
      · rw [Nat.min_eq_right q] at e
        exact (up ((H.iff u b hu hb).mp e)).trans ab.symm
    unfold relab at e
    by_cases hx1 : h x = max (h a) (h b)
    · rw [if_pos hx1] at e
      by_cases hy1 : h y = max (h a) (h b)
      · exact (toHigh hx hx1).trans (toHigh hy hy1).symm
      · rw [if_neg hy1] at e
        exact (toHigh hx hx1).trans (toLow hy e.symm).symm
    · rw [if_neg hx1] at e
      by_cases hy1 : h y = max (h a) (h b)
      · rw [if_pos hy1] at e
        exact (toLow hx e).trans (toHigh hy hy1).symm
      · rw [if_neg hy1] at e
        exact up ((H.iff x y hx hy).mp e)
  · -- connected: the same label
    have eab : relab h a b a = relab h a b b := by
      unfold relab
      rcases Nat.le_total (h a) (h b) with q | q
      · rw [Nat.max_eq_right q, Nat.min_eq_left q, if_pos rfl]
        split <;> rfl
      · rw [Nat.max_eq_left q, Nat.min_eq_right q, if_pos rfl]
        split <;> rfl
    have inv := c.inv (P := fun z => relab h a b x = relab h a b z) fun e he => by
      have ee : relab h a b e.1 = relab h a b e.2 := by
        rcases List.mem_append.mp he with q | q
        · have hb' := H.bd e q
          have := (H.iff e.1 e.2 hb'.1 hb'.2).mpr (.fwd (.refl _) q)
          unfold relab; rw [this]
        · rw [List.mem_singleton.mp q]; exact eab
      rw [ee]
    exact inv.mp rfl
  · rcases List.mem_append.mp he with q | q
    · exact H.bd e q
    · rw [List.mem_singleton.mp q]; exact ⟨ha, hb⟩

/-! ### lists of places -/
/-- the group of p -/
def cls (h : Nat → Nat) (n p : Nat) : List Nat := (List.range n).filter fun x => h x == h p
def reps (h : Nat → Nat) (n : Nat) : List Nat := (List.range n).filter fun x => h x == x
def grps (h : Nat → Nat) (n : Nat) : List (List Nat) := (reps h n).map (cls h n)
theorem mem_cls {h : Nat → Nat} {n p x : Nat} : x ∈ cls h n p ↔ x < n ∧ h x = h p := by
  unfold cls; rw [List.mem_filter, List.mem_range, beq_iff_eq]
theorem range_pw (n : Nat) : (List.range n).Pairwise (· < ·) := List.pairwise_lt_range
theorem cls_pw (h : Nat → Nat) (n p : Nat) : (cls h n p).Pairwise (· < ·) := (range_pw n).filter _
theorem sorted_ext : ∀ {l m : List Nat}, l.Pairwise (· < ·) → m.Pairwise (· < ·) → (∀ x, x ∈ l ↔ x ∈ m) → l = m
  | [], [], _, _, _ => rfl
  | [], y :: m, _, _, h => absurd ((h y).mpr List.mem_cons_self) (by simp)
  | x :: l, [], _, _, h => absurd ((h x).mp List.mem_cons_self) (by simp)
  | x :: l, y :: m, hl, hm, h => by
    obtain ⟨hx, hl'⟩ := List.pairwise_cons.mp hl
    obtain ⟨hy, hm'⟩ := List.pairwise_cons.mp hm
    have exy : x = y := by
      rcases List.mem_cons.mp ((h x).mp List.mem_cons_self) with q | q
      · exact q
      · rcases List.mem_cons.mp ((h y).mpr List.mem_cons_self) with q' | q'
        · exact q'.symm
        · have h1 := hy x q
          have h2 := hx y q'
          omega
    subst exy
    rw [sorted_ext hl' hm' fun z => ?_]
    constructor
    · intro hz
      rcases List.mem_cons.mp ((h z).mp (List.mem_cons_of_mem _ hz)) with q | q
      · have := hx z hz; omega
      · exact q
    · intro hz
      rcases List.mem_cons.mp ((h z).mpr (List.mem_cons_of_mem _ hz)) with q | q
      · have := hy z hz; omega
      · exact q
/-- the first of a group -/
theorem cls_head {n : Nat} {es : List (Nat × Nat)} {h : Nat → Nat} (H : Hom n es h) {p : Nat} (hp : p < n) : ∃ r, cls h n p = h p :: r := by
  have hlt : h p < n := Nat.lt_of_le_of_lt (H.le p hp) hp
  have hm : h p ∈ cls h n p := mem_cls.mpr ⟨hlt, H.idem p hp⟩
  cases e : cls h n p with
  | nil => rw [e] at hm; cases hm
  | cons x r =>
    have hx : x ∈ cls h n p := by rw [e]; exact List.mem_cons_self
    obtain ⟨x1, x2⟩ := mem_cls.mp hx
    have pw := cls_pw h n p
    rw [e] at pw hm
    have : h p ≤ x := by rw [← x2]; exact H.le x x1
    rcases List.mem_cons.mp hm with q | q
    · exact ⟨r, by rw [q]⟩
    · have := (List.pairwise_cons.mp pw).1 _ q
      omega
theorem filter_range_succ (f : Nat → Bool) (n : Nat) : (List.range (n + 1)).filter f = (List.range n).filter f ++ if f n then [n] else [] := by
  rw [List.range_succ, List.filter_append]
  congr 1
  cases e : f n with
  | true => rw [List.filter_cons, if_pos e]; rfl
  | false => rw [List.filter_cons, if_neg (by rw [e]; exact Bool.false_ne_true)]; rfl
/-- places found, closed under the edges, all connected with p: the group -/
theorem closed_cls {n : Nat} {es : List (Nat × Nat)} {h : Nat → Nat} (H : Hom n es h) {p : Nat} (hp : p < n) {found l : List Nat} (hmem : p ∈ found) (hc : ∀ x ∈ found, x < n ∧ Cn es p x) (hcl : ∀ e ∈ es, e.1 ∈ found ↔ e.2 ∈ found)
    (hl : l.Pairwise (· < ·)) (hlm : ∀ x, x ∈ l ↔ x ∈ found) : l = cls h n p := by
  refine sorted_ext hl (cls_pw h n p) fun x => (hlm x).trans ⟨fun hx => ?_, fun hx => ?_⟩
  · obtain ⟨h1, h2⟩ := hc x hx
    exact mem_cls.mpr ⟨h1, ((H.iff p x hp h1).mpr h2).symm⟩
  · obtain ⟨h1, h2⟩ := mem_cls.mp hx
    have c := (H.iff p x hp h1).mp h2.symm
    exact (c.inv (P := fun z => z ∈ found) hcl).mp hmem
/-- distinct places below n -/
theorem nodup_le : ∀ {n : Nat} {l : List Nat}, l.Nodup → (∀ x ∈ l, x < n) → l.length ≤ n
  | 0, [], _, _ => Nat.le_refl _
  | 0, x :: l, _, hb => absurd (hb x List.mem_cons_self) (Nat.not_lt_zero _)
  | n + 1, l, hn, hb => by
    by_cases hm : n ∈ l
    · have h1 := nodup_le (n := n) (hn.erase n) fun x hx => by
        have := hn.mem_erase_iff.mp hx
        have := hb x this.2
        omega
      have := List.length_erase_of_mem hm
      have : 0 < l.length := List.length_pos_of_mem hm
      omega
    · have := nodup_le (n := n) hn fun x hx => by
        have := hb x hx
        have : x ≠ n := fun z => hm (z ▸ hx)
        omega
      omega
end Mw

set_option Elab.async false
set_option linter.all false
set_option maxRecDepth 100000
set_option maxHeartbeats 2000000
namespace GE
open PySem PySem.Spec PyProof.Rows L2
/-! ### generator expressions over tuples, lists, the values of a dict: by an invariant -/
section
variable {K : PySem.W.Frag} {a : Addr} {xs : List V} {g : TG} {tt : TT} {te : TE} {vs : List Nat} {σ : L2.St} {Yo : YO} {En : EN} {H : Hp} {J : It}
theorem turn_of (n : Nat) (Pv : Nat → List V → Hp → Prop) (h0 : Pv 0 [] H)
    (hd : ∀ ys H, Pv n ys H → J.stop n H ∧ En ys H)
    (hg : ∀ i ys H, i < n → Pv i ys H → J.go i H)
    (hs : ∀ i x ys H H1, i < n → Pv i ys H → J.yld i H x H1 → ∀ N : List V → Hp → Prop, (∀ zs H', Pv (i + 1) zs H' → N zs H') → g x (wipe σ vs) H1 fun σ2 H2 => wipe σ2 vs = wipe σ vs ∧ tt σ2 H2 fun b H3 =>
      if b = true then te σ2 H3 fun y H4 => ys.length < sizeLine ∧ Yo ys y H4 (N (ys ++ [y]) H4) else N ys H3) :
    ∃ W : Nat → Nat → List V → Hp → Prop, (∃ m, W 0 m [] H) ∧ turnX g tt te vs σ Yo En J W := by
  refine ⟨fun i m ys H => m = n - i ∧ i ≤ n ∧ Pv i ys H, ⟨n, rfl, Nat.zero_le _, h0⟩, ?_⟩
  rintro i m ys H ⟨rfl, hi, p⟩
  rcases Nat.lt_or_eq_of_le hi with h | h
  · refine .inr ⟨hg i ys H h p, fun x H1 hy => ?_⟩
    exact hs i x ys H H1 h p hy (fun ys H4 => ∃ m', m' < n - i ∧ m' = n - (i + 1) ∧ i + 1 ≤ n ∧ Pv (i + 1) ys H4) fun zs H' q => ⟨n - (i + 1), by omega, rfl, h, q⟩
  · subst h
    exact .inl (hd ys H p)
theorem turn_tupI (Pv : Nat → List V → Hp → Prop) (h0 : Pv 0 [] H) (hl : ∀ i ys H, i ≤ xs.length → Pv i ys H → SqT K H a xs) (hd : ∀ ys H, Pv xs.length ys H → En ys H)
    (hs : ∀ i x ys H, xs[i]? = some x → Pv i ys H → ∀ N : List V → Hp → Prop, (∀ zs H', Pv (i + 1) zs H' → N zs H') → g x (wipe σ vs) H fun σ2 H2 => wipe σ2 vs = wipe σ vs ∧ tt σ2 H2 fun b H3 =>
      if b = true then te σ2 H3 fun y H4 => ys.length < sizeLine ∧ Yo ys y H4 (N (ys ++ [y]) H4) else N ys H3) :
    ∃ W : Nat → Nat → List V → Hp → Prop, (∃ m, W 0 m [] H) ∧ turnX g tt te vs σ Yo En (Itt K a) W := by
  refine turn_of xs.length Pv h0 (fun ys H p => ⟨⟨xs, hl _ _ _ (Nat.le_refl _) p, Nat.le_refl _⟩, hd ys H p⟩) (fun i ys H h p => ⟨xs, xs[i], hl _ _ _ (Nat.le_of_lt h) p, List.getElem?_eq_getElem h⟩) ?_
  rintro i x ys H H1 h p ⟨rfl, hy⟩ N hN
  exact hs i x ys H1 (hy xs (hl _ _ _ (Nat.le_of_lt h) p)) p N hN
theorem turn_valsI {d : Addr} {o : Obj} {kvs : List (Key × V)} (Pv : Nat → List V → Hp → Prop) (h0 : Pv 0 [] H) (hl : ∀ i ys H, i ≤ kvs.length → Pv i ys H → H d = some (.frz o (.dK kvs))) (hd : ∀ ys H, Pv kvs.length ys H → En ys H)
    (hs : ∀ i k x ys H, kvs[i]? = some (k, x) → Pv i ys H → ∀ N : List V → Hp → Prop, (∀ zs H', Pv (i + 1) zs H' → N zs H') → g x (wipe σ vs) H fun σ2 H2 => wipe σ2 vs = wipe σ vs ∧ tt σ2 H2 fun b H3 =>
      if b = true then te σ2 H3 fun y H4 => ys.length < sizeLine ∧ Yo ys y H4 (N (ys ++ [y]) H4) else N ys H3) :
    ∃ W : Nat → Nat → List V → Hp → Prop, (∃ m, W 0 m [] H) ∧ turnX g tt te vs σ Yo En (Itd d o kvs) W := by
  refine turn_of kvs.length Pv h0 (fun ys H p => ⟨⟨hl _ _ _ (Nat.le_refl _) p, Nat.le_refl _⟩, hd ys H p⟩) (fun i ys H h p => ⟨hl _ _ _ (Nat.le_of_lt h) p, h⟩) ?_
  rintro i x ys H H1 h p ⟨rfl, k, hk⟩ N hN
  exact hs i k x ys H1 hk p N hN
theorem isum_ints (ns : List Int) : isum (ns.map V.int) = ns.sum := by
  unfold isum; rw [List.map_map]; congr 1
  exact List.map_id'' (fun _ => rfl) ns
theorem tYesI {σ : L2.St} {H : Hp} {A B : Hp → Prop} (h : A H) : tYes σ H fun b H3 => if b = true then A H3 else B H3 := by
  show (if true = true then A H else B H)
  rw [if_pos rfl]; exact h
end
section
variable {X : Cx} {K : PySem.W.Frag}
/-! the same rules, the fragment named (within a generator's frame) -/
theorem ix_tupK (h : X.K = K := by rfl) : IxR X (rIxT K) := h ▸ ix_tup
theorem ix_listK (h : X.K = K := by rfl) : IxR X (rIxL K) := h ▸ ix_list
theorem in_seqK (h : X.K = K := by rfl) : OpR X (compareOp .In) (rIn K false) := h ▸ op_in_seq
theorem notIn_seqK (h : X.K = K := by rfl) : OpR X (compareOp .NotIn) (rIn K true) := h ▸ op_notIn_seq
theorem call_len_seqK (h : X.K = K := by rfl) : CallR X (.builtin "len") (fun xs H Q => ∃ p ys, xs = [.ref p] ∧ (SqL K H p ys ∨ SqT K H p ys) ∧ Q (.int ys.length) H) := h ▸ call_len_seq
theorem call_tuple_ofK (h : X.K = K := by rfl) : CallR X (.type "tuple") (fun xs H Q => ∃ p ys, xs = [.ref p] ∧ ((SqL K H p ys ∧ ∀ l, H l = none → Q (.ref l) (upd H l (.tup ys))) ∨ (SqT K H p ys ∧ Q (.ref p) H))) := h ▸ call_tuple_of
theorem pg_tupK {es : List Expr} {k : Nat} {pos : Pos} {t : TGs} (n : Nat) (h : PGs X es t) (hK : X.K = K := by rfl) (hc : X.calm = true := by rfl)
    (hn : (assignEach es X.env).length = n := by rfl) (hst : (assignEach es X.env).findIdx? (·.1) = none := by rfl) : PG X (.Tuple es k pos) (gTup K n t) := hK ▸ pg_tup hc h hn hst
theorem pi_or {tg e : Expr} {w1 w2 : TI} (h1 : PI X tg e w1) (h2 : PI X tg e w2) : PI X tg e fun σ H R => w1 σ H R ∨ w2 σ H R :=
  ⟨fun pins s σ H R I h => h.elim (h1.run pins s σ H R I) (h2.run pins s σ H R I)⟩
end
end GE

set_option Elab.async false
set_option linter.all false
set_option maxRecDepth 100000
set_option maxHeartbeats 4000000
namespace Mw
open PySem PySem.Spec PyProof.Rows L2 GE
/-! ### choices -/
def wyAt (ws : List Wy) (c : Nat) : Wy := ws.getD c (0, 0, 0)
def edg (ws : List Wy) (cs : List Nat) : List (Nat × Nat) := cs.map fun c => ((wyAt ws c).1, (wyAt ws c).2.1)
def hom (ws : List Wy) (cs : List Nat) : Nat → Nat := cs.foldl (fun h c => relab h (wyAt ws c).1 (wyAt ws c).2.1) fun x => x
theorem take_succ' {α : Type} {l : List α} {i : Nat} {x : α} (h : l[i]? = some x) : l.take (i + 1) = l.take i ++ [x] := by rw [List.take_add_one, h]; rfl
theorem hom_snoc (ws : List Wy) (cs : List Nat) (c : Nat) : hom ws (cs ++ [c]) = relab (hom ws cs) (wyAt ws c).1 (wyAt ws c).2.1 := by unfold hom; rw [List.foldl_append]; rfl
theorem wy_ok {n : Nat} {ws : List Wy} (W : Wf n ws) {c : Nat} (h : c < ws.length) : ws[c]? = some (wyAt ws c) ∧ WayOk n (wyAt ws c) := by
  have e : ws[c]? = some ws[c] := List.getElem?_eq_getElem h
  have e2 : wyAt ws c = ws[c] := by unfold wyAt; rw [List.getD_eq_getElem?_getD, e]; rfl
  exact ⟨by rw [e2]; exact e, by rw [e2]; exact W.ok _ (List.getElem_mem h)⟩
theorem hom_ok {n : Nat} {ws : List Wy} (W : Wf n ws) : ∀ cs : List Nat, (∀ c ∈ cs, c < ws.length) → Hom n (edg ws cs) (hom ws cs) := by
  have key : ∀ (k : Nat) (cs : List Nat), cs.length = k → (∀ c ∈ cs, c < ws.length) → Hom n (edg ws cs) (hom ws cs) := by
    intro k
    induction k with
    | zero =>
      intro cs hl _
      rw [List.eq_nil_of_length_eq_zero hl]; exact Hom.start n
    | succ k ih =>
      intro cs hl hb
      have hne : cs ≠ [] := fun z => by rw [z] at hl; cases hl
      have e := List.dropLast_concat_getLast hne
      rw [← e]
      have hb1 : ∀ c ∈ cs.dropLast, c < ws.length := fun c hc => hb c (List.dropLast_subset _ hc)
      have hlast := hb _ (List.getLast_mem hne)
      have H1 := ih cs.dropLast (by rw [List.length_dropLast]; omega) hb1
      have ok := (wy_ok W hlast).2
      rw [hom_snoc]
      have e2 : edg ws (cs.dropLast ++ [cs.getLast hne]) = edg ws cs.dropLast ++ [((wyAt ws (cs.getLast hne)).1, (wyAt ws (cs.getLast hne)).2.1)] := by unfold edg; rw [List.map_append]; rfl
      rw [e2]
      exact H1.step (Nat.lt_trans ok.1 ok.2.1) ok.2.1
  exact fun cs => key cs.length cs rfl
theorem hom_lt {n : Nat} {ws : List Wy} (W : Wf n ws) {cs : List Nat} (h : ∀ c ∈ cs, c < ws.length) {x : Nat} (hx : x < n) : hom ws cs x < n := Nat.lt_of_le_of_lt ((hom_ok W cs h).le x hx) hx
/-- the list of first places -/
def hV (n : Nat) (h : Nat → Nat) : List V := (List.range n).map fun x => V.int (h x : Nat)
theorem hV_get {n : Nat} {h : Nat → Nat} {x : Nat} (hx : x < n) : (hV n h)[x]? = some (.int (h x : Nat)) := by
  unfold hV; rw [List.getElem?_map, List.getElem?_range hx]; rfl
theorem hV_len (n : Nat) (h : Nat → Nat) : (hV n h).length = n := by unfold hV; rw [List.length_map, List.length_range]
theorem rg_hV (n : Nat) : rgV 0 (n : Int) = hV n fun x => x := by
  unfold rgV hV
  have : ((n : Int) - 0).toNat = n := by omega
  rw [this]
  exact List.map_congr_left fun x _ => by rw [Int.zero_add]
structure Task (H : Hp) (n : Nat) (ws : List Wy) (cs : List Nat) (net ch : V) : Prop where
  W : Wf n ws
  C : Ch ws.length cs
  net : Rp H (netD n ws) net
  ch : Rp H (chD cs) ch
theorem Task.x {T : List Addr} {H H' : Hp} {n : Nat} {ws : List Wy} {cs : List Nat} {net ch : V} (t : Task H n ws cs net ch) (e : Ext T noM H H') : Task H' n ws cs net ch := ⟨t.W, t.C, Rp.x e t.net, Rp.x e t.ch⟩
def spHomes (T : List Addr) : Sp := fun vs H Q _ => ∃ (net ch : V) (n : Nat) (ws : List Wy) (cs : List Nat), vs = [net, ch] ∧ Task H n ws cs net ch ∧ ∀ l H', H l = none → H' l = some (.lst (hV n (hom ws cs))) → Ext T noM H H' → Q (.ref l) H'
def grpD (h : Nat → Nat) (n : Nat) : D := .t ((grps h n).map fun g => .t (g.map fun (x : Nat) => .i (x : Int)))
def spGroups (T : List Addr) : Sp := fun vs H Q _ => ∃ (net ch : V) (n : Nat) (ws : List Wy) (cs : List Nat), vs = [net, ch] ∧ Task H n ws cs net ch ∧ Wd T H ∧ ∀ v H', Rp H' (grpD (hom ws cs) n) v → Ext T noM H H' → Q v H'
def cost (ws : List Wy) (cs : List Nat) : Int := (cs.map fun c => ((wyAt ws c).2.2 : Int)).sum
def spPrice (T : List Addr) : Sp := fun vs H Q _ => ∃ (net ch : V) (n : Nat) (ws : List Wy) (cs : List Nat), vs = [net, ch] ∧ Task H n ws cs net ch ∧ Wd T H ∧ ∀ H', Ext T noM H H' → Q (.int (cost ws cs)) H'
theorem sum_le : ∀ (l : List Int), (∀ z ∈ l, 0 ≤ z ∧ z ≤ 10000) → 0 ≤ l.sum ∧ l.sum ≤ 10000 * l.length
  | [], _ => by simp
  | z :: r, h => by
    have h1 := h z (List.mem_cons_self ..)
    have h2 := sum_le r fun y hy => h y (List.mem_cons_of_mem _ hy)
    rw [List.sum_cons, List.length_cons]; omega
theorem cost_le {n : Nat} {ws : List Wy} {cs : List Nat} (W : Wf n ws) (C : Ch ws.length cs) (i : Nat) : 0 ≤ cost ws (cs.take i) ∧ cost ws (cs.take i) ≤ 240000 := by
  have hl : (cs.take i).length ≤ 24 := Nat.le_trans (by rw [List.length_take]; exact Nat.min_le_right _ _) (Nat.le_trans C.len W.ln)
  have := sum_le ((cs.take i).map fun c => ((wyAt ws c).2.2 : Int)) fun z hz => by
    obtain ⟨c, hc, rfl⟩ := List.mem_map.mp hz
    have ok := (wy_ok W (C.lt c (List.mem_of_mem_take hc))).2
    unfold WayOk at ok
    omega
  unfold cost
  rw [List.length_map] at this
  omega
theorem way_get {H : Hp} {n : Nat} {ws : List Wy} (W : Wf n ws) {us : List V} (r : RpL H (ws.map wayD) us) {c : Nat} (hc : c < ws.length) : ∃ a, us[c]? = some (.ref a) ∧ H a = some (.tup [.int (wyAt ws c).1, .int (wyAt ws c).2.1, .int (wyAt ws c).2.2]) := by
  obtain ⟨v, h1, h2⟩ := r.get (i := c) (d := wayD (wyAt ws c)) (by rw [List.getElem?_map, (wy_ok W hc).1]; rfl)
  obtain ⟨a, rfl, ha⟩ := way_at h2
  exact ⟨a, h1, ha⟩
theorem minN (a b : Nat) : (if (b : Int) < (a : Int) then (b : Int) else (a : Int)) = ((min a b : Nat) : Int) := by split <;> omega
theorem maxN (a b : Nat) : (if (b : Int) > (a : Int) then (b : Int) else (a : Int)) = ((max a b : Nat) : Int) := by split <;> omega
theorem vint_inj {a b : Nat} : (V.int (a : Int) = V.int (b : Int)) ↔ a = b := ⟨fun h => by injection h with h; omega, fun h => by rw [h]⟩
section
variable {P : Program} {w : World} {K : PySem.W.Frag} {mg : Str → Option Value} {base : Heap} {T : List Addr}
theorem ok__homes {f : Addr} {fd : FuncData} (F : Fun K "_homes" "_homes" s_homes f fd) (m_list : mg "list" = none) (m_range : mg "range" = none) (m_min : mg "min" = none) (m_max : mg "max" = none) : FnOk P w K mg base CX0 1 f fd ["net", "choice"] (spHomes T) := by
  refine F.ok sc_homes (fun vs H Q E h => ?_) (fun cdv A outer s H vs Q E hr h => ?_)
  · obtain ⟨net, ch, n, ws, cs, rfl, t, k⟩ := h
    rfl
  · obtain ⟨net, ch, n, ws, cs, rfl, t, k⟩ := h
    refine ⟨_, (pss_cons (ps_asg (pv 0) (pg_tup (by rfl) (pgs_cons (pg_name (i := 2) sc_homes.nd rfl (Or.inl rfl)) (pgs_cons (pg_name (i := 3) sc_homes.nd rfl (Or.inl rfl)) pgs_nil))))
      (pss_cons (ps_set (i := 4) sc_homes.nd rfl (Or.inl rfl) (pe_listRg rfl (by rfl) m_list (prg_1 (by rfl) m_range (pv 2))))
      (pss_cons (ps_for PassesOwn.never rfl (pi_tup (pv 1)) (pg_name (i := 5) sc_homes.nd rfl (Or.inl rfl)) (pss_cons (ps_asg (pe_ix ix_tup (pv 3) (pv 5) (fun _ _ => rfl)) (pg_tup (by rfl) (pgs_cons (pg_name (i := 6) sc_homes.nd rfl (Or.inl rfl)) (pgs_cons (pg_name (i := 7) sc_homes.nd rfl (Or.inl rfl)) (pgs_cons (pg_name (i := 8) sc_homes.nd rfl (Or.inl rfl)) pgs_nil)))))
      (pss_cons (ps_set (i := 9) sc_homes.nd rfl (Or.inr rfl) (pe_callB (call_min2 rfl) (by rfl) m_min (by decide +kernel) (pa_cons (pe_ix ix_list (pv 4) (pv 6) (fun _ _ => rfl)) (pa_cons (pe_ix ix_list (pv 4) (pv 7) (fun _ _ => rfl)) pa_nil))))
      (pss_cons (ps_set (i := 10) sc_homes.nd rfl (Or.inr rfl) (pe_callB (call_max2 rfl) (by rfl) m_max (by decide +kernel) (pa_cons (pe_ix ix_list (pv 4) (pv 6) (fun _ _ => rfl)) (pa_cons (pe_ix ix_list (pv 4) (pv 7) (fun _ _ => rfl)) pa_nil))))
      (pss_one (ps_setLc (i := 4) (own := [("home", 11)]) (g := (gName 11)) (tt := tYes) rfl sc_homes.nd rfl rfl (sw_true rfl rfl rfl (by decide +kernel)) (pi_list (pv 4)) (blkOk_by (own := [("home", 11)]) (N := ["net", "choice", "places", "ways", "homes", "way", "a", "b", "_", "low", "high", "home"]) (sc := defScope s_homes) (by decide +kernel)) (fun _ _ _ _ _ => (pg_name (i := 11) sc_homes.nd rfl (Or.inl rfl))) (fun _ _ _ _ _ => pts_nil) (fun _ _ _ _ _ => (pe_ifExp (pt_cmpR op_eq (pv 11) (pv 10) (nomark _)) (pv 9) (pv 11)))))))))
      (pss_one (ps_ret (pv 4)))))), ?_⟩
    obtain ⟨W, C, hnet, hch⟩ := t
    obtain ⟨na, nb, us, rfl, ha, hb, hus⟩ := net_at hnet
    obtain ⟨ca, rfl, hca⟩ := ch_at hch
    have n12 := W.n12
    have h24 := W.ln
    have hlen : us.length = ws.length := by rw [hus.len, List.length_map]
    refine ⟨_, rfl, na, _, rfl, SqT.of ha, rfl, _, _, rfl, _, _, rfl, rfl, ?_⟩
    refine ⟨_, rfl, n, rfl, RgOk.of_le (by omega) (by omega) (by omega) (by omega), fun l hl => ?_⟩
    rw [rg_hV]
    have e1 : Ext T noM H (upd H l (.lst (hV n fun x => x))) := Ext.new hl
    refine ⟨_, rfl, ca, rfl, ⟨_, SqT.of (e1.tup (fun z => z) hca)⟩, for_tup (K := K) (a := ca) (xs := cs.map fun (c : Nat) => V.int (c : Int)) (fun i σ' H' => ∃ l y5 y6 y7 y8 y9 y10 y11, σ' = [some (.ref na), some (.ref ca), some (.int n), some (.ref nb), some (.ref l), y5, y6, y7, y8, y9, y10, y11] ∧ H l = none ∧ H' l = some (.lst (hV n (hom ws (cs.take i)))) ∧ Ext T noM H H')
      ⟨l, none, none, none, none, none, none, none, rfl, hl, upd_same, e1⟩ (fun i σ' H' _ ⟨_, _, _, _, _, _, _, _, _, _, _, e⟩ => SqT.of (e.tup (fun z => z) hca)) ?_ ?_⟩
    · rintro i x σ' H2 hx ⟨l2, y5, y6, y7, y8, y9, y10, y11, rfl, hl2, hL, e2⟩
      obtain ⟨c, hc, rfl⟩ : ∃ c, cs[i]? = some c ∧ x = V.int ((c : Nat) : Int) := by
        rw [List.getElem?_map] at hx
        cases e : cs[i]? with
        | none => rw [e] at hx; cases hx
        | some c => rw [e] at hx; exact ⟨c, rfl, (Option.some.inj hx).symm⟩
      have hcl : c < ws.length := C.lt c (List.mem_of_getElem? hc)
      obtain ⟨wa, hwa, hwt⟩ := way_get W hus hcl
      obtain ⟨_, ok1, ok2, _⟩ := wy_ok W hcl
      have hL1 := hV_get (n := n) (h := hom ws (cs.take i)) (x := (wyAt ws c).1) (by omega)
      have hL2 := hV_get (n := n) (h := hom ws (cs.take i)) (x := (wyAt ws c).2.1) ok2
      refine ⟨_, rfl, _, rfl, nb, _, _, _, rfl, rfl, SqT.of (e2.tup (fun z => z) hb), at_of (j := c) rfl hwa, wa, _, rfl, SqT.of (e2.tup (fun z => z) hwt), rfl, _, _, rfl, _, _, rfl, _, _, rfl, rfl, ?_⟩
      refine ⟨_, rfl, _, rfl, l2, _, _, _, rfl, rfl, SqL.of hL, at_of (j := (wyAt ws c).1) rfl hL1, _, rfl, _, rfl, l2, _, _, _, rfl, rfl, SqL.of hL, at_of (j := (wyAt ws c).2.1) rfl hL2, _, _, rfl, ?_⟩
      refine ⟨_, rfl, _, rfl, l2, _, _, _, rfl, rfl, SqL.of hL, at_of (j := (wyAt ws c).1) rfl hL1, _, rfl, _, rfl, l2, _, _, _, rfl, rfl, SqL.of hL, at_of (j := (wyAt ws c).2.1) rfl hL2, _, _, rfl, ?_⟩
      rw [minN, maxN]
      refine ⟨_, rfl, l2, rfl, ⟨_, SqL.of hL⟩, fun Dl hD => ?_⟩
      have hnew := hom_snoc ws (cs.take i) c
      rw [← take_succ' hc] at hnew
      refine lc_list (xs := hV n (hom ws (cs.take i))) (fun j H' => Ext T noM H H' ∧ H Dl = none ∧ H' l2 = some (.lst (hV n (hom ws (cs.take i)))) ∧ H' Dl = some (.lst ((hV n (hom ws (cs.take (i + 1)))).take j))) ⟨e2.trans (Ext.new hD), e2.fr _ hD, by rw [upd_ne (ne_of_none hL hD)]; exact hL, upd_same⟩ (fun j H' _ p => SqL.of p.2.2.1) ?_ ?_
      · rintro j x H3 hx ⟨e3, hDn, hL3, hD3⟩
        have hj : j < n := by have := (List.getElem?_eq_some_iff.mp hx).1; rw [hV_len] at this; exact this
        have ex := hV_get (n := n) (h := hom ws (cs.take i)) hj
        rw [hx] at ex
        obtain rfl := Option.some.inj ex
        have el2 : l2 ≠ Dl := fun z => by rw [z, hD3] at hL3; have := congrArg List.length (HO.lst.inj (Option.some.inj hL3)); rw [List.length_take, hV_len, hV_len] at this; omega
        have fin : ∀ z : Nat, z = hom ws (cs.take (i + 1)) j → ∃ acc, H3 Dl = some (.lst acc) ∧ acc.length < sizeLine ∧ (Ext T noM H (upd H3 Dl (.lst (acc ++ [V.int (z : Int)]))) ∧ H Dl = none ∧ (upd H3 Dl (.lst (acc ++ [V.int (z : Int)]))) l2 = some (.lst (hV n (hom ws (cs.take i)))) ∧
            (upd H3 Dl (.lst (acc ++ [V.int (z : Int)]))) Dl = some (.lst ((hV n (hom ws (cs.take (i + 1)))).take (j + 1)))) := fun z ez => by
          refine ⟨_, hD3, ?_, e3.mut (.inl hDn) hD3 ltbl, hDn, by rw [upd_ne el2]; exact hL3, ?_⟩
          · rw [List.length_take, hV_len]; exact small1000 (by omega)
          · rw [upd_same, take_succ' (hV_get hj), ez]
        refine ⟨rfl, tYesI ?_⟩
        refine ⟨_, rfl, _, rfl, rfl, _, rfl, ?_⟩
        refine ite2 (fun q => ⟨_, rfl, fin _ ?_⟩) (fun q => ⟨_, rfl, fin _ ?_⟩)
        · have q' := vint_inj.mp (of_decide_eq_true q)
          rw [hnew]; unfold relab; rw [if_pos q']
        · have q' : ¬ hom ws (cs.take i) j = max (hom ws (cs.take i) (wyAt ws c).1) (hom ws (cs.take i) (wyAt ws c).2.1) := fun z => q (decide_eq_true (by rw [z]))
          rw [hnew]; unfold relab; rw [if_neg q']
      · rintro H3 ⟨e3, hDn, hL3, hD3⟩
        rw [hV_len, List.take_of_length_le (by rw [hV_len]; exact Nat.le_refl _)] at hD3
        exact ⟨Dl, _, _, _, _, _, _, _, rfl, hDn, hD3, e3⟩
    · rintro σ' H2 ⟨l2, y5, y6, y7, y8, y9, y10, y11, rfl, hl2, hL, e2⟩
      rw [List.length_map, List.take_length] at hL
      exact ⟨_, rfl, k l2 _ hl2 hL e2⟩
end
end Mw

set_option linter.all false
namespace Mw
/-! ### fractions: u parts of 4096, in lowest terms -/
def frG (u : Int) : Nat := Nat.gcd u.natAbs 4096
def frX (u : Int) : Int := u / (frG u : Int)
def frY (u : Int) : Int := 4096 / (frG u : Int)
theorem frG_pos (u : Int) : 0 < frG u := Nat.gcd_pos_of_pos_right _ (by decide)
theorem frG_dvd (u : Int) : ((frG u : Nat) : Int) ∣ u := Int.ofNat_dvd_left.mpr (Nat.gcd_dvd_left _ _)
theorem frG_dvd2 (u : Int) : ((frG u : Nat) : Int) ∣ 4096 := Int.ofNat_dvd_left.mpr (Nat.gcd_dvd_right _ _)
theorem frX_mul (u : Int) : frX u * (frG u : Int) = u := Int.ediv_mul_cancel (frG_dvd u)
theorem frY_mul (u : Int) : frY u * (frG u : Int) = 4096 := Int.ediv_mul_cancel (frG_dvd2 u)
theorem frG_le (u : Int) : frG u ≤ 4096 := Nat.le_of_dvd (by decide) (Nat.gcd_dvd_right _ _)
theorem pos_of_mul {a g c : Int} (h : a * g = c) (hg : 0 < g) (hc : 0 < c) : 0 < a := by
  rcases Int.lt_or_le 0 a with h1 | h1
  · exact h1
  · have := Int.mul_le_mul_of_nonneg_right h1 (Int.le_of_lt hg); omega
theorem frY_pos (u : Int) : 0 < frY u := pos_of_mul (frY_mul u) (by have := frG_pos u; omega) (by decide)
theorem frY_le (u : Int) : frY u ≤ 4096 := by
  have h1 := frY_mul u
  have h2 := frY_pos u
  have h3 : (1 : Int) ≤ frG u := by have := frG_pos u; omega
  have := Int.mul_le_mul_of_nonneg_left h3 (Int.le_of_lt h2)
  omega
theorem fr_eq (u : Int) : frX u * 4096 = u * frY u := by
  have h1 := frX_mul u
  have h2 := frY_mul u
  rw [← h2, ← Int.mul_assoc, Int.mul_right_comm, h1]
theorem fr_cop (u : Int) : Int.gcd (frX u) (frY u) = 1 := by
  have hg := frG_pos u
  have h1 : Int.gcd (frX u * (frG u : Int)) (frY u * (frG u : Int)) = Int.gcd (frX u) (frY u) * frG u := by
    rw [Int.gcd_mul_right]; rfl
  rw [frX_mul, frY_mul] at h1
  have h2 : Int.gcd u 4096 = frG u := rfl
  rw [h2] at h1
  have : 1 * frG u = Int.gcd (frX u) (frY u) * frG u := by omega
  exact (Nat.eq_of_mul_eq_mul_right hg this).symm
/-- coprime pairs of the same value are the same -/
theorem cop_uniq {x y x' y' : Int} (hy : 0 < y) (hy' : 0 < y') (c : Int.gcd x y = 1) (c' : Int.gcd x' y' = 1) (h : x * y' = x' * y) : x = x' ∧ y = y' := by
  have d1 : y ∣ y' := by
    have : y ∣ x * y' := ⟨x', by rw [h, Int.mul_comm]⟩
    have h2 := Int.natAbs_dvd_natAbs.mpr this
    rw [Int.natAbs_mul] at h2
    exact Int.natAbs_dvd_natAbs.mp (Nat.Coprime.dvd_of_dvd_mul_left (show Nat.Coprime y.natAbs x.natAbs from (Nat.gcd_comm _ _).trans c) h2)
  have d2 : y' ∣ y := by
    have : y' ∣ x' * y := ⟨x, by rw [← h, Int.mul_comm]⟩
    have h2 := Int.natAbs_dvd_natAbs.mpr this
    rw [Int.natAbs_mul] at h2
    exact Int.natAbs_dvd_natAbs.mp (Nat.Coprime.dvd_of_dvd_mul_left (show Nat.Coprime y'.natAbs x'.natAbs from (Nat.gcd_comm _ _).trans c') h2)
  have e : y = y' := Int.le_antisymm (Int.le_of_dvd hy' d1) (Int.le_of_dvd hy d2)
  subst e
  exact ⟨Int.eq_of_mul_eq_mul_right (by omega) h, rfl⟩
/-- lowest terms of t / b -/
theorem fr_red {t b u : Int} (hb : 0 < b) (h : t * 4096 = u * b) : t / ((Nat.gcd t.natAbs b.natAbs : Nat) : Int) = frX u ∧ b / ((Nat.gcd t.natAbs b.natAbs : Nat) : Int) = frY u := by
  have hg : 0 < Nat.gcd t.natAbs b.natAbs := Nat.gcd_pos_of_pos_right _ (by omega)
  have e1 : t / ((Nat.gcd t.natAbs b.natAbs : Nat) : Int) * ((Nat.gcd t.natAbs b.natAbs : Nat) : Int) = t := Int.ediv_mul_cancel (Int.ofNat_dvd_left.mpr (Nat.gcd_dvd_left _ _))
  have e2 : b / ((Nat.gcd t.natAbs b.natAbs : Nat) : Int) * ((Nat.gcd t.natAbs b.natAbs : Nat) : Int) = b := Int.ediv_mul_cancel (Int.ofNat_dvd_left.mpr (Nat.gcd_dvd_right _ _))
  have eg : Int.gcd t b = Nat.gcd t.natAbs b.natAbs := rfl
  generalize Nat.gcd t.natAbs b.natAbs = g at hg e1 e2 eg ⊢
  generalize t / (g : Int) = x at e1 ⊢
  generalize b / (g : Int) = y at e2 ⊢
  have hy : 0 < y := pos_of_mul e2 (by omega) hb
  have c : Int.gcd x y = 1 := by
    have h1 : Int.gcd (x * (g : Int)) (y * (g : Int)) = Int.gcd x y * g := by rw [Int.gcd_mul_right]; rfl
    rw [e1, e2, eg] at h1
    have : 1 * g = Int.gcd x y * g := by omega
    exact (Nat.eq_of_mul_eq_mul_right hg this).symm
  refine cop_uniq hy (frY_pos u) c (fr_cop u) ?_
  -- x * frY u = frX u * y
  have h3 : x * 4096 = u * y := by
    rw [← e1, ← e2] at h
    have : x * 4096 * (g : Int) = u * y * (g : Int) := by
      rw [Int.mul_right_comm, h, Int.mul_assoc]
    exact Int.eq_of_mul_eq_mul_right (by omega) this
  have h4 := fr_eq u
  have : x * frY u * 4096 = frX u * y * 4096 := by
    rw [Int.mul_right_comm, h3, Int.mul_right_comm u, ← h4, Int.mul_right_comm]
  exact Int.eq_of_mul_eq_mul_right (by decide) this
theorem fr_plus (u v : Int) : (frX u * frY v + frX v * frY u) * 4096 = (u + v) * (frY u * frY v) := by
  have h1 := fr_eq u
  have h2 := fr_eq v
  rw [Int.add_mul, Int.add_mul, Int.mul_right_comm, h1, Int.mul_right_comm (frX v), h2, Int.mul_assoc, Int.mul_assoc, Int.mul_comm (frY v) (frY u)]
theorem fr_minus (u v : Int) : (frX u * frY v - frX v * frY u) * 4096 = (u - v) * (frY u * frY v) := by
  have h1 := fr_eq u
  have h2 := fr_eq v
  rw [Int.sub_mul, Int.sub_mul, Int.mul_right_comm, h1, Int.mul_right_comm (frX v), h2, Int.mul_assoc, Int.mul_assoc, Int.mul_comm (frY v) (frY u)]
theorem fr_less (u v : Int) : frX u * frY v < frX v * frY u ↔ u < v := by
  have h1 := fr_eq u
  have h2 := fr_eq v
  have p : 0 < frY u * frY v := Int.mul_pos (frY_pos u) (frY_pos v)
  have e1 : frX u * frY v * 4096 = u * (frY u * frY v) := by rw [Int.mul_right_comm, h1, Int.mul_assoc]
  have e2 : frX v * frY u * 4096 = v * (frY u * frY v) := by rw [Int.mul_right_comm, h2, Int.mul_assoc, Int.mul_comm (frY v)]
  constructor
  · intro h
    have h3 : u * (frY u * frY v) < v * (frY u * frY v) := by omega
    exact Int.lt_of_mul_lt_mul_right h3 (Int.le_of_lt p)
  · intro h
    have := Int.mul_lt_mul_of_pos_right h p
    omega
theorem fr_span {l s w : Int} (hs : l = w * s) : frX l * 4096 = w * (frY l * s) := by
  rw [fr_eq, hs, Int.mul_assoc, Int.mul_comm s]
theorem fr_int (c : Int) : frX (c * 4096) = c ∧ frY (c * 4096) = 1 := by
  have := fr_red (t := c) (b := 1) (u := c * 4096) (by decide) (by rw [Int.mul_one])
  have e : Nat.gcd c.natAbs (1 : Int).natAbs = 1 := Nat.gcd_one_right _
  rw [e] at this
  have e1 : ((1 : Nat) : Int) = 1 := rfl
  rw [e1, Int.ediv_one, Int.ediv_one] at this
  exact ⟨this.1.symm, this.2.symm⟩
theorem fr_pos (u : Int) : 0 < frX u ↔ 0 < u := by
  have h := fr_eq u
  have hy := frY_pos u
  constructor
  · intro p
    have : 0 < u * frY u := by omega
    exact pos_of_mul rfl hy this
  · intro p
    have : 0 < u * frY u := Int.mul_pos p hy
    omega
theorem frX_bd {u : Int} {b : Int} (h1 : -b ≤ u) (h2 : u ≤ b) : -b ≤ frX u ∧ frX u ≤ b := by
  have h := frX_mul u
  have hg : (1 : Int) ≤ frG u := by have := frG_pos u; omega
  rcases Int.lt_or_le (frX u) 0 with p | p
  · have := Int.mul_le_mul_of_nonneg_left hg (show 0 ≤ -frX u by omega)
    have e : -frX u * (frG u : Int) = -u := by rw [Int.neg_mul, h]
    omega
  · have := Int.mul_le_mul_of_nonneg_left hg p
    omega
end Mw

set_option linter.all false
namespace Mw
/-! ### the growth: amounts in parts of 4096 -/
abbrev Wl := List (Nat × Nat × Nat)
def way (ws : Wl) (c : Nat) : Nat × Nat × Nat := ws.getD c (0, 0, 0)
structure Gs where
  h : Nat → Nat
  dep : Nat → Int
  wid : List (List Nat × Int)
  time : Int
  taken : List (Int × Nat)
def lack (ws : Wl) (S : Gs) (c : Nat) : Int := ((way ws c).2.2 : Int) * 4096 - (S.dep (way ws c).1 + S.dep (way ws c).2.1)
def crosses (ws : Wl) (S : Gs) (c : Nat) : Bool := decide (S.h (way ws c).1 ≠ S.h (way ws c).2.1)
def full (ws : Wl) (S : Gs) (c : Nat) : Bool := crosses ws S c && decide (lack ws S c ≤ 0)
def first (ws : Wl) (S : Gs) : Option Nat := (List.range ws.length).find? (full ws S)
def take1 (ws : Wl) (S : Gs) (c : Nat) : Gs := { S with h := relab S.h (way ws c).1 (way ws c).2.1, taken := S.taken ++ [(S.time, c)] }
def takeAll (ws : Wl) : Nat → Gs → Gs
  | 0, S => S
  | k + 1, S => match first ws S with
    | none => S
    | some c => takeAll ws k (take1 ws S c)
def parted (h : Nat → Nat) (r : Nat) (q : Nat × Nat) : Bool := decide (h q.1 = r) != decide (h q.2 = r)
def opens (n : Nat) (ps : List (Nat × Nat)) (h : Nat → Nat) : List Nat := (reps h n).filter fun r => ps.any (parted h r)
def spd (ws : Wl) (S : Gs) (R : List Nat) (c : Nat) : Nat := (if S.h (way ws c).1 ∈ R then 1 else 0) + (if S.h (way ws c).2.1 ∈ R then 1 else 0)
def canW (ws : Wl) (S : Gs) (R : List Nat) : List Nat := (List.range ws.length).filter fun c => crosses ws S c && decide (0 < spd ws S R c)
def cand (ws : Wl) (S : Gs) (R : List Nat) (c : Nat) : Int := lack ws S c / (spd ws S R c : Int)
def less1 : Option Int → Int → Option Int
  | none, x => some x
  | some y, x => if x < y then some x else some y
def least (l : List Int) : Option Int := l.foldl less1 none
def addW : List (List Nat × Int) → List Nat → Int → List (List Nat × Int)
  | [], k, s => [(k, s)]
  | (j, w) :: r, k, s => if j = k then (j, w + s) :: r else (j, w) :: addW r k s
def grow (n : Nat) (S : Gs) (R : List Nat) (s : Int) : Gs :=
  { S with dep := fun p => S.dep p + if S.h p ∈ R then s else 0, wid := R.foldl (fun w r => addW w (cls S.h n r) s) S.wid, time := S.time + s }
def span (ws : Wl) (S : Gs) (R : List Nat) : Int := (least ((canW ws S R).map (cand ws S R))).getD 0
def turn (n : Nat) (ws : Wl) (ps : List (Nat × Nat)) (S : Gs) : Gs := takeAll ws n (grow n S (opens n ps S.h) (span ws S (opens n ps S.h)))
def start : Gs := ⟨fun x => x, fun _ => 0, [], 0, []⟩
/-! ### the least of a list -/
theorem least_some : ∀ (l : List Int) (b : Option Int) (x : Int), l.foldl less1 b = some x → (b = some x ∨ x ∈ l) ∧ (∀ y ∈ l, x ≤ y) ∧ ∀ y, b = some y → x ≤ y
  | [], b, x, h => ⟨.inl h, (fun y hy => nomatch hy), fun y hy => by rw [show b = some x from h] at hy; rw [Option.some.inj hy]; exact Int.le_refl _⟩
  | z :: l, b, x, h => by
    obtain ⟨h1, h2, h3⟩ := least_some l (less1 b z) x h
    have key : ∃ m, less1 b z = some m ∧ m ≤ z ∧ (∀ y, b = some y → m ≤ y) ∧ (b = some m ∨ m = z) := by
      cases b with
      | none => exact ⟨z, rfl, Int.le_refl _, (fun y hy => nomatch hy), .inr rfl⟩
      | some y =>
        by_cases q : z < y
        · exact ⟨z, if_pos q, Int.le_refl _, fun w hw => by have := Option.some.inj hw; omega, .inr rfl⟩
        · exact ⟨y, if_neg q, by omega, fun w hw => by have := Option.some.inj hw; omega, .inl rfl⟩
    obtain ⟨m, e, k1, k2, k3⟩ := key
    have k4 := h3 m e
    refine ⟨?_, fun y hy => ?_, fun y hy => Int.le_trans k4 (k2 y hy)⟩
    · rcases h1 with h1 | h1
      · have em : m = x := Option.some.inj (e.symm.trans h1)
        subst em
        rcases k3 with k3 | k3
        · exact .inl k3
        · exact .inr (by rw [k3]; exact List.mem_cons_self)
      · exact .inr (List.mem_cons_of_mem _ h1)
    · rcases List.mem_cons.mp hy with q | q
      · rw [q]; exact Int.le_trans k4 k1
      · exact h2 y q
theorem least_none : ∀ (l : List Int) (b : Option Int), l.foldl less1 b = none → b = none ∧ l = []
  | [], b, h => ⟨h, rfl⟩
  | z :: l, b, h => by
    have := (least_none l (less1 b z) h).1
    cases b with
    | none => cases this
    | some y =>
      have e : (if z < y then some z else some y) = none := this
      by_cases q : z < y
      · rw [if_pos q] at e; cases e
      · rw [if_neg q] at e; cases e
theorem least_ex {l : List Int} (h : l ≠ []) : ∃ x, least l = some x ∧ x ∈ l ∧ ∀ y ∈ l, x ≤ y := by
  cases e : least l with
  | none => exact absurd (least_none l none e).2 h
  | some x =>
    obtain ⟨h1, h2, _⟩ := least_some l none x e
    rcases h1 with h1 | h1
    · cases h1
    · exact ⟨x, rfl, h1, h2⟩
/-! ### fewer groups -/
theorem relab_eq {n : Nat} {es : List (Nat × Nat)} {h : Nat → Nat} (H : Hom n es h) {a b x : Nat} (ha : a < n) (hb : b < n) (hx : x < n) : relab h a b x = if h x = h a ∨ h x = h b then min (h a) (h b) else h x := by
  unfold relab
  by_cases q : h x = max (h a) (h b)
  · rw [if_pos q, if_pos (by omega)]
  · rw [if_neg q]
    by_cases q2 : h x = h a ∨ h x = h b
    · rw [if_pos q2]; omega
    · rw [if_neg q2]
theorem mem_reps' {h : Nat → Nat} {n r : Nat} : r ∈ reps h n ↔ r < n ∧ h r = r := by
  unfold reps; rw [List.mem_filter, List.mem_range]; simp
theorem reps_nodup (h : Nat → Nat) (n : Nat) : (reps h n).Nodup := (List.nodup_range).filter _
theorem filter_len_lt {α : Type} {f g : α → Bool} : ∀ {l : List α}, (∀ x ∈ l, f x = true → g x = true) → (∃ x ∈ l, f x = false ∧ g x = true) → (l.filter f).length < (l.filter g).length
  | [], _, ⟨x, hx, _⟩ => nomatch hx
  | y :: l, h, ⟨x, hx, h1, h2⟩ => by
    have hl : ∀ z ∈ l, f z = true → g z = true := fun z hz => h z (List.mem_cons_of_mem _ hz)
    have hle : (l.filter f).length ≤ (l.filter g).length := by
      have := List.countP_mono_left (l := l) (p := f) (q := g) hl
      rw [List.countP_eq_length_filter, List.countP_eq_length_filter] at this
      exact this
    rcases List.mem_cons.mp hx with e | e
    · subst e
      rw [List.filter_cons, List.filter_cons, h1, h2]
      simp only [Bool.false_eq_true, if_false, if_true, List.length_cons]
      omega
    · have ih := filter_len_lt hl ⟨x, e, h1, h2⟩
      rw [List.filter_cons, List.filter_cons]
      by_cases q : f y = true
      · rw [if_pos q, if_pos (h y List.mem_cons_self q), List.length_cons, List.length_cons]; omega
      · rw [if_neg q]
        split
        · rw [List.length_cons]; omega
        · exact ih
theorem reps_less {n : Nat} {es : List (Nat × Nat)} {h : Nat → Nat} (H : Hom n es h) {a b : Nat} (ha : a < n) (hb : b < n) (hne : h a ≠ h b) : (reps (relab h a b) n).length < (reps h n).length := by
  have hla := H.le a ha
  have hlb := H.le b hb
  refine filter_len_lt (fun x hx hf => ?_) ⟨max (h a) (h b), List.mem_range.mpr (by omega), ?_, ?_⟩
  · have hx' := List.mem_range.mp hx
    have e := beq_iff_eq.mp hf
    rw [relab_eq H ha hb hx'] at e
    refine beq_iff_eq.mpr ?_
    by_cases q : h x = h a ∨ h x = h b
    · rw [if_pos q] at e
      have i1 := H.idem a ha
      have i2 := H.idem b hb
      rcases Nat.le_total (h a) (h b) with z | z
      · rw [Nat.min_eq_left z] at e; rw [← e, i1]
      · rw [Nat.min_eq_right z] at e; rw [← e, i2]
    · rw [if_neg q] at e; exact e
  · have hm : max (h a) (h b) < n := by omega
    have i1 := H.idem a ha
    have i2 := H.idem b hb
    refine Bool.eq_false_iff.mpr fun z => ?_
    have e := beq_iff_eq.mp z
    rw [relab_eq H ha hb hm] at e
    rcases Nat.le_total (h a) (h b) with q | q
    · rw [Nat.max_eq_right q, i2, if_pos (.inr rfl), Nat.min_eq_left q] at e; exact hne e
    · rw [Nat.max_eq_left q, i1, if_pos (.inl rfl), Nat.min_eq_right q] at e; exact hne e.symm
  · have i1 := H.idem a ha
    have i2 := H.idem b hb
    refine beq_iff_eq.mpr ?_
    rcases Nat.le_total (h a) (h b) with q | q
    · rw [Nat.max_eq_right q, i2]
    · rw [Nat.max_eq_left q, i1]
end Mw

set_option linter.all false
namespace Mw
/-! ### what holds of the growth -/
def wsum (p : Nat) : List (List Nat × Int) → Int
  | [] => 0
  | (k, w) :: r => (if p ∈ k then w else 0) + wsum p r
theorem wsum_add (p : Nat) (k : List Nat) (s : Int) : ∀ l : List (List Nat × Int), wsum p (addW l k s) = wsum p l + if p ∈ k then s else 0
  | [] => by show (if p ∈ k then s else 0) + 0 = 0 + _; omega
  | (j, w) :: r => by
    by_cases e : j = k
    · subst e
      have : addW ((j, w) :: r) j s = (j, w + s) :: r := if_pos rfl
      rw [this]
      show (if p ∈ j then w + s else 0) + wsum p r = (if p ∈ j then w else 0) + wsum p r + _
      by_cases q : p ∈ j
      · simp only [if_pos q]; omega
      · simp only [if_neg q]; omega
    · have : addW ((j, w) :: r) k s = (j, w) :: addW r k s := if_neg e
      rw [this]
      show (if p ∈ j then w else 0) + wsum p (addW r k s) = (if p ∈ j then w else 0) + wsum p r + _
      rw [wsum_add p k s r]; omega
theorem mem_addW {k : List Nat} {s : Int} : ∀ {l : List (List Nat × Int)} {x : List Nat × Int}, x ∈ addW l k s → (x.1 = k ∧ (x.2 = s ∨ ∃ w, (k, w) ∈ l ∧ x.2 = w + s)) ∨ x ∈ l
  | [], x, h => .inl (by rw [List.mem_singleton.mp h]; exact ⟨rfl, .inl rfl⟩)
  | (j, w) :: r, x, h => by
    by_cases e : j = k
    · subst e
      have e2 : addW ((j, w) :: r) j s = (j, w + s) :: r := if_pos rfl
      rw [e2] at h
      rcases List.mem_cons.mp h with h | h
      · exact .inl (by rw [h]; exact ⟨rfl, .inr ⟨w, List.mem_cons_self, rfl⟩⟩)
      · exact .inr (List.mem_cons_of_mem _ h)
    · have e2 : addW ((j, w) :: r) k s = (j, w) :: addW r k s := if_neg e
      rw [e2] at h
      rcases List.mem_cons.mp h with h | h
      · exact .inr (by rw [h]; exact List.mem_cons_self)
      · rcases mem_addW h with ⟨h1, h2 | ⟨w', h2, h3⟩⟩ | h1
        · exact .inl ⟨h1, .inl h2⟩
        · exact .inl ⟨h1, .inr ⟨w', List.mem_cons_of_mem _ h2, h3⟩⟩
        · exact .inr (List.mem_cons_of_mem _ h1)
/-- the ways of a net -/
structure WsOk (n : Nat) (ws : Wl) : Prop where
  n1 : 1 ≤ n
  n12 : n ≤ 12
  ok : ∀ c, c < ws.length → (way ws c).1 < (way ws c).2.1 ∧ (way ws c).2.1 < n ∧ 1 ≤ (way ws c).2.2 ∧ (way ws c).2.2 ≤ 10000
def wedges (ws : Wl) : List (Nat × Nat) := (List.range ws.length).map fun c => ((way ws c).1, (way ws c).2.1)
def ut (t : Nat) : Int := (2 : Int) ^ (12 - t)
/-- in the middle of a turn: t turns are done, or the t-th is being done -/
structure GM (n : Nat) (ws : Wl) (t : Nat) (S : Gs) : Prop where
  hom : ∃ es, Hom n es S.h
  dv : ∀ p, ut t ∣ S.dep p
  dt : ut t ∣ S.time
  dw : ∀ kw ∈ S.wid, ut t ∣ kw.2
  d0 : ∀ p, 0 ≤ S.dep p ∧ S.dep p ≤ t * 40960000
  t0 : 0 ≤ S.time ∧ S.time ≤ t * 40960000
  w0 : ∀ kw ∈ S.wid, 0 < kw.2 ∧ kw.2 ≤ t * 40960000
  lk : ∀ c, c < ws.length → crosses ws S c = true → 0 ≤ lack ws S c
  sum : ∀ p, p < n → S.dep p = wsum p S.wid
  key : ∀ kw ∈ S.wid, (∀ x ∈ kw.1, x < n ∧ ∀ y ∈ kw.1, S.h x = S.h y) ∧ kw.1 ≠ [] ∧ kw.1.Pairwise (· < ·)
theorem GM.start {n : Nat} {ws : Wl} (W : WsOk n ws) : GM n ws 0 start := by
  refine ⟨⟨[], Hom.start n⟩, fun p => Int.dvd_zero _, Int.dvd_zero _, (fun kw h => nomatch h), fun p => ⟨Int.le_refl _, by show (0 : Int) ≤ _; omega⟩, ⟨Int.le_refl _, by show (0 : Int) ≤ _; omega⟩, (fun kw h => nomatch h), fun c hc _ => ?_, fun p _ => rfl, fun kw h => nomatch h⟩
  have := (W.ok c hc).2.2.1
  show 0 ≤ ((way ws c).2.2 : Int) * 4096 - (0 + 0)
  omega
theorem relab_same {n : Nat} {es : List (Nat × Nat)} {h : Nat → Nat} (H : Hom n es h) {a b x y : Nat} (ha : a < n) (hb : b < n) (hx : x < n) (hy : y < n) (e : h x = h y) : relab h a b x = relab h a b y := by
  unfold relab; rw [e]
theorem GM.take {n t : Nat} {ws : Wl} {S : Gs} (W : WsOk n ws) (G : GM n ws t S) {c : Nat} (hc : c < ws.length) (hx : crosses ws S c = true) :
    GM n ws t (take1 ws S c) ∧ (reps (take1 ws S c).h n).length < (reps S.h n).length := by
  obtain ⟨es, H⟩ := G.hom
  obtain ⟨w1, w2, _⟩ := W.ok c hc
  have ha : (way ws c).1 < n := Nat.lt_trans w1 w2
  refine ⟨⟨⟨_, H.step ha w2⟩, G.dv, G.dt, G.dw, G.d0, G.t0, G.w0, fun d hd hcr => ?_, G.sum, fun kw hk => ?_⟩, reps_less H ha w2 (of_decide_eq_true hx)⟩
  · refine G.lk d hd (decide_eq_true fun z => ?_)
    obtain ⟨v1, v2, _⟩ := W.ok d hd
    exact of_decide_eq_true hcr (relab_same H ha w2 (Nat.lt_trans v1 v2) v2 z)
  · obtain ⟨k1, k2, k3⟩ := G.key kw hk
    exact ⟨fun x hx => ⟨(k1 x hx).1, fun y hy => relab_same H ha w2 (k1 x hx).1 (k1 y hy).1 ((k1 x hx).2 y hy)⟩, k2, k3⟩
theorem first_some {ws : Wl} {S : Gs} {c : Nat} (h : first ws S = some c) : c < ws.length ∧ crosses ws S c = true ∧ lack ws S c ≤ 0 := by
  have h1 := List.find?_some h
  have h2 := List.mem_of_find?_eq_some h
  unfold full at h1
  rw [Bool.and_eq_true, decide_eq_true_eq] at h1
  exact ⟨List.mem_range.mp h2, h1.1, h1.2⟩
theorem first_none {ws : Wl} {S : Gs} (h : first ws S = none) {c : Nat} (hc : c < ws.length) (hx : crosses ws S c = true) : 0 < lack ws S c := by
  have h1 := List.find?_eq_none.mp h c (List.mem_range.mpr hc)
  rcases Int.lt_or_le 0 (lack ws S c) with q | q
  · exact q
  · exact absurd (by unfold full; rw [hx, decide_eq_true q]; rfl) h1
theorem GM.takeAll {n t : Nat} {ws : Wl} (W : WsOk n ws) : ∀ {k : Nat} {S : Gs}, GM n ws t S → (reps S.h n).length ≤ k → GM n ws t (takeAll ws k S) ∧ first ws (takeAll ws k S) = none ∧ (reps (takeAll ws k S).h n).length ≤ (reps S.h n).length ∧
    (∀ c, first ws S = some c → (reps (takeAll ws k S).h n).length < (reps S.h n).length)
  | 0, S, G, hk => by
    have hno : first ws S = none := by
      cases e : first ws S with
      | none => rfl
      | some c =>
        obtain ⟨hc, hx, _⟩ := first_some e
        have := (G.take W hc hx).2
        omega
    exact ⟨G, hno, Nat.le_refl _, fun c e => by rw [hno] at e; cases e⟩
  | k + 1, S, G, hk => by
    cases e : first ws S with
    | none =>
      have e2 : Mw.takeAll ws (k + 1) S = S := by show (match first ws S with | none => S | some c => _) = S; rw [e]
      rw [e2]
      exact ⟨G, e, Nat.le_refl _, fun c e => by cases e⟩
    | some c =>
      have e2 : Mw.takeAll ws (k + 1) S = Mw.takeAll ws k (take1 ws S c) := by show (match first ws S with | none => S | some c => _) = _; rw [e]
      obtain ⟨hc, hx, _⟩ := first_some e
      obtain ⟨G2, hlt⟩ := G.take W hc hx
      obtain ⟨h1, h2, h3, _⟩ := GM.takeAll W (k := k) G2 (by omega)
      rw [e2]
      exact ⟨h1, h2, by omega, fun _ _ => by omega⟩
theorem takeAll_time (ws : Wl) : ∀ (k : Nat) (S : Gs), (takeAll ws k S).time = S.time ∧ (takeAll ws k S).dep = S.dep ∧ (takeAll ws k S).wid = S.wid
  | 0, S => ⟨rfl, rfl, rfl⟩
  | k + 1, S => by
    show ((match first ws S with | none => S | some c => takeAll ws k (take1 ws S c)) : Gs).time = _ ∧ ((match first ws S with | none => S | some c => takeAll ws k (take1 ws S c)) : Gs).dep = _ ∧ ((match first ws S with | none => S | some c => takeAll ws k (take1 ws S c)) : Gs).wid = _
    cases first ws S with
    | none => exact ⟨rfl, rfl, rfl⟩
    | some c => exact takeAll_time ws k (take1 ws S c)
/-! ### a way that leads out of an open group -/
theorem mem_opens {n : Nat} {ps : List (Nat × Nat)} {h : Nat → Nat} {r : Nat} : r ∈ opens n ps h ↔ (r < n ∧ h r = r) ∧ ∃ q ∈ ps, parted h r q = true := by
  unfold opens; rw [List.mem_filter, mem_reps', List.any_eq_true]
theorem out_way {n : Nat} {ws : Wl} {ps : List (Nat × Nat)} {S : Gs} (W : WsOk n ws) (J : ∀ q ∈ ps, Cn (wedges ws) q.1 q.2) {r : Nat} (hr : r ∈ opens n ps S.h) :
    ∃ c, c < ws.length ∧ crosses ws S c = true ∧ (S.h (way ws c).1 = r ∨ S.h (way ws c).2.1 = r) := by
  refine Classical.byContradiction fun hno => ?_
  obtain ⟨_, q, hq, hp⟩ := mem_opens.mp hr
  have hiff := (J q hq).inv (P := fun x => S.h x = r) fun e he => by
    obtain ⟨c, hc, rfl⟩ := List.mem_map.mp he
    have hc' := List.mem_range.mp hc
    by_cases z : S.h (way ws c).1 = S.h (way ws c).2.1
    · show S.h (way ws c).1 = r ↔ S.h (way ws c).2.1 = r
      rw [z]
    · have h1 : ¬ S.h (way ws c).1 = r := fun y => hno ⟨c, hc', decide_eq_true z, .inl y⟩
      have h2 : ¬ S.h (way ws c).2.1 = r := fun y => hno ⟨c, hc', decide_eq_true z, .inr y⟩
      exact ⟨fun y => absurd y h1, fun y => absurd y h2⟩
  unfold parted at hp
  by_cases z : S.h q.1 = r
  · rw [decide_eq_true z, decide_eq_true (hiff.mp z)] at hp; cases hp
  · rw [decide_eq_false z, decide_eq_false fun y => z (hiff.mpr y)] at hp; cases hp
theorem spd_le (ws : Wl) (S : Gs) (R : List Nat) (c : Nat) : spd ws S R c ≤ 2 := by unfold spd; split <;> split <;> omega
theorem mem_canW {ws : Wl} {S : Gs} {R : List Nat} {c : Nat} : c ∈ canW ws S R ↔ c < ws.length ∧ crosses ws S c = true ∧ 0 < spd ws S R c := by
  unfold canW; rw [List.mem_filter, List.mem_range, Bool.and_eq_true, decide_eq_true_eq]
theorem ut_succ {t : Nat} (ht : t < 12) : ut t = 2 * ut (t + 1) := by
  unfold ut
  have : 12 - t = (12 - (t + 1)) + 1 := by omega
  rw [this, Int.pow_succ, Int.mul_comm]
theorem ut_4096 (t : Nat) : ut t ∣ 4096 := by
  unfold ut
  refine ⟨2 ^ (12 - (12 - t)), ?_⟩
  rw [← Int.pow_add, show 12 - t + (12 - (12 - t)) = 12 by omega]
  rfl
theorem GM.lack_dvd {n t : Nat} {ws : Wl} {S : Gs} (G : GM n ws t S) (c : Nat) : ut t ∣ lack ws S c := by
  unfold lack
  exact Int.dvd_sub (Int.dvd_trans (ut_4096 t) (Int.dvd_mul_left _ _)) (Int.dvd_add (G.dv _) (G.dv _))
/-- the time that a way wants is whole -/
theorem GM.cand_eq {n t : Nat} {ws : Wl} {S : Gs} (G : GM n ws t S) (ht : t < 12) (R : List Nat) {c : Nat} (hs : 0 < spd ws S R c) : cand ws S R c * (spd ws S R c : Int) = lack ws S c ∧ ut (t + 1) ∣ cand ws S R c := by
  obtain ⟨m, hm⟩ := G.lack_dvd c
  rw [ut_succ ht] at hm
  have h2 := spd_le ws S R c
  unfold cand
  generalize spd ws S R c = s at hs h2
  rcases (show s = 1 ∨ s = 2 by omega) with rfl | rfl
  · have e1 : ((1 : Nat) : Int) = 1 := rfl
    rw [e1, Int.ediv_one, Int.mul_one]
    exact ⟨rfl, ⟨2 * m, by rw [hm, Int.mul_comm 2, Int.mul_assoc]⟩⟩
  · have e1 : lack ws S c / ((2 : Nat) : Int) = ut (t + 1) * m := by
      rw [hm, Int.mul_assoc]
      exact Int.mul_ediv_cancel_left _ (by decide)
    rw [e1]
    refine ⟨?_, ⟨m, rfl⟩⟩
    rw [hm]
    show ut (t + 1) * m * 2 = _
    rw [Int.mul_comm, ← Int.mul_assoc]
/-! ### a turn grows -/
theorem wsum_grow {n : Nat} {h : Nat → Nat} (s : Int) (p : Nat) : ∀ (R : List Nat) (w : List (List Nat × Int)), wsum p (R.foldl (fun w r => addW w (cls h n r) s) w) = wsum p w + (R.map fun r => if p ∈ cls h n r then s else 0).sum
  | [], w => by show wsum p w = wsum p w + 0; omega
  | r :: R, w => by
    show wsum p (R.foldl _ (addW w (cls h n r) s)) = _
    rw [wsum_grow s p R, wsum_add, List.map_cons, List.sum_cons]; omega
theorem sum_one {α : Type} [DecidableEq α] (s : Int) (a : α) : ∀ {l : List α}, l.Nodup → (l.map fun r => if r = a then s else 0).sum = if a ∈ l then s else 0
  | [], _ => by simp
  | x :: l, h => by
    obtain ⟨h1, h2⟩ := List.nodup_cons.mp h
    rw [List.map_cons, List.sum_cons, sum_one s a h2]
    by_cases e : x = a
    · subst e
      rw [if_pos rfl, if_neg h1, if_pos List.mem_cons_self]; omega
    · rw [if_neg e]
      by_cases q : a ∈ l
      · rw [if_pos q, if_pos (List.mem_cons_of_mem _ q)]; omega
      · rw [if_neg q, if_neg (fun z => by rcases List.mem_cons.mp z with z | z; exact e z.symm; exact q z)]; omega
theorem mem_grow {n : Nat} {h : Nat → Nat} {s : Int} : ∀ {R : List Nat} {w : List (List Nat × Int)} {x : List Nat × Int}, x ∈ R.foldl (fun w r => addW w (cls h n r) s) w → R.Nodup → (∀ r ∈ R, r < n ∧ h r = r) →
    x ∈ w ∨ ∃ r ∈ R, x.1 = cls h n r ∧ (x.2 = s ∨ ∃ v, (x.1, v) ∈ w ∧ x.2 = v + s)
  | [], w, x, h, _, _ => .inl h
  | r :: R, w, x, hx, nd, hR => by
    obtain ⟨h1, h2⟩ := List.nodup_cons.mp nd
    have rr := hR r List.mem_cons_self
    rcases mem_grow (R := R) (w := addW w (cls h n r) s) hx h2 (fun q hq => hR q (List.mem_cons_of_mem _ hq)) with q | ⟨r', hr', e1, e2⟩
    · rcases mem_addW q with ⟨q1, q2 | ⟨v, q2, q3⟩⟩ | q1
      · exact .inr ⟨r, List.mem_cons_self, q1, .inl q2⟩
      · exact .inr ⟨r, List.mem_cons_self, q1, .inr ⟨v, by rw [q1]; exact q2, q3⟩⟩
      · exact .inl q1
    · rcases e2 with e2 | ⟨v, e2, e3⟩
      · exact .inr ⟨r', List.mem_cons_of_mem _ hr', e1, .inl e2⟩
      · rcases mem_addW e2 with ⟨q1, _⟩ | q1
        · exfalso
          have rr' := hR r' (List.mem_cons_of_mem _ hr')
          have e4 : cls h n r' = cls h n r := e1.symm.trans q1
          have : r' ∈ cls h n r := by rw [← e4]; exact mem_cls.mpr ⟨rr'.1, rfl⟩
          have := (mem_cls.mp this).2
          rw [rr'.2, rr.2] at this
          exact h1 (this ▸ hr')
        · exact .inr ⟨r', List.mem_cons_of_mem _ hr', e1, .inr ⟨v, q1, e3⟩⟩
theorem opens_nodup (n : Nat) (ps : List (Nat × Nat)) (h : Nat → Nat) : (opens n ps h).Nodup := (reps_nodup h n).filter _
theorem lack_grow (n : Nat) (ws : Wl) (S : Gs) (R : List Nat) (s : Int) (c : Nat) : lack ws (grow n S R s) c = lack ws S c - s * (spd ws S R c : Int) := by
  unfold lack grow spd
  dsimp only
  split <;> split <;> simp <;> omega
theorem GM.grow {n t : Nat} {ws : Wl} {ps : List (Nat × Nat)} {S : Gs} (W : WsOk n ws) (J : ∀ q ∈ ps, Cn (wedges ws) q.1 q.2) (G : GM n ws t S) (ht : t < 12) (hf : first ws S = none) (hR : opens n ps S.h ≠ []) :
    0 < span ws S (opens n ps S.h) ∧ span ws S (opens n ps S.h) ≤ 40960000 ∧ ut (t + 1) ∣ span ws S (opens n ps S.h) ∧ least ((canW ws S (opens n ps S.h)).map (cand ws S (opens n ps S.h))) = some (span ws S (opens n ps S.h)) ∧
    GM n ws (t + 1) (grow n S (opens n ps S.h) (span ws S (opens n ps S.h))) ∧ ∃ c, first ws (grow n S (opens n ps S.h) (span ws S (opens n ps S.h))) = some c := by
  have hRok : ∀ r ∈ opens n ps S.h, r < n ∧ S.h r = r := fun r hr => (mem_opens.mp hr).1
  have hnd := opens_nodup n ps S.h
  obtain ⟨r0, hr0⟩ := List.exists_mem_of_ne_nil _ hR
  obtain ⟨c0, hc0, hx0, hs0⟩ := out_way W J hr0
  have hcan : canW ws S (opens n ps S.h) ≠ [] := List.ne_nil_of_mem (mem_canW.mpr ⟨hc0, hx0, by
    unfold spd
    rcases hs0 with z | z
    · rw [if_pos (z ▸ hr0)]; omega
    · rw [if_pos (c := S.h (way ws c0).2.1 ∈ _) (z ▸ hr0)]; omega⟩)
  obtain ⟨x, hx, hxm, hxl⟩ := least_ex (l := (canW ws S (opens n ps S.h)).map (cand ws S (opens n ps S.h))) (fun z => hcan (List.map_eq_nil_iff.mp z))
  have hsp : span ws S (opens n ps S.h) = x := by unfold span; rw [hx]; rfl
  rw [hsp]
  generalize opens n ps S.h = R at *
  obtain ⟨c1, hc1, hxc⟩ := List.mem_map.mp hxm
  obtain ⟨k1, k2, k3⟩ := mem_canW.mp hc1
  obtain ⟨e1, e2⟩ := G.cand_eq ht R k3
  rw [hxc] at e1 e2
  have hl1 := first_none hf k1 k2
  have hs2 := spd_le ws S R c1
  have hx0 : 0 < x := by
    rcases Int.lt_or_le 0 x with q | q
    · exact q
    · have := Int.mul_le_mul_of_nonneg_right q (show (0 : Int) ≤ (spd ws S R c1 : Int) by omega); omega
  have hxle : x ≤ 40960000 := by
    have h1 : lack ws S c1 ≤ 40960000 := by
      have h1 := (W.ok c1 k1).2.2.2
      have h2 := (G.d0 (way ws c1).1).1
      have h3 := (G.d0 (way ws c1).2.1).1
      unfold lack; omega
    have := Int.mul_le_mul_of_nonneg_left (show (1 : Int) ≤ (spd ws S R c1 : Int) by omega) (Int.le_of_lt hx0)
    omega
  have hcls : ∀ r ∈ R, ∀ p, p < n → (p ∈ cls S.h n r ↔ S.h p = r) := fun r hr p hp => by
    rw [mem_cls, (hRok r hr).2]; exact ⟨fun z => z.2, fun z => ⟨hp, z⟩⟩
  have dvd1 : ∀ z : Int, ut t ∣ z → ut (t + 1) ∣ z := fun z ⟨m, hm⟩ => ⟨2 * m, by rw [hm, ut_succ ht, Int.mul_comm 2, Int.mul_assoc]⟩
  refine ⟨hx0, hxle, e2, hx, ?_, ?_⟩
  · refine ⟨G.hom, fun p => ?_, Int.dvd_add (dvd1 _ G.dt) e2, fun kw hk => ?_, fun p => ?_, ?_, fun kw hk => ?_, fun c hc hcr => ?_, fun p hp => ?_, fun kw hk => ?_⟩
    · show ut (t + 1) ∣ S.dep p + if S.h p ∈ R then x else 0
      refine Int.dvd_add (dvd1 _ (G.dv p)) ?_
      split
      · exact e2
      · exact Int.dvd_zero _
    · rcases mem_grow hk hnd hRok with q | ⟨r, hr, q1, q2 | ⟨v, q2, q3⟩⟩
      · exact dvd1 _ (G.dw kw q)
      · rw [q2]; exact e2
      · rw [q3]; exact Int.dvd_add (dvd1 _ (G.dw _ q2)) e2
    · have := G.d0 p
      show 0 ≤ S.dep p + (if S.h p ∈ R then x else 0) ∧ S.dep p + (if S.h p ∈ R then x else 0) ≤ ((t + 1 : Nat) : Int) * 40960000
      split <;> omega
    · have := G.t0
      show 0 ≤ S.time + x ∧ S.time + x ≤ ((t + 1 : Nat) : Int) * 40960000
      omega
    · rcases mem_grow hk hnd hRok with q | ⟨r, hr, q1, q2 | ⟨v, q2, q3⟩⟩
      · have := G.w0 kw q
        constructor <;> omega
      · rw [q2]; constructor <;> omega
      · have := G.w0 _ q2
        rw [q3]; constructor
        · have : 0 < v := this.1
          omega
        · have : v ≤ (t : Int) * 40960000 := this.2
          omega
    · rw [lack_grow]
      have hcr' : crosses ws S c = true := hcr
      have hl := first_none hf hc hcr'
      by_cases q : 0 < spd ws S R c
      · obtain ⟨f1, _⟩ := G.cand_eq ht R q
        have hle := hxl _ (List.mem_map_of_mem (f := cand ws S R) (mem_canW.mpr ⟨hc, hcr', q⟩))
        have := Int.mul_le_mul_of_nonneg_right hle (show (0 : Int) ≤ (spd ws S R c : Int) by omega)
        omega
      · have : spd ws S R c = 0 := by omega
        rw [this]
        show 0 ≤ lack ws S c - x * 0
        omega
    · show S.dep p + (if S.h p ∈ R then x else 0) = wsum p (R.foldl (fun w r => addW w (cls S.h n r) x) S.wid)
      rw [wsum_grow, G.sum p hp]
      congr 1
      have e : R.map (fun r => if p ∈ cls S.h n r then x else 0) = R.map (fun r => if r = S.h p then x else 0) := List.map_congr_left fun r hr => by
        by_cases z : S.h p = r
        · rw [if_pos ((hcls r hr p hp).mpr z), if_pos z.symm]
        · rw [if_neg (fun y => z ((hcls r hr p hp).mp y)), if_neg (fun y => z y.symm)]
      rw [e, sum_one x (S.h p) hnd]
    · rcases mem_grow hk hnd hRok with q | ⟨r, hr, q1, _⟩
      · exact G.key kw q
      · rw [q1]
        refine ⟨fun y hy => ⟨(mem_cls.mp hy).1, fun z hz => (mem_cls.mp hy).2.trans (mem_cls.mp hz).2.symm⟩, List.ne_nil_of_mem (mem_cls.mpr ⟨(hRok r hr).1, rfl⟩), cls_pw _ _ _⟩
  · cases e : first ws (Mw.grow n S R x) with
    | some c => exact ⟨c, rfl⟩
    | none =>
      have := first_none e k1 k2
      rw [lack_grow, e1] at this
      omega
/-- a whole turn -/
theorem GM.turn {n t : Nat} {ws : Wl} {ps : List (Nat × Nat)} {S : Gs} (W : WsOk n ws) (J : ∀ q ∈ ps, Cn (wedges ws) q.1 q.2) (G : GM n ws t S) (hn : (reps S.h n).length + t ≤ n) (hf : first ws S = none) (hR : opens n ps S.h ≠ []) :
    t < 12 ∧ GM n ws (t + 1) (turn n ws ps S) ∧ first ws (turn n ws ps S) = none ∧ (reps (turn n ws ps S).h n).length + (t + 1) ≤ n := by
  obtain ⟨r0, hr0⟩ := List.exists_mem_of_ne_nil _ hR
  have hpos : 0 < (reps S.h n).length := List.length_pos_of_mem (mem_reps'.mpr (mem_opens.mp hr0).1)
  have n12 := W.n12
  have ht : t < 12 := by omega
  obtain ⟨_, _, _, _, G2, c, hc⟩ := G.grow W J ht hf hR
  obtain ⟨h1, h2, _, h4⟩ := GM.takeAll W (k := n) G2 (by show (reps S.h n).length ≤ n; omega)
  have h5 := h4 c hc
  have h6 : (reps S.h n).length = (reps (Mw.grow n S (opens n ps S.h) (span ws S (opens n ps S.h))).h n).length := rfl
  refine ⟨ht, h1, h2, ?_⟩
  unfold Mw.turn
  omega
end Mw

set_option Elab.async false
set_option linter.all false
set_option maxRecDepth 100000
set_option maxHeartbeats 4000000
namespace Mw
open PySem PySem.Spec PyProof.Rows L2 GE
/-! ### fractions -/
def FrV (K : PySem.W.Frag) (H : Hp) (u : Int) (v : V) : Prop := ∃ a, v = .ref a ∧ SqT K H a [.int (frX u), .int (frY u)]
theorem SqT.x {K : PySem.W.Frag} {T : List Addr} {M : Addr → Prop} {H H' : Hp} {a : Addr} {xs : List V} (h : SqT K H a xs) (e : Ext T M H H') (m : ¬ M a) : SqT K H' a xs := by
  rcases h with (h | ⟨o, h⟩) | h
  · exact .inl (.inl (e.tup m h))
  · exact .inl (.inr ⟨o, e.kp _ _ m h fun ps z => by cases z⟩)
  · exact .inr h
theorem FrV.x {K : PySem.W.Frag} {T : List Addr} {H H' : Hp} {u : Int} {v : V} (h : FrV K H u v) (e : Ext T noM H H') : FrV K H' u v := by
  obtain ⟨a, rfl, h⟩ := h
  exact ⟨a, rfl, SqT.x h e fun z => z⟩
abbrev bd (u : Int) : Prop := -1099511627776 ≤ u ∧ u ≤ 1099511627776
def spRatio (K : PySem.W.Frag) (T : List Addr) : Sp := fun vs H Q _ => ∃ (t b u : Int), vs = [.int t, .int b] ∧ 0 < b ∧ b < 1073741824 ∧ t * 4096 = u * b ∧ ∀ v H', FrV K H' u v → Ext T noM H H' → Q v H'
def spPlus (K : PySem.W.Frag) (T : List Addr) : Sp := fun vs H Q _ => ∃ (x y : V) (u v : Int), vs = [x, y] ∧ FrV K H u x ∧ FrV K H v y ∧ bd u ∧ bd v ∧ ∀ z H', FrV K H' (u + v) z → Ext T noM H H' → Q z H'
def spMinus (K : PySem.W.Frag) (T : List Addr) : Sp := fun vs H Q _ => ∃ (x y : V) (u v : Int), vs = [x, y] ∧ FrV K H u x ∧ FrV K H v y ∧ bd u ∧ bd v ∧ ∀ z H', FrV K H' (u - v) z → Ext T noM H H' → Q z H'
def spLess (K : PySem.W.Frag) (T : List Addr) : Sp := fun vs H Q _ => ∃ (x y : V) (u v : Int), vs = [x, y] ∧ FrV K H u x ∧ FrV K H v y ∧ bd u ∧ bd v ∧ ∀ H', Ext T noM H H' → Q (.bl (decide (u < v))) H'
theorem mulc {u y : Int} (h : bd u) : -(2 ^ 64) < frX u ∧ frX u < 2 ^ 64 := by
  have := frX_bd (u := u) (b := 1099511627776) h.1 h.2
  omega
theorem muly (u : Int) : -(2 ^ 64) < frY u ∧ frY u < 2 ^ 64 := by
  have h1 := frY_pos u
  have h2 := frY_le u
  omega
theorem yy (u v : Int) : 0 < frY u * frY v ∧ frY u * frY v < 1073741824 := by
  have h1 := frY_pos u
  have h2 := frY_le u
  have h3 := frY_pos v
  have h4 := frY_le v
  refine ⟨Int.mul_pos h1 h3, ?_⟩
  have := Int.mul_le_mul h2 h4 (Int.le_of_lt h3) (by decide)
  omega
section
variable {P : Program} {w : World} {K : PySem.W.Frag} {mg : Str → Option Value} {base : Heap} {T : List Addr}
theorem ok_ratio {f : Addr} {fd : FuncData} (F : Fun K "ratio" "ratio" sratio f fd) (m_gcd : mg "gcd" = some (.builtin "math.gcd")) : FnOk P w K mg base CX0 1 f fd ["top", "bottom"] (spRatio K T) := by
  refine F.ok scratio (fun vs H Q E h => ?_) (fun cdv A outer s H vs Q E hr h => ?_)
  · obtain ⟨t, b, u, rfl, b0, b1, hu, k⟩ := h
    rfl
  · obtain ⟨t, b, u, rfl, b0, b1, hu, k⟩ := h
    refine ⟨_, (pss_cons (ps_set (i := 2) scratio.nd rfl (Or.inl rfl) (pe_callBfun cr_gcd (by rfl) m_gcd (pa_cons (pv 0) (pa_cons (pv 1) pa_nil))))
      (pss_one (ps_ret (pe_tup (pa_cons (pe_op op_fdivN (pv 0) (pv 2)) (pa_cons (pe_op op_fdivN (pv 1) (pv 2)) pa_nil)))))), ?_⟩
    have g0 : 0 < Nat.gcd t.natAbs b.natAbs := Nat.gcd_pos_of_pos_right _ (by omega)
    have g1 : Nat.gcd t.natAbs b.natAbs ≤ b.natAbs := Nat.le_of_dvd (by omega) (Nat.gcd_dvd_right _ _)
    obtain ⟨f1, f2⟩ := fr_red b0 hu
    refine ⟨_, rfl, _, rfl, t, b, rfl, ?_⟩
    refine ⟨_, rfl, _, rfl, _, _, rfl, rfl, ⟨by omega, by omega⟩, _, rfl, _, rfl, _, _, rfl, rfl, ⟨by omega, by omega⟩, by show 2 ≤ sizeLine; decide, fun a ha => k _ _ ⟨a, rfl, SqT.of ?_⟩ (Ext.new ha)⟩
    rw [upd_same]
    dsimp only
    rw [Int.fdiv_eq_ediv_of_nonneg _ (by omega), Int.fdiv_eq_ediv_of_nonneg _ (by omega), f1, f2]
theorem ok_plus {f : Addr} {fd : FuncData} (F : Fun K "plus" "plus" splus f fd) {fratio : Addr} {fdratio : FuncData} (Fratio : Fun K "ratio" "ratio" sratio fratio fdratio) (Gratio : FnOk P w K mg base CX0 1 fratio fdratio ["top", "bottom"] (spRatio K T)) (bratio : Binds K fdratio ["top", "bottom"] []) (gratio : mg "ratio" = some (.ref fratio)) : FnOk P w K mg base CX0 2 f fd ["first", "second"] (spPlus K T) := by
  refine F.ok scplus (fun vs H Q E h => ?_) (fun cdv A outer s H vs Q E hr h => ?_)
  · obtain ⟨x, y, u, v, rfl, hx, hy, bu, bv, k⟩ := h
    rfl
  · obtain ⟨x, y, u, v, rfl, hx, hy, bu, bv, k⟩ := h
    refine ⟨_, (pss_one (ps_ret (pe_call Gratio hr (by rfl) gratio Fratio.kp bratio .nil pass0 (pa_cons (pe_op op_add (pe_op op_mul (pe_ix ix_tup (pv 0) pe_int (fun _ _ => rfl)) (pe_ix ix_tup (pv 1) pe_int (fun _ _ => rfl))) (pe_op op_mul (pe_ix ix_tup (pv 1) pe_int (fun _ _ => rfl)) (pe_ix ix_tup (pv 0) pe_int (fun _ _ => rfl)))) (pa_cons (pe_op op_mul (pe_ix ix_tup (pv 0) pe_int (fun _ _ => rfl)) (pe_ix ix_tup (pv 1) pe_int (fun _ _ => rfl))) pa_nil))))), ?_⟩
    obtain ⟨a, rfl, ha⟩ := hx
    obtain ⟨b, rfl, hb⟩ := hy
    obtain ⟨y1, y2⟩ := yy u v
    refine ⟨_, rfl, a, _, _, _, rfl, rfl, ha, at_of (j := 0) rfl rfl, _, rfl, b, _, _, _, rfl, rfl, hb, at_of (j := 1) rfl rfl, _, _, rfl, rfl, .inl (mulc (y := 0) bu), _, rfl, b, _, _, _, rfl, rfl, hb, at_of (j := 0) rfl rfl, _, rfl, a, _, _, _, rfl, rfl, ha, at_of (j := 1) rfl rfl, _, _, rfl, rfl, .inl (mulc (y := 0) bv), ?_⟩
    
    exact ⟨_, _, rfl, rfl, _, rfl, a, _, _, _, rfl, rfl, ha, at_of (j := 1) rfl rfl, _, rfl, b, _, _, _, rfl, rfl, hb, at_of (j := 1) rfl rfl, _, _, rfl, rfl, .inl (muly u), _, _, u + v, rfl, y1, y2, fr_plus u v, fun z H' hz e => k z H' hz e⟩
theorem ok_minus {f : Addr} {fd : FuncData} (F : Fun K "minus" "minus" sminus f fd) {fratio : Addr} {fdratio : FuncData} (Fratio : Fun K "ratio" "ratio" sratio fratio fdratio) (Gratio : FnOk P w K mg base CX0 1 fratio fdratio ["top", "bottom"] (spRatio K T)) (bratio : Binds K fdratio ["top", "bottom"] []) (gratio : mg "ratio" = some (.ref fratio)) : FnOk P w K mg base CX0 2 f fd ["first", "second"] (spMinus K T) := by
  refine F.ok scminus (fun vs H Q E h => ?_) (fun cdv A outer s H vs Q E hr h => ?_)
  · obtain ⟨x, y, u, v, rfl, hx, hy, bu, bv, k⟩ := h
    rfl
  · obtain ⟨x, y, u, v, rfl, hx, hy, bu, bv, k⟩ := h
    refine ⟨_, (pss_one (ps_ret (pe_call Gratio hr (by rfl) gratio Fratio.kp bratio .nil pass0 (pa_cons (pe_op op_sub (pe_op op_mul (pe_ix ix_tup (pv 0) pe_int (fun _ _ => rfl)) (pe_ix ix_tup (pv 1) pe_int (fun _ _ => rfl))) (pe_op op_mul (pe_ix ix_tup (pv 1) pe_int (fun _ _ => rfl)) (pe_ix ix_tup (pv 0) pe_int (fun _ _ => rfl)))) (pa_cons (pe_op op_mul (pe_ix ix_tup (pv 0) pe_int (fun _ _ => rfl)) (pe_ix ix_tup (pv 1) pe_int (fun _ _ => rfl))) pa_nil))))), ?_⟩
    obtain ⟨a, rfl, ha⟩ := hx
    obtain ⟨b, rfl, hb⟩ := hy
    obtain ⟨y1, y2⟩ := yy u v
    refine ⟨_, rfl, a, _, _, _, rfl, rfl, ha, at_of (j := 0) rfl rfl, _, rfl, b, _, _, _, rfl, rfl, hb, at_of (j := 1) rfl rfl, _, _, rfl, rfl, .inl (mulc (y := 0) bu), _, rfl, b, _, _, _, rfl, rfl, hb, at_of (j := 0) rfl rfl, _, rfl, a, _, _, _, rfl, rfl, ha, at_of (j := 1) rfl rfl, _, _, rfl, rfl, .inl (mulc (y := 0) bv), ?_⟩
    
    exact ⟨_, _, rfl, rfl, _, rfl, a, _, _, _, rfl, rfl, ha, at_of (j := 1) rfl rfl, _, rfl, b, _, _, _, rfl, rfl, hb, at_of (j := 1) rfl rfl, _, _, rfl, rfl, .inl (muly u), _, _, u - v, rfl, y1, y2, fr_minus u v, fun z H' hz e => k z H' hz e⟩
theorem ok_less {f : Addr} {fd : FuncData} (F : Fun K "less" "less" sless f fd) : FnOk P w K mg base CX0 1 f fd ["first", "second"] (spLess K T) := by
  refine F.ok scless (fun vs H Q E h => ?_) (fun cdv A outer s H vs Q E hr h => ?_)
  · obtain ⟨x, y, u, v, rfl, hx, hy, bu, bv, k⟩ := h
    rfl
  · obtain ⟨x, y, u, v, rfl, hx, hy, bu, bv, k⟩ := h
    refine ⟨_, (pss_one (ps_ret (pe_cmpR op_lt (pe_op op_mul (pe_ix ix_tup (pv 0) pe_int (fun _ _ => rfl)) (pe_ix ix_tup (pv 1) pe_int (fun _ _ => rfl))) (pe_op op_mul (pe_ix ix_tup (pv 1) pe_int (fun _ _ => rfl)) (pe_ix ix_tup (pv 0) pe_int (fun _ _ => rfl))) (nomark _)))), ?_⟩
    obtain ⟨a, rfl, ha⟩ := hx
    obtain ⟨b, rfl, hb⟩ := hy
    obtain ⟨y1, y2⟩ := yy u v
    refine ⟨_, rfl, a, _, _, _, rfl, rfl, ha, at_of (j := 0) rfl rfl, _, rfl, b, _, _, _, rfl, rfl, hb, at_of (j := 1) rfl rfl, _, _, rfl, rfl, .inl (mulc (y := 0) bu), _, rfl, b, _, _, _, rfl, rfl, hb, at_of (j := 0) rfl rfl, _, rfl, a, _, _, _, rfl, rfl, ha, at_of (j := 1) rfl rfl, _, _, rfl, rfl, .inl (mulc (y := 0) bv), ?_⟩
    
    have hk := k H (Ext.refl _ _ _)
    rw [show decide (u < v) = decide (frX u * frY v < frX v * frY u) from by rw [decide_eq_decide]; exact (fr_less u v).symm] at hk
    exact ⟨_, _, rfl, rfl, hk⟩
end
end Mw

set_option Elab.async false
set_option linter.all false
set_option maxRecDepth 100000
set_option maxHeartbeats 2000000
/-! enumerate over a tuple; x in a tuple of data -/
namespace GE
open PySem PySem.Spec PyProof.Rows L2
theorem enum_newB {v : Value} {o : Obj} {B0 : Heap → Prop} (B : Begins v o B0) :
    Meets (Builtin.«enumerate.__new__» ⟨[.type "enumerate", v], []⟩) (fun _ R s => B0 s.heap ∧
      R (.ok (.ret (.ref (s.heap.push o).objs.size))) { s with heap := (s.heap.push o).push { cls := .type "enumerate", data := .fields #[.none, .bool false, .ref s.heap.objs.size, rawInt 0, .none, .none] } }) :=
  .of_wp fun prog w A R s ⟨h1, h⟩ => by
    obtain ⟨hp, gn, dr, tk, os⟩ := s
    have hsub := sub_enumerate
    have go : ∀ {A' : Around} {E' : Value → Shared → Prop} {Q' : Value → Shared → Prop}, Q' (.ref hp.objs.size) ⟨hp.push o, gn, dr, tk, os⟩ → wpAny (model prog w) A' (pyIter v) Q' E' ⟨hp, gn, dr, tk, os⟩ := fun q => B.iter _ _ _ _ _ _ h1 q
    wp_walk using go
    refine wpAny_stack_any fun _ => wpAny_pure ?_
    split
    · rename_i cc _ _ _ _ _
      by_cases hcc : (cc == Value.type "enumerate") = true
      · rw [hcc]
        wp_walk using go
        exact ⟨_, rfl, h⟩
      · rw [Bool.eq_false_iff.mpr hcc]
        wp_walk using go
        exact ⟨_, rfl, h⟩
    · wp_walk using go
      exact ⟨_, rfl, h⟩
theorem enum_call {prog : Program} {w : World} {A : Around} {E : Value → Shared → Prop} {s : Shared} {v : Value} {o : Obj} {B0 : Heap → Prop} {Q : Value → Shared → Prop} (B : Begins v o B0) (h1 : B0 s.heap)
    (h : ∀ h', IsEnum h' (s.heap.objs.size + 1) s.heap.objs.size 0 .none → h'.get? s.heap.objs.size = some o → (∀ b u, s.heap.get? b = some u → h'.get? b = some u) → Q (.ref (s.heap.objs.size + 1)) { s with heap := h' }) :
    wpAny (model prog w) A (call (.type "enumerate") [v]) Q E s := by
  refine callType_new F.called_enumerate (by decide) (F.typeCall_enumerate_1 _) (F.newCall_enumerate_1 _) (fun obj => F.args_object_init_2 obj _) F.entry_enumerate_new (enum_newB B) ⟨h1, ?_⟩
  have hz : (s.heap.push o).objs.size = s.heap.objs.size + 1 := Heap.size_push ..
  have he : IsEnum ((s.heap.push o).push { cls := .type "enumerate", data := .fields #[.none, .bool false, .ref s.heap.objs.size, rawInt 0, .none, .none] }) (s.heap.objs.size + 1) s.heap.objs.size 0 .none := by
    rw [← hz]; exact Heap.get?_push_size _ rfl
  show _ ∧ _
  rw [hz]
  exact ⟨⟨_, he, rfl⟩, h _ he (Heap.get?_push_of_some _ (Heap.get?_push_size _ B.free)) fun b u q => Heap.get?_push_of_some _ (Heap.get?_push_of_some _ q)⟩
theorem enum_endT {prog : Program} {w : World} {A : Around} {E : Value → Shared → Prop} {s : Shared} {e it a : Addr} {i : Nat} {items : Array Value} {old : Value} {Q : Option Value → Shared → Prop} (hh : A.handled = none) (he : IsEnum s.heap e it i old) (hit : s.heap.IsTupleIter it a i)
    (hT : s.heap.IsTuple a items) (hx : items[i]? = none) (hQ : ∀ h', Heap.ExtBut it s.heap h' → Q none { s with heap := h' }) : wpAny (model prog w) A (pyNext (.ref e)) Q E s := by
  have ty : s.TypeIs (.ref e) "enumerate" := ⟨_, he, rfl⟩
  unfold pyNext
  refine wpAny_bind (wpAny_attempt (wpAny_callSpecial?_slot (name := Str.ofString "__next__") ty F.slot_enumerate_next (wpAny_call_entry F.slot_enumerate_next ty F.entry_enumerate_next ?_ (F.args_enumerate_next_1 _))))
  show wpAny _ _ (field (.ref e) 2 >>= _) _ _ s
  refine wpAny_bind (wpAny_field he rfl (x := .ref it) rfl ?_)
  refine wpAny_bind (wpAny_nextOf_tuple_end hh hit hT hx fun h' x eb ⟨o, ho, hc⟩ => ?_)
  exact wpAny_bind (wpAny_isInstance (T := "StopIteration") (b := true) ⟨o, ho, hc⟩ isSubtype_stop (wpAny_pure (hQ _ eb)))
/-! ### enumerate(tuple) -/
def IteT (K : PySem.W.Frag) (a : Addr) : It :=
  ⟨fun i H => ∃ (xs : List V) (x : V), SqT K H a xs ∧ xs[i]? = some x, fun i H v H' => ∃ T x, v = .ref T ∧ H T = none ∧ H' = upd H T (.tup [.int (i : Nat), x]) ∧ ∀ xs, SqT K H a xs → xs[i]? = some x, fun i H => ∃ xs : List V, SqT K H a xs ∧ xs.length ≤ i⟩
theorem walk_enumT {K : PySem.W.Frag} {a : Addr} {xs : List V} : Walk (IteT K a) xs.length (fun H => SqT K H a xs) (YPair (fun i => some (.int (i : Nat))) (fun i => xs[i]?)) := by
  refine ⟨fun i _ hi q => ⟨xs, xs[i], q, List.getElem?_eq_getElem hi⟩, fun _ q => ⟨xs, q, Nat.le_refl _⟩, fun i H v H' _ q y => ?_⟩
  obtain ⟨T, x, h1, h2, h3, h4⟩ := y
  exact ⟨T, .int (i : Nat), x, h1, h2, h3, rfl, h4 xs q⟩
theorem turn_enumT {P : Program} {w : World} {K : PySem.W.Frag} {elts : List Expr} {kk : Nat} {tpos : Pos} (a e it : Addr) (items : Array Value) :
    Turn P w K (.Tuple elts kk tpos) (IteT K a) [e, it] e (fun i h => (∃ old, IsEnum h e it ((i : Nat) : Int) old) ∧ h.IsTupleIter it a i ∧ e ≠ it ∧ a ≠ it ∧ a ≠ e) where
  mem := by simp
  obj := fun i h st b hb => by
    obtain ⟨⟨old, he⟩, ⟨o, ho, hc, hd⟩, _⟩ := st
    have e' : b = e ∨ b = it := by simpa using hb
    rcases e' with z | z
    · rw [z]; exact ⟨_, he, fun v q => nomatch q⟩
    · rw [z]; exact ⟨o, ho, fun v q => by rw [hd] at q; cases q⟩
  keep := fun i h h' st k => let ⟨⟨old, he⟩, hi, hne⟩ := st; ⟨⟨old, k e (by simp) _ he⟩, hi.at fun o q => k it (by simp) o q, hne⟩
  item := by
    intro X hP hw hK hc i pins s σ H E I hf st hg
    subst hP hw hK
    obtain ⟨⟨old, he⟩, hit, hne, hai, hae⟩ := st
    obtain ⟨xs, x, hq, hx⟩ := hg
    obtain ⟨its, rv, p, hz⟩ := I.tuple hq
    obtain ⟨u, hu, ru⟩ := rv.get hx
    have hel : e < s.heap.objs.size := Heap.lt_size he
    have hil : it < s.heap.objs.size := by obtain ⟨_, q, _⟩ := hit; exact Heap.lt_size q
    have hT0 : s.heap.IsTuple a its.toArray := p
    have hlt : i < its.toArray.size := by
      have := (List.getElem?_eq_some_iff.mp hu).1
      simpa using this
    refine wpAny_pyNext_enum_itemD (Draws.tuple (A := X.A.in1) (I.ok.hd hc) it a hai its.toArray) he ⟨hit, hT0⟩ hlt hne (by simp [hne, Ne.symm hae]) fun y h' tk hy ho hst' hT hsz hk => ?_
    have ey : y = u := by
      have h2 : its.toArray[i]? = some u := by simpa using hu
      exact Option.some.inj (hy.symm.trans h2)
    subst ey
    refine ⟨_, rfl, wpAny_letOwnedTupleGo_enum (s := { s with heap := h', toks := tk + 1 }) ho fun h'' he' sb => ?_⟩
    have hT2 : h''.get? s.heap.objs.size = some { cls := .type "tuple", data := .seq #[.int i tk, y] } := (sb.2 _ (Nat.ne_of_gt hel)).trans hT
    have new : ObjOk X.prog X.w (upd H s.heap.objs.size (.tup [.int (i : Nat), x])) h'' s.heap.objs.size (.tup [.int (i : Nat), x]) :=
      ⟨by show 2 ≤ sizeLine; decide, [.int i tk, y], .cons ⟨_, rfl⟩ (.cons ru .nil), ⟨_, hT2, rfl, _, rfl⟩⟩
    have I1 : Inv X pins σ (upd H s.heap.objs.size (.tup [.int (i : Nat), x])) { s with heap := h'', toks := tk + 1 } :=
      I.turnedNew (ch := [e, it]) (fun b ob hb q => (sb.2 b (fun z => hb (by simp [z]))).trans (hk b ob (fun z => hb (by simp [z])) (fun z => hb (by simp [z])) q)) hf (Nat.le_refl _) new
    refine ⟨.ref s.heap.objs.size, _, I1, rfl, ⟨_, x, rfl, I.hok.fresh (Nat.le_refl _), rfl, fun ys hy' => ?_⟩, ⟨⟨y, ?_⟩, hst'.1.at fun o q => (sb.2 it (Ne.symm hne)).trans q, hne, hai, hae⟩, fun b hb => ?_⟩
    · rw [I.tuple_inj hy' hq]; exact hx
    · have e1 : ((i + 1 : Nat) : Int) = (i : Int) + 1 := by omega
      rw [e1]; exact he'
    · have hb' : b < s.heap.objs.size := by
        have e' : b = e ∨ b = it := by simpa using hb
        rcases e' with z | z
        · rw [z]; exact hel
        · rw [z]; exact hil
      rw [upd_ne (Nat.ne_of_lt hb')]
      exact (hf b hb).1
  done := by
    intro X hP hw hK hc i pins s σ H E I hf st hg
    subst hP hw hK
    obtain ⟨⟨old, he⟩, hit, hne, hai, hae⟩ := st
    obtain ⟨xs, hq, hx⟩ := hg
    obtain ⟨its, rv, p, hz⟩ := I.tuple hq
    obtain ⟨f0, f1, f2, f3, f4, f5⟩ := hf it (by simp)
    have hl := rv.length
    refine enum_endT (I.ok.hd hc) he hit p (by simp; omega) fun h' eb => ⟨rfl, I.turned (t' := s.toks) (fun b o hb q => eb b o hb q) f0 f1 f3 f4 f5⟩
  self := fun A i s Q E st h => let ⟨⟨_, he⟩, _⟩ := st; wpAny_pyIter_enum he h
def iEnumT (K : PySem.W.Frag) (ta : TA) : TI := fun σ H R => ta σ H fun vs H1 => ∃ a xs, vs = [.ref a] ∧ SqT K H1 a xs ∧ R (IteT K a) H1
theorem pi_enumT {X : Cx} {e : Expr} {ta : TA} {p pos tpos : Pos} {elts : List Expr} {kk : Nat} (hg : Gl X "enumerate") (hm : X.mg "enumerate" = none) (ha : PA X [e] ta) (hs : starEach [e] X.env = [(false, eval e X.env)] := by rfl) :
    PI X (.Tuple elts kk tpos) (.Call (.Name "enumerate" p) [e] [] pos) (iEnumT X.K ta) := by
  refine ⟨fun pins s σ H R I h => ?_⟩
  refine Call_ (ld_blt I hg hm boot_enumerate (PyProof.Rows.callWith_type1 (thn (ha.run pos pins s σ H _ I h) fun us s1 ⟨vs, H1, I1, r1, q1⟩ => ?_) hs rfl))
  obtain ⟨a, xs, ex, hq, q⟩ := q1
  subst ex
  cases r1 with
  | cons r rr =>
    cases rr
    cases r
    obtain ⟨its, rv, p', hz⟩ := I1.tuple hq
    have hT0 : s1.heap.IsTuple a its.toArray := p'
    have hal : a < s1.heap.objs.size := by obtain ⟨_, q0, _⟩ := hT0; exact Heap.lt_size q0
    refine enum_call (begins_tuple a its.toArray) hT0 fun h' he hit hk => wpAny_pyIter_enum he ?_
    have I2 : Inv X pins σ H1 { s1 with heap := h' } := I1.kept (t' := s1.toks) hk
    refine ⟨s1.heap.objs.size + 1, [s1.heap.objs.size + 1, s1.heap.objs.size], _, _, H1, rfl, I2, turn_enumT a (s1.heap.objs.size + 1) s1.heap.objs.size its.toArray, ⟨⟨.none, he⟩, ⟨_, hit, rfl, rfl⟩, Nat.succ_ne_self _, Nat.ne_of_lt hal, Nat.ne_of_lt (Nat.lt_succ_of_lt hal)⟩, fun b hb => ?_, q⟩
    have e' : b = s1.heap.objs.size + 1 ∨ b = s1.heap.objs.size := by simpa using hb
    have hle : s1.heap.objs.size ≤ b := by
      rcases e' with z | z
      · rw [z]; exact Nat.le_add_right _ _
      · rw [z]; exact Nat.le_refl _
    exact I1.fpOk hle (I1.hok.fresh hle)
end GE

set_option Elab.async false
set_option linter.all false
set_option maxRecDepth 100000
set_option maxHeartbeats 2000000
/-! sorted: tuples of ints of any length; x in a tuple of data -/
namespace GE
open PySem PySem.Spec PyProof.Rows L2
/-- as Python orders lists of ints -/
def lexL : List Int → List Int → Bool
  | [], [] => false
  | [], _ :: _ => true
  | _ :: _, [] => false
  | x :: xs, y :: ys => if x = y then lexL xs ys else decide (x < y)
theorem lexL_asym : ∀ x y : List Int, lexL x y = true → lexL y x = false
  | [], [], h => by cases h
  | [], _ :: _, _ => rfl
  | _ :: _, [], h => by cases h
  | x :: xs, y :: ys, h => by
    unfold lexL at h ⊢
    by_cases e : x = y
    · rw [if_pos e] at h; rw [if_pos e.symm]; exact lexL_asym xs ys h
    · rw [if_neg e] at h; rw [if_neg (fun z => e z.symm)]
      have := of_decide_eq_true h
      exact decide_eq_false (by omega)
theorem lexL_tr : ∀ x y z : List Int, lexL y x = false → lexL z y = false → lexL z x = false
  | [], y, [], _, _ => rfl
  | [], [], _ :: _, _, h => rfl
  | [], _ :: _, _ :: _, _, _ => rfl
  | _ :: _, [], [], h, _ => by cases h
  | _ :: _, _ :: _, [], _, h => by cases h
  | _ :: _, [], _ :: _, h, _ => by cases h
  | x :: xs, y :: ys, z :: zs, h1, h2 => by
    unfold lexL at h1 h2 ⊢
    by_cases e1 : y = x
    · by_cases e2 : z = y
      · rw [if_pos e1] at h1; rw [if_pos e2] at h2; rw [if_pos (e2.trans e1)]; exact lexL_tr xs ys zs h1 h2
      · rw [if_neg e2] at h2; rw [if_neg (fun q => e2 (q.trans e1.symm))]
        have := of_decide_eq_false h2
        exact decide_eq_false (by omega)
    · rw [if_neg e1] at h1
      have a := of_decide_eq_false h1
      by_cases e2 : z = y
      · rw [if_neg (fun q => e1 (e2.symm.trans q))]; exact decide_eq_false (by omega)
      · rw [if_neg e2] at h2
        have b := of_decide_eq_false h2
        rw [if_neg (by omega)]
        exact decide_eq_false (by omega)
theorem lexL_total : ∀ x y : List Int, lexL x y = false → lexL y x = false → x = y
  | [], [], _, _ => rfl
  | [], _ :: _, h, _ => by cases h
  | _ :: _, [], _, h => by cases h
  | x :: xs, y :: ys, h1, h2 => by
    unfold lexL at h1 h2
    by_cases e : x = y
    · subst e
      rw [if_pos rfl] at h1 h2
      rw [lexL_total xs ys h1 h2]
    · rw [if_neg e] at h1; rw [if_neg (fun z => e z.symm)] at h2
      have a := of_decide_eq_false h1
      have b := of_decide_eq_false h2
      omega
theorem lexL_swo {α : Type} (k : α → List Int) : SrtO.Swo fun v u => lexL (k v) (k u) := ⟨fun x y => lexL_asym _ _, fun x y z h1 h2 => lexL_tr _ _ _ h1 h2⟩
section
variable {prog : Program} {w : World} {A : Around} {E : Value → Shared → Prop} {s : Shared}
theorem kat_lex {Q : Bool → Shared → Prop} {b fin : Bool} {xs ys : List Value} {ns ms : List Int} (i : Nat) (hx : IntsAre xs ns) (hy : IntsAre ys ms) (hf : fin = decide (ns.length < ms.length)) (h : Q (lexL ns ms) s) :
    PySem.W.KatLex prog w A b fin Q (xs.zip ys) i s := by
  induction hx generalizing ys ms i with
  | nil =>
    cases hy with
    | nil => exact PySem.W.kat_nil (by rw [hf]; exact h)
    | cons q u hy => exact PySem.W.kat_nil (by rw [hf, decide_eq_true (by simp)]; exact h)
  | @cons p t xs ns hx ih =>
    cases hy with
    | nil => exact PySem.W.kat_nil (by rw [hf, decide_eq_false (by simp)]; exact h)
    | @cons q u ys ms hy =>
      refine PySem.W.kat_cons (SeqAt.EqAt.int_int p t q u prog w _ _ ?_)
      refine PySem.W.kat_go (fun e1 => ?_) (fun e1 => ?_)
      · have ex : p = q := by simpa using e1
        have e3 : lexL (p :: ns) (q :: ms) = lexL ns ms := if_pos ex
        rw [e3] at h
        exact PySem.W.kat_yes (ih (i + 1) hy (by rw [hf]; simp) h)
      · have ex : ¬ p = q := by simpa using e1
        have e3 : lexL (p :: ns) (q :: ms) = decide (p < q) := if_neg ex
        rw [e3] at h
        exact PySem.W.kat_no (TS.oneLt_ints _ h)
theorem tups_cmp {vs : List Value} {k : Value → List Int} (hp : ∀ v ∈ vs, TS.TupInts s.heap v (k v)) : SrtO.Cmp prog w A s (tuples' true) (fun p => p.1 ∈ vs) (SrtO.lt2 fun v u => lexL (k v) (k u)) := by
  intro p q hm hm'
  obtain ⟨a, xs, e, ⟨o, ho, hc, n, hd⟩, hx⟩ := hp _ hm
  obtain ⟨a', ys, e', ⟨o', ho', hc', n', hd'⟩, hy⟩ := hp _ hm'
  show wpAny (model prog w) A (keyLt' (tuples' true) p.1 q.1) (fun r s' => s' = s ∧ r = lexL (k p.1) (k q.1)) (fun _ _ => False) s
  rw [show keyLt' (tuples' true) p.1 q.1 = keyLt' (tuples' true) (.ref a) (.ref a') from by rw [e, e']]
  refine PySem.W.kat_lt ho hd ho' hd' (kat_lex 0 hx hy ?_ ⟨rfl, rfl⟩)
  have l1 := hx.length
  have l2 := hy.length
  rw [Array.length_toList] at l1 l2
  rw [l1, l2]
theorem tups_firsts {h : Heap} {k : Value → List Int} : ∀ vs : List Value, (∀ v ∈ vs, TS.TupInts h v (k v) ∧ k v ≠ []) → ∃ fs, PySem.W.KatTups h vs fs ∧ fs.length = vs.length ∧ ∀ f ∈ fs, ∃ n t, f = Value.int n t
  | [], _ => ⟨[], PySem.W.KatTups.nil, rfl, fun f hf => by simp at hf⟩
  | v :: vs, x => by
    obtain ⟨fs, kt, hl, hi⟩ := tups_firsts (h := h) (k := k) vs fun u hu => x u (List.mem_cons_of_mem _ hu)
    obtain ⟨⟨a, xs, rfl, ⟨o, ho, hc, n, hdt⟩, i⟩, hne⟩ := x v List.mem_cons_self
    obtain ⟨y, ys, e⟩ : ∃ y ys, xs.toList = y :: ys := by
      cases q : xs.toList with
      | nil =>
        rw [q] at i
        have l := i.length
        exact absurd (List.eq_nil_of_length_eq_zero l.symm) hne
      | cons y ys => exact ⟨y, ys, rfl⟩
    obtain ⟨m, t, hy⟩ := i.all y (by rw [e]; exact List.mem_cons_self)
    refine ⟨y :: fs, PySem.W.KatTups.cons ho hc hdt ?_ kt, by rw [List.length_cons, List.length_cons, hl], fun f hf => ?_⟩
    · have z := congrArg (fun l : List Value => l[0]?) e
      simpa using z
    · rcases List.mem_cons.mp hf with q | q
      · exact ⟨m, t, q.trans hy⟩
      · exact hi f q
theorem tups_sortable {a : Addr} {vs : List Value} {k : Value → List Int} (h2 : 2 ≤ vs.length) (hp : ∀ v ∈ vs, TS.TupInts s.heap v (k v) ∧ k v ≠ []) (ha : ∀ o, s.heap.get? a = some o → o.cls ≠ .type "tuple") : SrtO.SortableO prog w A s a vs fun v u => lexL (k v) (k u) := by
  intro h' keep
  have hp' : ∀ v ∈ vs, TS.TupInts h' v (k v) ∧ k v ≠ [] := fun v hm => ⟨(hp v hm).1.keeps fun b o e c => keep b o (fun z => by subst z; exact ha o e c) e, (hp v hm).2⟩
  obtain ⟨fs, k1, k2, k3⟩ := tups_firsts vs hp'
  refine ⟨tuples' true, fun Q E hq => ?_, tups_cmp fun v hv => (hp' v hv).1⟩
  refine PySem.W.kat_kind (T := .type "int") k1 (by omega) (fun f hm => ?_) (by rfl) ?_
  · obtain ⟨x, t, rfl⟩ := k3 f hm
    exact PySem.W.Looks.now
  · have e : (Value.type "int" != Value.type "tuple") = true := by first | decide +kernel | rfl | decide
    rw [e]
    exact hq
end
/-- sorted(xs), xs a list of tuples of ints, none empty: a new list of the same, in Python's order -/
def rSortL (K : PySem.W.Frag) : List V → Hp → VK → Prop := fun vs H Q => ∃ (a : Addr) (xs : List V) (k : V → List Int), vs = [V.ref a] ∧ SqL K H a xs ∧ (∀ x ∈ xs, ∃ t, x = V.ref t ∧ SqT K H t ((k x).map V.int) ∧ k x ≠ []) ∧
  ∀ ys p, ys.Perm xs → SrtO.Srtd (fun x y => lexL (k x) (k y)) ys → H p = none → Q (.ref p) (upd H p (.lst ys))
section
variable {X : Cx}
theorem cr_sortL : CallR X (.builtin "sorted") (rSortL X.K) := by
  intro pins s σ H vs us Q I r h
  obtain ⟨a, xs, k, rfl, hs, hx, q⟩ := h
  obtain ⟨its, rv, hl, hz⟩ := I.list hs
  obtain ⟨u, rfl, ru⟩ := vals1 r
  obtain rfl : u = Value.ref a := ru
  obtain ⟨e1, e2⟩ := refs_back rv fun x m => by
    obtain ⟨t, e, _⟩ := hx x m
    exact ⟨t, e⟩
  have hp : ∀ v ∈ its, TS.TupInts s.heap v (k (backV v)) ∧ k (backV v) ≠ [] := fun v hv => by
    obtain ⟨t, rfl⟩ := e2 v hv
    have hm : V.ref t ∈ xs := by rw [e1]; exact List.mem_map.mpr ⟨_, hv, rfl⟩
    obtain ⟨t', e, ht, hne⟩ := hx _ hm
    cases e
    exact ⟨tupI_raw I ht, hne⟩
  refine SrtO.sorted_ord (lexL_swo fun u => k (backV u)) hl.isList (by rw [← rv.length]; exact hz) (fun h2 h₁ b hb kk => ?_) fun out h1 h2 => ?_
  · refine tups_sortable (s := { s with heap := h₁ }) (by omega) (fun v hm => ⟨(hp v hm).1.keeps fun c o e _ => (kk c o e).2, (hp v hm).2⟩) fun o e => ?_
    have e' : some o = some (seqObj "list" its.toArray 0) := e.symm.trans hb
    cases e'
    intro c
    exact absurd (Value.type.inj c) (by decide)
  · have kp : ∀ b o, s.heap.get? b = some o → (PyProof.Rows.sortedAll s.heap its out.toArray).get? b = some o := fun b o e => PyProof.Rows.sortedAll_old e
    have hd : s.heap.objs.size ≤ s.heap.objs.size + 1 := Nat.le_succ _
    obtain ⟨n, hn⟩ := PyProof.Rows.sortedAll_at s.heap its out.toArray
    have h3 : ∀ u ∈ out, ∃ a, u = Value.ref a := fun u hu => e2 u (h2.perm.mem_iff.mp hu)
    have hb : SrtO.Stb (fun x y => lexL (k x) (k y)) (out.map backV) xs := by
      rw [e1]
      exact SrtO.Stb.map (lexL_swo k) backV h2
    refine ⟨.ref (s.heap.objs.size + 1), upd H (s.heap.objs.size + 1) (.lst (out.map backV)), I.laid (t' := s.toks) kp hd ⟨?_, out, n, vals_back h3, hn⟩, rfl, q _ _ hb.perm (SrtO.srtd_map h1) (I.hok.fresh hd)⟩
    rw [hb.len]
    exact hz
/-! ### x in a tuple of data -/
def rInDT (K : PySem.W.Frag) (neg : Bool) : R2 := fun x y H Q => ∃ d ds, Dp K H x d ∧ Dp K H y (.tuple ds) ∧ SeqAt.shaped d = true ∧ SeqAt.shaped (.tuple ds) = true ∧ Q (.bl (if neg then !(ds.any fun z => PyData.eqv z d) else ds.any fun z => PyData.eqv z d)) H
theorem op_inDT (hu : X.A.units + 65 < cLine) : OpR X (compareOp .In) (rInDT X.K false) := by
  intro pins s σ H x y v u Q I rx ry h
  obtain ⟨d, ds, hd, he, sd, se, q⟩ := h
  obtain ⟨as, r1⟩ := Dp.reads I d x v hd rx
  obtain ⟨bs, r2⟩ := Dp.reads I (.tuple ds) y u he ry
  exact SeqAt.in_tuple_reads r2 r1 (SeqAt.canLay_of_shaped se) (SeqAt.canLay_of_shaped sd) (room_in_shaped sd hu) ⟨.bl _, H, I, rfl, q⟩
theorem op_notInDT (hu : X.A.units + 65 < cLine) : OpR X (compareOp .NotIn) (rInDT X.K true) := by
  intro pins s σ H x y v u Q I rx ry h
  obtain ⟨d, ds, hd, he, sd, se, q⟩ := h
  obtain ⟨as, r1⟩ := Dp.reads I d x v hd rx
  obtain ⟨bs, r2⟩ := Dp.reads I (.tuple ds) y u he ry
  exact SeqAt.notIn_tuple_reads r2 r1 (SeqAt.canLay_of_shaped se) (SeqAt.canLay_of_shaped sd) (room_in_shaped sd hu) ⟨.bl _, H, I, rfl, q⟩
end
end GE

set_option Elab.async false
set_option linter.all false
set_option maxRecDepth 100000
set_option maxHeartbeats 2000000
/-! sorted(tuple of ints) -/
namespace GE
open PySem PySem.Spec PyProof.Rows L2
section
variable {prog : Program} {w : World} {A : Around} {E : Value → Shared → Prop} {s : Shared}
theorem collect_tupV {l : Addr} {vs : List Value} {Q : List Value → Shared → Prop} (hl : s.heap.IsTuple l vs.toArray)
    (h : Q vs { s with heap := (s.heap.push (seqObj "list" #[] 0)).update s.heap.objs.size (Obj.mapSeq (· ++ vs.toArray)) }) (hsz : vs.length ≤ sizeLine) : wpAny (model prog w) A (collect (.ref l)) Q E s := by
  obtain ⟨o, ho, hc, n, hd⟩ := id hl
  have ho' : (s.heap.push (seqObj "list" #[] 0)).get? l = some o := Heap.get?_push_of_some _ ho
  have hn0 : (s.heap.push (seqObj "list" #[] 0)).get? s.heap.objs.size = some (seqObj "list" #[] 0) := Heap.get?_push_size _ rfl
  unfold collect
  refine wpAny_bind (wpAny_runValue (codeAny_builtin entry_proto_collect' ?_))
  show wpAny _ _ (do again (.builtin "list.__iadd__" ⟨[← newList [], .ref l], []⟩)) _ _ s
  refine wpAny_bind (wpAny_newList (wpAny_pure ⟨Code.quiet_builtin _ (by decide +kernel), codeAny_builtin entry_list_iadd' ?_⟩))
  show wpAny _ _ (Builtin.List.listExtendWith (.ref s.heap.objs.size) (.ref l) (.ref s.heap.objs.size)) _ _ { s with heap := s.heap.push (seqObj "list" #[] 0) }
  unfold Builtin.List.listExtendWith
  refine wpAny_bind (wpAny_typeOf (T := "tuple") ⟨o, ho', hc⟩ ?_)
  have ht : (Value.type "tuple" == Value.type "tuple") = true := by rfl
  rw [if_pos (by rw [ht]; simp)]
  refine wpAny_bind (listItems_at ho' hd (wpAny_bind (listItems_at (xs := #[]) (n := 0) hn0 rfl ?_)))
  rw [if_neg (by simp)]
  have hb : (#[] ++ vs.toArray).size ≤ sizeLine + 1 := by simp only [Array.size_append, List.size_toArray, List.length_nil]; omega
  refine wpAny_bind (listUpdate_at (xs := #[]) (n := 0) hn0 rfl (wpAny_pure ?_) (Nat.zero_le _) hb)
  show wpAny (model prog w) A (load s.heap.objs.size >>= fun o => match o.data with | .seq xs _ => pure xs.toList | _ => unsupported "internal:collect") Q E _
  refine wpAny_bind (wpAny_load (get?_update_seq hn0 _) ?_)
  show wpAny (model prog w) A (pure ((#[] : Array Value) ++ vs.toArray).toList) Q E _
  have e : ((#[] : Array Value) ++ vs.toArray).toList = vs := by simp
  rw [e]; exact wpAny_pure h
theorem sorted_ordT {l : Addr} {vs : List Value} {ltv : Value → Value → Bool} {Q : Value → Shared → Prop} (O : SrtO.Swo ltv) (hl : s.heap.IsTuple l vs.toArray) (hz : vs.length ≤ sizeLine)
    (hS : 2 ≤ vs.length → ∀ (h₁ : Heap) (a : Addr), SrtO.SortableO prog w A.in1.in1 { s with heap := h₁ } a vs ltv)
    (h : ∀ out : List Value, SrtO.Srtd ltv out → SrtO.Stb ltv out vs → Q (.ref (s.heap.objs.size + 1)) { s with heap := PyProof.Rows.sortedAll s.heap vs out.toArray }) :
    wpAny (model prog w) A (call (.builtin "sorted") [.ref l]) Q E s := by
  refine Calls.call_function_entry kind_sorted plain_sorted entry_sorted (args_sorted1 _) ?_
  unfold Builtin.«sorted»
  refine wpAny_bind (m := checkCount "sorted" 1 1 _) (wpAny_pure ?_)
  refine wpAny_bind (collect_tupV hl (wpAny_bind (wpAny_newList ?_ hz)) hz)
  have hsz : ((s.heap.push (seqObj "list" #[] 0)).update s.heap.objs.size (Obj.mapSeq (· ++ vs.toArray))).objs.size = s.heap.objs.size + 1 := by rw [Heap.size_update]; exact Heap.size_push ..
  have hoL : (((s.heap.push (seqObj "list" #[] 0)).update s.heap.objs.size (Obj.mapSeq (· ++ vs.toArray))).push (seqObj "list" vs.toArray 0)).get? (s.heap.objs.size + 1) = some (seqObj "list" vs.toArray 0) := by rw [← hsz]; exact Heap.get?_push_size _ rfl
  show wpAny _ _ _ _ _ { s with heap := ((s.heap.push (seqObj "list" #[] 0)).update s.heap.objs.size (Obj.mapSeq (· ++ vs.toArray))).push (seqObj "list" vs.toArray 0) }
  rw [hsz]
  have fin := SrtO.list_sort_ord (prog := prog) (w := w) (A := A.in1.in1) (E := E) (s := { s with heap := ((s.heap.push (seqObj "list" #[] 0)).update s.heap.objs.size (Obj.mapSeq (· ++ vs.toArray))).push (seqObj "list" vs.toArray 0) }) (R := fun fin s' => ∃ v, fin = .done (.ret v) ∧ Q (.ref (s.heap.objs.size + 1)) s') O hoL hz (fun h2 => hS h2 _ _) fun out hs hb => ⟨_, rfl, h out hs hb⟩
  refine wpAny_bind (wpAny_holding (wpAny_call_entry slot_list_sort ⟨_, hoL, rfl⟩ entry_list_sort (wpAny_mono fin (fun f s' ⟨v, e, q⟩ => ⟨v, e, wpAny_pure ⟨_, rfl, q⟩⟩) fun _ _ x => x) (args_list_sort _)))
end
/-- sorted(t), t a tuple of ints -/
def rSortedTI (K : PySem.W.Frag) : List V → Hp → VK → Prop := fun vs H Q => ∃ (a : Addr) (ns : List Int), vs = [V.ref a] ∧ SqT K H a (ns.map V.int) ∧
  ∀ (ms : List Int) (p : Addr), ms.Perm ns → ms.Pairwise (· ≤ ·) → H p = none → Q (.ref p) (upd H p (.lst (ms.map V.int)))
theorem cr_sortedTI {X : Cx} : CallR X (.builtin "sorted") (rSortedTI X.K) := by
  intro pins s σ H vs us Q I r h
  obtain ⟨a, ns, rfl, hs, q⟩ := h
  obtain ⟨its, rv, hl, hz⟩ := I.tuple hs
  rw [Vals.ref1 r]
  have hi := rv.ints
  have hz' : its.length ≤ sizeLine := by rw [← rv.length]; exact hz
  refine sorted_ordT SrtO.swo_int (show s.heap.IsTuple a its.toArray from hl) hz' (fun h2 h₁ a' => SrtO.ints_sortable hi h2) fun out h1 h2 => ?_
  obtain ⟨k1, k2, k3⟩ := SrtO.ints_out hi h1 h2
  obtain ⟨ep, he'⟩ := PyProof.Rows.sortedAll_at s.heap its out.toArray
  have hlen : ((out.map SrtO.iv).map V.int).length ≤ sizeLine := by
    rw [List.length_map, k2.length_eq]; rw [List.length_map] at hz; exact hz
  have kp : ∀ b o, s.heap.get? b = some o → (PyProof.Rows.sortedAll s.heap its out.toArray).get? b = some o := fun _ _ => PyProof.Rows.sortedAll_old
  exact ⟨.ref _, upd H (s.heap.objs.size + 1) (.lst ((out.map SrtO.iv).map V.int)), I.laid (t' := s.toks) kp (Nat.le_succ _) ⟨hlen, out, ep, vals_of_ints k1, he'⟩, rfl, q _ _ k2 k3 (I.hok.fresh (Nat.le_succ _))⟩
/-- an attribute, the fragment named -/
theorem pe_fldK {X : Cx} {K : PySem.W.Frag} {e : Expr} {ta : TE} {f : Str} {pos : Pos} (he : PE X e ta) (hb : attributeBase e f X.env (eval e X.env) = eval e X.env) (h : X.K = K := by rfl) : PE X (.Attribute e f pos) (tFld K ta f) := h ▸ pe_fld he hb
/-- a statement that is never reached -/
theorem ps_no {X : Cx} {st : Stmt} : PS X st (fun _ _ _ => False) := ⟨fun _ _ _ _ _ _ h => h.elim⟩
end GE

set_option Elab.async false
set_option linter.all false
set_option maxRecDepth 100000
set_option maxHeartbeats 4000000
namespace Mw
open PySem PySem.Spec PyProof.Rows L2 GE
/-! ### a Field -/
def natsV (l : List Nat) : List V := l.map fun x => V.int (x : Nat)
structure FAd where
  p : Addr
  lt : Addr
  lw : Addr
  lh : Addr
  ld : Addr
  wt : V
def ff (tv : V) (a : FAd) : List (Str × V) := [("time", tv), ("taken", .ref a.lt), ("widths", .ref a.lw), ("_ways", a.wt), ("_homes", .ref a.lh), ("_depths", .ref a.ld)]
theorem ff_time (tv : V) (a : FAd) : (ff tv a).lookup ("time" : Str) = some tv := by rfl
theorem ff_taken (tv : V) (a : FAd) : (ff tv a).lookup ("taken" : Str) = some (.ref a.lt) := by rfl
theorem ff_widths (tv : V) (a : FAd) : (ff tv a).lookup ("widths" : Str) = some (.ref a.lw) := by rfl
theorem ff_ways (tv : V) (a : FAd) : (ff tv a).lookup ("_ways" : Str) = some a.wt := by rfl
theorem ff_homes (tv : V) (a : FAd) : (ff tv a).lookup ("_homes" : Str) = some (.ref a.lh) := by rfl
theorem ff_depths (tv : V) (a : FAd) : (ff tv a).lookup ("_depths" : Str) = some (.ref a.ld) := by rfl
theorem ff_put (tv uv : V) (a : FAd) : putF "time" uv (ff tv a) = ff uv a := by rfl
structure FTx (K : PySem.W.Frag) (aC : Addr) : Prop where
  cl : Cls K aC
  n_time : NoAttr K aC "time"
  n_taken : NoAttr K aC "taken"
  n_widths : NoAttr K aC "widths"
  n_ways : NoAttr K aC "_ways"
  n_homes : NoAttr K aC "_homes"
  n_depths : NoAttr K aC "_depths"
def Fm (a : FAd) : Addr → Prop := fun b => b = a.p ∨ b = a.lt ∨ b = a.lw ∨ b = a.lh ∨ b = a.ld
def TkL (K : PySem.W.Frag) (H : Hp) : List (Int × Nat) → List V → Prop
  | [], vs => vs = []
  | (t, c) :: r, vs => ∃ a tv us, vs = .ref a :: us ∧ H a = some (.tup [tv, .int (c : Nat)]) ∧ FrV K H t tv ∧ TkL K H r us
def keyOf (k : List Nat) : List Key := k.map fun (x : Nat) => (Sum.inl (x : Int) : Key)
def WdL (K : PySem.W.Frag) (H : Hp) : List (List Nat × Int) → List (List Key × V) → Prop
  | [], vs => vs = []
  | (k, s) :: r, vs => ∃ v us, vs = (keyOf k, v) :: us ∧ FrV K H s v ∧ WdL K H r us
structure FieldAt (K : PySem.W.Frag) (aC : Addr) (H : Hp) (a : FAd) (n : Nat) (ws : Wl) (S : Gs) : Prop where
  ob : ∃ dx tv, H a.p = some (.ins aC dx (ff tv a)) ∧ FrV K H S.time tv
  tk : ∃ vs, H a.lt = some (.lst vs) ∧ TkL K H S.taken vs
  wd : ∃ kvs, H a.lw = some (.dT kvs) ∧ WdL K H S.wid kvs
  hm : ∃ vs, H a.lh = some (.lst vs) ∧ vs.length = n ∧ ∀ x, x < n → ∃ t, vs[x]? = some (.ref t) ∧ H t = some (.tup (natsV (cls S.h n x)))
  dp : ∃ vs, H a.ld = some (.lst vs) ∧ vs.length = n ∧ ∀ x, x < n → ∃ v, vs[x]? = some v ∧ FrV K H (S.dep x) v
  wy : ∃ wa us, a.wt = .ref wa ∧ H wa = some (.tup us) ∧ RpL H (ws.map wayD) us
  ne : a.lt ≠ a.lh ∧ a.lt ≠ a.ld ∧ a.lh ≠ a.ld
section
variable {K : PySem.W.Frag} {T : List Addr} {H H' : Hp}
/-- tuples stay, whatever else changes -/
structure Tp (K : PySem.W.Frag) (H H' : Hp) : Prop where
  tup : ∀ b xs, H b = some (.tup xs) → H' b = some (.tup xs)
  sq : ∀ b xs, SqT K H b xs → SqT K H' b xs
theorem Tp.of (e : Ext T noM H H') : Tp K H H' := ⟨fun b xs h => e.tup (fun z => z) h, fun b xs h => SqT.x h e fun z => z⟩
theorem Tp.refl : Tp K H H := ⟨fun _ _ h => h, fun _ _ h => h⟩
theorem Tp.trans {H2 : Hp} (a : Tp K H H') (b : Tp K H' H2) : Tp K H H2 := ⟨fun x xs h => b.tup x xs (a.tup x xs h), fun x xs h => b.sq x xs (a.sq x xs h)⟩
theorem Tp.mut {p : Addr} {old new : HO} (h : H p = some old) (n1 : ∀ xs, old ≠ .tup xs) (n2 : ∀ o xs, old ≠ .frz o xs) : Tp K H (upd H p new) := by
  refine ⟨fun b xs hb => ?_, fun b xs hb => ?_⟩
  · rw [upd_ne (fun z => by rw [z, h] at hb; exact n1 xs (Option.some.inj hb))]; exact hb
  · rcases hb with (hb | ⟨o, hb⟩) | hb
    · exact .inl (.inl (by rw [upd_ne (fun z => by rw [z, h] at hb; exact n1 xs (Option.some.inj hb))]; exact hb))
    · exact .inl (.inr ⟨o, by rw [upd_ne (fun z => by rw [z, h] at hb; exact n2 o _ (Option.some.inj hb))]; exact hb⟩)
    · exact .inr hb
theorem Tp.only {p : Addr} {old : HO} (h : H p = some old) (n1 : ∀ xs, old ≠ .tup xs) (n2 : ∀ o xs, old ≠ .frz o xs) (ho : ∀ b, b ≠ p → H' b = H b) : Tp K H H' := by
  refine ⟨fun b xs hb => ?_, fun b xs hb => ?_⟩
  · rw [ho b fun z => by rw [z, h] at hb; exact n1 xs (Option.some.inj hb)]; exact hb
  · rcases hb with (hb | ⟨o, hb⟩) | hb
    · exact .inl (.inl (by rw [ho b fun z => by rw [z, h] at hb; exact n1 xs (Option.some.inj hb)]; exact hb))
    · exact .inl (.inr ⟨o, by rw [ho b fun z => by rw [z, h] at hb; exact n2 o _ (Option.some.inj hb)]; exact hb⟩)
    · exact .inr hb
theorem Ext.only {M : Addr → Prop} {p : Addr} {old new : HO} (hM : M p) (h : H p = some old) (n : ∀ ps, old ≠ .tbl ps) (h' : H' p = some new) (ho : ∀ b, b ≠ p → H' b = H b) : Ext T M H H' := by
  refine ⟨fun b o m e _ => by rw [ho b fun z => m (z ▸ hM)]; exact e, fun P _ hg => ?_, fun b e => ?_⟩
  · have hne := tabG_ne hg h n
    obtain ⟨ps, hp, ht⟩ := hg
    exact ⟨ps, by rw [ho P hne]; exact hp, ht⟩
  · by_cases z : b = p
    · rw [z, h'] at e; cases e
    · rw [ho b z] at e; exact e
theorem Tp.fr (t : Tp K H H') {u : Int} {v : V} (h : FrV K H u v) : FrV K H' u v := by
  obtain ⟨a, rfl, h⟩ := h
  exact ⟨a, rfl, t.sq _ _ h⟩
theorem Tp.tk (t : Tp K H H') : ∀ {l : List (Int × Nat)} {vs : List V}, TkL K H l vs → TkL K H' l vs
  | [], vs, h => h
  | (s, c) :: r, vs, ⟨a, tv, us, e, h1, h2, h3⟩ => ⟨a, tv, us, e, t.tup _ _ h1, t.fr h2, Tp.tk t h3⟩
theorem Tp.wd (t : Tp K H H') : ∀ {l : List (List Nat × Int)} {vs : List (List Key × V)}, WdL K H l vs → WdL K H' l vs
  | [], vs, h => h
  | (k, s) :: r, vs, ⟨v, us, e, h2, h3⟩ => ⟨v, us, e, t.fr h2, Tp.wd t h3⟩
mutual
theorem Tp.rp (t : Tp K H H') : ∀ {d : D} {v : V}, Rp H d v → Rp H' d v
  | .i n, v, h => by rw [h.i]; exact rp_i n
  | .non, v, h => by unfold Rp at h ⊢; exact h
  | .bl b, v, h => by unfold Rp at h ⊢; exact h
  | .t ds, v, h => by
    obtain ⟨a, vs, rfl, h1, h2⟩ := h.t
    exact rp_t (t.tup _ _ h1) (Tp.rpl t h2)
theorem Tp.rpl (t : Tp K H H') : ∀ {ds : List D} {vs : List V}, RpL H ds vs → RpL H' ds vs
  | [], vs, h => by rw [h.nil]; exact rpl_nil
  | d :: ds, vs, h => by
    obtain ⟨v, r, rfl, h1, h2⟩ := h.cons
    exact rpl_cons (Tp.rp t h1) (Tp.rpl t h2)
end
theorem FieldAt.x {aC : Addr} {a : FAd} {n : Nat} {ws : Wl} {S : Gs} (F : FieldAt K aC H a n ws S) (e : Ext T noM H H') : FieldAt K aC H' a n ws S := by
  have t : Tp K H H' := Tp.of e
  obtain ⟨dx, tv, h1, h2⟩ := F.ob
  obtain ⟨v1, a1, a2⟩ := F.tk
  obtain ⟨v2, b1, b2⟩ := F.wd
  obtain ⟨v3, c1, c2, c3⟩ := F.hm
  obtain ⟨v4, d1, d2, d3⟩ := F.dp
  obtain ⟨wa, us, e1, e2, e3⟩ := F.wy
  exact ⟨⟨dx, tv, e.kp _ _ (fun z => z) h1 (fun ps z => nomatch z), t.fr h2⟩, ⟨v1, e.lst (fun z => z) a1, t.tk a2⟩, ⟨v2, e.kp _ _ (fun z => z) b1 (fun ps z => nomatch z), t.wd b2⟩,
    ⟨v3, e.lst (fun z => z) c1, c2, fun x hx => by obtain ⟨s, q1, q2⟩ := c3 x hx; exact ⟨s, q1, t.tup _ _ q2⟩⟩,
    ⟨v4, e.lst (fun z => z) d1, d2, fun x hx => by obtain ⟨s, q1, q2⟩ := d3 x hx; exact ⟨s, q1, t.fr q2⟩⟩, ⟨wa, us, e1, t.tup _ _ e2, t.rpl e3⟩, F.ne⟩
end
theorem natsV_inj {l m : List Nat} (h : natsV l = natsV m) : l = m := by
  unfold natsV at h
  exact List.map_inj_right (f := fun x : Nat => V.int (x : Nat)) (fun a b e => by injection e with e; omega) |>.mp h
def natD (l : List Nat) : PyData := .tuple (l.map fun x : Nat => .int (x : Int))
theorem eqv_nat : ∀ l m : List Nat, PyData.eqvAll (l.map fun x : Nat => .int (x : Int)) (m.map fun x : Nat => .int (x : Int)) = decide (l = m)
  | [], [] => rfl
  | [], _ :: _ => rfl
  | _ :: _, [] => rfl
  | x :: l, y :: m => by
    show ((x : Int) == (y : Int) && PyData.eqvAll _ _) = _
    rw [eqv_nat l m]
    by_cases e : x = y
    · subst e
      by_cases e2 : l = m
      · subst e2; simp
      · simp [e2]
    · have : ((x : Int) == (y : Int)) = false := beq_eq_false_iff_ne.mpr (by omega)
      rw [this, Bool.false_and]
      exact (decide_eq_false fun z => e (List.cons.inj z).1).symm
theorem natD_all : ∀ l : List Nat, PyData.canLayAll0 (l.map fun x : Nat => .int (x : Int)) = true ∧ PyData.depthAll (l.map fun x : Nat => .int (x : Int)) = 0
  | [] => ⟨rfl, rfl⟩
  | x :: l => by
    obtain ⟨h1, h2⟩ := natD_all l
    simp only [List.map_cons, PyData.canLayAll0, PyData.depthAll, h1, h2, PyData.canLay0, PyData.depth]
    exact ⟨rfl, rfl⟩
theorem natD_shaped (l : List Nat) : SeqAt.shaped (natD l) = true := by
  obtain ⟨h1, h2⟩ := natD_all l
  show (PyData.canLayAll0 _ && decide (PyData.depthAll _ + 1 ≤ 64)) = true
  rw [h1, h2]; rfl
theorem dp_nats {K : PySem.W.Frag} {H : Hp} : ∀ l : List Nat, DpAll K H (natsV l) (l.map fun x : Nat => .int (x : Int))
  | [] => .nil
  | x :: l => .cons (.int _) (dp_nats l)
theorem dp_nat {K : PySem.W.Frag} {H : Hp} {a : Addr} {l : List Nat} (h : H a = some (.tup (natsV l))) : Dp K H (.ref a) (natD l) := .tup (SqT.of h) (dp_nats l)
theorem way_get2 {H : Hp} {ws : Wl} {us : List V} (r : RpL H (ws.map wayD) us) {c : Nat} (hc : c < ws.length) : ∃ a, us[c]? = some (.ref a) ∧ H a = some (.tup [.int (way ws c).1, .int (way ws c).2.1, .int (way ws c).2.2]) := by
  have e : ws[c]? = some (way ws c) := by
    unfold way; rw [List.getD_eq_getElem?_getD, List.getElem?_eq_getElem hc]; rfl
  obtain ⟨v, h1, h2⟩ := r.get (i := c) (d := wayD (way ws c)) (by rw [List.getElem?_map, e]; rfl)
  obtain ⟨a, rfl, ha⟩ := way_at h2
  exact ⟨a, h1, ha⟩
theorem cls_eq {n : Nat} {es : List (Nat × Nat)} {h : Nat → Nat} (H : Hom n es h) {x y : Nat} (hx : x < n) (hy : y < n) : cls h n x = cls h n y ↔ h x = h y := by
  constructor
  · intro e
    have : x ∈ cls h n y := by rw [← e]; exact mem_cls.mpr ⟨hx, rfl⟩
    exact (mem_cls.mp this).2
  · intro e; unfold cls; rw [e]
theorem sort_nats {ns : List Int} {f : List Nat} (h : ns.Perm (f.map fun x : Nat => (x : Int))) (s : ns.Pairwise (· ≤ ·)) (nd : f.Nodup) : ∃ l : List Nat, ns = l.map (fun x : Nat => (x : Int)) ∧ l.Pairwise (· < ·) ∧ ∀ x, x ∈ l ↔ x ∈ f := by
  have hpos : ∀ z ∈ ns, ((z.toNat : Nat) : Int) = z := fun z hz => by
    obtain ⟨x, _, rfl⟩ := List.mem_map.mp (h.mem_iff.mp hz); rfl
  have e : ns = (ns.map Int.toNat).map (fun x : Nat => (x : Int)) := by
    rw [List.map_map]
    have := List.map_congr_left (f := id) (g := (fun x : Nat => (x : Int)) ∘ Int.toNat) fun z hz => (hpos z hz).symm
    rw [← this, List.map_id]
  have hp2 : (ns.map Int.toNat).Perm f := by
    have := h.map Int.toNat
    rw [List.map_map] at this
    have e2 : f.map (Int.toNat ∘ fun x : Nat => (x : Int)) = f := by
      have := List.map_congr_left (l := f) (f := Int.toNat ∘ fun x : Nat => (x : Int)) (g := id) fun z _ => by show Int.toNat (z : Int) = z; omega
      rw [this, List.map_id]
    rw [e2] at this; exact this
  have nd2 : (ns.map Int.toNat).Nodup := hp2.nodup_iff.mpr nd
  have s2 : (ns.map Int.toNat).Pairwise (· ≤ ·) := by
    rw [List.pairwise_map]
    exact s.imp fun {a b} hab => Int.toNat_le_toNat hab
  refine ⟨ns.map Int.toNat, e, ?_, fun x => hp2.mem_iff⟩
  exact (List.pairwise_and_iff.mpr ⟨s2, nd2⟩).imp fun {a b} hab => Nat.lt_of_le_of_ne hab.1 hab.2
theorem cls_len (h : Nat → Nat) (n p : Nat) : (cls h n p).length ≤ n := by
  have := List.length_filter_le (fun x => h x == h p) (List.range n); rw [List.length_range] at this; exact this
theorem reps_len (h : Nat → Nat) (n : Nat) : (reps h n).length ≤ n := by
  have := List.length_filter_le (fun x => h x == x) (List.range n); rw [List.length_range] at this; exact this
theorem cls_join {n : Nat} {es : List (Nat × Nat)} {h : Nat → Nat} (H : Hom n es h) {a b : Nat} (ha : a < n) (hb : b < n) (hne : h a ≠ h b) {ms : List Int} (hp : ms.Perm ((cls h n a ++ cls h n b).map fun x : Nat => (x : Int))) (hs : ms.Pairwise (· ≤ ·)) :
    ms = (cls (relab h a b) n a).map fun x : Nat => (x : Int) := by
  have nd : (cls h n a ++ cls h n b).Nodup := by
    rw [List.nodup_append]
    refine ⟨(cls_pw h n a).imp fun hab => Nat.ne_of_lt hab, (cls_pw h n b).imp fun hab => Nat.ne_of_lt hab, fun x hx y hy e => ?_⟩
    subst e
    exact hne ((mem_cls.mp hx).2.symm.trans (mem_cls.mp hy).2)
  obtain ⟨l, e, pw, hm⟩ := sort_nats hp hs nd
  rw [e]
  congr 1
  refine sorted_ext pw (cls_pw _ _ _) fun x => (hm x).trans ?_
  rw [List.mem_append, mem_cls, mem_cls, mem_cls]
  constructor
  · intro q
    have hx : x < n := by rcases q with q | q <;> exact q.1
    refine ⟨hx, ?_⟩
    have ea : relab h a b a = min (h a) (h b) := by rw [relab_eq H ha hb ha, if_pos (.inl rfl)]
    rw [relab_eq H ha hb hx, ea, if_pos (by rcases q with q | q; exact .inl q.2; exact .inr q.2)]
  · intro ⟨hx, q⟩
    rw [relab_eq H ha hb hx, relab_eq H ha hb ha, if_pos (c := h a = h a ∨ h a = h b) (.inl rfl)] at q
    by_cases z : h x = h a ∨ h x = h b
    · rcases z with z | z
      · exact .inl ⟨hx, z⟩
      · exact .inr ⟨hx, z⟩
    · rw [if_neg z] at q; omega
theorem cls_other {n : Nat} {es : List (Nat × Nat)} {h : Nat → Nat} (H : Hom n es h) {a b x : Nat} (ha : a < n) (hb : b < n) (hx : x < n) :
    (x ∈ cls (relab h a b) n a → cls (relab h a b) n x = cls (relab h a b) n a) ∧ (x ∉ cls (relab h a b) n a → cls (relab h a b) n x = cls h n x) := by
  constructor
  · intro q; have := (mem_cls.mp q).2; unfold cls; rw [this]
  · intro q
    have z : ¬ (h x = h a ∨ h x = h b) := fun z => q (mem_cls.mpr ⟨hx, by rw [show relab h a b a = min (h a) (h b) from by rw [relab_eq H ha hb ha, if_pos (.inl rfl)], relab_eq H ha hb hx, if_pos z]⟩)
    refine sorted_ext (cls_pw _ _ _) (cls_pw _ _ _) fun y => ?_
    rw [mem_cls, mem_cls]
    constructor
    · intro ⟨hy, e⟩
      refine ⟨hy, ?_⟩
      rw [relab_eq H ha hb hy, relab_eq H ha hb hx, if_neg z] at e
      by_cases w : h y = h a ∨ h y = h b
      · rw [if_pos w] at e; omega
      · rw [if_neg w] at e; exact e
    · intro ⟨hy, e⟩
      refine ⟨hy, ?_⟩
      rw [relab_eq H ha hb hy, relab_eq H ha hb hx, if_neg z, if_neg (by rw [e]; exact z)]; exact e
theorem TkL.snoc {K : PySem.W.Frag} {H : Hp} {t : Int} {c : Nat} {a : Addr} {tv : V} (ha : H a = some (.tup [tv, .int (c : Nat)])) (hf : FrV K H t tv) : ∀ {l : List (Int × Nat)} {vs : List V}, TkL K H l vs → TkL K H (l ++ [(t, c)]) (vs ++ [.ref a])
  | [], vs, h => by rw [show vs = [] from h]; exact ⟨a, tv, [], rfl, ha, hf, rfl⟩
  | (s, d) :: r, vs, ⟨b, sv, us, e, h1, h2, h3⟩ => by rw [e]; exact ⟨b, sv, us ++ [.ref a], rfl, h1, h2, TkL.snoc ha hf h3⟩
theorem TkL.len {K : PySem.W.Frag} {H : Hp} : ∀ {l : List (Int × Nat)} {vs : List V}, TkL K H l vs → vs.length = l.length
  | [], vs, h => by rw [show vs = [] from h] <;> rfl
  | (s, d) :: r, vs, ⟨b, sv, us, e, h1, h2, h3⟩ => by rw [e, List.length_cons, List.length_cons, TkL.len h3]
def firstV (ws : Wl) (S : Gs) : V := match first ws S with
  | some c => .int (c : Nat)
  | none => .non
theorem FieldAt.not {K : PySem.W.Frag} {aC : Addr} {H : Hp} {f : FAd} {n : Nat} {ws : Wl} {S : Gs} (F : FieldAt K aC H f n ws S) : ∀ b, Fm f b → ∃ o, H b = some o ∧ (∀ xs, o ≠ .tup xs) ∧ ∀ u xs, o ≠ .frz u xs := by
  obtain ⟨dx, tv, h1, h2⟩ := F.ob
  obtain ⟨v1, a1, a2⟩ := F.tk
  obtain ⟨v2, b1, b2⟩ := F.wd
  obtain ⟨v3, c1, c2, c3⟩ := F.hm
  obtain ⟨v4, d1, d2, d3⟩ := F.dp
  intro b hb
  rcases hb with z | z | z | z | z
  · exact ⟨(.ins aC dx (ff tv f)), by rw [z]; exact h1, (fun xs z => nomatch z), fun u xs z => nomatch z⟩
  · exact ⟨(.lst v1), by rw [z]; exact a1, (fun xs z => nomatch z), fun u xs z => nomatch z⟩
  · exact ⟨(.dT v2), by rw [z]; exact b1, (fun xs z => nomatch z), fun u xs z => nomatch z⟩
  · exact ⟨(.lst v3), by rw [z]; exact c1, (fun xs z => nomatch z), fun u xs z => nomatch z⟩
  · exact ⟨(.lst v4), by rw [z]; exact d1, (fun xs z => nomatch z), fun u xs z => nomatch z⟩
/-- a list that is no attribute is written -/
theorem FieldAt.o {K : PySem.W.Frag} {aC : Addr} {H : Hp} {f : FAd} {n : Nat} {ws : Wl} {S : Gs} {l : Addr} {xs ys : List V} (F : FieldAt K aC H f n ws S) (hl : ¬ Fm f l) (h : H l = some (.lst xs)) : FieldAt K aC (upd H l (.lst ys)) f n ws S := by
  have t : Tp K H (upd H l (.lst ys)) := Tp.mut h (fun xs z => nomatch z) (fun o xs z => nomatch z)
  have ne : ∀ b, Fm f b → b ≠ l := fun b m z => hl (z ▸ m)
  obtain ⟨dx, tv, h1, h2⟩ := F.ob
  obtain ⟨v1, a1, a2⟩ := F.tk
  obtain ⟨v2, b1, b2⟩ := F.wd
  obtain ⟨v3, c1, c2, c3⟩ := F.hm
  obtain ⟨v4, d1, d2, d3⟩ := F.dp
  obtain ⟨wa, us, e1, e2, e3⟩ := F.wy
  exact ⟨⟨dx, tv, by rw [upd_ne (ne _ (.inl rfl))]; exact h1, t.fr h2⟩, ⟨v1, by rw [upd_ne (ne _ (.inr (.inl rfl)))]; exact a1, t.tk a2⟩, ⟨v2, by rw [upd_ne (ne _ (.inr (.inr (.inl rfl))))]; exact b1, t.wd b2⟩,
    ⟨v3, by rw [upd_ne (ne _ (.inr (.inr (.inr (.inl rfl)))))]; exact c1, c2, fun x hx => by obtain ⟨s, q1, q2⟩ := c3 x hx; exact ⟨s, q1, t.tup _ _ q2⟩⟩,
    ⟨v4, by rw [upd_ne (ne _ (.inr (.inr (.inr (.inr rfl)))))]; exact d1, d2, fun x hx => by obtain ⟨v, q1, q2⟩ := d3 x hx; exact ⟨v, q1, t.fr q2⟩⟩, ⟨wa, us, e1, t.tup _ _ e2, t.rpl e3⟩, F.ne⟩
theorem Tp.ofF {K : PySem.W.Frag} {T : List Addr} {aC : Addr} {H H' : Hp} {f : FAd} {n : Nat} {ws : Wl} {S : Gs} (F : FieldAt K aC H f n ws S) (e : Ext T (Fm f) H H') : Tp K H H' := by
  have nm : ∀ b xs, H b = some (.tup xs) → ¬ Fm f b := fun b xs h m => by
    obtain ⟨o, h1, h2, _⟩ := F.not b m
    rw [h] at h1; exact h2 xs (Option.some.inj h1).symm
  have nf : ∀ b u xs, H b = some (.frz u xs) → ¬ Fm f b := fun b u xs h m => by
    obtain ⟨o, h1, _, h3⟩ := F.not b m
    rw [h] at h1; exact h3 u xs (Option.some.inj h1).symm
  refine ⟨fun b xs h => e.tup (nm b xs h) h, fun b xs h => ?_⟩
  rcases h with (h | ⟨o, h⟩) | h
  · exact .inl (.inl (e.tup (nm b xs h) h))
  · exact .inl (.inr ⟨o, e.kp _ _ (nf b o _ h) h fun ps z => by cases z⟩)
  · exact .inr h
def bornAll (ws : Wl) (n : Nat) : Nat → Gs → List (List Nat)
  | 0, _ => []
  | k + 1, S => match first ws S with
    | none => []
    | some c => cls (take1 ws S c).h n (way ws c).1 :: bornAll ws n k (take1 ws S c)
theorem born_stop {ws : Wl} {n : Nat} {S : Gs} (h : first ws S = none) : ∀ j, bornAll ws n j S = []
  | 0 => rfl
  | j + 1 => by show (match first ws S with | none => [] | some c => cls (take1 ws S c).h n (way ws c).1 :: bornAll ws n j (take1 ws S c)) = _; rw [h]
theorem born_go {ws : Wl} {n : Nat} {S : Gs} {c : Nat} (h : first ws S = some c) (j : Nat) : bornAll ws n (j + 1) S = cls (take1 ws S c).h n (way ws c).1 :: bornAll ws n j (take1 ws S c) := by
  show (match first ws S with | none => [] | some c => cls (take1 ws S c).h n (way ws c).1 :: bornAll ws n j (take1 ws S c)) = _; rw [h]
/-- tuples of places -/
def TupsL (H : Hp) (ls : List (List Nat)) (vs : List V) : Prop := vs.length = ls.length ∧ ∀ (i : Nat) (l : List Nat), ls[i]? = some l → ∃ t : Addr, vs[i]? = some (V.ref t) ∧ H t = some (.tup (natsV l))
theorem TupsL.nil {H : Hp} : TupsL H [] [] := ⟨rfl, fun i l h => by simp at h⟩
theorem TupsL.tup {H H' : Hp} {ls : List (List Nat)} {vs : List V} (h : TupsL H ls vs) (t : ∀ b xs, H b = some (.tup xs) → H' b = some (.tup xs)) : TupsL H' ls vs := ⟨h.1, fun i l e => by obtain ⟨u, q1, q2⟩ := h.2 i l e; exact ⟨u, q1, t _ _ q2⟩⟩
theorem TupsL.snoc {H : Hp} {ls : List (List Nat)} {vs : List V} {l : List Nat} {a : Addr} (h : TupsL H ls vs) (ha : H a = some (.tup (natsV l))) : TupsL H (ls ++ [l]) (vs ++ [.ref a]) := by
  refine ⟨by rw [List.length_append, List.length_append, h.1]; rfl, fun i x e => ?_⟩
  by_cases hi : i < ls.length
  · rw [List.getElem?_append_left hi] at e
    obtain ⟨u, q1, q2⟩ := h.2 i x e
    exact ⟨u, by rw [List.getElem?_append_left (by rw [h.1]; exact hi)]; exact q1, q2⟩
  · rw [List.getElem?_append_right (by omega)] at e
    have h2 : i = ls.length := by
      have := (List.getElem?_eq_some_iff.mp e).1
      rw [List.length_singleton] at this; omega
    subst h2
    have : l = x := by simpa using e
    subst this
    exact ⟨a, by rw [List.getElem?_append_right (by rw [h.1]; exact Nat.le_refl _), h.1]; simp, ha⟩
def spFull (K : PySem.W.Frag) (T : List Addr) (aC : Addr) : Sp := fun vs H Q _ => ∃ (f : FAd) (n t : Nat) (ws : Wl) (S : Gs), vs = [.ref f.p] ∧ FieldAt K aC H f n ws S ∧ WsOk n ws ∧ GM n ws t S ∧ t ≤ 12 ∧ S.taken.length + (reps S.h n).length ≤ n ∧
  ∀ b bvs H', H' b = some (.lst bvs) → TupsL H' (bornAll ws n n S) bvs → ¬ Fm f b → H b = none → FieldAt K aC H' f n ws (takeAll ws n S) → Ext T (Fm f) H H' → Q (.ref b) H'
theorem takeAll_stop {ws : Wl} {S : Gs} (h : first ws S = none) : ∀ j, takeAll ws j S = S
  | 0 => rfl
  | j + 1 => by show (match first ws S with | none => S | some c => takeAll ws j (take1 ws S c)) = S; rw [h]
theorem takeAll_go {ws : Wl} {S : Gs} {c : Nat} (h : first ws S = some c) (j : Nat) : takeAll ws (j + 1) S = takeAll ws j (take1 ws S c) := by
  show (match first ws S with | none => S | some c => takeAll ws j (take1 ws S c)) = _; rw [h]
def spTake (K : PySem.W.Frag) (T : List Addr) (aC : Addr) : Sp := fun vs H Q _ => ∃ (f : FAd) (n t c : Nat) (ws : Wl) (S : Gs), vs = [.ref f.p, .int (c : Nat)] ∧ FieldAt K aC H f n ws S ∧ WsOk n ws ∧ GM n ws t S ∧ c < ws.length ∧ crosses ws S c = true ∧ S.taken.length ≤ 100 ∧
  ∀ j H', H' j = some (.tup (natsV (cls (take1 ws S c).h n (way ws c).1))) → FieldAt K aC H' f n ws (take1 ws S c) → Ext T (Fm f) H H' → Q (.ref j) H'
theorem zero_fr {K : PySem.W.Frag} {H : Hp} {az : Addr} (h : SqT K (fun _ => none) az [.int (frX 0), .int (frY 0)]) : FrV K H 0 (.ref az) := by
  refine ⟨az, rfl, ?_⟩
  rcases h with (h | ⟨o, h⟩) | h
  · cases h
  · cases h
  · exact .inr h
theorem first_is {ws : Wl} {S : Gs} {i : Nat} (hi : i < ws.length) (h : full ws S i = true) (hno : ∀ c, c < i → full ws S c = false) : first ws S = some i := by
  unfold first
  rw [List.find?_range_eq_some]
  exact ⟨h, List.mem_range.mpr hi, fun j hj => by rw [hno j hj]; rfl⟩
def spFirst (K : PySem.W.Frag) (T : List Addr) (aC : Addr) : Sp := fun vs H Q _ => ∃ (f : FAd) (n t : Nat) (ws : Wl) (S : Gs), vs = [.ref f.p] ∧ FieldAt K aC H f n ws S ∧ WsOk n ws ∧ GM n ws t S ∧ t ≤ 12 ∧ ∀ H', Ext T noM H H' → Q (match first ws S with | some c => .int (c : Nat) | none => .non) H'
def spSlack (K : PySem.W.Frag) (T : List Addr) (aC : Addr) : Sp := fun vs H Q _ => ∃ (f : FAd) (n : Nat) (ws : Wl) (S : Gs) (a b c : Nat), vs = [.ref f.p, .int (a : Nat), .int (b : Nat), .int (c : Nat)] ∧ FieldAt K aC H f n ws S ∧ a < n ∧ b < n ∧ n ≤ 12 ∧ 1 ≤ c ∧ c ≤ 10000 ∧ (∀ x, 0 ≤ S.dep x ∧ S.dep x ≤ 491520000) ∧
  ∀ v H', FrV K H' ((c : Int) * 4096 - (S.dep a + S.dep b)) v → Ext T noM H H' → Q v H'
section
variable {P : Program} {w : World} {K : PySem.W.Frag} {mg : Str → Option Value} {base : Heap} {T : List Addr} {aC : Addr}
theorem ok_Field__slack {f : Addr} {fd : FuncData} (F : Fun K "_slack" "Field._slack" sField__slack f fd) {fminus : Addr} {fdminus : FuncData} (Fminus : Fun K "minus" "minus" sminus fminus fdminus) (Gminus : FnOk P w K mg base CX0 2 fminus fdminus ["first", "second"] (spMinus K T)) (bminus : Binds K fdminus ["first", "second"] []) (gminus : mg "minus" = some (.ref fminus)) {fplus : Addr} {fdplus : FuncData} (Fplus : Fun K "plus" "plus" splus fplus fdplus) (Gplus : FnOk P w K mg base CX0 2 fplus fdplus ["first", "second"] (spPlus K T)) (bplus : Binds K fdplus ["first", "second"] []) (gplus : mg "plus" = some (.ref fplus)) (fx : FTx K aC) : FnOk P w K mg base CX0 3 f fd ["self", "a", "b", "cost"] (spSlack K T aC) := by
  refine F.ok scField__slack (fun vs H Q E h => ?_) (fun cdv A outer s H vs Q E hr h => ?_)
  · obtain ⟨f, n, ws, S, a, b, c, rfl, F, ha, hb, n12, c1, c2, hd, k⟩ := h
    rfl
  · obtain ⟨f, n, ws, S, a, b, c, rfl, F, ha, hb, n12, c1, c2, hd, k⟩ := h
    refine ⟨_, (pss_one (ps_ret (pe_call Gminus hr (by rfl) gminus Fminus.kp bminus .nil pass0 (pa_cons (pe_tup (pa_cons (pv 3) (pa_cons pe_int pa_nil))) (pa_cons (pe_call Gplus hr (by rfl) gplus Fplus.kp bplus .nil pass0 (pa_cons (pe_ix ix_list (pe_fld (pv 0) rfl) (pv 1) (fun _ _ => rfl)) (pa_cons (pe_ix ix_list (pe_fld (pv 0) rfl) (pv 2) (fun _ _ => rfl)) pa_nil))) pa_nil))))), ?_⟩
    obtain ⟨dx, tv, hob, _⟩ := F.ob
    obtain ⟨vd, hld, hlen, hdp⟩ := F.dp
    obtain ⟨va, ga, fa⟩ := hdp a ha
    obtain ⟨vb, gb, fb⟩ := hdp b hb
    obtain ⟨f1, f2⟩ := fr_int (c : Int)
    have da := hd a
    have db := hd b
    refine ⟨_, rfl, by show 2 ≤ sizeLine; decide, fun t ht => ?_⟩
    have e1 : Ext T noM H (upd H t (.tup [.int (c : Nat), .int 1])) := Ext.new ht
    have hc : FrV K (upd H t (.tup [.int (c : Nat), .int 1])) ((c : Int) * 4096) (.ref t) := ⟨t, rfl, SqT.of (by rw [upd_same, f1, f2])⟩
    have hob1 := e1.kp _ _ (fun z => z) hob (fun ps z => nomatch z)
    have hld1 := e1.lst (fun z => z) hld
    refine ⟨_, rfl, f.p, aC, dx, _, _, rfl, hob1, fx.cl, fx.n_depths, ff_depths _ _, _, rfl, f.ld, _, _, _, rfl, rfl, SqL.of hld1, at_of (j := a) rfl ga, ?_⟩
    refine ⟨_, rfl, f.p, aC, dx, _, _, rfl, hob1, fx.cl, fx.n_depths, ff_depths _ _, _, rfl, f.ld, _, _, _, rfl, rfl, SqL.of hld1, at_of (j := b) rfl gb, ?_⟩
    refine ⟨va, vb, _, _, rfl, fa.x e1, fb.x e1, ⟨by omega, by omega⟩, ⟨by omega, by omega⟩, fun z H2 hz e2 => ?_⟩
    exact ⟨_, z, _, _, rfl, hc.x e2, hz, ⟨by omega, by omega⟩, ⟨by omega, by omega⟩, fun r H3 hr e3 => k r H3 hr ((e1.trans e2).trans e3)⟩
theorem ok_Field__first_full_way {f : Addr} {fd : FuncData} (F : Fun K "_first_full_way" "Field._first_full_way" sField__first_full_way f fd) (m_enumerate : mg "enumerate" = none) {fless : Addr} {fdless : FuncData} (Fless : Fun K "less" "less" sless fless fdless) (Gless : FnOk P w K mg base CX0 3 fless fdless ["first", "second"] (spLess K T)) (bless : Binds K fdless ["first", "second"] []) (gless : mg "less" = some (.ref fless)) {fField__slack : Addr} {fdField__slack : FuncData} (FField__slack : Fun K "_slack" "Field._slack" sField__slack fField__slack fdField__slack) (GField__slack : FnOk P w K mg base CX0 3 fField__slack fdField__slack ["self", "a", "b", "cost"] (spSlack K T aC)) (bField__slack : Binds K fdField__slack ["self", "a", "b", "cost"] []) (mmField__slack : Meth K aC "_slack" fField__slack) {az : Addr} (g_ZERO : mg "ZERO" = some (.ref az)) (hz0 : SqT K (fun _ => none) az [.int (frX 0), .int (frY 0)]) (fx : FTx K aC) : FnOk P w K mg base CX0 4 f fd ["self"] (spFirst K T aC) := by
  refine F.ok scField__first_full_way (fun vs H Q E h => ?_) (fun cdv A outer s H vs Q E hr h => ?_)
  · obtain ⟨f, n, t, ws, S, rfl, F, W, G, t12, k⟩ := h
    rfl
  · obtain ⟨f, n, t, ws, S, rfl, F, W, G, t12, k⟩ := h
    refine ⟨_, (pss_cons (ps_for PassesOwn.never rfl (GE.pi_enumT (by rfl) m_enumerate (pa_cons (pe_fld (pv 0) rfl) pa_nil)) (pg_tup (by rfl) (pgs_cons (pg_name (i := 1) scField__first_full_way.nd rfl (Or.inl rfl)) (pgs_cons (pg_tup (by rfl) (pgs_cons (pg_name (i := 2) scField__first_full_way.nd rfl (Or.inl rfl)) (pgs_cons (pg_name (i := 3) scField__first_full_way.nd rfl (Or.inl rfl)) (pgs_cons (pg_name (i := 4) scField__first_full_way.nd rfl (Or.inl rfl)) pgs_nil)))) pgs_nil))) (pss_one (ps_if (PW.pt (pw_and (pt_cmpR (op_neD (by have := hr.un; show (A.deeper _).units + 64 < _; omega)) (pe_ix ix_list (pe_fld (pv 0) rfl) (pv 2) (fun _ _ => rfl)) (pe_ix ix_list (pe_fld (pv 0) rfl) (pv 3) (fun _ _ => rfl)) (nomark _)) (pw_and1 (pt_not (pt_val (pe_call Gless hr (by rfl) gless Fless.kp bless .nil pass0 (pa_cons (pe_glob (v := .ref az) (by rfl) g_ZERO rfl) (pa_cons (pe_meth (pv 0) fx.cl mmField__slack GField__slack hr bField__slack .nil pass0 (pa_cons (pv 2) (pa_cons (pv 3) (pa_cons (pv 4) pa_nil)))) pa_nil)))))))) (pss_one (ps_ret (pv 1))) pss_nil)))
      (pss_one (ps_ret pe_non))), ?_⟩
    obtain ⟨dx, tv, hob, _⟩ := F.ob
    obtain ⟨vh, hlh, hlenh, hhm⟩ := F.hm
    obtain ⟨wa, us, ewt, hwa, hus⟩ := F.wy
    obtain ⟨es, HM⟩ := G.hom
    have n12 := W.n12
    have hd : ∀ x, 0 ≤ S.dep x ∧ S.dep x ≤ 491520000 := fun x => by have := G.d0 x; omega
    have hul : us.length = ws.length := by rw [hus.len, List.length_map]
    refine ⟨_, rfl, f.p, aC, dx, _, _, rfl, hob, fx.cl, fx.n_ways, ff_ways _ _, wa, us, by rw [ewt], SqT.of hwa, ?_⟩
    refine for_it (n := us.length) walk_enumT (fun i σ' H' => ∃ y1 y2 y3 y4, σ' = [some (.ref f.p), y1, y2, y3, y4] ∧ Ext T noM H H' ∧ ∀ c, c < i → full ws S c = false) ⟨none, none, none, none, rfl, Ext.refl _ _ _, fun c hc => absurd hc (Nat.not_lt_zero _)⟩ (fun i σ' H' _ ⟨_, _, _, _, _, e, _⟩ => SqT.of (e.tup (fun z => z) hwa)) ?_ ?_
    · rintro i x σ' H1 H2 hi ⟨y1, y2, y3, y4, rfl, e, hno⟩ ⟨Tp, x1, x2, rfl, hT, rfl, h1, h2⟩
      obtain rfl := Option.some.inj h1
      have h2 : us[i]? = some x2 := h2
      have hc : i < ws.length := by omega
      obtain ⟨xa, g1, g2⟩ := way_get2 hus hc
      rw [g1] at h2
      obtain rfl := Option.some.inj h2
      have e2 : Ext T noM H (upd H1 Tp (.tup [.int (i : Nat), .ref xa])) := e.trans (Ext.new hT)
      have g3 := e2.tup (fun z => z) g2
      obtain ⟨w1, w2, w3, w4⟩ := W.ok i hc
      have hob2 := e2.kp _ _ (fun z => z) hob (fun ps z => nomatch z)
      have hlh2 := e2.lst (fun z => z) hlh
      have ha : (way ws i).1 < n := Nat.lt_trans w1 w2
      obtain ⟨ta, ga1, ga2⟩ := hhm _ ha
      obtain ⟨tb, gb1, gb2⟩ := hhm _ w2
      have ceq := cls_eq HM ha w2
      refine ⟨Tp, _, rfl, SqT.of upd_same, rfl, _, _, rfl, _, _, rfl, ⟨xa, _, rfl, SqT.of g3, rfl, _, _, rfl, _, _, rfl, _, _, rfl, rfl, rfl, ?_⟩⟩
      refine ⟨_, rfl, f.p, aC, dx, _, _, rfl, hob2, fx.cl, fx.n_homes, ff_homes _ _, _, rfl, f.lh, _, _, _, rfl, rfl, SqL.of hlh2, at_of (j := (way ws i).1) rfl ga1, ?_⟩
      refine ⟨_, rfl, f.p, aC, dx, _, _, rfl, hob2, fx.cl, fx.n_homes, ff_homes _ _, _, rfl, f.lh, _, _, _, rfl, rfl, SqL.of hlh2, at_of (j := (way ws i).2.1) rfl gb1, ?_⟩
      refine ⟨natD _, natD _, dp_nat (e2.tup (fun z => z) ga2), dp_nat (e2.tup (fun z => z) gb2), natD_shaped _, natD_shaped _, _, rfl, ?_⟩
      have eqv : PyData.eqv (natD (cls S.h n (way ws i).1)) (natD (cls S.h n (way ws i).2.1)) = decide (cls S.h n (way ws i).1 = cls S.h n (way ws i).2.1) := eqv_nat _ _
      rw [eqv]
      have next : ∀ H', Ext T noM H H' → full ws S i = false → ∃ y1 y2 y3 y4, (((([some (.ref f.p), y1, y2, y3, y4] : L2.St).set 1 (some (.int (i : Nat)))).set 2 (some (.int (way ws i).1))).set 3 (some (.int (way ws i).2.1))).set 4 (some (.int (way ws i).2.2)) = [some (.ref f.p), y1, y2, y3, y4] ∧ Ext T noM H H' ∧ ∀ c, c < i + 1 → full ws S c = false := fun H' e' hf => ⟨_, _, _, _, rfl, e', fun c hc => by
        rcases Nat.lt_or_eq_of_le (Nat.le_of_lt_succ hc) with q | q
        · exact hno c q
        · rw [q]; exact hf⟩
      refine ite2 (fun q => ?_) (fun q => iteF (next _ e2 ?_))
      · have hx : crosses ws S i = true := decide_eq_true fun z => by rw [decide_eq_true (ceq.mpr z)] at q; cases q
        refine ⟨_, rfl, f.p, dx, _, rfl, hob2, by rfl, _, rfl, _, rfl, _, rfl, f, n, ws, S, _, _, _, rfl, F.x e2, ha, w2, n12, w3, w4, hd, fun v H3 hv e3 => ?_⟩
        have hv : FrV K H3 (lack ws S i) v := hv
        have hlk : lack ws S i = ((way ws i).2.2 : Int) * 4096 - (S.dep (way ws i).1 + S.dep (way ws i).2.1) := rfl
        have d1 := hd (way ws i).1
        have d2 := hd (way ws i).2.1
        refine ⟨.ref az, v, 0, _, rfl, zero_fr hz0, hv, ⟨by decide, by decide⟩, ⟨by omega, by omega⟩, fun H4 e4 => ⟨_, rfl, ?_⟩⟩
        have e24 := (e2.trans e3).trans e4
        refine ite2 (fun q2 => ?_) (fun q2 => next _ e24 ?_)
        · have q3 : ¬ (0 < lack ws S i) := fun z => by rw [decide_eq_true z] at q2; cases q2
          have hf : first ws S = some i := first_is hc (by unfold full; rw [hx, decide_eq_true (by omega)]; rfl) hno
          have := k H4 e24
          rw [hf] at this
          exact ⟨_, rfl, this⟩
        · have q3 : 0 < lack ws S i := Classical.byContradiction fun z => q2 (by rw [decide_eq_false z]; rfl)
          unfold full; rw [decide_eq_false (by omega), Bool.and_false]
      · have hx : crosses ws S i = false := decide_eq_false fun z => q (by rw [decide_eq_false fun y => z (ceq.mp y)]; rfl)
        unfold full; rw [hx, Bool.false_and]
    · rintro σ' H1 ⟨y1, y2, y3, y4, rfl, e, hno⟩
      rw [hul] at hno
      have hf : first ws S = none := List.find?_eq_none.mpr fun c hc => by rw [hno c (List.mem_range.mp hc)]; exact Bool.false_ne_true
      have := k H1 e
      rw [hf] at this
      exact this
theorem ok_Field__take {f : Addr} {fd : FuncData} (F : Fun K "_take" "Field._take" sField__take f fd) (m_tuple : mg "tuple" = none) (m_sorted : mg "sorted" = none) (fx : FTx K aC) : FnOk P w K mg base CX0 1 f fd ["self", "way"] (spTake K T aC) := by
  refine F.ok scField__take (fun vs H Q E h => ?_) (fun cdv A outer s H vs Q E hr h => ?_)
  · obtain ⟨f, n, t, c, ws, S, rfl, F, W, G, hc, hx, htk, k⟩ := h
    rfl
  · obtain ⟨f, n, t, c, ws, S, rfl, F, W, G, hc, hx, htk, k⟩ := h
    refine ⟨_, (pss_cons (ps_asg (pe_ix ix_tup (pe_fld (pv 0) rfl) (pv 1) (fun _ _ => rfl)) (pg_tup (by rfl) (pgs_cons (pg_name (i := 2) scField__take.nd rfl (Or.inl rfl)) (pgs_cons (pg_name (i := 3) scField__take.nd rfl (Or.inl rfl)) (pgs_cons (pg_name (i := 4) scField__take.nd rfl (Or.inl rfl)) pgs_nil)))))
      (pss_cons (ps_set (i := 5) scField__take.nd rfl (Or.inl rfl) (pe_callTy call_tuple_of (by rfl) m_tuple (by decide +kernel) (pa_cons (pe_callB GE.cr_sortedTI (by rfl) m_sorted (by decide +kernel) (pa_cons (pe_op op_catT (pe_ix ix_list (pe_fld (pv 0) rfl) (pv 2) (fun _ _ => rfl)) (pe_ix ix_list (pe_fld (pv 0) rfl) (pv 3) (fun _ _ => rfl))) pa_nil)) pa_nil)))
      (pss_cons (ps_for PassesOwn.never rfl (pi_tup (pv 5)) (pg_name (i := 6) scField__take.nd rfl (Or.inl rfl)) (pss_one (ps_asg (pv 5) (pg_sub (pe_fld (pv 0) rfl) (pv 6) set_list))))
      (pss_cons (ps_expr (pe_bm PySem.F.plainAttrs_list PySem.F.slot_list_append PySem.F.type_list_append mt_append (pe_fld (pv 0) rfl) (pa_cons (pe_tup (pa_cons (pe_fld (pv 0) rfl) (pa_cons (pv 1) pa_nil))) pa_nil)))
      (pss_one (ps_ret (pv 5))))))), ?_⟩
    obtain ⟨dx, tv, hob, htv⟩ := F.ob
    obtain ⟨vh, hlh, hlenh, hhm⟩ := F.hm
    obtain ⟨vt, hlt, htl⟩ := F.tk
    obtain ⟨wa, us, ewt, hwa, hus⟩ := F.wy
    obtain ⟨es, HM⟩ := G.hom
    have n12 := W.n12
    obtain ⟨w1, w2, w3, w4⟩ := W.ok c hc
    have ha : (way ws c).1 < n := Nat.lt_trans w1 w2
    obtain ⟨xa, g1, g2⟩ := way_get2 hus hc
    obtain ⟨ta, ga1, ga2⟩ := hhm _ ha
    obtain ⟨tb, gb1, gb2⟩ := hhm _ w2
    have hne := of_decide_eq_true hx
    have l1 := cls_len S.h n (way ws c).1
    have l2 := cls_len S.h n (way ws c).2.1
    refine ⟨_, rfl, f.p, aC, dx, _, _, rfl, hob, fx.cl, fx.n_ways, ff_ways _ _, _, rfl, wa, _, _, _, ewt, rfl, SqT.of hwa, at_of (j := c) rfl g1, xa, _, rfl, SqT.of g2, rfl, _, _, rfl, _, _, rfl, _, _, rfl, rfl, ?_⟩
    refine ⟨_, rfl, f.p, aC, dx, _, _, rfl, hob, fx.cl, fx.n_homes, ff_homes _ _, _, rfl, f.lh, _, _, _, rfl, rfl, SqL.of hlh, at_of (j := (way ws c).1) rfl ga1, ?_⟩
    refine ⟨_, rfl, f.p, aC, dx, _, _, rfl, hob, fx.cl, fx.n_homes, ff_homes _ _, _, rfl, f.lh, _, _, _, rfl, rfl, SqL.of hlh, at_of (j := (way ws c).2.1) rfl gb1, ?_⟩
    have hcat : natsV (cls S.h n (way ws c).1) ++ natsV (cls S.h n (way ws c).2.1) = ((cls S.h n (way ws c).1 ++ cls S.h n (way ws c).2.1).map fun x : Nat => (x : Int)).map V.int := by
      unfold natsV; rw [← List.map_append, List.map_map]; rfl
    have nea : ∀ x, x < n → natsV (cls S.h n x) ≠ [] := fun x hx => by
      obtain ⟨r, hr⟩ := cls_head HM hx
      rw [hr]; exact List.cons_ne_nil _ _
    refine ⟨ta, tb, _, _, rfl, rfl, SqT.of ga2, SqT.of gb2, nea _ ha, Nat.le_of_lt (small1000 ?_), fun z => absurd z (nea _ w2), fun _ p1 hp1 => ?_⟩
    · unfold natsV; rw [List.length_map, List.length_map]; omega
    rw [hcat]
    have e1 : Ext T noM H (upd H p1 (.tup (((cls S.h n (way ws c).1 ++ cls S.h n (way ws c).2.1).map fun x : Nat => (x : Int)).map V.int))) := Ext.new hp1
    refine ⟨p1, _, rfl, SqT.of upd_same, fun ms l hms hsrt hl => ?_⟩
    have ems := cls_join HM ha w2 hne hms hsrt
    subst ems
    have hJ : ((cls (relab S.h (way ws c).1 (way ws c).2.1) n (way ws c).1).map fun x : Nat => (x : Int)).map V.int = natsV (cls (relab S.h (way ws c).1 (way ws c).2.1) n (way ws c).1) := by unfold natsV; rw [List.map_map]; rfl
    rw [hJ]
    have hco := fun x (hx : x < n) => cls_other HM ha w2 hx
    generalize hJJ : cls (relab S.h (way ws c).1 (way ws c).2.1) n (way ws c).1 = J at hco ⊢
    have hJn : ∀ x ∈ J, x < n := fun x hx => by rw [← hJJ] at hx; exact (mem_cls.mp hx).1
    have hJl : J.length ≤ n := by rw [← hJJ]; exact cls_len _ _ _
    generalize (upd H p1 (.tup (((cls S.h n (way ws c).1 ++ cls S.h n (way ws c).2.1).map fun x : Nat => (x : Int)).map V.int))) = H1 at e1 hl ⊢
    have e2 : Ext T noM H1 (upd H1 l (.lst (natsV J))) := Ext.new hl
    refine ⟨l, _, rfl, .inl ⟨SqL.of upd_same, fun t1 ht1 => ?_⟩⟩
    have e3 : Ext T noM (upd H1 l (.lst (natsV J))) (upd (upd H1 l (.lst (natsV J))) t1 (.tup (natsV J))) := Ext.new ht1
    have e13 := (e1.trans e2).trans e3
    have hz : (upd (upd H1 l (.lst (natsV J))) t1 (.tup (natsV J))) t1 = some (.tup (natsV J)) := upd_same
    generalize (upd (upd H1 l (.lst (natsV J))) t1 (.tup (natsV J))) = H3 at e13 hz ⊢
    have hob3 := e13.kp _ _ (fun z => z) hob (fun ps z => nomatch z)
    have hlh3 := e13.lst (fun z => z) hlh
    have nph : f.p ≠ f.lh := fun z => by rw [z, hlh3] at hob3; cases hob3
    have nt1 : t1 ≠ f.lh := fun z => by rw [z, hlh3] at hz; cases hz
    refine ⟨_, rfl, t1, rfl, ⟨_, SqT.of hz⟩, for_tup (K := K) (a := t1) (xs := natsV J) (fun i σ' H' => ∃ y vs, σ' = [some (.ref f.p), some (.int (c : Nat)), some (.int (way ws c).1), some (.int (way ws c).2.1), some (.int (way ws c).2.2), some (.ref t1), y] ∧ H' f.lh = some (.lst vs) ∧ (∀ b, b ≠ f.lh → H' b = H3 b) ∧ vs.length = n ∧
        ∀ x, x < n → vs[x]? = if x ∈ J.take i then some (.ref t1) else vh[x]?) ⟨none, vh, rfl, hlh3, fun b _ => rfl, hlenh, fun x _ => by rw [if_neg (by simp)]⟩ (fun i σ' H' _ ⟨_, _, _, _, q, _⟩ => SqT.of (by rw [q _ nt1]; exact hz)) ?_ ?_⟩
    · rintro i x σ' H4 hx4 ⟨y, vs, rfl, hv, hoth, hvl, hvx⟩
      obtain ⟨j, hj, rfl⟩ : ∃ j, J[i]? = some j ∧ x = V.int ((j : Nat) : Int) := by
        unfold natsV at hx4
        rw [List.getElem?_map] at hx4
        cases e : J[i]? with
        | none => rw [e] at hx4; cases hx4
        | some c => rw [e] at hx4; exact ⟨c, rfl, (Option.some.inj hx4).symm⟩
      have hjn := hJn j (List.mem_of_getElem? hj)
      have hob4 : H4 f.p = some (.ins aC dx (ff tv f)) := by rw [hoth _ nph]; exact hob3
      refine ⟨_, rfl, _, rfl, f.p, aC, dx, _, _, rfl, hob4, fx.cl, fx.n_homes, ff_homes _ _, _, rfl, f.lh, vs, _, j, rfl, rfl, hv, Evl.ixN_nat (by omega), ?_⟩
      refine ⟨_, vs.set j (.ref t1), rfl, upd_same, fun b hb => by rw [upd_ne hb]; exact hoth b hb, by rw [List.length_set]; exact hvl, fun x hx => ?_⟩
      rw [take_succ' hj]
      by_cases q : x = j
      · subst q
        rw [if_pos (by simp), List.getElem?_set_self (by omega)]
      · rw [List.getElem?_set_ne (fun z => q z.symm), hvx x hx]
        by_cases q2 : x ∈ J.take i
        · rw [if_pos q2, if_pos (List.mem_append_left _ q2)]
        · rw [if_neg q2, if_neg (fun z => by rcases List.mem_append.mp z with z | z; exact q2 z; exact q (List.mem_singleton.mp z))]
    · rintro σ' H4 ⟨y, vs, rfl, hv, hoth, hvl, hvx⟩
      have hnl : (natsV J).length = J.length := by unfold natsV; rw [List.length_map]
      rw [hnl, List.take_length] at hvx
      have hob4 : H4 f.p = some (.ins aC dx (ff tv f)) := by rw [hoth _ nph]; exact hob3
      have hlt3 := e13.lst (fun z => z) hlt
      have hlt4 : H4 f.lt = some (.lst vt) := by rw [hoth _ F.ne.1]; exact hlt3
      have htl' := htl.len
      refine ⟨_, rfl, f.p, aC, dx, _, _, rfl, hob4, fx.cl, fx.n_taken, ff_taken _ _, .inl ⟨rfl, _, SqL.of hlt4⟩, ?_⟩
      refine ⟨_, rfl, f.p, aC, dx, _, _, rfl, hob4, fx.cl, fx.n_time, ff_time _ _, _, rfl, by show 2 ≤ sizeLine; decide, fun t2 ht2 => ?_⟩
      have e5 : Ext T noM H4 (upd H4 t2 (.tup [tv, .int (c : Nat)])) := Ext.new ht2
      have hlt5 := e5.lst (fun z => z) hlt4
      have nlt : f.lt ≠ t2 := ne_of_none hlt4 ht2
      refine ⟨f.lt, vt, _, rfl, rfl, hlt5, small1000 (by omega), _, rfl, k t1 _ ?_ ?_ ?_⟩
      · show _ = some (HO.tup (natsV (cls (relab S.h (way ws c).1 (way ws c).2.1) n (way ws c).1)))
        rw [hJJ]
        have tp4 : Tp K H3 H4 := Tp.only hlh3 (fun xs z => nomatch z) (fun o xs z => nomatch z) hoth
        have tp5 : Tp K H4 (upd H4 t2 (.tup [tv, .int (c : Nat)])) := Tp.of e5
        have tp6 : Tp K (upd H4 t2 (.tup [tv, .int (c : Nat)])) (upd (upd H4 t2 (.tup [tv, .int (c : Nat)])) f.lt (.lst (vt ++ [.ref t2]))) := Tp.mut hlt5 (fun xs z => nomatch z) (fun o xs z => nomatch z)
        exact ((tp4.trans tp5).trans tp6).tup _ _ hz
      · have tp3 : Tp K H H3 := Tp.of e13
        have tp4 : Tp K H3 H4 := Tp.only hlh3 (fun xs z => nomatch z) (fun o xs z => nomatch z) hoth
        have tp5 : Tp K H4 (upd H4 t2 (.tup [tv, .int (c : Nat)])) := Tp.of e5
        have tp6 : Tp K (upd H4 t2 (.tup [tv, .int (c : Nat)])) (upd (upd H4 t2 (.tup [tv, .int (c : Nat)])) f.lt (.lst (vt ++ [.ref t2]))) := Tp.mut hlt5 (fun xs z => nomatch z) (fun o xs z => nomatch z)
        have tp := ((tp3.trans tp4).trans tp5).trans tp6
        have keep : ∀ b o, H b = some o → (∀ ps, o ≠ .tbl ps) → b ≠ f.lh → b ≠ f.lt → (upd (upd H4 t2 (.tup [tv, .int (c : Nat)])) f.lt (.lst (vt ++ [.ref t2]))) b = some o := fun b o hb nb n1 n2 => by
          rw [upd_ne n2]
          have : H4 b = some o := by rw [hoth _ n1]; exact e13.kp _ _ (fun z => z) hb nb
          rw [upd_ne (ne_of_none this ht2)]; exact this
        have npt : f.p ≠ f.lt := fun z => by rw [z, hlt] at hob; cases hob
        obtain ⟨kvs, b1, b2⟩ := F.wd
        have nwh : f.lw ≠ f.lh := fun z => by rw [z, hlh] at b1; cases b1
        have nwt : f.lw ≠ f.lt := fun z => by rw [z, hlt] at b1; cases b1
        obtain ⟨vd, d1, d2, d3⟩ := F.dp
        refine ⟨⟨dx, tv, keep _ _ hob (fun ps z => nomatch z) nph npt, tp.fr htv⟩, ⟨_, upd_same, ?_⟩, ⟨kvs, keep _ _ b1 (fun ps z => nomatch z) nwh nwt, tp.wd b2⟩, ⟨vs, ?_, hvl, fun x hx => ?_⟩, ⟨vd, keep _ _ d1 ltbl (fun z => F.ne.2.2 z.symm) (fun z => F.ne.2.1 z.symm), d2, fun x hx => by obtain ⟨v, q1, q2⟩ := d3 x hx; exact ⟨v, q1, tp.fr q2⟩⟩, ⟨wa, us, ewt, tp.tup _ _ hwa, tp.rpl hus⟩, F.ne⟩
        · refine TkL.snoc (tv := tv) ?_ (tp.fr htv) (tp.tk htl)
          rw [upd_ne (fun z => nlt z.symm), upd_same]
        · rw [upd_ne (fun z => F.ne.1 z.symm)]
          rw [upd_ne (ne_of_none hv ht2)]; exact hv
        · have hx' := hvx x hx
          obtain ⟨o1, o2⟩ := hco x hx
          show ∃ t, vs[x]? = some (V.ref t) ∧ _ = some (HO.tup (natsV (cls (relab S.h (way ws c).1 (way ws c).2.1) n x)))
          by_cases q : x ∈ J
          · rw [if_pos q] at hx'
            exact ⟨t1, hx', by rw [o1 q]; exact (tp4.trans (tp5.trans tp6)).tup _ _ hz⟩
          · rw [if_neg q] at hx'
            obtain ⟨tt, q1, q2⟩ := hhm x hx
            exact ⟨tt, by rw [hx', q1], by rw [o2 q]; exact tp.tup _ _ q2⟩
      · have eo : Ext T (Fm f) H3 H4 := Ext.only (p := f.lh) (.inr (.inr (.inr (.inl rfl)))) hlh3 ltbl hv hoth
        exact ((e13.weak.trans eo).trans e5.weak).mut (.inr (.inr (.inl rfl))) hlt5 ltbl
theorem ok_Field_take_full_ways {f : Addr} {fd : FuncData} (F : Fun K "take_full_ways" "Field.take_full_ways" sField_take_full_ways f fd) {fField__first_full_way : Addr} {fdField__first_full_way : FuncData} (FField__first_full_way : Fun K "_first_full_way" "Field._first_full_way" sField__first_full_way fField__first_full_way fdField__first_full_way) (GField__first_full_way : FnOk P w K mg base CX0 4 fField__first_full_way fdField__first_full_way ["self"] (spFirst K T aC)) (bField__first_full_way : Binds K fdField__first_full_way ["self"] []) (mmField__first_full_way : Meth K aC "_first_full_way" fField__first_full_way) {fField__take : Addr} {fdField__take : FuncData} (FField__take : Fun K "_take" "Field._take" sField__take fField__take fdField__take) (GField__take : FnOk P w K mg base CX0 4 fField__take fdField__take ["self", "way"] (spTake K T aC)) (bField__take : Binds K fdField__take ["self", "way"] []) (mmField__take : Meth K aC "_take" fField__take) (fx : FTx K aC) : FnOk P w K mg base CX0 5 f fd ["self"] (spFull K T aC) := by
  refine F.ok scField_take_full_ways (fun vs H Q E h => ?_) (fun cdv A outer s H vs Q E hr h => ?_)
  · obtain ⟨f, n, t, ws, S, rfl, F0, W, G, t12, hcnt, k⟩ := h
    rfl
  · obtain ⟨f, n, t, ws, S, rfl, F0, W, G, t12, hcnt, k⟩ := h
    refine ⟨_, (pss_cons (ps_set (i := 1) scField_take_full_ways.nd rfl (Or.inl rfl) (pe_lst pa_nil))
      (pss_cons (ps_set (i := 2) scField_take_full_ways.nd rfl (Or.inl rfl) (pe_meth0 (pv 0) fx.cl mmField__first_full_way GField__first_full_way hr bField__first_full_way .nil pass0))
      (pss_cons (ps_while PassesOwn.never (pt_cmpR op_notN (pv 2) pe_non (nomark _)) (pss_cons (ps_expr (pe_bm PySem.F.plainAttrs_list PySem.F.slot_list_append PySem.F.type_list_append mt_append (pv 1) (pa_cons (pe_meth (pv 0) fx.cl mmField__take GField__take hr bField__take .nil pass0 (pa_cons (pv 2) pa_nil)) pa_nil)))
      (pss_one (ps_set (i := 2) scField_take_full_ways.nd rfl (Or.inl rfl) (pe_meth0 (pv 0) fx.cl mmField__first_full_way GField__first_full_way hr bField__first_full_way .nil pass0)))))
      (pss_one (ps_ret (pv 1)))))), ?_⟩
    have n12 := W.n12
    refine ⟨by show 0 ≤ sizeLine; decide, fun b hb => ?_⟩
    have hbF : ¬ Fm f b := fun m => by obtain ⟨o, q, _⟩ := F0.not b m; rw [hb] at q; cases q
    have e0 : Ext T noM H (upd H b (.lst [])) := Ext.new hb
    have F := F0.x e0
    have hb0 : (upd H b (.lst [])) b = some (.lst []) := upd_same
    generalize (upd H b (.lst [])) = H0 at e0 F hb0 ⊢
    obtain ⟨dx, tv, hob, htv⟩ := F.ob
    refine ⟨_, rfl, f.p, dx, _, rfl, hob, by rfl, f, n, t, ws, S, rfl, F, W, G, t12, fun H1 e1 => ?_⟩
    refine ⟨fun j σ' H' => ∃ S' bvs dn, σ' = [some (.ref f.p), some (.ref b), some (firstV ws S')] ∧ FieldAt K aC H' f n ws S' ∧ GM n ws t S' ∧ (reps S'.h n).length ≤ j ∧ takeAll ws j S' = takeAll ws n S ∧ S'.taken.length + (reps S'.h n).length ≤ n ∧ H' b = some (.lst bvs) ∧ TupsL H' dn bvs ∧ dn ++ bornAll ws n j S' = bornAll ws n n S ∧ dn.length + (reps S'.h n).length ≤ n ∧ Ext T (Fm f) H H',
      ⟨n, S, [], [], rfl, F.x e1, G, reps_len _ _, rfl, hcnt, e1.lst (fun z => z) hb0, TupsL.nil, rfl, by have := reps_len S.h n; simp; omega, (e0.trans e1).weak⟩, ?_⟩
    rintro j σ' H2 ⟨S', bvs, dn, rfl, F2, G2, hr, heq, hcn, hb2, TL, hdn, hdl, e2⟩
    refine ⟨_, rfl, rfl, _, rfl, ?_⟩
    cases hf : first ws S' with
    | none =>
      have e : firstV ws S' = .non := by unfold firstV; rw [hf]
      rw [e]
      refine iteF ?_
      rw [takeAll_stop hf] at heq
      rw [born_stop hf, List.append_nil] at hdn
      exact ⟨_, rfl, k b bvs H2 hb2 (hdn ▸ TL) hbF hb (heq ▸ F2) e2⟩
    | some c =>
      have e : firstV ws S' = .int (c : Nat) := by unfold firstV; rw [hf]
      rw [e]
      obtain ⟨hc, hx, _⟩ := first_some hf
      obtain ⟨G3, hlt⟩ := G2.take W hc hx
      obtain ⟨i, rfl⟩ : ∃ i, j = i + 1 := ⟨j - 1, by omega⟩
      rw [takeAll_go hf] at heq
      rw [born_go hf] at hdn
      obtain ⟨dx2, tv2, hob2, _⟩ := F2.ob
      refine iteT ⟨fun σ' H' => ∃ S' bvs dn, σ' = [some (.ref f.p), some (.ref b), some (firstV ws S')] ∧ FieldAt K aC H' f n ws S' ∧ GM n ws t S' ∧ (reps S'.h n).length ≤ i ∧ takeAll ws i S' = takeAll ws n S ∧ S'.taken.length + (reps S'.h n).length ≤ n ∧ H' b = some (.lst bvs) ∧ TupsL H' dn bvs ∧ dn ++ bornAll ws n i S' = bornAll ws n n S ∧ dn.length + (reps S'.h n).length ≤ n ∧ Ext T (Fm f) H H', fun σ' H' q => ⟨i, Nat.lt_succ_self i, q⟩, ?_⟩
      refine ⟨_, rfl, .inl ⟨rfl, _, SqL.of hb2⟩, ?_⟩
      refine ⟨_, rfl, f.p, dx2, _, rfl, hob2, by rfl, _, rfl, f, n, t, c, ws, S', rfl, F2, W, G2, hc, hx, by omega, fun jt H3 hjt F3 e3 => ?_⟩
      have hb3 := e3.lst hbF hb2
      have tp3 : Tp K H2 H3 := Tp.ofF F2 e3
      have bl := TL.1
      refine ⟨b, bvs, _, rfl, rfl, hb3, small1000 (by omega), ?_⟩
      have tp4 : Tp K H3 (upd H3 b (.lst (bvs ++ [.ref jt]))) := Tp.mut hb3 (fun xs z => nomatch z) (fun o xs z => nomatch z)
      have e34 : Ext T (Fm f) H (upd H3 b (.lst (bvs ++ [.ref jt]))) := (e2.trans e3).mut (.inl hb) hb3 ltbl
      have F4 := F3.o (ys := bvs ++ [.ref jt]) hbF hb3
      have TL4 := (TL.tup (tp3.trans tp4).tup).snoc (tp4.tup _ _ hjt)
      have hb4 : (upd H3 b (.lst (bvs ++ [.ref jt]))) b = some (.lst (bvs ++ [.ref jt])) := upd_same
      generalize (upd H3 b (.lst (bvs ++ [.ref jt]))) = H4 at e34 F4 TL4 hb4 ⊢
      obtain ⟨dx3, tv3, hob3, _⟩ := F4.ob
      refine ⟨_, rfl, f.p, dx3, _, rfl, hob3, by rfl, f, n, t, ws, take1 ws S' c, rfl, F4, W, G3, t12, fun H5 e5 => ?_⟩
      refine ⟨take1 ws S' c, bvs ++ [.ref jt], dn ++ [cls (take1 ws S' c).h n (way ws c).1], rfl, F4.x e5, G3, by omega, heq, ?_, e5.lst (fun z => z) hb4, TL4.tup fun b xs => e5.tup (fun z => z), by rw [List.append_assoc]; exact hdn, ?_, e34.trans e5.weak⟩
      · show (S'.taken ++ [(S'.time, c)]).length + _ ≤ n
        rw [List.length_append, List.length_singleton]; omega
      · rw [List.length_append, List.length_singleton]; omega
end
end Mw

set_option Elab.async false
set_option linter.all false
set_option maxRecDepth 100000
set_option maxHeartbeats 4000000
namespace Mw
open PySem PySem.Spec PyProof.Rows L2 GE
theorem op_neDK {X : Cx} {K : PySem.W.Frag} (hu : X.A.units + 64 < cLine) (h : X.K = K := by rfl) : OpR X (compareOp .NotEq) (rNeD K) := h ▸ op_neD hu
theorem op_inDTK {X : Cx} {K : PySem.W.Frag} (hu : X.A.units + 65 < cLine) (h : X.K = K := by rfl) : OpR X (compareOp .In) (rInDT K false) := h ▸ op_inDT hu
def betw (ws : Wl) (S : Gs) : List Nat := (List.range ws.length).filter (crosses ws S)
theorem filter_take {f : Nat → Bool} {n i : Nat} (hi : i ≤ n) : ((List.range n).take i) = List.range i := by rw [List.take_range, Nat.min_eq_left hi]
/-- the tuple of the open groups -/
structure RisV (K : PySem.W.Frag) (H : Hp) (n : Nat) (h : Nat → Nat) (R : List Nat) (v : V) : Prop where
  at_ : ∃ (a : Addr) (vs : List V), v = .ref a ∧ H a = some (.tup vs) ∧ vs.length = R.length ∧ ∀ (i r : Nat), R[i]? = some r → ∃ t : Addr, vs[i]? = some (V.ref t) ∧ H t = some (.tup (natsV (cls h n r)))
  ok : ∀ r ∈ R, r < n ∧ h r = r
theorem RisV.x {K : PySem.W.Frag} {T : List Addr} {H H' : Hp} {n : Nat} {h : Nat → Nat} {R : List Nat} {v : V} (r : RisV K H n h R v) (e : Ext T noM H H') : RisV K H' n h R v := by
  obtain ⟨⟨a, vs, e1, e2, e3, e4⟩, ok⟩ := r
  exact ⟨⟨a, vs, e1, e.tup (fun z => z) e2, e3, fun i q hq => by obtain ⟨t, q1, q2⟩ := e4 i q hq; exact ⟨t, q1, e.tup (fun z => z) q2⟩⟩, ok⟩
theorem dp_list {K : PySem.W.Frag} {H : Hp} {n : Nat} {h : Nat → Nat} : ∀ (R : List Nat) (vs : List V), vs.length = R.length → (∀ (i r : Nat), R[i]? = some r → ∃ t : Addr, vs[i]? = some (V.ref t) ∧ H t = some (.tup (natsV (cls h n r)))) → DpAll K H vs (R.map fun r => natD (cls h n r))
  | [], vs, hl, _ => by rw [List.eq_nil_of_length_eq_zero hl]; exact .nil
  | r :: R, [], hl, _ => by simp at hl
  | r :: R, v :: vs, hl, hx => by
    obtain ⟨t, q1, q2⟩ := hx 0 r rfl
    have e : v = .ref t := by simpa using q1
    rw [e]
    exact .cons (dp_nat q2) (dp_list R vs (by simpa using hl) fun i q hq => by simpa using hx (i + 1) q (by simpa using hq))
theorem natDs_shaped {h : Nat → Nat} {n : Nat} (R : List Nat) : SeqAt.shaped (.tuple (R.map fun r => natD (cls h n r))) = true := by
  have key : ∀ R : List Nat, PyData.canLayAll0 (R.map fun r => natD (cls h n r)) = true ∧ PyData.depthAll (R.map fun r => natD (cls h n r)) ≤ 1 := by
    intro R
    induction R with
    | nil => exact ⟨rfl, Nat.zero_le _⟩
    | cons r R ih =>
      obtain ⟨h1, h2⟩ := natD_all (cls h n r)
      simp only [List.map_cons, PyData.canLayAll0, PyData.depthAll, natD, PyData.canLay0, PyData.depth, h1, h2]
      simp only [natD] at ih
      exact ⟨by rw [ih.1]; rfl, by omega⟩
  obtain ⟨h1, h2⟩ := key R
  show (PyData.canLayAll0 _ && decide (PyData.depthAll _ + 1 ≤ 64)) = true
  rw [h1, Bool.true_and, decide_eq_true_eq]; omega
theorem ris_any {n : Nat} {es : List (Nat × Nat)} {h : Nat → Nat} (HM : Hom n es h) {R : List Nat} (ok : ∀ r ∈ R, r < n ∧ h r = r) {x : Nat} (hx : x < n) : ((R.map fun r => natD (cls h n r)).any fun z => PyData.eqv z (natD (cls h n x))) = decide (h x ∈ R) := by
  have e : ∀ r ∈ R, PyData.eqv (natD (cls h n r)) (natD (cls h n x)) = decide (r = h x) := fun r hr => by
    have e1 : PyData.eqv (natD (cls h n r)) (natD (cls h n x)) = decide (cls h n r = cls h n x) := eqv_nat _ _
    rw [e1, decide_eq_decide, cls_eq HM (ok r hr).1 hx, (ok r hr).2]
  rw [List.any_map]
  cases q : decide (h x ∈ R) with
  | true => exact List.any_eq_true.mpr ⟨h x, of_decide_eq_true q, by show PyData.eqv _ _ = true; rw [e _ (of_decide_eq_true q), decide_eq_true rfl]⟩
  | false =>
    refine List.any_eq_false.mpr fun r hr z => ?_
    have z2 : decide (r = h x) = true := (e r hr).symm.trans z
    exact of_decide_eq_false q (of_decide_eq_true z2 ▸ hr)
def cn (ws : Wl) (S : Gs) (R : List Nat) (c j : Nat) : Nat := (if 0 < j ∧ S.h (way ws c).1 ∈ R then 1 else 0) + (if 1 < j ∧ S.h (way ws c).2.1 ∈ R then 1 else 0)
theorem cn_le (ws : Wl) (S : Gs) (R : List Nat) (c j : Nat) : cn ws S R c j ≤ 2 := by unfold cn; split <;> split <;> omega
theorem cn_two (ws : Wl) (S : Gs) (R : List Nat) (c : Nat) : cn ws S R c 2 = spd ws S R c := by unfold cn spd; simp
theorem cand_bd {n t : Nat} {ws : Wl} {S : Gs} (W : WsOk n ws) (G : GM n ws t S) (ht : t < 12) (R : List Nat) {c : Nat} (hc : c < ws.length) (h0 : 0 < spd ws S R c) : bd (cand ws S R c) := by
  obtain ⟨e, _⟩ := G.cand_eq ht R h0
  have h2 := spd_le ws S R c
  have d1 := G.d0 (way ws c).1
  have d2 := G.d0 (way ws c).2.1
  obtain ⟨_, _, w3, w4⟩ := W.ok c hc
  have hl : lack ws S c = ((way ws c).2.2 : Int) * 4096 - (S.dep (way ws c).1 + S.dep (way ws c).2.1) := rfl
  unfold bd
  rcases (show spd ws S R c = 1 ∨ spd ws S R c = 2 by omega) with z | z <;> rw [z] at e <;> omega
def spSpan (K : PySem.W.Frag) (T : List Addr) (aC : Addr) : Sp := fun vs H Q _ => ∃ (f : FAd) (n t : Nat) (ws : Wl) (S : Gs) (R : List Nat) (rv : V), vs = [.ref f.p, rv] ∧ FieldAt K aC H f n ws S ∧ WsOk n ws ∧ GM n ws t S ∧ ws.length ≤ 24 ∧ t < 12 ∧ RisV K H n S.h R rv ∧
  ∀ v H', (match least ((canW ws S R).map (cand ws S R)) with | some x => FrV K H' x v | none => v = .non) → Ext T noM H H' → Q v H'
def spBetw (K : PySem.W.Frag) (T : List Addr) (aC : Addr) : Sp := fun vs H Q _ => ∃ (f : FAd) (n t : Nat) (ws : Wl) (S : Gs), vs = [.ref f.p] ∧ FieldAt K aC H f n ws S ∧ WsOk n ws ∧ GM n ws t S ∧ ws.length ≤ 24 ∧
  ∀ l vs H', H l = none → H' l = some (.lst vs) → RpL H' ((betw ws S).map fun c => wayD (way ws c)) vs → Ext T noM H H' → Q (.ref l) H'
section
variable {P : Program} {w : World} {K : PySem.W.Frag} {mg : Str → Option Value} {base : Heap} {T : List Addr} {aC : Addr}
theorem ok_Field__ways_between {f : Addr} {fd : FuncData} (F : Fun K "_ways_between" "Field._ways_between" sField__ways_between f fd) (fx : FTx K aC) : FnOk P w K mg base CX0 1 f fd ["self"] (spBetw K T aC) := by
  refine F.ok scField__ways_between (fun vs H Q E h => ?_) (fun cdv A outer s H vs Q E hr h => ?_)
  · obtain ⟨f, n, t, ws, S, rfl, F, W, G, h24, k⟩ := h
    rfl
  · obtain ⟨f, n, t, ws, S, rfl, F, W, G, h24, k⟩ := h
    refine ⟨_, (pss_one (ps_ret (pe_lc (own := [("way", 1)]) (g := (gName 1)) rfl scField__ways_between.nd (pi_tup (pe_fld (pv 0) rfl)) (blkOk_by (own := [("way", 1)]) (N := ["self", "way"]) (sc := defScope sField__ways_between) (by decide +kernel)) (fun _ _ _ _ _ => (pg_name (i := 1) scField__ways_between.nd rfl (Or.inl rfl))) (fun _ _ _ _ _ => (pts_one (pt_cmpR (op_neDK (K := K) (by have := hr.un; show (A.deeper _).units + 64 < _; omega)) (pe_ix (GE.ix_listK (K := K)) (GE.pe_fldK (K := K) (pv 0) rfl) (pe_ix (GE.ix_tupK (K := K)) (pv 1) pe_int (fun _ _ => rfl)) (fun _ _ => rfl)) (pe_ix (GE.ix_listK (K := K)) (GE.pe_fldK (K := K) (pv 0) rfl) (pe_ix (GE.ix_tupK (K := K)) (pv 1) pe_int (fun _ _ => rfl)) (fun _ _ => rfl)) (nomark _)))) (fun _ _ _ _ _ => (pv 1))))), ?_⟩
    obtain ⟨dx, tv, hob, _⟩ := F.ob
    obtain ⟨vh, hlh, hlenh, hhm⟩ := F.hm
    obtain ⟨wa, us, ewt, hwa, hus⟩ := F.wy
    obtain ⟨es, HM⟩ := G.hom
    have hul : us.length = ws.length := by rw [hus.len, List.length_map]
    refine ⟨_, rfl, f.p, aC, dx, _, _, rfl, hob, fx.cl, fx.n_ways, ff_ways _ _, wa, ewt, ⟨_, SqT.of hwa⟩, fun Dl hD => ?_⟩
    have e1 : Ext T noM H (upd H Dl (.lst [])) := Ext.new hD
    refine lc_tup (K := K) (a := wa) (xs := us) (fun j H' => ∃ vs, Ext T noM H H' ∧ H' Dl = some (.lst vs) ∧ RpL H' (((List.range j).filter (crosses ws S)).map fun c => wayD (way ws c)) vs) ⟨[], e1, upd_same, rpl_nil⟩ (fun j H' _ ⟨_, e, _⟩ => SqT.of (e.tup (fun z => z) hwa)) ?_ ?_
    · rintro j x H3 hx ⟨vs, e, hD3, r3⟩
      have hj : j < ws.length := by have := (List.getElem?_eq_some_iff.mp hx).1; omega
      obtain ⟨xa, g1, g2⟩ := way_get2 hus hj
      rw [hx] at g1
      obtain rfl := Option.some.inj g1
      obtain ⟨w1, w2, _⟩ := W.ok j hj
      have ha : (way ws j).1 < n := Nat.lt_trans w1 w2
      obtain ⟨ta, ga1, ga2⟩ := hhm _ ha
      obtain ⟨tb, gb1, gb2⟩ := hhm _ w2
      have ceq := cls_eq HM ha w2
      have g3 := e.tup (fun z => z) g2
      have hob3 := e.kp _ _ (fun z => z) hob (fun ps z => nomatch z)
      have hlh3 := e.lst (fun z => z) hlh
      have hfl : ((List.range (j + 1)).filter (crosses ws S)) = (List.range j).filter (crosses ws S) ++ if crosses ws S j then [j] else [] := filter_range_succ _ _
      refine ⟨rfl, ?_⟩
      refine ⟨_, rfl, f.p, aC, dx, _, _, rfl, hob3, fx.cl, fx.n_homes, ff_homes _ _, _, rfl, xa, _, _, _, rfl, rfl, SqT.of g3, at_of (j := 0) rfl rfl, f.lh, _, _, _, rfl, rfl, SqL.of hlh3, at_of (j := (way ws j).1) rfl ga1, ?_⟩
      refine ⟨_, rfl, f.p, aC, dx, _, _, rfl, hob3, fx.cl, fx.n_homes, ff_homes _ _, _, rfl, xa, _, _, _, rfl, rfl, SqT.of g3, at_of (j := 1) rfl rfl, f.lh, _, _, _, rfl, rfl, SqL.of hlh3, at_of (j := (way ws j).2.1) rfl gb1, ?_⟩
      refine ⟨natD _, natD _, dp_nat (e.tup (fun z => z) ga2), dp_nat (e.tup (fun z => z) gb2), natD_shaped _, natD_shaped _, _, rfl, ?_⟩
      have eqv : PyData.eqv (natD (cls S.h n (way ws j).1)) (natD (cls S.h n (way ws j).2.1)) = decide (cls S.h n (way ws j).1 = cls S.h n (way ws j).2.1) := eqv_nat _ _
      rw [eqv]
      refine ite2 (fun q => ?_) (fun q => ?_)
      · have hxx : crosses ws S j = true := decide_eq_true fun z => by rw [decide_eq_true (ceq.mpr z)] at q; cases q
        rw [hxx, if_pos rfl] at hfl
        refine ⟨_, rfl, vs, hD3, ?_, vs ++ [.ref xa], e.mut (.inl hD) hD3 ltbl, upd_same, ?_⟩
        · have h1 := r3.len
          have h2 := List.length_filter_le (crosses ws S) (List.range j)
          rw [List.length_map] at h1
          rw [List.length_range] at h2
          exact small1000 (by omega)
        · rw [hfl, List.map_append]
          exact rpl_upd (RpL.snoc r3 (rp_way g3)) hD3
      · have hxx : crosses ws S j = false := decide_eq_false fun z => q (by rw [decide_eq_false fun y => z (ceq.mp y)]; rfl)
        rw [hxx, if_neg (by simp), List.append_nil] at hfl
        exact ⟨vs, e, hD3, by rw [hfl]; exact r3⟩
    · rintro H3 ⟨vs, e, hD3, r3⟩
      rw [hul] at r3
      exact k Dl vs H3 hD hD3 r3 e
theorem ok_Field_span_until_full {f : Addr} {fd : FuncData} (F : Fun K "span_until_full" "Field.span_until_full" sField_span_until_full f fd) (m_len : mg "len" = none) {fField__ways_between : Addr} {fdField__ways_between : FuncData} (FField__ways_between : Fun K "_ways_between" "Field._ways_between" sField__ways_between fField__ways_between fdField__ways_between) (GField__ways_between : FnOk P w K mg base CX0 3 fField__ways_between fdField__ways_between ["self"] (spBetw K T aC)) (bField__ways_between : Binds K fdField__ways_between ["self"] []) (mmField__ways_between : Meth K aC "_ways_between" fField__ways_between) {fField__slack : Addr} {fdField__slack : FuncData} (FField__slack : Fun K "_slack" "Field._slack" sField__slack fField__slack fdField__slack) (GField__slack : FnOk P w K mg base CX0 3 fField__slack fdField__slack ["self", "a", "b", "cost"] (spSlack K T aC)) (bField__slack : Binds K fdField__slack ["self", "a", "b", "cost"] []) (mmField__slack : Meth K aC "_slack" fField__slack) {fratio : Addr} {fdratio : FuncData} (Fratio : Fun K "ratio" "ratio" sratio fratio fdratio) (Gratio : FnOk P w K mg base CX0 3 fratio fdratio ["top", "bottom"] (spRatio K T)) (bratio : Binds K fdratio ["top", "bottom"] []) (gratio : mg "ratio" = some (.ref fratio)) {fless : Addr} {fdless : FuncData} (Fless : Fun K "less" "less" sless fless fdless) (Gless : FnOk P w K mg base CX0 3 fless fdless ["first", "second"] (spLess K T)) (bless : Binds K fdless ["first", "second"] []) (gless : mg "less" = some (.ref fless)) (fx : FTx K aC) : FnOk P w K mg base CX0 4 f fd ["self", "rising"] (spSpan K T aC) := by
  refine F.ok scField_span_until_full (fun vs H Q E h => ?_) (fun cdv A outer s H vs Q E hr h => ?_)
  · obtain ⟨f, n, t, ws, S, R, rv, rfl, F, W, G, h24, t12, RV, k⟩ := h
    rfl
  · obtain ⟨f, n, t, ws, S, R, rv, rfl, F, W, G, h24, t12, RV, k⟩ := h
    refine ⟨_, (pss_cons (ps_set (i := 2) scField_span_until_full.nd rfl (Or.inl rfl) pe_non)
      (pss_cons (ps_for PassesOwn.never rfl (pi_list (pe_meth0 (pv 0) fx.cl mmField__ways_between GField__ways_between hr bField__ways_between .nil pass0)) (pg_tup (by rfl) (pgs_cons (pg_name (i := 3) scField_span_until_full.nd rfl (Or.inl rfl)) (pgs_cons (pg_name (i := 4) scField_span_until_full.nd rfl (Or.inl rfl)) (pgs_cons (pg_name (i := 5) scField_span_until_full.nd rfl (Or.inl rfl)) pgs_nil)))) (pss_cons (ps_set (i := 6) scField_span_until_full.nd rfl (Or.inl rfl) (pe_callB call_len_seq (by rfl) m_len PySem.boot_len (pa_cons (pe_lc (own := [("group", 7)]) (g := (gName 7)) rfl scField_span_until_full.nd (pi_tup (pe_tup (pa_cons (pe_ix ix_list (pe_fld (pv 0) rfl) (pv 3) (fun _ _ => rfl)) (pa_cons (pe_ix ix_list (pe_fld (pv 0) rfl) (pv 4) (fun _ _ => rfl)) pa_nil)))) (blkOk_by (own := [("group", 7)]) (N := ["self", "rising", "best", "a", "b", "cost", "speed", "group", "slack", "span"]) (sc := defScope sField_span_until_full) (by decide +kernel)) (fun _ _ _ _ _ => (pg_name (i := 7) scField_span_until_full.nd rfl (Or.inl rfl))) (fun _ _ _ _ _ => (pts_one (pt_cmpR (op_inDTK (K := K) (by have := hr.un; show (A.deeper _).units + 65 < _; omega)) (pv 7) (pv 1) (by rfl)))) (fun _ _ _ _ _ => (pv 7))) pa_nil)))
      (pss_one (ps_if (pt_cmpR op_gt (pv 6) pe_int (nomark _)) (pss_cons (ps_set (i := 8) scField_span_until_full.nd rfl (Or.inl rfl) (pe_meth (pv 0) fx.cl mmField__slack GField__slack hr bField__slack .nil pass0 (pa_cons (pv 3) (pa_cons (pv 4) (pa_cons (pv 5) pa_nil)))))
      (pss_cons (ps_set (i := 9) scField_span_until_full.nd rfl (Or.inl rfl) (pe_call Gratio hr (by rfl) gratio Fratio.kp bratio .nil pass0 (pa_cons (pe_ix ix_tup (pv 8) pe_int (fun _ _ => rfl)) (pa_cons (pe_op op_mul (pe_ix ix_tup (pv 8) pe_int (fun _ _ => rfl)) (pv 6)) pa_nil))))
      (pss_one (ps_if (PW.pt (pw_or (pt_cmpR op_isN (pv 2) pe_non (nomark _)) (pw_or1 (pt_val (pe_call Gless hr (by rfl) gless Fless.kp bless .nil pass0 (pa_cons (pv 9) (pa_cons (pv 2) pa_nil))))))) (pss_one (ps_set (i := 2) scField_span_until_full.nd rfl (Or.inl rfl) (pv 9))) pss_nil)))) pss_nil))))
      (pss_one (ps_ret (pv 2))))), ?_⟩
    obtain ⟨dx, tv, hob, _⟩ := F.ob
    obtain ⟨vh, hlh, hlenh, hhm⟩ := F.hm
    obtain ⟨es, HM⟩ := G.hom
    obtain ⟨ra, rvs, rfl, hra, hrl, hrx⟩ := RV.at_
    have n12 := W.n12
    have hd : ∀ x, 0 ≤ S.dep x ∧ S.dep x ≤ 491520000 := fun x => by have := G.d0 x; omega
    refine ⟨_, rfl, f.p, dx, _, rfl, hob, by rfl, f, n, t, ws, S, rfl, F, W, G, h24, fun l vs H1 hl hl1 hr1 e1 => ?_⟩
    have hbl : vs.length = (betw ws S).length := by rw [hr1.len, List.length_map]
    refine ⟨l, rfl, ⟨_, SqL.of hl1⟩, for_list (K := K) (a := l) (xs := vs) (fun i σ' H' => ∃ bv y3 y4 y5 y6 y7 y8 y9, σ' = [some (.ref f.p), some (.ref ra), some bv, y3, y4, y5, y6, y7, y8, y9] ∧ Ext T noM H H' ∧ H' l = some (.lst vs) ∧ RpL H' ((betw ws S).map fun c => wayD (way ws c)) vs ∧
        (match least ((((betw ws S).take i).filter fun c => decide (0 < spd ws S R c)).map (cand ws S R)) with | some x => FrV K H' x bv | none => bv = .non)) ⟨_, _, _, _, _, _, _, _, rfl, e1, hl1, hr1, rfl⟩ (fun i σ' H' _ ⟨_, _, _, _, _, _, _, _, _, _, q, _⟩ => SqL.of q) ?_ ?_⟩
    · rintro i x σ' H2 hx ⟨bv, y3, y4, y5, y6, y7, y8, y9, rfl, e2, hl2, hr2, hbest⟩
      have hi : i < (betw ws S).length := by have := (List.getElem?_eq_some_iff.mp hx).1; omega
      obtain ⟨c, hc⟩ : ∃ c, (betw ws S)[i]? = some c := ⟨_, List.getElem?_eq_getElem hi⟩
      obtain ⟨x', hx', hr⟩ := hr2.get (i := i) (d := wayD (way ws c)) (by rw [List.getElem?_map, hc]; rfl)
      rw [hx] at hx'
      obtain rfl := Option.some.inj hx'
      obtain ⟨xa, rfl, hxa⟩ := way_at hr
      obtain ⟨hcm, hcx⟩ := List.mem_filter.mp (List.mem_of_getElem? hc)
      have hcl := List.mem_range.mp hcm
      obtain ⟨w1, w2, w3, w4⟩ := W.ok c hcl
      have ha : (way ws c).1 < n := Nat.lt_trans w1 w2
      obtain ⟨ta, ga1, ga2⟩ := hhm _ ha
      obtain ⟨tb, gb1, gb2⟩ := hhm _ w2
      have hob2 := e2.kp _ _ (fun z => z) hob (fun ps z => nomatch z)
      have hlh2 := e2.lst (fun z => z) hlh
      refine ⟨xa, _, rfl, SqT.of hxa, rfl, _, _, rfl, _, _, rfl, _, _, rfl, rfl, ?_⟩
      refine ⟨_, rfl, f.p, aC, dx, _, _, rfl, hob2, fx.cl, fx.n_homes, ff_homes _ _, _, rfl, f.lh, _, _, _, rfl, rfl, SqL.of hlh2, at_of (j := (way ws c).1) rfl ga1, ?_⟩
      refine ⟨_, rfl, f.p, aC, dx, _, _, rfl, hob2, fx.cl, fx.n_homes, ff_homes _ _, _, rfl, f.lh, _, _, _, rfl, rfl, SqL.of hlh2, at_of (j := (way ws c).2.1) rfl gb1, by show 2 ≤ sizeLine; decide, fun tt htt => ?_⟩
      have ett : Ext T noM H2 (upd H2 tt (.tup [.ref ta, .ref tb])) := Ext.new htt
      have htt2 : (upd H2 tt (.tup [.ref ta, .ref tb])) tt = some (.tup [.ref ta, .ref tb]) := upd_same
      generalize (upd H2 tt (.tup [.ref ta, .ref tb])) = Ht at ett htt2 ⊢
      refine ⟨tt, rfl, ⟨_, SqT.of htt2⟩, fun Dl hD => ?_⟩
      refine lc_tup (K := K) (a := tt) (xs := [.ref ta, .ref tb]) (fun j H' => ∃ acc, Ext T noM Ht H' ∧ H' Dl = some (.lst acc) ∧ acc.length = cn ws S R c j) ⟨[], Ext.new hD, upd_same, by unfold cn; simp⟩ (fun j H' _ ⟨_, e, _⟩ => SqT.of (e.tup (fun z => z) htt2)) ?_ ?_
      · rintro j x H3 hx3 ⟨acc, e3, hD3, hal⟩
        have hcn := cn_le ws S R c j
        have e3' := (e2.trans ett).trans e3
        match j, hx3 with
        | 0, hx3 =>
          obtain rfl : V.ref ta = x := by simpa using hx3
          have hin := ris_any HM RV.ok ha
          refine ⟨rfl, _, rfl, _, rfl, natD _, _, dp_nat (e3'.tup (fun z => z) ga2), .tup (SqT.of (e3'.tup (fun z => z) hra)) (dp_list R rvs hrl fun i r hr => by obtain ⟨q, q1, q2⟩ := hrx i r hr; exact ⟨q, q1, e3'.tup (fun z => z) q2⟩), natD_shaped _, natDs_shaped _, _, rfl, ?_⟩
          rw [if_neg (by decide), hin]
          refine ite2 (fun q => ?_) (fun q => ?_)
          · have q' := of_decide_eq_true q
            refine ⟨_, rfl, acc, hD3, small1000 (by omega), acc ++ [.ref ta], e3.mut (.inl hD) hD3 ltbl, upd_same, ?_⟩
            rw [List.length_append, List.length_singleton, hal]
            unfold cn; simp [q']
          · have q' : ¬ S.h (way ws c).1 ∈ R := fun z => q (decide_eq_true z)
            refine ⟨acc, e3, hD3, ?_⟩
            rw [hal]
            unfold cn; simp [q']
        | 1, hx3 =>
          obtain rfl : V.ref tb = x := by simpa using hx3
          have hin := ris_any HM RV.ok w2
          refine ⟨rfl, _, rfl, _, rfl, natD _, _, dp_nat (e3'.tup (fun z => z) gb2), .tup (SqT.of (e3'.tup (fun z => z) hra)) (dp_list R rvs hrl fun i r hr => by obtain ⟨q, q1, q2⟩ := hrx i r hr; exact ⟨q, q1, e3'.tup (fun z => z) q2⟩), natD_shaped _, natDs_shaped _, _, rfl, ?_⟩
          rw [if_neg (by decide), hin]
          refine ite2 (fun q => ?_) (fun q => ?_)
          · have q' := of_decide_eq_true q
            refine ⟨_, rfl, acc, hD3, small1000 (by omega), acc ++ [.ref tb], e3.mut (.inl hD) hD3 ltbl, upd_same, ?_⟩
            rw [List.length_append, List.length_singleton, hal]
            unfold cn; simp [q']
          · have q' : ¬ S.h (way ws c).2.1 ∈ R := fun z => q (decide_eq_true z)
            refine ⟨acc, e3, hD3, ?_⟩
            rw [hal]
            unfold cn; simp [q']
        | j + 2, hx3 => simp at hx3
      rintro H3 ⟨acc, e3, hD3, hal⟩
      rw [show ([V.ref ta, V.ref tb] : List V).length = 2 from rfl, cn_two] at hal
      refine ⟨Dl, acc, rfl, .inl (SqL.of hD3), ?_⟩
      rw [hal]
      have e23 := ett.trans e3
      have eH3 := e2.trans e23
      refine ⟨_, rfl, _, _, rfl, rfl, _, rfl, ?_⟩
      have hft : ((betw ws S).take (i + 1)).filter (fun c => decide (0 < spd ws S R c)) = ((betw ws S).take i).filter (fun c => decide (0 < spd ws S R c)) ++ if 0 < spd ws S R c then [c] else [] := by
        rw [take_succ' hc, List.filter_append]; by_cases z : 0 < spd ws S R c <;> simp [z]
      have hsp2 := spd_le ws S R c
      have old : ∀ H' y9, Ext T noM H2 H' → (match least ((((betw ws S).take (i + 1)).filter fun c => decide (0 < spd ws S R c)).map (cand ws S R)) with | some x => FrV K H' x y9 | none => y9 = .non) → Ext T noM H H' ∧ H' l = some (.lst vs) ∧ RpL H' ((betw ws S).map fun c => wayD (way ws c)) vs ∧
          (match least ((((betw ws S).take (i + 1)).filter fun c => decide (0 < spd ws S R c)).map (cand ws S R)) with | some x => FrV K H' x y9 | none => y9 = .non) := fun H' y9 e q => ⟨e2.trans e, e.lst (fun z => z) hl2, RpL.x e hr2, q⟩
      refine ite2 (fun q => ?_) (fun q => ?_)
      · have hs0 : 0 < spd ws S R c := by have := of_decide_eq_true q; omega
        rw [if_pos hs0] at hft
        obtain ⟨hce, _⟩ := G.cand_eq t12 R hs0
        have d1 := hd (way ws c).1
        have d2 := hd (way ws c).2.1
        refine ⟨_, rfl, f.p, dx, _, rfl, eH3.kp _ _ (fun z => z) hob (fun ps z => nomatch z), by rfl, _, rfl, _, rfl, _, rfl, f, n, ws, S, _, _, _, rfl, F.x eH3, ha, w2, n12, w3, w4, hd, fun v H4 hv e4 => ?_⟩
        have hv : FrV K H4 (lack ws S c) v := hv
        obtain ⟨sa, rfl, hsa⟩ := hv
        have y1 := frY_pos (lack ws S c)
        have y2 := frY_le (lack ws S c)
        have hb : 0 < frY (lack ws S c) * (spd ws S R c : Int) ∧ frY (lack ws S c) * (spd ws S R c : Int) < 1073741824 := by
          rcases (show spd ws S R c = 1 ∨ spd ws S R c = 2 by omega) with z | z <;> rw [z] <;> omega
        refine ⟨_, rfl, sa, _, _, _, rfl, rfl, hsa, at_of (j := 0) rfl rfl, _, rfl, sa, _, _, _, rfl, rfl, hsa, at_of (j := 1) rfl rfl, _, rfl, _, _, rfl, rfl, .inl (muly _), _, _, cand ws S R c, rfl, hb.1, hb.2, fr_span hce.symm, fun z H5 hz e5 => ?_⟩
        have bnd := fun c (hc : c < ws.length) (h0 : 0 < spd ws S R c) => cand_bd W G t12 R hc h0
        have e25 := (e23.trans e4).trans e5
        have hls : least ((((betw ws S).take (i + 1)).filter fun c => decide (0 < spd ws S R c)).map (cand ws S R)) = less1 (least ((((betw ws S).take i).filter fun c => decide (0 < spd ws S R c)).map (cand ws S R))) (cand ws S R c) := by
          rw [hft, List.map_append]; unfold least; rw [List.foldl_append]; rfl
        refine ⟨_, rfl, rfl, _, rfl, ?_⟩
        cases hle : least ((((betw ws S).take i).filter fun c => decide (0 < spd ws S R c)).map (cand ws S R)) with
        | none =>
          rw [hle] at hbest hls
          have hb0 : bv = .non := hbest
          subst hb0
          refine iteT (iteT ?_)
          refine ⟨_, rfl, z, _, _, _, _, _, _, _, rfl, old H5 z e25 ?_⟩
          rw [hls]; exact hz
        | some x =>
          rw [hle] at hbest hls
          have hb0 : FrV K H2 x bv := hbest
          obtain ⟨ba, rfl, _⟩ := id hb0
          refine iteF ?_
          have hxb : bd x := by
            obtain ⟨m1, _⟩ := least_some _ none x hle
            rcases m1 with m1 | m1
            · cases m1
            · obtain ⟨c', hc', rfl⟩ := List.mem_map.mp m1
              obtain ⟨m2, m3⟩ := List.mem_filter.mp hc'
              exact bnd c' (List.mem_range.mp (List.mem_filter.mp (List.mem_of_mem_take m2)).1) (of_decide_eq_true m3)
          refine ⟨_, rfl, _, rfl, z, _, cand ws S R c, x, rfl, hz, hb0.x e25, bnd c hcl hs0, hxb, fun H6 e6 => ⟨_, rfl, ?_⟩⟩
          refine ite2 (fun q3 => ?_) (fun q3 => ?_)
          · have hlt := of_decide_eq_true q3
            refine ⟨_, rfl, z, _, _, _, _, _, _, _, rfl, old H6 z (e25.trans e6) ?_⟩
            rw [hls]; show (match (if cand ws S R c < x then some (cand ws S R c) else some x) with | some x => FrV K H6 x z | none => z = .non)
            rw [if_pos hlt]; exact hz.x e6
          · have hlt : ¬ cand ws S R c < x := fun z => q3 (decide_eq_true z)
            refine ⟨.ref ba, _, _, _, _, _, _, _, rfl, old H6 _ (e25.trans e6) ?_⟩
            rw [hls]; show (match (if cand ws S R c < x then some (cand ws S R c) else some x) with | some x => FrV K H6 x (.ref ba) | none => (.ref ba : V) = .non)
            rw [if_neg hlt]; exact hb0.x (e25.trans e6)
      · have hs0 : ¬ 0 < spd ws S R c := fun z => q (decide_eq_true (by omega))
        rw [if_neg hs0, List.append_nil] at hft
        refine ⟨bv, _, _, _, _, _, _, _, rfl, old H3 bv e23 ?_⟩
        rw [hft]
        cases hle : least ((((betw ws S).take i).filter fun c => decide (0 < spd ws S R c)).map (cand ws S R)) with
        | none => rw [hle] at hbest; exact hbest
        | some x => rw [hle] at hbest; exact FrV.x hbest e23
    · rintro σ' H2 ⟨bv, y3, y4, y5, y6, y7, y8, y9, rfl, e2, hl2, hr2, hbest⟩
      rw [hbl, List.take_length] at hbest
      have hcw : (betw ws S).filter (fun c => decide (0 < spd ws S R c)) = canW ws S R := by
        unfold betw canW
        rw [List.filter_filter]
        exact List.filter_congr fun x _ => Bool.and_comm _ _
      rw [hcw] at hbest
      exact ⟨_, rfl, k bv H2 hbest e2⟩
end
end Mw

set_option Elab.async false
set_option linter.all false
set_option maxRecDepth 100000
set_option maxHeartbeats 4000000
namespace Mw
open PySem PySem.Spec PyProof.Rows L2 GE
/-! ### the attributes are written -/
section
variable {K : PySem.W.Frag} {T : List Addr} {H : Hp} {aC : Addr} {f : FAd} {n : Nat} {ws : Wl} {S : Gs}
theorem FieldAt.setD (F : FieldAt K aC H f n ws S) {vd : List V} {dep : Nat → Int} (hl : vd.length = n) (hx : ∀ x, x < n → ∃ v, vd[x]? = some v ∧ FrV K H (dep x) v) :
    FieldAt K aC (upd H f.ld (.lst vd)) f n ws { S with dep := dep } ∧ Ext T (Fm f) H (upd H f.ld (.lst vd)) := by
  obtain ⟨dx, tv, h1, h2⟩ := F.ob
  obtain ⟨v1, a1, a2⟩ := F.tk
  obtain ⟨v2, b1, b2⟩ := F.wd
  obtain ⟨v3, c1, c2, c3⟩ := F.hm
  obtain ⟨v4, d1, d2, d3⟩ := F.dp
  obtain ⟨wa, us, e1, e2, e3⟩ := F.wy
  have t : Tp K H (upd H f.ld (.lst vd)) := Tp.mut d1 (fun xs z => nomatch z) (fun o xs z => nomatch z)
  have n1 : f.p ≠ f.ld := fun z => by rw [z, d1] at h1; cases h1
  have n2 : f.lw ≠ f.ld := fun z => by rw [z, d1] at b1; cases b1
  exact ⟨⟨⟨dx, tv, by rw [upd_ne n1]; exact h1, t.fr h2⟩, ⟨v1, by rw [upd_ne F.ne.2.1]; exact a1, t.tk a2⟩, ⟨v2, by rw [upd_ne n2]; exact b1, t.wd b2⟩, ⟨v3, by rw [upd_ne F.ne.2.2]; exact c1, c2, fun x hx => by obtain ⟨s, q1, q2⟩ := c3 x hx; exact ⟨s, q1, t.tup _ _ q2⟩⟩,
    ⟨vd, upd_same, hl, fun x h => by obtain ⟨v, q1, q2⟩ := hx x h; exact ⟨v, q1, t.fr q2⟩⟩, ⟨wa, us, e1, t.tup _ _ e2, t.rpl e3⟩, F.ne⟩, (Ext.refl T _ H).mut (.inr (.inr (.inr (.inr (.inr rfl))))) d1 ltbl⟩
theorem FieldAt.setW (F : FieldAt K aC H f n ws S) {kvs : List (List Key × V)} {wid : List (List Nat × Int)} (hx : WdL K H wid kvs) :
    FieldAt K aC (upd H f.lw (.dT kvs)) f n ws { S with wid := wid } ∧ Ext T (Fm f) H (upd H f.lw (.dT kvs)) := by
  obtain ⟨dx, tv, h1, h2⟩ := F.ob
  obtain ⟨v1, a1, a2⟩ := F.tk
  obtain ⟨v2, b1, b2⟩ := F.wd
  obtain ⟨v3, c1, c2, c3⟩ := F.hm
  obtain ⟨v4, d1, d2, d3⟩ := F.dp
  obtain ⟨wa, us, e1, e2, e3⟩ := F.wy
  have t : Tp K H (upd H f.lw (.dT kvs)) := Tp.mut b1 (fun xs z => nomatch z) (fun o xs z => nomatch z)
  have n1 : f.p ≠ f.lw := fun z => by rw [z, b1] at h1; cases h1
  have n2 : f.lt ≠ f.lw := fun z => by rw [z, b1] at a1; cases a1
  have n3 : f.lh ≠ f.lw := fun z => by rw [z, b1] at c1; cases c1
  have n4 : f.ld ≠ f.lw := fun z => by rw [z, b1] at d1; cases d1
  exact ⟨⟨⟨dx, tv, by rw [upd_ne n1]; exact h1, t.fr h2⟩, ⟨v1, by rw [upd_ne n2]; exact a1, t.tk a2⟩, ⟨kvs, upd_same, t.wd hx⟩, ⟨v3, by rw [upd_ne n3]; exact c1, c2, fun x hx => by obtain ⟨s, q1, q2⟩ := c3 x hx; exact ⟨s, q1, t.tup _ _ q2⟩⟩,
    ⟨v4, by rw [upd_ne n4]; exact d1, d2, fun x h => by obtain ⟨v, q1, q2⟩ := d3 x h; exact ⟨v, q1, t.fr q2⟩⟩, ⟨wa, us, e1, t.tup _ _ e2, t.rpl e3⟩, F.ne⟩, (Ext.refl T _ H).mut (.inr (.inr (.inr (.inl rfl)))) b1 fun ps z => nomatch z⟩
theorem FieldAt.setT (F : FieldAt K aC H f n ws S) {dx : Addr} {tv uv : V} {u : Int} (hp : H f.p = some (.ins aC dx (ff tv f))) (hu : FrV K H u uv) :
    FieldAt K aC (upd H f.p (.ins aC dx (ff uv f))) f n ws { S with time := u } ∧ Ext T (Fm f) H (upd H f.p (.ins aC dx (ff uv f))) := by
  obtain ⟨v1, a1, a2⟩ := F.tk
  obtain ⟨v2, b1, b2⟩ := F.wd
  obtain ⟨v3, c1, c2, c3⟩ := F.hm
  obtain ⟨v4, d1, d2, d3⟩ := F.dp
  obtain ⟨wa, us, e1, e2, e3⟩ := F.wy
  have t : Tp K H (upd H f.p (.ins aC dx (ff uv f))) := Tp.mut hp (fun xs z => nomatch z) (fun o xs z => nomatch z)
  have n1 : f.lt ≠ f.p := fun z => by rw [z, hp] at a1; cases a1
  have n2 : f.lw ≠ f.p := fun z => by rw [z, hp] at b1; cases b1
  have n3 : f.lh ≠ f.p := fun z => by rw [z, hp] at c1; cases c1
  have n4 : f.ld ≠ f.p := fun z => by rw [z, hp] at d1; cases d1
  exact ⟨⟨⟨dx, uv, upd_same, t.fr hu⟩, ⟨v1, by rw [upd_ne n1]; exact a1, t.tk a2⟩, ⟨v2, by rw [upd_ne n2]; exact b1, t.wd b2⟩, ⟨v3, by rw [upd_ne n3]; exact c1, c2, fun x hx => by obtain ⟨s, q1, q2⟩ := c3 x hx; exact ⟨s, q1, t.tup _ _ q2⟩⟩,
    ⟨v4, by rw [upd_ne n4]; exact d1, d2, fun x h => by obtain ⟨v, q1, q2⟩ := d3 x h; exact ⟨v, q1, t.fr q2⟩⟩, ⟨wa, us, e1, t.tup _ _ e2, t.rpl e3⟩, F.ne⟩, (Ext.refl T _ H).mut (.inr (.inl rfl)) hp fun ps z => nomatch z⟩
end
/-! ### the widths by their keys -/
theorem keyOf_inj {k l : List Nat} (h : keyOf k = keyOf l) : k = l := by
  unfold keyOf at h
  exact List.map_inj_right (f := fun x : Nat => (Sum.inl (x : Int) : Key)) (fun a b e => by have := Sum.inl.inj e; omega) |>.mp h
theorem keyOf_kV (k : List Nat) : (keyOf k).map kV = natsV k := by unfold keyOf natsV; rw [List.map_map]; rfl
def widOf : List (List Nat × Int) → List Nat → Int
  | [], _ => 0
  | (j, w) :: r, k => if j = k then w else widOf r k
theorem WdL.get {K : PySem.W.Frag} {H : Hp} {k : List Nat} {z : V} (hz : FrV K H 0 z) : ∀ {l : List (List Nat × Int)} {kvs : List (List Key × V)}, WdL K H l kvs → FrV K H (widOf l k) ((valV kvs (keyOf k)).getD z)
  | [], kvs, h => by rw [show kvs = [] from h]; exact hz
  | (j, w) :: r, kvs, ⟨v, us, e, h1, h2⟩ => by
    subst e
    by_cases q : j = k
    · subst q
      rw [valV_pos rfl]
      show FrV K H (if j = j then w else widOf r j) v
      rw [if_pos rfl]; exact h1
    · rw [valV_neg (fun z => q (keyOf_inj z))]
      show FrV K H (if j = k then w else widOf r k) _
      rw [if_neg q]; exact WdL.get hz h2
theorem WdL.val {K : PySem.W.Frag} {H : Hp} {k : List Nat} : ∀ {l : List (List Nat × Int)} {kvs : List (List Key × V)}, WdL K H l kvs → (valV kvs (keyOf k) = none ↔ k ∉ l.map (·.1))
  | [], kvs, h => by rw [show kvs = [] from h]; simp [valV]
  | (j, w) :: r, kvs, ⟨v, us, e, h1, h2⟩ => by
    subst e
    by_cases q : j = k
    · subst q
      rw [valV_pos rfl]; simp
    · rw [valV_neg (fun z => q (keyOf_inj z)), WdL.val h2, List.map_cons, List.mem_cons]
      exact ⟨fun a b => by rcases b with b | b; exact q b.symm; exact a b, fun a b => a (.inr b)⟩
theorem WdL.map {K : PySem.W.Frag} {H : Hp} {k : List Nat} {s : Int} {z : V} (hz : FrV K H (s) z) : ∀ {l : List (List Nat × Int)} {kvs : List (List Key × V)}, WdL K H l kvs → (l.map (·.1)).Nodup → k ∈ l.map (·.1) → ∀ d, s = widOf l k + d →
    WdL K H (addW l k d) (kvs.map fun kv => if kv.1 = keyOf k then (kv.1, z) else kv)
  | [], kvs, h, _, hk, d, _ => by cases hk
  | (j, w) :: r, kvs, ⟨v, us, e, h1, h2⟩, nd, hk, d, hs => by
    subst e
    obtain ⟨n1, n2⟩ := List.nodup_cons.mp nd
    by_cases q : j = k
    · subst q
      have e1 : addW ((j, w) :: r) j d = (j, w + d) :: r := if_pos rfl
      have e2 : widOf ((j, w) :: r) j = w := if_pos rfl
      rw [e1, List.map_cons, if_pos rfl]
      refine ⟨z, _, rfl, by rw [← e2, ← hs]; exact hz, ?_⟩
      have same : ∀ {l : List (List Nat × Int)} {us : List (List Key × V)}, WdL K H l us → j ∉ l.map (·.1) → (us.map fun kv => if kv.1 = keyOf j then (kv.1, z) else kv) = us := by
        intro l
        induction l with
        | nil => intro us h _; rw [show us = [] from h]; rfl
        | cons a l ih =>
          intro us ⟨v, us', e, _, h2⟩ hn
          subst e
          rw [List.map_cons, if_neg (fun z => hn (by rw [List.map_cons, keyOf_inj z]; exact List.mem_cons_self)), ih h2 (fun z => hn (by rw [List.map_cons]; exact List.mem_cons_of_mem _ z))]
      rw [same h2 n1]; exact h2
    · have e1 : addW ((j, w) :: r) k d = (j, w) :: addW r k d := if_neg q
      have e2 : widOf ((j, w) :: r) k = widOf r k := if_neg q
      rw [e1, List.map_cons, if_neg (fun z => q (keyOf_inj z))]
      refine ⟨v, _, rfl, h1, WdL.map hz h2 n2 ?_ d (by rw [hs, e2])⟩
      rcases List.mem_cons.mp hk with y | y
      · exact absurd y.symm q
      · exact y
theorem WdL.app {K : PySem.W.Frag} {H : Hp} {k : List Nat} {d : Int} {z : V} (hz : FrV K H d z) : ∀ {l : List (List Nat × Int)} {kvs : List (List Key × V)}, WdL K H l kvs → k ∉ l.map (·.1) → WdL K H (addW l k d) (kvs ++ [(keyOf k, z)])
  | [], kvs, h, _ => by rw [show kvs = [] from h]; exact ⟨z, [], rfl, hz, rfl⟩
  | (j, w) :: r, kvs, ⟨v, us, e, h1, h2⟩, hn => by
    subst e
    have q : ¬ j = k := fun z => hn (by rw [List.map_cons, z]; exact List.mem_cons_self)
    have e1 : addW ((j, w) :: r) k d = (j, w) :: addW r k d := if_neg q
    rw [e1]
    exact ⟨v, _, rfl, h1, WdL.app hz h2 fun z => hn (by rw [List.map_cons]; exact List.mem_cons_of_mem _ z)⟩
theorem widOf_no {k : List Nat} : ∀ {l : List (List Nat × Int)}, k ∉ l.map (·.1) → widOf l k = 0
  | [], _ => rfl
  | (j, w) :: r, h => by
    have q : ¬ j = k := fun z => h (by rw [List.map_cons, z]; exact List.mem_cons_self)
    show (if j = k then w else widOf r k) = 0
    rw [if_neg q]; exact widOf_no fun z => h (by rw [List.map_cons]; exact List.mem_cons_of_mem _ z)
theorem WdL.put {K : PySem.W.Frag} {H : Hp} {k : List Nat} {d : Int} {z : V} {l : List (List Nat × Int)} {kvs : List (List Key × V)} (h : WdL K H l kvs) (nd : (l.map (·.1)).Nodup) (hz : FrV K H (widOf l k + d) z) : WdL K H (addW l k d) (putK kvs (keyOf k) z) := by
  unfold putK
  rw [valV_any]
  by_cases q : k ∈ l.map (·.1)
  · have : (valV kvs (keyOf k)).isSome = true := by
      cases e : valV kvs (keyOf k) with
      | none => exact absurd q (h.val.mp e)
      | some _ => rfl
    rw [this, if_pos rfl]
    exact WdL.map hz h nd q d rfl
  · rw [h.val.mpr q]
    rw [widOf_no q, Int.zero_add] at hz
    exact WdL.app hz h q
theorem WdL.len {K : PySem.W.Frag} {H : Hp} : ∀ {l : List (List Nat × Int)} {kvs : List (List Key × V)}, WdL K H l kvs → kvs.length = l.length
  | [], kvs, h => by rw [show kvs = [] from h] <;> rfl
  | (j, w) :: r, kvs, ⟨v, us, e, h1, h2⟩ => by subst e; rw [List.length_cons, List.length_cons, WdL.len h2]
theorem addW_keys {k : List Nat} {d : Int} : ∀ l : List (List Nat × Int), (addW l k d).map (·.1) = if k ∈ l.map (·.1) then l.map (·.1) else l.map (·.1) ++ [k]
  | [] => by simp [addW]
  | (j, w) :: r => by
    by_cases q : j = k
    · subst q
      have e1 : addW ((j, w) :: r) j d = (j, w + d) :: r := if_pos rfl
      rw [e1]; simp
    · have e1 : addW ((j, w) :: r) k d = (j, w) :: addW r k d := if_neg q
      have q' : ¬ k = j := fun z => q z.symm
      rw [e1, List.map_cons, addW_keys r]
      simp only [List.map_cons, List.mem_cons, q', false_or]
      split <;> rfl
theorem nd1 {α : Type} (a : α) : [a].Nodup := List.nodup_cons.mpr ⟨(fun h => nomatch h), List.nodup_nil⟩
theorem addW_nd {k : List Nat} {d : Int} {l : List (List Nat × Int)} (h : (l.map (·.1)).Nodup) : ((addW l k d).map (·.1)).Nodup := by
  rw [addW_keys]
  split
  · exact h
  · rename_i q
    rw [List.nodup_append]
    exact ⟨h, nd1 _, fun a ha b hb z => q (by rw [← List.mem_singleton.mp hb, ← z]; exact ha)⟩
theorem addW_len {k : List Nat} {d : Int} {l : List (List Nat × Int)} : (addW l k d).length ≤ l.length + 1 := by
  have := congrArg List.length (addW_keys (k := k) (d := d) l)
  rw [List.length_map] at this
  rw [this]
  split <;> simp
theorem widOf_bd {k : List Nat} {b : Int} (hb : 0 ≤ b) : ∀ {l : List (List Nat × Int)}, (∀ kw ∈ l, 0 < kw.2 ∧ kw.2 ≤ b) → 0 ≤ widOf l k ∧ widOf l k ≤ b
  | [], _ => ⟨Int.le_refl _, hb⟩
  | (j, w) :: r, h => by
    show 0 ≤ (if j = k then w else widOf r k) ∧ (if j = k then w else widOf r k) ≤ b
    split
    · have := h (j, w) List.mem_cons_self
      have h1 : 0 < w := this.1
      have h2 : w ≤ b := this.2
      omega
    · exact widOf_bd hb fun kw hk => h kw (List.mem_cons_of_mem _ hk)
def part (n : Nat) (S : Gs) (R : List Nat) (s : Int) (i : Nat) : Gs :=
  { S with dep := fun p => S.dep p + if S.h p ∈ R.take i then s else 0, wid := (R.take i).foldl (fun w r => addW w (cls S.h n r) s) S.wid }
theorem part_0 (n : Nat) (S : Gs) (R : List Nat) (s : Int) : part n S R s 0 = S := by
  unfold part; simp
theorem part_bd {n t : Nat} {ws : Wl} {S : Gs} {s : Int} (G : GM n ws t S) (h0 : 0 < s) (h1 : s ≤ 40960000) (R : List Nat) (i p : Nat) : 0 ≤ (part n S R s i).dep p ∧ (part n S R s i).dep p ≤ (t + 1 : Nat) * 40960000 := by
  have := G.d0 p
  show 0 ≤ S.dep p + (if S.h p ∈ R.take i then s else 0) ∧ S.dep p + (if S.h p ∈ R.take i then s else 0) ≤ _
  split <;> constructor <;> omega
theorem nodup_not {R : List Nat} {i r : Nat} (h : R.Nodup) (hr : R[i]? = some r) : r ∉ R.take i := by
  intro q
  obtain ⟨m, hm1, hm2⟩ := List.mem_iff_getElem.mp q
  rw [List.length_take] at hm1
  rw [List.getElem_take] at hm2
  have hil := (List.getElem?_eq_some_iff.mp hr).1
  have e := (List.getElem?_eq_some_iff.mp hr).2
  have := List.pairwise_iff_getElem.mp h m i (by omega) hil (by omega)
  exact this (hm2.trans e.symm)
def spGrow (K : PySem.W.Frag) (T : List Addr) (aC : Addr) : Sp := fun vs H Q _ => ∃ (f : FAd) (n t : Nat) (ws : Wl) (S : Gs) (R : List Nat) (rv sv : V) (s : Int), vs = [.ref f.p, rv, sv] ∧ FieldAt K aC H f n ws S ∧ GM n ws t S ∧ n ≤ 12 ∧ t < 12 ∧ RisV K H n S.h R rv ∧ R.Nodup ∧ R.length ≤ 12 ∧ FrV K H s sv ∧ 0 < s ∧ s ≤ 40960000 ∧
  (S.wid.map (·.1)).Nodup ∧ S.wid.length ≤ 300 ∧ ∀ H', FieldAt K aC H' f n ws (grow n S R s) → Ext T (Fm f) H H' → Q .non H'
section
variable {P : Program} {w : World} {K : PySem.W.Frag} {mg : Str → Option Value} {base : Heap} {T : List Addr} {aC : Addr}
theorem ok_Field_grow {f : Addr} {fd : FuncData} (F : Fun K "grow" "Field.grow" sField_grow f fd) {fplus : Addr} {fdplus : FuncData} (Fplus : Fun K "plus" "plus" splus fplus fdplus) (Gplus : FnOk P w K mg base CX0 2 fplus fdplus ["first", "second"] (spPlus K T)) (bplus : Binds K fdplus ["first", "second"] []) (gplus : mg "plus" = some (.ref fplus)) {az : Addr} (g_ZERO : mg "ZERO" = some (.ref az)) (hz0 : SqT K (fun _ => none) az [.int (frX 0), .int (frY 0)]) (fx : FTx K aC) : FnOk P w K mg base CX0 3 f fd ["self", "rising", "span"] (spGrow K T aC) := by
  refine F.ok scField_grow (fun vs H Q E h => ?_) (fun cdv A outer s H vs Q E hr h => ?_)
  · obtain ⟨f, n, t, ws, S, R, rv, sv, s, rfl, F, G, n12, t12, RV, rnd, rl, hs, hs0, hs1, nd, wl, k⟩ := h
    rfl
  · obtain ⟨f, n, t, ws, S, R, rv, sv, s, rfl, F, G, n12, t12, RV, rnd, rl, hs, hs0, hs1, nd, wl, k⟩ := h
    refine ⟨_, (pss_cons (ps_for PassesOwn.never rfl (pi_tup (pv 1)) (pg_name (i := 3) scField_grow.nd rfl (Or.inl rfl)) (pss_cons (ps_asg (pe_call Gplus hr (by rfl) gplus Fplus.kp bplus .nil pass0 (pa_cons (pe_dget2 (by have := hr.un; show (A.deeper _).units + 1 < _; omega) (pe_fld (pv 0) rfl) (pv 3) (pe_glob (v := .ref az) (by rfl) g_ZERO rfl) ⟨rfl, rfl, rfl, rfl⟩) (pa_cons (pv 2) pa_nil))) (pg_sub (pe_fld (pv 0) rfl) (pv 3) (set_dict (by have := hr.un; show (A.deeper _).units + 1 < _; omega))))
      (pss_one (ps_for PassesOwn.never rfl (pi_tup (pv 3)) (pg_name (i := 4) scField_grow.nd rfl (Or.inl rfl)) (pss_one (ps_asg (pe_call Gplus hr (by rfl) gplus Fplus.kp bplus .nil pass0 (pa_cons (pe_ix ix_list (pe_fld (pv 0) rfl) (pv 4) (fun _ _ => rfl)) (pa_cons (pv 2) pa_nil))) (pg_sub (pe_fld (pv 0) rfl) (pv 4) set_list)))))))
      (pss_one (ps_fld (pv 0) (pe_call Gplus hr (by rfl) gplus Fplus.kp bplus .nil pass0 (pa_cons (pe_fld (pv 0) rfl) (pa_cons (pv 2) pa_nil))) rfl))), ?_⟩
    obtain ⟨ra, rvs, rfl, hra, hrl, hrx⟩ := RV.at_
    obtain ⟨es, HM⟩ := G.hom
    have clsL := fun p => cls_len S.h n p
    refine ⟨_, rfl, ra, rfl, ⟨_, SqT.of hra⟩, for_tup (K := K) (a := ra) (xs := rvs) (fun i σ' H' => ∃ y3 y4, σ' = [some (.ref f.p), some (.ref ra), some sv, y3, y4] ∧ FieldAt K aC H' f n ws (part n S R s i) ∧ Ext T (Fm f) H H' ∧ Tp K H H' ∧ ((part n S R s i).wid.map (·.1)).Nodup ∧ (part n S R s i).wid.length ≤ 300 + i ∧
        ∀ kw ∈ (part n S R s i).wid, 0 < kw.2 ∧ kw.2 ≤ (t + i : Nat) * 40960000) ⟨none, none, rfl, by rw [part_0]; exact F, Ext.refl _ _ _, Tp.refl, by rw [part_0]; exact nd, by rw [part_0]; exact wl, by rw [part_0]; exact G.w0⟩ (fun i σ' H' _ ⟨_, _, _, _, _, tp, _⟩ => tp.sq _ _ (SqT.of hra)) ?_ ?_⟩
    · rintro i x σ' H1 hx ⟨y3, y4, rfl, F1, e1, tp1, nd1', wl1, wb1⟩
      have hi : i < R.length := by have := (List.getElem?_eq_some_iff.mp hx).1; omega
      obtain ⟨r, hr⟩ : ∃ r, R[i]? = some r := ⟨_, List.getElem?_eq_getElem hi⟩
      obtain ⟨gt, g1, g2⟩ := hrx i r hr
      rw [hx] at g1
      obtain rfl := Option.some.inj g1
      obtain ⟨rn, rr⟩ := RV.ok r (List.mem_of_getElem? hr)
      have g3 := tp1.tup _ _ g2
      obtain ⟨dx, tv, hob, _⟩ := F1.ob
      obtain ⟨kvs, hW, hwl⟩ := F1.wd
      have hkl := hwl.len
      have hzz : FrV K H1 0 (.ref az) := zero_fr hz0
      have hget := hwl.get (k := cls S.h n r) hzz
      have wbd := widOf_bd (k := cls S.h n r) (show (0 : Int) ≤ (t + i : Nat) * 40960000 by omega) wb1
      have hkey : ∀ H' : Hp, H' gt = some (.tup (natsV (cls S.h n r))) → H' gt = some (.tup ((keyOf (cls S.h n r)).map kV)) := fun H' q => by rw [keyOf_kV]; exact q
      refine ⟨_, rfl, f.p, aC, dx, _, _, rfl, hob, fx.cl, fx.n_widths, ff_widths _ _, f.lw, rfl, .inr ⟨kvs, .inl hW⟩, _, rfl, _, DGet.t hW (hkey _ g3), _, rfl, _, sv, _, s, rfl, hget, tp1.fr hs, ⟨by omega, by omega⟩, ⟨by omega, by omega⟩, fun z H2 hz e2 => ?_⟩
      have F2 := F1.x e2
      have tp2 : Tp K H1 H2 := Tp.of e2
      have hob2 := e2.kp _ _ (fun z => z) hob (fun ps z => nomatch z)
      have hW2 := e2.kp _ _ (fun z => z) hW (fun ps z => nomatch z)
      have hwl2 := tp2.wd hwl
      have g4 := tp2.tup _ _ g3
      obtain ⟨F3, e3⟩ := F2.setW (T := T) (hwl2.put nd1' hz)
      refine ⟨_, rfl, f.p, aC, dx, _, _, rfl, hob2, fx.cl, fx.n_widths, ff_widths _ _, _, rfl, f.lw, _, rfl, .inr ⟨kvs, _, gt, hW2, rfl, hkey _ g4, small1000 (by omega), rfl⟩, ?_⟩
      have tp3 : Tp K H2 (upd H2 f.lw (.dT (putK kvs (keyOf (cls S.h n r)) z))) := Tp.mut hW2 (fun xs z => nomatch z) (fun o xs z => nomatch z)
      generalize (upd H2 f.lw (.dT (putK kvs (keyOf (cls S.h n r)) z))) = H3 at F3 e3 tp3 ⊢
      have e13 := (e1.trans e2.weak).trans e3
      have tp13 := (tp1.trans tp2).trans tp3
      have g5 := tp13.tup _ _ g2
      refine ⟨_, rfl, gt, rfl, ⟨_, SqT.of g5⟩, for_tup (K := K) (a := gt) (xs := natsV (cls S.h n r)) (fun j σ' H' => ∃ y4, σ' = [some (.ref f.p), some (.ref ra), some sv, some (.ref gt), y4] ∧ FieldAt K aC H' f n ws { part n S R s i with wid := addW (part n S R s i).wid (cls S.h n r) s, dep := fun p => (part n S R s i).dep p + if p ∈ (cls S.h n r).take j then s else 0 } ∧ Ext T (Fm f) H H' ∧ Tp K H H')
        ⟨y4, rfl, ?_, e13, tp13⟩ (fun j σ' H' _ ⟨_, _, _, _, tp⟩ => tp.sq _ _ (SqT.of g2)) ?_ ?_⟩
      · have : (fun p => (part n S R s i).dep p + if p ∈ (cls S.h n r).take 0 then s else 0) = (part n S R s i).dep := by funext p; simp
        rw [this]; exact F3
      · rintro j x σ' H4 hx4 ⟨y4, rfl, F4, e4, tp4⟩
        obtain ⟨pl, hj, rfl⟩ : ∃ pl, (cls S.h n r)[j]? = some pl ∧ x = V.int ((pl : Nat) : Int) := by
          unfold natsV at hx4
          rw [List.getElem?_map] at hx4
          cases e : (cls S.h n r)[j]? with
          | none => rw [e] at hx4; cases hx4
          | some c => rw [e] at hx4; exact ⟨c, rfl, (Option.some.inj hx4).symm⟩
        have hpn : pl < n := (mem_cls.mp (List.mem_of_getElem? hj)).1
        have hnot : pl ∉ (cls S.h n r).take j := by
          intro q
          obtain ⟨m, hm1, hm2⟩ := List.mem_iff_getElem.mp q
          rw [List.length_take] at hm1
          rw [List.getElem_take] at hm2
          have hjl := (List.getElem?_eq_some_iff.mp hj).1
          have pw := List.pairwise_iff_getElem.mp (cls_pw S.h n r) m j (by omega) hjl (by omega)
          have := (List.getElem?_eq_some_iff.mp hj).2
          omega
        obtain ⟨dx4, tv4, hob4, _⟩ := F4.ob
        obtain ⟨vd, hld, hdl, hdx⟩ := F4.dp
        obtain ⟨vv, q1, q2⟩ := hdx pl hpn
        have db := part_bd G hs0 hs1 R i pl
        have q2 : FrV K H4 ((part n S R s i).dep pl + if pl ∈ (cls S.h n r).take j then s else 0) vv := q2
        rw [if_neg hnot, Int.add_zero] at q2
        refine ⟨_, rfl, f.p, aC, dx4, _, _, rfl, hob4, fx.cl, fx.n_depths, ff_depths _ _, _, rfl, f.ld, _, _, _, rfl, rfl, SqL.of hld, at_of (j := pl) rfl q1, _, rfl, vv, sv, _, s, rfl, q2, tp4.fr hs, ⟨by omega, by omega⟩, ⟨by omega, by omega⟩, fun z5 H5 hz5 e5 => ?_⟩
        have F5 := F4.x e5
        have tp5 : Tp K H4 H5 := Tp.of e5
        have hob5 := e5.kp _ _ (fun z => z) hob4 (fun ps z => nomatch z)
        have hld5 := e5.lst (fun z => z) hld
        refine ⟨_, rfl, f.p, aC, dx4, _, _, rfl, hob5, fx.cl, fx.n_depths, ff_depths _ _, _, rfl, f.ld, vd, _, pl, rfl, rfl, hld5, Evl.ixN_nat (by omega), ?_⟩
        obtain ⟨F6, e6⟩ := F5.setD (T := T) (vd := vd.set pl z5) (dep := fun p => (part n S R s i).dep p + if p ∈ (cls S.h n r).take (j + 1) then s else 0) (by rw [List.length_set]; exact hdl) (fun x hx => by
          rw [take_succ' hj]
          by_cases q : x = pl
          · subst q
            exact ⟨z5, by rw [List.getElem?_set_self (by omega)], by rw [if_pos (by simp)]; exact hz5⟩
          · obtain ⟨u, r1, r2⟩ := hdx x hx
            refine ⟨u, by rw [List.getElem?_set_ne (fun z => q z.symm)]; exact r1, ?_⟩
            have : (x ∈ (cls S.h n r).take j ++ [pl]) = (x ∈ (cls S.h n r).take j) := by
              rw [List.mem_append, List.mem_singleton]; exact propext ⟨fun z => z.elim id fun z => absurd z q, .inl⟩
            simp only [this]
            exact tp5.fr r2)
        exact ⟨_, rfl, F6, (e4.trans e5.weak).trans e6, (tp4.trans tp5).trans (Tp.mut hld5 (fun xs z => nomatch z) (fun o xs z => nomatch z))⟩
      · rintro σ' H4 ⟨y4, rfl, F4, e4, tp4⟩
        have hnl : (natsV (cls S.h n r)).length = (cls S.h n r).length := by unfold natsV; rw [List.length_map]
        rw [hnl, List.take_length] at F4
        have hw : (part n S R s (i + 1)).wid = addW (part n S R s i).wid (cls S.h n r) s := by
          unfold part; dsimp only; rw [take_succ' hr, List.foldl_append]; rfl
        refine ⟨_, _, rfl, ?_, e4, tp4, by rw [hw]; exact addW_nd nd1', ?_, ?_⟩
        · obtain ⟨vd, d1, d2, d3⟩ := F4.dp
          refine ⟨F4.ob, F4.tk, by rw [hw]; exact F4.wd, F4.hm, ⟨vd, d1, d2, fun x hx => ?_⟩, F4.wy, F4.ne⟩
          obtain ⟨u, r1, r2⟩ := d3 x hx
          refine ⟨u, r1, ?_⟩
          have e : (part n S R s (i + 1)).dep x = (part n S R s i).dep x + if x ∈ cls S.h n r then s else 0 := by
            unfold part; dsimp only
            have hni : r ∉ R.take i := nodup_not rnd hr
            rw [take_succ' hr]
            by_cases q : S.h x = r
            · rw [if_pos (by rw [q]; simp), if_neg (by rw [q]; exact hni), if_pos (mem_cls.mpr ⟨hx, by rw [rr]; exact q⟩)]; omega
            · have q2 : x ∉ cls S.h n r := fun z => q (by rw [(mem_cls.mp z).2, rr])
              rw [if_neg q2]
              by_cases q3 : S.h x ∈ R.take i
              · rw [if_pos (List.mem_append_left _ q3), if_pos q3]; omega
              · rw [if_neg (fun z => by rcases List.mem_append.mp z with z | z; exact q3 z; exact q (List.mem_singleton.mp z)), if_neg q3]; omega
          rw [e]; exact r2
        · rw [hw]; have := addW_len (k := cls S.h n r) (d := s) (l := (part n S R s i).wid); omega
        · intro kw hk
          rw [hw] at hk
          rcases mem_addW hk with ⟨_, q | ⟨v, q, q2⟩⟩ | q
          · rw [q]; constructor <;> omega
          · have := wb1 _ q
            have h1 : 0 < v := this.1
            have h2 : v ≤ (t + i : Nat) * 40960000 := this.2
            rw [q2]; constructor <;> omega
          · have := wb1 _ q; constructor <;> omega
    · rintro σ' H1 ⟨y3, y4, rfl, F1, e1, tp1, nd1', wl1, wb1⟩
      rw [hrl] at F1
      have hg : part n S R s R.length = { grow n S R s with time := S.time } := by unfold part grow; rw [List.take_length]
      rw [hg] at F1
      obtain ⟨dx, tv, hob, htv⟩ := F1.ob
      have htv : FrV K H1 S.time tv := htv
      have t0 := G.t0
      refine ⟨_, rfl, f.p, aC, dx, _, _, rfl, hob, fx.cl, fx.n_time, ff_time _ _, _, rfl, tv, sv, S.time, s, rfl, htv, tp1.fr hs, ⟨by omega, by omega⟩, ⟨by omega, by omega⟩, fun z H2 hz e2 => ?_⟩
      have hob2 := e2.kp _ _ (fun z => z) hob (fun ps z => nomatch z)
      obtain ⟨F3, e3⟩ := (F1.x e2).setT (T := T) hob2 hz
      refine ⟨_, rfl, f.p, aC, dx, _, rfl, hob2, fx.cl, fx.n_time, by show 6 < 1000; decide, ?_⟩
      exact k _ F3 ((e1.trans e2.weak).trans e3)
end
end Mw

set_option Elab.async false
set_option linter.all false
set_option maxRecDepth 100000
set_option maxHeartbeats 4000000
namespace Mw
open PySem PySem.Spec PyProof.Rows L2 GE
theorem reps_succ (h : Nat → Nat) (i : Nat) : reps h (i + 1) = reps h i ++ if h i = i then [i] else [] := by
  have := filter_range_succ (fun x => h x == x) i
  unfold reps; rw [this]; by_cases e : h i = i <;> simp [e]
theorem flat_rep {α : Type} (n : Nat) (a : α) : (List.replicate n [a]).flatten = List.replicate n a := by
  induction n with
  | zero => rfl
  | succ n ih => rw [List.replicate_succ, List.flatten_cons, ih]; rfl
def spNow (K : PySem.W.Frag) (T : List Addr) (aC : Addr) : Sp := fun vs H Q _ => ∃ (f : FAd) (n t : Nat) (ws : Wl) (S : Gs), vs = [.ref f.p] ∧ FieldAt K aC H f n ws S ∧ GM n ws t S ∧ n ≤ 12 ∧ Wd T H ∧ ∀ v H', RisV K H' n S.h (reps S.h n) v → Ext T noM H H' → Q v H'
def spInit (K : PySem.W.Frag) (T : List Addr) (aC : Addr) : Sp := fun vs H Q _ => ∃ (p dx : Addr) (net : V) (n : Nat) (ws : Wl), vs = [.ref p, net] ∧ H p = some (.ins aC dx []) ∧ Rp H (netD n ws) net ∧ n ≤ 12 ∧
  ∀ f H', f.p = p → FieldAt K aC H' f n ws start → (∀ b, Fm f b → b = p ∨ H b = none) → Ext T (fun b => b = p) H H' → Q .non H'
section
variable {P : Program} {w : World} {K : PySem.W.Frag} {mg : Str → Option Value} {base : Heap} {T : List Addr} {aC : Addr}
theorem ok_Field_groups_now {f : Addr} {fd : FuncData} {c PT : Addr} (F : GE.FunC K "groups_now" "Field.groups_now" sField_groups_now f fd c) (TB : GxR.TabB base mg c PT) (hPT : PT ∈ T) (m_tuple : mg "tuple" = none) (m_enumerate : mg "enumerate" = none) (fx : FTx K aC) : FnOk P w K mg base CX0 3 f fd ["self"] (spNow K T aC) := by
  refine F.ok scField_groups_now (fun vs H Q E h => ?_) (fun A outer s H vs Q E hr h => ?_)
  · obtain ⟨f, n, t, ws, S, rfl, F, G, n12, wd, k⟩ := h
    rfl
  · obtain ⟨f, n, t, ws, S, rfl, F, G, n12, wd, k⟩ := h
    refine ⟨_, (pss_one (ps_ret (GE.pe_tupG (own := [("place", 1), ("home", 2)]) (k := 0) hr (by rfl) m_tuple scField_groups_now.nd TB rfl (pi_enum (by rfl) m_enumerate (pa_cons (pe_fld (pv 0) rfl) pa_nil)) (GE.gblk_by (N := ["self", "place", "home"]) (sc := defScope sField_groups_now) (by decide +kernel)) (fun _ _ _ _ _ _ _ _ => (GE.pg_tupK (K := K) 2 (pgs_cons (pg_name (i := 1) scField_groups_now.nd rfl (Or.inl rfl)) (pgs_cons (pg_name (i := 2) scField_groups_now.nd rfl (Or.inl rfl)) pgs_nil)))) (fun _ _ _ _ _ _ _ _ hr' => (pts_one (pt_cmpR op_eq (pe_ix (GE.ix_tupK (K := K)) (pv 2) pe_int (fun _ _ => rfl)) (pv 1) (nomark _)))) (fun _ _ _ _ _ _ _ _ hr' => (pv 2))))), ?_⟩
    obtain ⟨dx, tv, hob, _⟩ := F.ob
    obtain ⟨vh, hlh, hlenh, hhm⟩ := F.hm
    obtain ⟨es, HM⟩ := G.hom
    refine ⟨_, rfl, f.p, aC, dx, _, _, rfl, hob, fx.cl, fx.n_homes, ff_homes _ _, f.lh, vh, rfl, SqL.of hlh, wd PT hPT, fun H2 tb => ?_⟩
    have e2 : Ext T noM H H2 := Ext.tab (wd PT hPT) tb
    refine turn_of n (fun i ys H' => Ext T noM H H' ∧ ys.length = (reps S.h i).length ∧ ∀ (m r : Nat), (reps S.h i)[m]? = some r → ∃ t : Addr, ys[m]? = some (V.ref t) ∧ H t = some (.tup (natsV (cls S.h n r)))) ⟨e2, rfl, fun m r h => by simp [reps] at h⟩ ?_ ?_ ?_
    · rintro ys H' ⟨e, hl, hx⟩
      refine ⟨⟨vh, SqL.of (e.lst (fun z => z) hlh), by omega⟩, fun q hq => ?_⟩
      exact k _ _ ⟨⟨q, ys, rfl, upd_same, hl, fun m r h => by obtain ⟨t, q1, q2⟩ := hx m r h; exact ⟨t, q1, (e.trans (Ext.new hq)).tup (fun z => z) q2⟩⟩, fun r hr => mem_reps'.mp hr⟩ (e.trans (Ext.new hq))
    · rintro i ys H' hi ⟨e, _⟩
      exact ⟨vh, vh[i], SqL.of (e.lst (fun z => z) hlh), List.getElem?_eq_getElem (by omega)⟩
    · rintro i x ys H' H1 hi ⟨e, hl, hx⟩ ⟨Tq, x', rfl, hT, rfl, hy⟩ N hN
      obtain ⟨ti, g1, g2⟩ := hhm i hi
      have hx' := hy vh (SqL.of (e.lst (fun z => z) hlh))
      rw [g1] at hx'
      obtain rfl := Option.some.inj hx'
      have e1 : Ext T noM H (upd H' Tq (.tup [.int (i : Nat), .ref ti])) := e.trans (Ext.new hT)
      obtain ⟨rest, hr⟩ := cls_head HM hi
      have g3 := e1.tup (fun z => z) g2
      have g4 : (upd H' Tq (.tup [.int (i : Nat), .ref ti])) ti = some (.tup (V.int (S.h i : Nat) :: natsV rest)) := by rw [g3, hr]; rfl
      have hsn := reps_succ S.h i
      have hle := reps_len S.h i
      refine ⟨Tq, _, rfl, SqT.of upd_same, rfl, _, _, rfl, _, _, rfl, rfl, rfl, ?_⟩
      refine ⟨_, rfl, ti, _, _, _, rfl, rfl, SqT.of g4, at_of (j := 0) rfl rfl, _, rfl, rfl, _, rfl, ?_⟩
      refine ite2 (fun q => ?_) (fun q => ?_)
      · have q' := vint_inj.mp (of_decide_eq_true q)
        rw [if_pos q'] at hsn
        refine ⟨_, rfl, small1000 (by omega), hN _ _ ⟨e1, by rw [hsn, List.length_append, List.length_append, hl]; rfl, fun m r h => ?_⟩⟩
        rw [hsn] at h
        by_cases hm : m < (reps S.h i).length
        · rw [List.getElem?_append_left hm] at h
          obtain ⟨t, q1, q2⟩ := hx m r h
          exact ⟨t, by rw [List.getElem?_append_left (by omega)]; exact q1, q2⟩
        · rw [List.getElem?_append_right (by omega)] at h
          have hm2 : m = (reps S.h i).length := by
            have := (List.getElem?_eq_some_iff.mp h).1
            simp at this; omega
          subst hm2
          have : i = r := by simpa using h
          subst this
          exact ⟨ti, by rw [List.getElem?_append_right (by omega), hl]; simp, g2⟩
      · have q' : ¬ S.h i = i := fun z => q (decide_eq_true (vint_inj.mpr z))
        rw [if_neg q', List.append_nil] at hsn
        exact hN _ _ ⟨e1, by rw [hsn]; exact hl, by rw [hsn]; exact hx⟩
theorem ok_Field___init__ {f : Addr} {fd : FuncData} (F : Fun K "__init__" "Field.__init__" sField___init__ f fd) (m_range : mg "range" = none) {az : Addr} (g_ZERO : mg "ZERO" = some (.ref az)) (hz0 : SqT K (fun _ => none) az [.int (frX 0), .int (frY 0)]) (fx : FTx K aC) : FnOk P w K mg base CX0 1 f fd ["self", "net"] (spInit K T aC) := by
  refine F.ok scField___init__ (fun vs H Q E h => ?_) (fun cdv A outer s H vs Q E hr h => ?_)
  · obtain ⟨p, dx, net, n, ws, rfl, hp, hnet, n12, k⟩ := h
    rfl
  · obtain ⟨p, dx, net, n, ws, rfl, hp, hnet, n12, k⟩ := h
    refine ⟨_, (pss_cons (ps_asg (pv 1) (pg_tup (by rfl) (pgs_cons (pg_name (i := 2) scField___init__.nd rfl (Or.inl rfl)) (pgs_cons (pg_name (i := 3) scField___init__.nd rfl (Or.inl rfl)) pgs_nil))))
      (pss_cons (ps_fld (pv 0) (pe_glob (v := .ref az) (by rfl) g_ZERO rfl) rfl)
      (pss_cons (ps_fld (pv 0) (pe_lst pa_nil) rfl)
      (pss_cons (ps_fld (pv 0) pe_dnewT rfl)
      (pss_cons (ps_fld (pv 0) (pv 3) rfl)
      (pss_cons (ps_fld (pv 0) (pe_lc (own := [("place", 4)]) (g := (gName 4)) (tt := tYes) rfl scField___init__.nd (pi_range1 (by rfl) m_range (pa_cons (pv 2) pa_nil)) (blkOk_by (own := [("place", 4)]) (N := ["self", "net", "places", "ways", "place"]) (sc := defScope sField___init__) (by decide +kernel)) (fun _ _ _ _ _ => (pg_name (i := 4) scField___init__.nd rfl (Or.inl rfl))) (fun _ _ _ _ _ => pts_nil) (fun _ _ _ _ _ => (pe_tup (pa_cons (pv 4) pa_nil)))) rfl)
      (pss_one (ps_fld (pv 0) (pe_op op_rep (pe_lst (pa_cons (pe_glob (v := .ref az) (by rfl) g_ZERO rfl) pa_nil)) (pv 2)) rfl)))))))), ?_⟩
    obtain ⟨na, nb, us, rfl, ha, hb, hus⟩ := net_at hnet
    have np : na ≠ p := fun z => by rw [z, hp] at ha; cases ha
    have nbp : nb ≠ p := fun z => by rw [z, hp] at hb; cases hb
    have X : ∀ (H' : Hp) (o o' : HO), H' p = some o → (∀ ps, o ≠ .tbl ps) → Ext T (fun b => b = p) H' (upd H' p o') := fun H' o o' h nt => (Ext.refl T _ H').mut (.inr rfl) h nt
    refine ⟨_, rfl, na, _, rfl, SqT.of ha, rfl, _, _, rfl, _, _, rfl, rfl, ?_⟩
    refine ⟨_, rfl, p, aC, dx, _, rfl, hp, fx.cl, fx.n_time, by show 0 < 1000; decide, ?_⟩
    have x1 := X H _ (.ins aC dx (putF "time" (.ref az) [])) hp fun ps z => nomatch z
    have h1 : (upd H p (.ins aC dx (putF "time" (.ref az) []))) p = some (.ins aC dx (putF "time" (.ref az) [])) := upd_same
    generalize (upd H p (.ins aC dx (putF "time" (.ref az) []))) = H1 at x1 h1 ⊢
    refine ⟨by show 0 ≤ sizeLine; decide, fun lt hlt => ?_⟩
    have x2 : Ext T (fun b => b = p) H1 (upd H1 lt (.lst [])) := Ext.new hlt
    have hlt2 : (upd H1 lt (.lst [])) lt = some (.lst []) := upd_same
    have ltp : lt ≠ p := fun z => by rw [z, h1] at hlt; cases hlt
    have h2 : (upd H1 lt (.lst [])) p = some (.ins aC dx (putF "time" (.ref az) [])) := by rw [upd_ne (fun z => ltp z.symm)]; exact h1
    generalize (upd H1 lt (.lst [])) = H2 at x2 hlt2 h2 ⊢
    refine ⟨_, rfl, p, aC, dx, _, rfl, h2, fx.cl, fx.n_taken, by show 1 < 1000; decide, ?_⟩
    have x3 := X H2 _ (.ins aC dx (putF "taken" (.ref lt) (putF "time" (.ref az) []))) h2 fun ps z => nomatch z
    have h3 : (upd H2 p (.ins aC dx (putF "taken" (.ref lt) (putF "time" (.ref az) [])))) p = some (.ins aC dx (putF "taken" (.ref lt) (putF "time" (.ref az) []))) := upd_same
    generalize (upd H2 p (.ins aC dx (putF "taken" (.ref lt) (putF "time" (.ref az) [])))) = H3 at x3 h3 ⊢
    refine fun lw hlw => ?_
    have x4 : Ext T (fun b => b = p) H3 (upd H3 lw (.dT [])) := Ext.new hlw
    have hlw4 : (upd H3 lw (.dT [])) lw = some (.dT []) := upd_same
    have lwp : lw ≠ p := fun z => by rw [z, h3] at hlw; cases hlw
    have h4 : (upd H3 lw (.dT [])) p = some (.ins aC dx (putF "taken" (.ref lt) (putF "time" (.ref az) []))) := by rw [upd_ne (fun z => lwp z.symm)]; exact h3
    generalize (upd H3 lw (.dT [])) = H4 at x4 hlw4 h4 ⊢
    refine ⟨_, rfl, p, aC, dx, _, rfl, h4, fx.cl, fx.n_widths, by show 2 < 1000; decide, ?_⟩
    have x5 := X H4 _ (.ins aC dx (putF "widths" (.ref lw) (putF "taken" (.ref lt) (putF "time" (.ref az) [])))) h4 fun ps z => nomatch z
    have h5 : (upd H4 p (.ins aC dx (putF "widths" (.ref lw) (putF "taken" (.ref lt) (putF "time" (.ref az) []))))) p = some (.ins aC dx (putF "widths" (.ref lw) (putF "taken" (.ref lt) (putF "time" (.ref az) [])))) := upd_same
    generalize (upd H4 p (.ins aC dx (putF "widths" (.ref lw) (putF "taken" (.ref lt) (putF "time" (.ref az) []))))) = H5 at x5 h5 ⊢
    refine ⟨_, rfl, _, rfl, p, aC, dx, _, rfl, h5, fx.cl, fx.n_ways, by show 3 < 1000; decide, ?_⟩
    have x6 := X H5 _ (.ins aC dx (putF "_ways" (.ref nb) (putF "widths" (.ref lw) (putF "taken" (.ref lt) (putF "time" (.ref az) []))))) h5 fun ps z => nomatch z
    have h6 : (upd H5 p (.ins aC dx (putF "_ways" (.ref nb) (putF "widths" (.ref lw) (putF "taken" (.ref lt) (putF "time" (.ref az) [])))))) p = some (.ins aC dx (putF "_ways" (.ref nb) (putF "widths" (.ref lw) (putF "taken" (.ref lt) (putF "time" (.ref az) []))))) := upd_same
    generalize (upd H5 p (.ins aC dx (putF "_ways" (.ref nb) (putF "widths" (.ref lw) (putF "taken" (.ref lt) (putF "time" (.ref az) [])))))) = H6 at x6 h6 ⊢
    refine ⟨_, rfl, n, rfl, by omega, by omega, fun lh hlh => ?_⟩
    have lhp : lh ≠ p := fun z => by rw [z, h6] at hlh; cases hlh
    refine lc_range (lo := 0) (n := ((n : Int) - 0).toNat) (fun j H' => ∃ vs, Ext T noM H6 H' ∧ H' lh = some (.lst vs) ∧ vs.length = j ∧ ∀ x, x < j → ∃ t : Addr, vs[x]? = some (V.ref t) ∧ H' t = some (.tup [V.int (x : Nat)])) ⟨[], Ext.new hlh, upd_same, rfl, fun x hx => absurd hx (Nat.not_lt_zero _)⟩ ?_ ?_
    · rintro j H' hj ⟨vs, e, hv, hl, hx⟩
      refine ⟨rfl, tYesI ?_⟩
      refine ⟨_, rfl, by show 1 ≤ sizeLine; decide, fun t ht => ?_⟩
      have e2 := e.trans (Ext.new (o := .tup [.int (0 + (j : Int))]) ht)
      have hv2 : (upd H' t (.tup [.int (0 + (j : Int))])) lh = some (.lst vs) := by rw [upd_ne (ne_of_none hv ht)]; exact hv
      refine ⟨vs, hv2, small1000 (by omega), vs ++ [.ref t], e2.mut (.inl hlh) hv2 ltbl, upd_same, by rw [List.length_append, List.length_singleton, hl], fun x hx' => ?_⟩
      by_cases q : x < j
      · obtain ⟨u, q1, q2⟩ := hx x q
        refine ⟨u, by rw [List.getElem?_append_left (by omega)]; exact q1, ?_⟩
        rw [upd_ne (fun z => by rw [z, hv] at q2; cases q2), upd_ne (ne_of_none q2 ht)]; exact q2
      · have : x = j := by omega
        subst this
        refine ⟨t, by rw [List.getElem?_append_right (by omega), hl]; simp, ?_⟩
        rw [upd_ne (fun z => by rw [z, hv] at ht; cases ht), upd_same, Int.zero_add]
    rintro H7 ⟨vh, x7, hlh7, hvl, hvx⟩
    have en : ((n : Int) - 0).toNat = n := by omega
    rw [en] at hvl hvx
    have h7 := x7.kp _ _ (fun z => z) h6 (fun ps z => nomatch z)
    refine ⟨_, rfl, p, aC, dx, _, rfl, h7, fx.cl, fx.n_homes, by show 4 < 1000; decide, ?_⟩
    have x8 := X H7 _ (.ins aC dx (putF "_homes" (.ref lh) (putF "_ways" (.ref nb) (putF "widths" (.ref lw) (putF "taken" (.ref lt) (putF "time" (.ref az) [])))))) h7 fun ps z => nomatch z
    have h8 : (upd H7 p (.ins aC dx (putF "_homes" (.ref lh) (putF "_ways" (.ref nb) (putF "widths" (.ref lw) (putF "taken" (.ref lt) (putF "time" (.ref az) []))))))) p = some (.ins aC dx (putF "_homes" (.ref lh) (putF "_ways" (.ref nb) (putF "widths" (.ref lw) (putF "taken" (.ref lt) (putF "time" (.ref az) [])))))) := upd_same
    generalize (upd H7 p (.ins aC dx (putF "_homes" (.ref lh) (putF "_ways" (.ref nb) (putF "widths" (.ref lw) (putF "taken" (.ref lt) (putF "time" (.ref az) []))))))) = H8 at x8 h8 ⊢
    refine ⟨by show 1 ≤ sizeLine; decide, fun l0 hl0 => ?_⟩
    have x9 : Ext T (fun b => b = p) H8 (upd H8 l0 (.lst [.ref az])) := Ext.new hl0
    have hl09 : (upd H8 l0 (.lst [.ref az])) l0 = some (.lst [.ref az]) := upd_same
    have l0p : l0 ≠ p := fun z => by rw [z, h8] at hl0; cases hl0
    have h9 := upd_ne (H := H8) (o := .lst [.ref az]) (fun z : p = l0 => l0p z.symm)
    rw [h8] at h9
    generalize (upd H8 l0 (.lst [.ref az])) = H9 at x9 hl09 h9 ⊢
    have hrep : (List.replicate ((n : Int)).toNat [V.ref az]).flatten = List.replicate n (V.ref az) := by
      rw [show ((n : Int)).toNat = n by omega]
      exact flat_rep n _
    refine ⟨_, rfl, l0, n, _, rfl, rfl, hl09, by omega, by omega, ?_, fun ld hld => ?_⟩
    · show 1 * ((n : Int)).toNat ≤ sizeLine
      exact Nat.le_of_lt (small1000 (by omega))
    rw [hrep]
    have x10 : Ext T (fun b => b = p) H9 (upd H9 ld (.lst (List.replicate n (.ref az)))) := Ext.new hld
    have hld10 : (upd H9 ld (.lst (List.replicate n (.ref az)))) ld = some (.lst (List.replicate n (.ref az))) := upd_same
    have ldp : ld ≠ p := fun z => by rw [z, h9] at hld; cases hld
    have h10 := upd_ne (H := H9) (o := .lst (List.replicate n (.ref az))) (fun z : p = ld => ldp z.symm)
    rw [h9] at h10
    have nth : lt ≠ lh := fun z => by
      have := (x3.trans (x4.trans (x5.trans x6))).lst (fun z => ltp z) hlt2
      rw [z, hlh] at this; cases this
    have ntd : lt ≠ ld := fun z => by
      have := ((x3.trans (x4.trans (x5.trans x6))).trans (x7.weak.trans (x8.trans x9))).lst (fun z => ltp z) hlt2
      rw [z, hld] at this; cases this
    have nhd : lh ≠ ld := fun z => by
      have := (x8.trans x9).lst (fun z => lhp z) hlh7
      rw [z, hld] at this; cases this
    generalize (upd H9 ld (.lst (List.replicate n (.ref az)))) = H10 at x10 hld10 h10 ⊢
    refine ⟨_, rfl, p, aC, dx, _, rfl, h10, fx.cl, fx.n_depths, by show 5 < 1000; decide, ?_⟩
    have x11 := X H10 _ (.ins aC dx (ff (.ref az) ⟨p, lt, lw, lh, ld, .ref nb⟩)) h10 fun ps z => nomatch z
    have x711 := x8.trans (x9.trans (x10.trans x11))
    have x611 := x7.weak.trans x711
    have x211 := x3.trans (x4.trans (x5.trans (x6.trans x611)))
    have x411 := x5.trans (x6.trans x611)
    have xall := x1.trans (x2.trans x211)
    have tall : ∀ b xs, H b = some (.tup xs) → (upd H10 p (.ins aC dx (ff (.ref az) ⟨p, lt, lw, lh, ld, .ref nb⟩))) b = some (.tup xs) := fun b xs q => xall.tup (fun z => by rw [z, hp] at q; cases q) q
    have hz : ∀ H', FrV K H' 0 (.ref az) := fun H' => zero_fr hz0
    refine k ⟨p, lt, lw, lh, ld, .ref nb⟩ _ rfl ⟨⟨dx, .ref az, upd_same, hz _⟩, ⟨[], x211.lst (fun z => ltp z) hlt2, rfl⟩, ⟨[], x411.kp _ _ (fun z => lwp z) hlw4 (fun ps z => nomatch z), rfl⟩, ⟨vh, x711.lst (fun z => lhp z) hlh7, hvl, fun x hx => ?_⟩, ⟨_, x11.lst (fun z => ldp z) hld10, by rw [List.length_replicate], fun x hx => ⟨_, by rw [List.getElem?_replicate, if_pos hx], hz _⟩⟩, ⟨nb, us, rfl, tall _ _ hb, ?_⟩, nth, ntd, nhd⟩ (fun b hb => by
      rcases hb with z | z | z | z | z
      · exact .inl z
      · exact .inr (by rw [z]; exact x1.fr lt hlt)
      · exact .inr (by rw [z]; exact (x1.trans (x2.trans x3)).fr lw hlw)
      · exact .inr (by rw [z]; exact (x1.trans (x2.trans (x3.trans (x4.trans (x5.trans x6))))).fr lh hlh)
      · exact .inr (by rw [z]; exact (x1.trans (x2.trans (x3.trans (x4.trans (x5.trans (x6.trans (x7.weak.trans (x8.trans x9)))))))).fr ld hld)) xall
    · obtain ⟨u, q1, q2⟩ := hvx x hx
      refine ⟨u, q1, ?_⟩
      have hc : cls start.h n x = [x] := sorted_ext (cls_pw _ _ _) (List.pairwise_singleton _ _) fun y => by
        rw [mem_cls, List.mem_singleton]
        exact ⟨fun z => z.2, fun z => by rw [z]; exact ⟨hx, rfl⟩⟩
      rw [hc]
      exact x711.tup (fun z => by rw [z, h7] at q2; cases q2) q2
    · exact RpL.ext xall (fun b vs z q => by rw [show b = p from z, hp] at q; cases q) hus
end
end Mw

set_option Elab.async false
set_option linter.all false
set_option maxRecDepth 100000
set_option maxHeartbeats 4000000
namespace Mw
open PySem PySem.Spec PyProof.Rows L2 GE
abbrev Pr := Nat × Nat
def pairD (p : Pr) : D := .t [.i p.1, .i p.2]
def pairsD (ps : List Pr) : D := .t (ps.map pairD)
structure PsOk (n : Nat) (ps : List Pr) : Prop where
  ok : ∀ p ∈ ps, p.1 < p.2 ∧ p.2 < n
  ln : ps.length ≤ 6
theorem pair_at {H : Hp} {p : Pr} {v : V} (h : Rp H (pairD p) v) : ∃ a, v = .ref a ∧ H a = some (.tup [.int p.1, .int p.2]) := by
  obtain ⟨a, vs, rfl, h1, h2⟩ := h.t
  exact ⟨a, rfl, by rw [h1, RpL.ints (ns := [p.1, p.2]) h2]; rfl⟩
theorem rp_pair {H : Hp} {a : Addr} {x y : Nat} (h : H a = some (.tup [.int x, .int y])) : Rp H (pairD (x, y)) (.ref a) := rp_t h (rpl_cons (rp_i _) (rpl_cons (rp_i _) rpl_nil))
theorem inV_nats (a : Nat) : ∀ f : List Nat, inV (.int (a : Int)) (natsV f) = decide (a ∈ f)
  | [] => rfl
  | x :: f => by
    have ih := inV_nats a f
    unfold inV natsV at ih ⊢
    rw [List.map_cons, List.any_cons, ih]
    by_cases e : x = a
    · subst e; simp [eqV]
    · have e2 : ¬ a = x := fun z => e z.symm
      have e3 : ¬ (x : Int) = (a : Int) := fun z => e (by omega)
      simp [eqV, e2, e3]
theorem flat_nats (f : List Nat) : (natsV f).all flatV = true := by
  rw [List.all_eq_true]; intro x hx; obtain ⟨y, _, rfl⟩ := List.mem_map.mp hx; rfl

def spParts (T : List Addr) : Sp := fun vs H Q _ => ∃ (gt : Addr) (g : List Nat) (pz : V) (ps : List Pr), vs = [.ref gt, pz] ∧ H gt = some (.tup (natsV g)) ∧ Rp H (pairsD ps) pz ∧ ps.length ≤ 6 ∧ Wd T H ∧
  ∀ H', Ext T noM H H' → Q (.bl (ps.any fun q => decide (q.1 ∈ g) != decide (q.2 ∈ g))) H'
def spOpen (K : PySem.W.Frag) (T : List Addr) (aC : Addr) : Sp := fun vs H Q _ => ∃ (f : FAd) (n t : Nat) (ws : Wl) (S : Gs) (pz : V) (ps : List Pr), vs = [.ref f.p, pz] ∧ FieldAt K aC H f n ws S ∧ GM n ws t S ∧ n ≤ 12 ∧ Rp H (pairsD ps) pz ∧ PsOk n ps ∧ Wd T H ∧
  ∀ v H', RisV K H' n S.h (opens n ps S.h) v → Ext T noM H H' → Q v H'
theorem any_congr {α : Type} {f g : α → Bool} : ∀ {l : List α}, (∀ x ∈ l, f x = g x) → l.any f = l.any g
  | [], _ => rfl
  | x :: l, h => by rw [List.any_cons, List.any_cons, h x List.mem_cons_self, any_congr fun y hy => h y (List.mem_cons_of_mem _ hy)]
theorem bne_dec (a b : Prop) [Decidable a] [Decidable b] : (!decide (V.bl (decide a) = V.bl (decide b))) = (decide a != decide b) := by
  by_cases ha : a <;> by_cases hb : b <;> simp [ha, hb]
section
variable {P : Program} {w : World} {K : PySem.W.Frag} {mg : Str → Option Value} {base : Heap} {T : List Addr} {aC : Addr}
theorem ok_parts_pair {f : Addr} {fd : FuncData} {c PT : Addr} (F : GE.FunC K "parts_pair" "parts_pair" sparts_pair f fd c) (TB : GxR.TabB base mg c PT) (hPT : PT ∈ T) (m_any : mg "any" = none) : FnOk P w K mg base CX0 3 f fd ["places", "pairs"] (spParts T) := by
  refine F.ok scparts_pair (fun vs H Q E h => ?_) (fun A outer s H vs Q E hr h => ?_)
  · obtain ⟨gt, g, pz, ps, rfl, hg, hps, pl, wd, k⟩ := h
    rfl
  · obtain ⟨gt, g, pz, ps, rfl, hg, hps, pl, wd, k⟩ := h
    refine ⟨_, (pss_one (ps_ret (GE.pe_anyG (own := [("a", 2), ("b", 3)]) (k := 0) hr (by rfl) m_any scparts_pair.nd TB rfl (pi_tup (pv 1)) (GE.gblk_by (N := ["places", "pairs", "a", "b"]) (sc := defScope sparts_pair) (by decide +kernel)) (fun _ _ _ _ _ _ _ _ => (GE.pg_tupK (K := K) 2 (pgs_cons (pg_name (i := 2) scparts_pair.nd rfl (Or.inl rfl)) (pgs_cons (pg_name (i := 3) scparts_pair.nd rfl (Or.inl rfl)) pgs_nil)))) (fun _ _ _ _ _ _ _ _ hr' => pts_nil) (fun _ _ _ _ _ _ _ _ hr' => (pe_cmpR op_ne (pe_cmpR (GE.in_seqK (K := K)) (pv 2) (pv 0) (by rfl)) (pe_cmpR (GE.in_seqK (K := K)) (pv 3) (pv 0) (by rfl)) (nomark _)))))), ?_⟩
    obtain ⟨pa, pus, rfl, hpa, hpr⟩ := hps.t
    have hlen : pus.length = ps.length := by rw [hpr.len, List.length_map]
    refine ⟨_, rfl, pa, rfl, ⟨_, SqT.of hpa⟩, wd PT hPT, fun H3 tb => ?_⟩
    have e3 : Ext T noM H H3 := Ext.tab (wd PT hPT) tb
    refine turn_tupI (K := K) (a := pa) (xs := pus) (fun i ys H' => ys.length = i ∧ (ps.take i).any (fun q => decide (q.1 ∈ g) != decide (q.2 ∈ g)) = false ∧ Ext T noM H H') ⟨rfl, rfl, e3⟩ (fun i ys H' _ p => SqT.of (p.2.2.tup (fun z => z) hpa)) ?_ ?_
    · rintro ys H' ⟨_, hb, e⟩
      rw [hlen, List.take_length] at hb
      have := k H' e
      rw [hb] at this
      exact this
    · rintro i x ys H' hx ⟨hyl, hb, e⟩ N hN
      have hi : i < ps.length := by have := (List.getElem?_eq_some_iff.mp hx).1; omega
      obtain ⟨x', hx', hr⟩ := hpr.get (i := i) (d := pairD ps[i]) (by rw [List.getElem?_map, List.getElem?_eq_getElem hi]; rfl)
      rw [hx] at hx'
      obtain rfl := Option.some.inj hx'
      obtain ⟨xa, rfl, hxa⟩ := pair_at (Rp.x e hr)
      have hpi : ps[i]? = some ps[i] := List.getElem?_eq_getElem hi
      have hg' := e.tup (fun z => z) hg
      refine ⟨xa, _, rfl, SqT.of hxa, rfl, _, _, rfl, _, _, rfl, rfl, rfl, tYesI ?_⟩
      refine ⟨_, rfl, _, rfl, gt, _, rfl, .inr (SqT.of hg'), rfl, flat_nats g, ?_⟩
      refine ⟨_, rfl, _, rfl, gt, _, rfl, .inr (SqT.of hg'), rfl, flat_nats g, ?_⟩
      rw [if_neg (by decide), if_neg (by decide), inV_nats, inV_nats]
      refine ⟨rfl, ?_⟩
      rw [bne_dec]
      refine ⟨small1000 (by omega), _, rfl, fun q => hN _ _ ⟨?_, ?_, e⟩, fun q => ?_⟩
      · rw [List.length_append, List.length_singleton, hyl]
      · rw [take_succ' hpi, List.any_append, hb]
        simp only [List.any_cons, List.any_nil, Bool.or_false, Bool.false_or]
        exact q
      · have ht : ps.any (fun q => decide (q.1 ∈ g) != decide (q.2 ∈ g)) = true := List.any_eq_true.mpr ⟨ps[i], List.getElem_mem hi, q⟩
        have := k H' e
        rw [ht] at this
        exact this
theorem ok__open_groups {f : Addr} {fd : FuncData} {c PT : Addr} (F : GE.FunC K "_open_groups" "_open_groups" s_open_groups f fd c) (TB : GxR.TabB base mg c PT) (hPT : PT ∈ T) (m_tuple : mg "tuple" = none) {fField_groups_now : Addr} {fdField_groups_now : FuncData} (FField_groups_now : Fun K "groups_now" "Field.groups_now" sField_groups_now fField_groups_now fdField_groups_now) (GField_groups_now : FnOk P w K mg base CX0 5 fField_groups_now fdField_groups_now ["self"] (spNow K T aC)) (bField_groups_now : Binds K fdField_groups_now ["self"] []) (mmField_groups_now : Meth K aC "groups_now" fField_groups_now) {fparts_pair : Addr} {fdparts_pair : FuncData} (Fparts_pair : Fun K "parts_pair" "parts_pair" sparts_pair fparts_pair fdparts_pair) (Gparts_pair : FnOk P w K mg base CX0 3 fparts_pair fdparts_pair ["places", "pairs"] (spParts T)) (bparts_pair : Binds K fdparts_pair ["places", "pairs"] []) (gparts_pair : mg "parts_pair" = some (.ref fparts_pair)) (fx : FTx K aC) : FnOk P w K mg base CX0 6 f fd ["field", "pairs"] (spOpen K T aC) := by
  refine F.ok sc_open_groups (fun vs H Q E h => ?_) (fun A outer s H vs Q E hr h => ?_)
  · obtain ⟨f, n, t, ws, S, pz, ps, rfl, F, G, n12, hps, ok, wd, k⟩ := h
    rfl
  · obtain ⟨f, n, t, ws, S, pz, ps, rfl, F, G, n12, hps, ok, wd, k⟩ := h
    refine ⟨_, (pss_one (ps_ret (GE.pe_tupG (own := [("group", 2)]) (g := (gName 2)) (k := 3) hr (by rfl) m_tuple sc_open_groups.nd TB rfl (pi_tup (pe_meth0 (pv 0) fx.cl mmField_groups_now GField_groups_now hr bField_groups_now .nil pass0)) (GE.gblk_by (N := ["field", "pairs", "group"]) (sc := defScope s_open_groups) (by decide +kernel)) (fun _ _ _ _ _ _ _ _ => (pg_name (i := 2) sc_open_groups.nd rfl (Or.inl rfl))) (fun _ _ _ _ _ _ _ _ hr' => (pts_one (pt_val (pe_call Gparts_pair hr' (by rfl) gparts_pair Fparts_pair.kp bparts_pair .nil pass0 (pa_cons (pv 2) (pa_cons (pv 1) pa_nil)))))) (fun _ _ _ _ _ _ _ _ hr' => (pv 2))))), ?_⟩
    obtain ⟨dx, tv, hob, _⟩ := F.ob
    refine ⟨_, rfl, f.p, dx, _, rfl, hob, by rfl, f, n, t, ws, S, rfl, F, G, n12, wd, fun gv H1 RV e1 => ?_⟩
    obtain ⟨ra, rvs, rfl, hra, hrl, hrx⟩ := RV.at_
    have wd1 := wd.ext e1
    refine ⟨ra, rfl, ⟨_, SqT.of hra⟩, wd1 PT hPT, fun H2 tb => ?_⟩
    have e2 : Ext T noM H1 H2 := Ext.tab (wd1 PT hPT) tb
    have rl := reps_len S.h n
    refine turn_tupI (K := K) (a := ra) (xs := rvs) (fun i ys H' => Ext T noM H1 H' ∧ ys.length = (((reps S.h n).take i).filter fun r => ps.any (parted S.h r)).length ∧ ∀ (m r : Nat), (((reps S.h n).take i).filter fun r => ps.any (parted S.h r))[m]? = some r → ∃ t : Addr, ys[m]? = some (V.ref t) ∧ H1 t = some (.tup (natsV (cls S.h n r)))) ⟨e2, rfl, fun m r h => by simp at h⟩ (fun i ys H' _ p => SqT.of (p.1.tup (fun z => z) hra)) ?_ ?_
    · rintro ys H' ⟨e, hl, hx⟩ q hq
      rw [hrl, List.take_length] at hl hx
      exact k _ _ ⟨⟨q, ys, rfl, upd_same, hl, fun m r h => by obtain ⟨t, q1, q2⟩ := hx m r h; exact ⟨t, q1, (e.trans (Ext.new hq)).tup (fun z => z) q2⟩⟩, fun r hr => mem_reps'.mp (List.mem_filter.mp hr).1⟩ (e1.trans (e.trans (Ext.new hq)))
    · rintro i x ys H' hx ⟨e, hl, hxx⟩ N hN
      have hi : i < (reps S.h n).length := by have := (List.getElem?_eq_some_iff.mp hx).1; omega
      obtain ⟨r, hr⟩ : ∃ r, (reps S.h n)[i]? = some r := ⟨_, List.getElem?_eq_getElem hi⟩
      obtain ⟨gt, g1, g2⟩ := hrx i r hr
      rw [hx] at g1
      obtain rfl := Option.some.inj g1
      obtain ⟨rn, rr⟩ := mem_reps'.mp (List.mem_of_getElem? hr)
      have hpe : (ps.any fun q => decide (q.1 ∈ cls S.h n r) != decide (q.2 ∈ cls S.h n r)) = ps.any (parted S.h r) := by
        refine any_congr fun q hq => ?_
        obtain ⟨o1, o2⟩ := ok.ok q hq
        unfold parted
        rw [show decide (q.1 ∈ cls S.h n r) = decide (S.h q.1 = r) from by rw [decide_eq_decide, mem_cls, rr]; exact ⟨fun z => z.2, fun z => ⟨by omega, z⟩⟩,
          show decide (q.2 ∈ cls S.h n r) = decide (S.h q.2 = r) from by rw [decide_eq_decide, mem_cls, rr]; exact ⟨fun z => z.2, fun z => ⟨o2, z⟩⟩]
      have hsn : ((reps S.h n).take (i + 1)).filter (fun r => ps.any (parted S.h r)) = ((reps S.h n).take i).filter (fun r => ps.any (parted S.h r)) ++ if ps.any (parted S.h r) then [r] else [] := by
        rw [take_succ' hr, List.filter_append]; by_cases z : ps.any (parted S.h r) = true <;> simp [z]
      have hfl := List.length_filter_le (fun r => ps.any (parted S.h r)) ((reps S.h n).take i)
      rw [List.length_take] at hfl
      refine ⟨rfl, _, rfl, _, rfl, gt, _, pz, ps, rfl, e.tup (fun z => z) g2, Rp.x (e1.trans e) hps, ok.ln, wd1.ext e, fun H3 e3 => ⟨_, rfl, ?_⟩⟩
      rw [hpe]
      refine ite2 (fun q => ?_) (fun q => ?_)
      · rw [if_pos q] at hsn
        refine ⟨_, rfl, small1000 (by omega), hN _ _ ⟨e.trans e3, by rw [hsn, List.length_append, List.length_append, hl]; rfl, fun m r' h => ?_⟩⟩
        rw [hsn] at h
        by_cases hm : m < (((reps S.h n).take i).filter fun r => ps.any (parted S.h r)).length
        · rw [List.getElem?_append_left hm] at h
          obtain ⟨t, q1, q2⟩ := hxx m r' h
          exact ⟨t, by rw [List.getElem?_append_left (by omega)]; exact q1, q2⟩
        · rw [List.getElem?_append_right (by omega)] at h
          have hm2 : m = (((reps S.h n).take i).filter fun r => ps.any (parted S.h r)).length := by
            have := (List.getElem?_eq_some_iff.mp h).1
            simp at this; omega
          subst hm2
          have : r = r' := by simpa using h
          subst this
          exact ⟨gt, by rw [List.getElem?_append_right (by omega), hl]; simp, g2⟩
      · have q' : ps.any (parted S.h r) = false := Bool.eq_false_iff.mpr q
        rw [if_neg q, List.append_nil] at hsn
        exact hN _ _ ⟨e.trans e3, by rw [hsn]; exact hl, by rw [hsn]; exact hxx⟩
end
end Mw

set_option Elab.async false
set_option linter.all false
set_option maxRecDepth 100000
set_option maxHeartbeats 4000000
namespace Mw
open PySem PySem.Spec PyProof.Rows L2 GE
theorem ch_range (m : Nat) : Ch m (List.range m) := ⟨fun c hc => List.mem_range.mp hc, List.pairwise_lt_range⟩
theorem wf_ok {n : Nat} {ws : Wl} (W : Wf n ws) : WsOk n ws := ⟨W.n1, W.n12, fun c hc => (wy_ok W hc).2⟩
theorem wedges_edg (ws : Wl) : edg ws (List.range ws.length) = wedges ws := rfl
theorem joined_iff {n : Nat} {ws : Wl} (W : Wf n ws) {a b : Nat} (ha : a < n) (hb : b < n) : hom ws (List.range ws.length) a = hom ws (List.range ws.length) b ↔ Cn (wedges ws) a b :=
  (hom_ok W (List.range ws.length) fun c hc => List.mem_range.mp hc).iff a b ha hb
def spEvery (T : List Addr) : Sp := fun vs H Q _ => ∃ (net : V) (n : Nat) (ws : Wl), vs = [net] ∧ Rp H (netD n ws) net ∧ ws.length ≤ 24 ∧ ∀ u H', Rp H' (chD (List.range ws.length)) u → Ext T noM H H' → Q u H'
def spCheck (T : List Addr) : Sp := fun vs H Q _ => ∃ (net pz : V) (n : Nat) (ws : Wl) (ps : List Pr), vs = [net, pz] ∧ Wf n ws ∧ Rp H (netD n ws) net ∧ Rp H (pairsD ps) pz ∧ PsOk n ps ∧ (∀ q ∈ ps, Cn (wedges ws) q.1 q.2) ∧ ∀ H', Ext T noM H H' → Q .non H'
section
variable {P : Program} {w : World} {K : PySem.W.Frag} {mg : Str → Option Value} {base : Heap} {T : List Addr} {aC : Addr}
theorem ok_every_way {f : Addr} {fd : FuncData} (F : Fun K "every_way" "every_way" severy_way f fd) (m_tuple : mg "tuple" = none) (m_range : mg "range" = none) (m_len : mg "len" = none) : FnOk P w K mg base CX0 1 f fd ["net"] (spEvery T) := by
  refine F.ok scevery_way (fun vs H Q E h => ?_) (fun cdv A outer s H vs Q E hr h => ?_)
  · obtain ⟨net, n, ws, rfl, hnet, h24, k⟩ := h
    rfl
  · obtain ⟨net, n, ws, rfl, hnet, h24, k⟩ := h
    refine ⟨_, (pss_one (ps_ret (pe_tupRg rfl (by rfl) m_tuple (prg_1 (by rfl) m_range (pe_callB call_len_seq (by rfl) m_len PySem.boot_len (pa_cons (pe_ix ix_tup (pv 0) pe_int (fun _ _ => rfl)) pa_nil)))))), ?_⟩
    obtain ⟨na, nb, us, rfl, ha, hb, hus⟩ := net_at hnet
    have hul : us.length = ws.length := by rw [hus.len, List.length_map]
    refine ⟨_, rfl, na, _, _, _, rfl, rfl, SqT.of ha, at_of (j := 1) rfl rfl, nb, _, rfl, .inr (SqT.of hb), _, rfl, RgOk.of_le (by omega) (by omega) (by omega) (by omega), fun t ht => ?_⟩
    have er : rgV 0 ((us.length : Nat) : Int) = (List.range ws.length).map fun (c : Nat) => V.int (c : Int) := by
      unfold rgV; rw [hul, show (((ws.length : Nat) : Int) - 0).toNat = ws.length by omega]
      exact List.map_congr_left fun x _ => by rw [Int.zero_add]
    rw [er]
    exact k _ _ (rp_ch upd_same) (Ext.new ht)
theorem ok_check_joined {f : Addr} {fd : FuncData} (F : Fun K "check_joined" "check_joined" scheck_joined f fd) (m_enumerate : mg "enumerate" = none) {f_homes : Addr} {fd_homes : FuncData} (F_homes : Fun K "_homes" "_homes" s_homes f_homes fd_homes) (G_homes : FnOk P w K mg base CX0 1 f_homes fd_homes ["net", "choice"] (spHomes T)) (b_homes : Binds K fd_homes ["net", "choice"] []) (g_homes : mg "_homes" = some (.ref f_homes)) {fevery_way : Addr} {fdevery_way : FuncData} (Fevery_way : Fun K "every_way" "every_way" severy_way fevery_way fdevery_way) (Gevery_way : FnOk P w K mg base CX0 1 fevery_way fdevery_way ["net"] (spEvery T)) (bevery_way : Binds K fdevery_way ["net"] []) (gevery_way : mg "every_way" = some (.ref fevery_way)) : FnOk P w K mg base CX0 2 f fd ["net", "pairs"] (spCheck T) := by
  refine F.ok sccheck_joined (fun vs H Q E h => ?_) (fun cdv A outer s H vs Q E hr h => ?_)
  · obtain ⟨net, pz, n, ws, ps, rfl, W, hnet, hps, ok, J, k⟩ := h
    rfl
  · obtain ⟨net, pz, n, ws, ps, rfl, W, hnet, hps, ok, J, k⟩ := h
    refine ⟨_, (pss_cons (ps_set (i := 2) sccheck_joined.nd rfl (Or.inl rfl) (pe_call G_homes hr (by rfl) g_homes F_homes.kp b_homes .nil pass0 (pa_cons (pv 0) (pa_cons (pe_call Gevery_way hr (by rfl) gevery_way Fevery_way.kp bevery_way .nil pass0 (pa_cons (pv 0) pa_nil)) pa_nil))))
      (pss_one (ps_for PassesOwn.never rfl (GE.pi_enumT (by rfl) m_enumerate (pa_cons (pv 1) pa_nil)) (pg_tup (by rfl) (pgs_cons (pg_name (i := 3) sccheck_joined.nd rfl (Or.inl rfl)) (pgs_cons (pg_tup (by rfl) (pgs_cons (pg_name (i := 4) sccheck_joined.nd rfl (Or.inl rfl)) (pgs_cons (pg_name (i := 5) sccheck_joined.nd rfl (Or.inl rfl)) pgs_nil))) pgs_nil))) (pss_one (ps_if (pt_cmpR op_ne (pe_ix ix_list (pv 2) (pv 4) (fun _ _ => rfl)) (pe_ix ix_list (pv 2) (pv 5) (fun _ _ => rfl)) (nomark _)) (pss_one GE.ps_no) pss_nil))))), ?_⟩
    refine ⟨_, rfl, _, rfl, net, n, ws, rfl, hnet, W.ln, fun u H1 hu e1 => ?_⟩
    refine ⟨net, u, n, ws, List.range ws.length, rfl, ⟨W, ch_range _, Rp.x e1 hnet, hu⟩, fun l H2 hl hL e2 => ?_⟩
    have e12 := e1.trans e2
    obtain ⟨pa, pus, rfl, hpa, hpr⟩ := (Rp.x e12 hps).t
    have hlen : pus.length = ps.length := by rw [hpr.len, List.length_map]
    refine ⟨_, rfl, pa, pus, rfl, SqT.of hpa, ?_⟩
    refine for_it (n := pus.length) walk_enumT (fun i σ' H' => ∃ y3 y4 y5, σ' = [some net, some (.ref pa), some (.ref l), y3, y4, y5] ∧ Ext T noM H2 H') ⟨none, none, none, rfl, Ext.refl _ _ _⟩ (fun i σ' H' _ ⟨_, _, _, _, e⟩ => SqT.of (e.tup (fun z => z) hpa)) ?_ ?_
    · rintro i x σ' H1 H3 hi ⟨y3, y4, y5, rfl, e⟩ ⟨Tq, x1, x2, rfl, hT, rfl, h1, h2⟩
      obtain rfl := Option.some.inj h1
      have h2 : pus[i]? = some x2 := h2
      have hi' : i < ps.length := by omega
      obtain ⟨x', hx', hr⟩ := hpr.get (i := i) (d := pairD ps[i]) (by rw [List.getElem?_map, List.getElem?_eq_getElem hi']; rfl)
      rw [hx'] at h2
      obtain rfl := Option.some.inj h2
      obtain ⟨xa, rfl, hxa⟩ := pair_at hr
      have e3 : Ext T noM H2 (upd H1 Tq (.tup [.int (i : Nat), .ref xa])) := e.trans (Ext.new hT)
      have g3 := e3.tup (fun z => z) hxa
      have hL3 := e3.lst (fun z => z) hL
      obtain ⟨o1, o2⟩ := ok.ok _ (List.getElem_mem hi')
      have hj := (joined_iff W (show ps[i].1 < n by omega) o2).mpr (J _ (List.getElem_mem hi'))
      refine ⟨Tq, _, rfl, SqT.of upd_same, rfl, _, _, rfl, _, _, rfl, ⟨xa, _, rfl, SqT.of g3, rfl, _, _, rfl, _, _, rfl, rfl, rfl, ?_⟩⟩
      refine ⟨_, rfl, _, rfl, l, _, _, _, rfl, rfl, SqL.of hL3, at_of (j := ps[i].1) rfl (hV_get (by omega)), _, rfl, _, rfl, l, _, _, _, rfl, rfl, SqL.of hL3, at_of (j := ps[i].2) rfl (hV_get o2), rfl, _, rfl, ?_⟩
      rw [hj]
      refine ite2 (fun q => ?_) (fun q => ⟨_, _, _, rfl, e3⟩)
      rw [decide_eq_true rfl] at q; cases q
    · rintro σ' H1 ⟨y3, y4, y5, rfl, e⟩
      exact k H1 (e12.trans e)
end
end Mw

set_option Elab.async false
set_option linter.all false
set_option maxRecDepth 100000
set_option maxHeartbeats 4000000
namespace Mw
open PySem PySem.Spec PyProof.Rows L2 GE
/-! ### the whole growth -/
abbrev Rw := Int × (Nat → Nat)
def gro (n : Nat) (ws : Wl) (ps : List Pr) : Nat → Gs → List Rw → Gs × List Rw
  | 0, S, L => (S, L)
  | k + 1, S, L => if opens n ps S.h = [] then (S, L) else gro n ws ps k (turn n ws ps S) (L ++ [((turn n ws ps S).time, (turn n ws ps S).h)])
def allGro (n : Nat) (ws : Wl) (ps : List Pr) : Gs × List Rw := gro n ws ps n start [(0, start.h)]
theorem gro_stop {n : Nat} {ws : Wl} {ps : List Pr} {S : Gs} {L : List Rw} (h : opens n ps S.h = []) : ∀ k, gro n ws ps k S L = (S, L)
  | 0 => rfl
  | k + 1 => if_pos h
structure GF (n : Nat) (ws : Wl) (t : Nat) (S : Gs) : Prop where
  g : GM n ws t S
  f : first ws S = none
  c : (reps S.h n).length + t ≤ n
  nd : (S.wid.map (·.1)).Nodup
  wl : S.wid.length ≤ 12 * t
  tk : S.taken.length + (reps S.h n).length ≤ n
theorem takeAll_cnt {n t : Nat} {ws : Wl} (W : WsOk n ws) : ∀ (k : Nat) {S : Gs}, GM n ws t S → (takeAll ws k S).taken.length + (reps (takeAll ws k S).h n).length ≤ S.taken.length + (reps S.h n).length
  | 0, S, _ => Nat.le_refl _
  | k + 1, S, G => by
    cases e : first ws S with
    | none => rw [takeAll_stop e]; exact Nat.le_refl _
    | some c =>
      rw [takeAll_go e]
      obtain ⟨hc, hx, _⟩ := first_some e
      obtain ⟨G2, hlt⟩ := G.take W hc hx
      have ih := takeAll_cnt W k G2
      have : (take1 ws S c).taken.length = S.taken.length + 1 := by show (S.taken ++ [_]).length = _; rw [List.length_append]; rfl
      omega
theorem fold_nd {n : Nat} {h : Nat → Nat} {s : Int} : ∀ (R : List Nat) {l : List (List Nat × Int)}, (l.map (·.1)).Nodup → ((R.foldl (fun w r => addW w (cls h n r) s) l).map (·.1)).Nodup ∧ (R.foldl (fun w r => addW w (cls h n r) s) l).length ≤ l.length + R.length
  | [], l, hl => ⟨hl, Nat.le_refl _⟩
  | r :: R, l, hl => by
    obtain ⟨h1, h2⟩ := fold_nd (n := n) (h := h) (s := s) R (addW_nd (k := cls h n r) (d := s) hl)
    refine ⟨h1, ?_⟩
    have := addW_len (k := cls h n r) (d := s) (l := l)
    show (R.foldl (fun w r => addW w (cls h n r) s) (addW l (cls h n r) s)).length ≤ l.length + (r :: R).length
    rw [List.length_cons]; omega
theorem opens_len (n : Nat) (ps : List Pr) (h : Nat → Nat) : (opens n ps h).length ≤ n := by
  have h1 := List.length_filter_le (fun r => ps.any (parted h r)) (reps h n)
  have h2 := reps_len h n
  unfold opens; omega
theorem GF.start {n : Nat} {ws : Wl} (W : WsOk n ws) : GF n ws 0 Mw.start := by
  have hr := reps_len Mw.start.h n
  refine ⟨GM.start W, ?_, by omega, List.nodup_nil, Nat.zero_le _, by show 0 + _ ≤ n; omega⟩
  refine List.find?_eq_none.mpr fun c hc => ?_
  have h3 := (W.ok c (List.mem_range.mp hc)).2.2.1
  have : lack ws Mw.start c = ((way ws c).2.2 : Int) * 4096 - (0 + 0) := rfl
  unfold full
  rw [decide_eq_false (show ¬ lack ws Mw.start c ≤ 0 by omega), Bool.and_false]; exact Bool.false_ne_true
theorem GF.turn {n t : Nat} {ws : Wl} {ps : List Pr} {S : Gs} (W : WsOk n ws) (J : ∀ q ∈ ps, Cn (wedges ws) q.1 q.2) (G : GF n ws t S) (hR : opens n ps S.h ≠ []) : t < 12 ∧ GF n ws (t + 1) (turn n ws ps S) := by
  obtain ⟨t12, g1, g2, g3⟩ := G.g.turn W J G.c G.f hR
  obtain ⟨_, _, _, _, gg, _⟩ := G.g.grow W J t12 G.f hR
  have e := takeAll_time ws n (grow n S (opens n ps S.h) (span ws S (opens n ps S.h)))
  have f := fold_nd (n := n) (h := S.h) (s := span ws S (opens n ps S.h)) (opens n ps S.h) G.nd
  have ol := opens_len n ps S.h
  have n12 := W.n12
  have wl := G.wl
  have tk := G.tk
  have tc := takeAll_cnt W n gg
  refine ⟨t12, g1, g2, g3, ?_, ?_, Nat.le_trans tc tk⟩
  · unfold Mw.turn; rw [e.2.2]; exact f.1
  · unfold Mw.turn; rw [e.2.2]
    have := f.2
    show (List.foldl (fun w r => addW w (cls S.h n r) (span ws S (opens n ps S.h))) S.wid (opens n ps S.h)).length ≤ _
    omega
def SeenL (K : PySem.W.Frag) (H : Hp) (n : Nat) (ps : List Pr) : List Rw → List V → Prop
  | [], vs => vs = []
  | (t, h) :: r, vs => ∃ a tv gv rv us, vs = .ref a :: us ∧ H a = some (.tup [tv, gv, rv]) ∧ FrV K H t tv ∧ RisV K H n h (reps h n) gv ∧ RisV K H n h (opens n ps h) rv ∧ SeenL K H n ps r us
theorem RisV.t {K : PySem.W.Frag} {H H' : Hp} {n : Nat} {h : Nat → Nat} {R : List Nat} {v : V} (r : RisV K H n h R v) (t : Tp K H H') : RisV K H' n h R v := by
  obtain ⟨⟨a, vs, e1, e2, e3, e4⟩, ok⟩ := r
  exact ⟨⟨a, vs, e1, t.tup _ _ e2, e3, fun i q hq => by obtain ⟨u, q1, q2⟩ := e4 i q hq; exact ⟨u, q1, t.tup _ _ q2⟩⟩, ok⟩
theorem SeenL.t {K : PySem.W.Frag} {H H' : Hp} {n : Nat} {ps : List Pr} (t : Tp K H H') : ∀ {l : List Rw} {vs : List V}, SeenL K H n ps l vs → SeenL K H' n ps l vs
  | [], vs, h => h
  | (s, g) :: r, vs, ⟨a, tv, gv, rv, us, e, h1, h2, h3, h4, h5⟩ => ⟨a, tv, gv, rv, us, e, t.tup _ _ h1, t.fr h2, h3.t t, h4.t t, SeenL.t t h5⟩
theorem SeenL.snoc {K : PySem.W.Frag} {H : Hp} {n : Nat} {ps : List Pr} {t : Int} {h : Nat → Nat} {a : Addr} {tv gv rv : V} (ha : H a = some (.tup [tv, gv, rv])) (h1 : FrV K H t tv) (h2 : RisV K H n h (reps h n) gv) (h3 : RisV K H n h (opens n ps h) rv) :
    ∀ {l : List Rw} {vs : List V}, SeenL K H n ps l vs → SeenL K H n ps (l ++ [(t, h)]) (vs ++ [.ref a])
  | [], vs, q => by rw [show vs = [] from q]; exact ⟨a, tv, gv, rv, [], rfl, ha, h1, h2, h3, rfl⟩
  | (s, g) :: r, vs, ⟨b, sv, g2, r2, us, e, k1, k2, k3, k4, k5⟩ => by rw [e]; exact ⟨b, sv, g2, r2, us ++ [.ref a], rfl, k1, k2, k3, k4, SeenL.snoc ha h1 h2 h3 k5⟩
theorem SeenL.len {K : PySem.W.Frag} {H : Hp} {n : Nat} {ps : List Pr} : ∀ {l : List Rw} {vs : List V}, SeenL K H n ps l vs → vs.length = l.length
  | [], vs, h => by rw [show vs = [] from h] <;> rfl
  | (s, g) :: r, vs, ⟨a, tv, gv, rv, us, e, h1, h2, h3, h4, h5⟩ => by rw [e, List.length_cons, List.length_cons, SeenL.len h5]
theorem FrV.t {K : PySem.W.Frag} {H H' : Hp} {u : Int} {v : V} (h : FrV K H u v) (t : Tp K H H') : FrV K H' u v := t.fr h
theorem _root_.GE.Ext.drop {T : List Addr} {M : Addr → Prop} {H1 H2 H' : Hp} (a : Ext T noM H1 H2) (b : Ext T M H2 H') (hM : ∀ b, M b → H1 b = none) : Ext T noM H1 H' :=
  ⟨fun x o _ e n => b.kp x o (fun m => by rw [hM x m] at e; cases e) (a.kp x o (fun z => z) e n) n, fun P hP h => b.tb P hP (a.tb P hP h), fun x h => a.fr x (b.fr x h)⟩
def spGrown (K : PySem.W.Frag) (T : List Addr) (aC : Addr) : Sp := fun vs H Q _ => ∃ (net pz : V) (n : Nat) (ws : Wl) (ps : List Pr), vs = [net, pz] ∧ Wf n ws ∧ Rp H (netD n ws) net ∧ Rp H (pairsD ps) pz ∧ PsOk n ps ∧ (∀ q ∈ ps, Cn (wedges ws) q.1 q.2) ∧ Wd T H ∧
  ∀ r f ls vs H', H' r = some (.tup [.ref f.p, .ref ls]) → FieldAt K aC H' f n ws (allGro n ws ps).1 → H' ls = some (.lst vs) → SeenL K H' n ps (allGro n ws ps).2 vs → Ext T noM H H' → Q (.ref r) H'
section
variable {P : Program} {w : World} {K : PySem.W.Frag} {mg : Str → Option Value} {base : Heap} {T : List Addr} {aC : Addr}
theorem ok__grown {f : Addr} {fd : FuncData} (F : Fun K "_grown" "_grown" s_grown f fd) {fcheck_joined : Addr} {fdcheck_joined : FuncData} (Fcheck_joined : Fun K "check_joined" "check_joined" scheck_joined fcheck_joined fdcheck_joined) (Gcheck_joined : FnOk P w K mg base CX0 7 fcheck_joined fdcheck_joined ["net", "pairs"] (spCheck T)) (bcheck_joined : Binds K fdcheck_joined ["net", "pairs"] []) (gcheck_joined : mg "check_joined" = some (.ref fcheck_joined)) {fField___init__ : Addr} {fdField___init__ : FuncData} (FField___init__ : Fun K "__init__" "Field.__init__" sField___init__ fField___init__ fdField___init__) (GField___init__ : FnOk P w K mg base CX0 6 fField___init__ fdField___init__ ["self", "net"] (spInit K T aC)) (bField___init__ : Binds K fdField___init__ ["self", "net"] []) (MField : Mk K aC fField___init__) {fField_take_full_ways : Addr} {fdField_take_full_ways : FuncData} (FField_take_full_ways : Fun K "take_full_ways" "Field.take_full_ways" sField_take_full_ways fField_take_full_ways fdField_take_full_ways) (GField_take_full_ways : FnOk P w K mg base CX0 7 fField_take_full_ways fdField_take_full_ways ["self"] (spFull K T aC)) (bField_take_full_ways : Binds K fdField_take_full_ways ["self"] []) (mmField_take_full_ways : Meth K aC "take_full_ways" fField_take_full_ways) {f_open_groups : Addr} {fd_open_groups : FuncData} (F_open_groups : Fun K "_open_groups" "_open_groups" s_open_groups f_open_groups fd_open_groups) (G_open_groups : FnOk P w K mg base CX0 7 f_open_groups fd_open_groups ["field", "pairs"] (spOpen K T aC)) (b_open_groups : Binds K fd_open_groups ["field", "pairs"] []) (g_open_groups : mg "_open_groups" = some (.ref f_open_groups)) {fField_grow : Addr} {fdField_grow : FuncData} (FField_grow : Fun K "grow" "Field.grow" sField_grow fField_grow fdField_grow) (GField_grow : FnOk P w K mg base CX0 7 fField_grow fdField_grow ["self", "rising", "span"] (spGrow K T aC)) (bField_grow : Binds K fdField_grow ["self", "rising", "span"] []) (mmField_grow : Meth K aC "grow" fField_grow) {fField_groups_now : Addr} {fdField_groups_now : FuncData} (FField_groups_now : Fun K "groups_now" "Field.groups_now" sField_groups_now fField_groups_now fdField_groups_now) (GField_groups_now : FnOk P w K mg base CX0 7 fField_groups_now fdField_groups_now ["self"] (spNow K T aC)) (bField_groups_now : Binds K fdField_groups_now ["self"] []) (mmField_groups_now : Meth K aC "groups_now" fField_groups_now) {fField_span_until_full : Addr} {fdField_span_until_full : FuncData} (FField_span_until_full : Fun K "span_until_full" "Field.span_until_full" sField_span_until_full fField_span_until_full fdField_span_until_full) (GField_span_until_full : FnOk P w K mg base CX0 7 fField_span_until_full fdField_span_until_full ["self", "rising"] (spSpan K T aC)) (bField_span_until_full : Binds K fdField_span_until_full ["self", "rising"] []) (mmField_span_until_full : Meth K aC "span_until_full" fField_span_until_full) (gField : mg "Field" = some (.ref aC)) (fx : FTx K aC) : FnOk P w K mg base CX0 8 f fd ["net", "pairs"] (spGrown K T aC) := by
  refine F.ok sc_grown (fun vs H Q E h => ?_) (fun cdv A outer s H vs Q E hr h => ?_)
  · obtain ⟨net, pz, n, ws, ps, rfl, W, hnet, hps, ok, J, wd, k⟩ := h
    rfl
  · obtain ⟨net, pz, n, ws, ps, rfl, W, hnet, hps, ok, J, wd, k⟩ := h
    refine ⟨_, (pss_cons (ps_expr (pe_call Gcheck_joined hr (by rfl) gcheck_joined Fcheck_joined.kp bcheck_joined .nil pass0 (pa_cons (pv 0) (pa_cons (pv 1) pa_nil))))
      (pss_cons (ps_set (i := 2) sc_grown.nd rfl (Or.inl rfl) (pe_make MField GField___init__ hr (by rfl) gField bField___init__ .nil pass0 (pa_cons (pv 0) pa_nil)))
      (pss_cons (ps_expr (pe_meth0 (pv 2) fx.cl mmField_take_full_ways GField_take_full_ways hr bField_take_full_ways .nil pass0))
      (pss_cons (ps_set (i := 3) sc_grown.nd rfl (Or.inl rfl) (pe_call G_open_groups hr (by rfl) g_open_groups F_open_groups.kp b_open_groups .nil pass0 (pa_cons (pv 2) (pa_cons (pv 1) pa_nil))))
      (pss_cons (ps_set (i := 4) sc_grown.nd rfl (Or.inl rfl) (pe_lst (pa_cons (pe_tup (pa_cons (pe_fld (pv 2) rfl) (pa_cons (pe_meth0 (pv 2) fx.cl mmField_groups_now GField_groups_now hr bField_groups_now .nil pass0) (pa_cons (pv 3) pa_nil)))) pa_nil)))
      (pss_cons (ps_while PassesOwn.never (pt_truth (pv 3) (by intro _; rfl)) (pss_cons (ps_expr (pe_meth (pv 2) fx.cl mmField_grow GField_grow hr bField_grow .nil pass0 (pa_cons (pv 3) (pa_cons (pe_meth (pv 2) fx.cl mmField_span_until_full GField_span_until_full hr bField_span_until_full .nil pass0 (pa_cons (pv 3) pa_nil)) pa_nil))))
      (pss_cons (ps_expr (pe_meth0 (pv 2) fx.cl mmField_take_full_ways GField_take_full_ways hr bField_take_full_ways .nil pass0))
      (pss_cons (ps_set (i := 3) sc_grown.nd rfl (Or.inl rfl) (pe_call G_open_groups hr (by rfl) g_open_groups F_open_groups.kp b_open_groups .nil pass0 (pa_cons (pv 2) (pa_cons (pv 1) pa_nil))))
      (pss_one (ps_expr (pe_bm PySem.F.plainAttrs_list PySem.F.slot_list_append PySem.F.type_list_append mt_append (pv 4) (pa_cons (pe_tup (pa_cons (pe_fld (pv 2) rfl) (pa_cons (pe_meth0 (pv 2) fx.cl mmField_groups_now GField_groups_now hr bField_groups_now .nil pass0) (pa_cons (pv 3) pa_nil)))) pa_nil))))))))
      (pss_one (ps_ret (pe_tup (pa_cons (pv 2) (pa_cons (pv 4) pa_nil))))))))))), ?_⟩
    have Wo := wf_ok W
    have n12 := W.n12
    have G0 := GF.start (n := n) (ws := ws) Wo
    refine ⟨_, rfl, _, rfl, net, pz, n, ws, ps, rfl, W, hnet, hps, ok, J, fun H1 e1 => ?_⟩
    refine ⟨_, rfl, fun x dx nx ndx nex => ?_⟩
    have nxd : (upd H1 dx (.own x)) x = none := by rw [upd_ne (by first | exact nex | exact fun z => nex z.symm)]; exact nx
    have e2 : Ext T noM H1 (upd (upd H1 dx (.own x)) x (.ins aC dx [])) := (Ext.new ndx).trans (Ext.new nxd)
    refine ⟨x, dx, net, n, ws, rfl, upd_same, Rp.x (e1.trans e2) hnet, n12, fun f H2 fp F2 hfresh e3 => ⟨rfl, ?_⟩⟩
    subst fp
    have hM : ∀ b, Fm f b → H1 b = none := fun b hb => by
      rcases hfresh b hb with z | z
      · rw [z]; exact nx
      · exact e2.fr b z
    have d2 : Ext T noM H1 H2 := e2.drop e3 fun b hb => by rw [hb]; exact nx
    have ew := fun {H' : Hp} (e : Ext T noM H1 H') => wd.ext (e1.trans e)
    obtain ⟨dx2, tv2, hob2, _⟩ := F2.ob
    refine ⟨_, rfl, f.p, dx2, _, rfl, hob2, by rfl, f, n, 0, ws, start, rfl, F2, Wo, G0.g, Nat.zero_le _, G0.tk, fun _ _ H3 _ _ _ _ F3 e4 => ?_⟩
    rw [takeAll_stop G0.f] at F3
    have d3 : Ext T noM H1 H3 := d2.drop e4 hM
    obtain ⟨dx3, tv3, hob3, htv3⟩ := F3.ob
    refine ⟨_, rfl, _, rfl, f, n, 0, ws, start, pz, ps, rfl, F3, G0.g, n12, Rp.x (e1.trans d3) hps, ok, ew d3, fun rv H4 RV e5 => ?_⟩
    have F4 := F3.x e5
    have d4 := d3.trans e5
    obtain ⟨dx4, tv4, hob4, htv4⟩ := F4.ob
    refine ⟨_, rfl, f.p, aC, dx4, _, _, rfl, hob4, fx.cl, fx.n_time, ff_time _ _, ?_⟩
    refine ⟨_, rfl, f.p, dx4, _, rfl, hob4, by rfl, f, n, 0, ws, start, rfl, F4, G0.g, n12, ew d4, fun gv H5 GV e6 => ?_⟩
    refine ⟨_, rfl, by show 3 ≤ sizeLine; decide, fun t5 ht5 => ?_⟩
    refine ⟨by show 1 ≤ sizeLine; decide, fun ls hls => ?_⟩
    have e7 : Ext T noM H5 (upd H5 t5 (.tup [tv4, gv, rv])) := Ext.new ht5
    have ht7 : (upd H5 t5 (.tup [tv4, gv, rv])) t5 = some (.tup [tv4, gv, rv]) := upd_same
    generalize (upd H5 t5 (.tup [tv4, gv, rv])) = H6 at e7 ht7 hls ⊢
    have e8 : Ext T noM H6 (upd H6 ls (.lst [.ref t5])) := Ext.new hls
    have e48 := (e6.trans e7).trans e8
    have F8 := F4.x e48
    have hl8 : (upd H6 ls (.lst [.ref t5])) ls = some (.lst [.ref t5]) := upd_same
    have S8 : SeenL K (upd H6 ls (.lst [.ref t5])) n ps [(0, start.h)] [.ref t5] := ⟨t5, tv4, gv, rv, [], rfl, e8.tup (fun z => z) ht7, htv4.x e48, GV.x (e7.trans e8), RV.x e48, rfl⟩
    have R8 := RV.x e48
    have d8 := d4.trans e48
    have lsM : ¬ Fm f ls := fun m => by
      obtain ⟨o, q, _⟩ := (F4.x (e6.trans e7)).not ls m
      rw [hls] at q; cases q
    have l1 : H1 ls = none := (d4.trans (e6.trans e7)).fr ls hls
    generalize (upd H6 ls (.lst [.ref t5])) = H8 at F8 hl8 S8 R8 d8 ⊢
    refine ⟨fun m σ' H' => ∃ t S L rv vs, σ' = [some net, some pz, some (.ref f.p), some rv, some (.ref ls)] ∧ GF n ws t S ∧ FieldAt K aC H' f n ws S ∧ RisV K H' n S.h (opens n ps S.h) rv ∧ H' ls = some (.lst vs) ∧ SeenL K H' n ps L vs ∧ Ext T noM H1 H' ∧ m + t = n ∧ gro n ws ps m S L = allGro n ws ps ∧ L.length ≤ t + 1,
      ⟨n, 0, start, [(0, start.h)], rv, [.ref t5], rfl, G0, F8, R8, hl8, S8, d8, Nat.add_zero n, rfl, Nat.le_refl _⟩, ?_⟩
    rintro m σ' H9 ⟨t, S, L, rv, vs, rfl, G, F, R, hl, SL, d9, hmt, heq, hLl⟩
    obtain ⟨ra, rvs, rfl, hra, hrl, hrx⟩ := id R.at_
    refine ⟨_, rfl, !rvs.isEmpty, .inr (.inl ⟨rvs, SqT.of hra, rfl⟩), ?_⟩
    refine ite2 (fun q => ?_) (fun q => ?_)
    · have hne : opens n ps S.h ≠ [] := fun z => by
        rw [z] at hrl
        rw [List.eq_nil_of_length_eq_zero hrl] at q; cases q
      obtain ⟨t12, GT⟩ := G.turn Wo J hne
      obtain ⟨s0, s1, _, hle, gg, _⟩ := G.g.grow Wo J t12 G.f hne
      obtain ⟨m', rfl⟩ : ∃ m', m = m' + 1 := by
        have := GT.c
        exact ⟨m - 1, by omega⟩
      have ol := opens_len n ps S.h
      have wl := G.wl
      refine ⟨fun σ' H' => ∃ t S L rv vs, σ' = [some net, some pz, some (.ref f.p), some rv, some (.ref ls)] ∧ GF n ws t S ∧ FieldAt K aC H' f n ws S ∧ RisV K H' n S.h (opens n ps S.h) rv ∧ H' ls = some (.lst vs) ∧ SeenL K H' n ps L vs ∧ Ext T noM H1 H' ∧ m' + t = n ∧ gro n ws ps m' S L = allGro n ws ps ∧ L.length ≤ t + 1, fun σ' H' z => ⟨m', Nat.lt_succ_self _, z⟩, ?_⟩
      obtain ⟨dx9, tv9, hob9, _⟩ := F.ob
      refine ⟨_, rfl, f.p, dx9, _, rfl, hob9, by rfl, _, rfl, _, rfl, f.p, dx9, _, rfl, hob9, by rfl, _, rfl, f, n, t, ws, S, opens n ps S.h, .ref ra, rfl, F, Wo, G.g, W.ln, t12, R, fun sv HA hsv eA => ?_⟩
      rw [hle] at hsv
      have FA := F.x eA
      refine ⟨f, n, t, ws, S, opens n ps S.h, .ref ra, sv, _, rfl, FA, G.g, n12, t12, R.x eA, opens_nodup _ _ _, by omega, hsv, s0, s1, G.nd, by omega, fun HB FB eB => ?_⟩
      have dB := (d9.trans eA).drop eB hM
      have tpB : Tp K H9 HB := (Tp.of eA).trans (Tp.ofF FA eB)
      obtain ⟨dxB, tvB, hobB, _⟩ := FB.ob
      refine ⟨_, rfl, f.p, dxB, _, rfl, hobB, by rfl, f, n, t + 1, ws, _, rfl, FB, Wo, gg, t12, G.tk, fun _ _ HC _ _ _ _ FC eC => ?_⟩
      have FC : FieldAt K aC HC f n ws (turn n ws ps S) := FC
      have dC := dB.drop eC hM
      have tpC := tpB.trans (Tp.ofF FB eC)
      have hlC : HC ls = some (.lst vs) := eC.lst lsM (eB.lst lsM (eA.lst (fun z => z) hl))
      refine ⟨_, rfl, _, rfl, f, n, t + 1, ws, turn n ws ps S, pz, ps, rfl, FC, GT.g, n12, Rp.x (e1.trans dC) hps, ok, ew dC, fun rvD HD RD eD => ?_⟩
      have FD := FC.x eD
      have dD := dC.trans eD
      have hlD := eD.lst (fun z => z) hlC
      obtain ⟨dxD, tvD, hobD, htvD⟩ := FD.ob
      refine ⟨_, rfl, .inl ⟨rfl, _, SqL.of hlD⟩, ?_⟩
      refine ⟨_, rfl, f.p, aC, dxD, _, _, rfl, hobD, fx.cl, fx.n_time, ff_time _ _, ?_⟩
      refine ⟨_, rfl, f.p, dxD, _, rfl, hobD, by rfl, f, n, t + 1, ws, turn n ws ps S, rfl, FD, GT.g, n12, ew dD, fun gvE HE GE eE => ?_⟩
      refine ⟨_, rfl, by show 3 ≤ sizeLine; decide, fun tF htF => ?_⟩
      have eF : Ext T noM HE (upd HE tF (.tup [tvD, gvE, rvD])) := Ext.new htF
      have hF : (upd HE tF (.tup [tvD, gvE, rvD])) tF = some (.tup [tvD, gvE, rvD]) := upd_same
      generalize (upd HE tF (.tup [tvD, gvE, rvD])) = HF at eF hF ⊢
      have eDF := eE.trans eF
      have hlF := eDF.lst (fun z => z) hlD
      have slen := SL.len
      refine ⟨ls, vs, _, rfl, rfl, hlF, small1000 (by omega), ?_⟩
      have tpF : Tp K H9 HF := tpC.trans (Tp.of (eD.trans eDF))
      have tpG : Tp K HF (upd HF ls (.lst (vs ++ [.ref tF]))) := Tp.mut hlF (fun xs z => nomatch z) (fun o xs z => nomatch z)
      have FF := FD.x eDF
      have eG : Ext T (fun b => b = ls) HF (upd HF ls (.lst (vs ++ [.ref tF]))) := (Ext.refl T _ _).mut (.inr rfl) hlF ltbl
      refine ⟨t + 1, turn n ws ps S, L ++ [((turn n ws ps S).time, (turn n ws ps S).h)], rvD, vs ++ [.ref tF], rfl, GT, FF.o lsM hlF, (RD.x eDF).t tpG, upd_same, ?_, (dD.trans eDF).drop eG (fun b hb => by rw [hb]; exact l1), by omega, ?_, by rw [List.length_append, List.length_singleton]; omega⟩
      · exact SeenL.snoc (tpG.tup _ _ hF) ((htvD.x eDF).t tpG) ((GE.x eF).t tpG) ((RD.x eDF).t tpG) (SL.t (tpF.trans tpG))
      · rw [← heq]
        show _ = (if opens n ps S.h = [] then (S, L) else gro n ws ps m' (turn n ws ps S) (L ++ [((turn n ws ps S).time, (turn n ws ps S).h)]))
        rw [if_neg hne]
    · have hno : opens n ps S.h = [] := by
        have hz : rvs = [] := by
          cases rvs with
          | nil => rfl
          | cons a b => exact absurd rfl q
        rw [hz] at hrl
        exact List.eq_nil_of_length_eq_zero hrl.symm
      rw [gro_stop hno] at heq
      refine ⟨_, rfl, _, rfl, by show 2 ≤ sizeLine; decide, fun r hr => ?_⟩
      have er : Ext T noM H9 (upd H9 r (.tup [.ref f.p, .ref ls])) := Ext.new hr
      refine k r f ls vs _ upd_same ?_ (er.lst (fun z => z) hl) ?_ (e1.trans (d9.trans er))
      · rw [← heq]; exact F.x er
      · rw [← heq]; exact SL.t (Tp.of er)
end
end Mw

set_option Elab.async false
set_option linter.all false
set_option maxRecDepth 100000
set_option maxHeartbeats 4000000
namespace Mw
open PySem PySem.Spec PyProof.Rows L2 GE
def spGrowth (K : PySem.W.Frag) (T : List Addr) (aC : Addr) : Sp := fun vs H Q _ => ∃ (net pz : V) (n : Nat) (ws : Wl) (ps : List Pr), vs = [net, pz] ∧ Wf n ws ∧ Rp H (netD n ws) net ∧ Rp H (pairsD ps) pz ∧ PsOk n ps ∧ (∀ q ∈ ps, Cn (wedges ws) q.1 q.2) ∧ Wd T H ∧
  ∀ a vs H', H' a = some (.tup vs) → TkL K H' (allGro n ws ps).1.taken vs → Ext T noM H H' → Q (.ref a) H'
section
variable {P : Program} {w : World} {K : PySem.W.Frag} {mg : Str → Option Value} {base : Heap} {T : List Addr} {aC : Addr}
theorem ok_growth {f : Addr} {fd : FuncData} (F : Fun K "growth" "growth" sgrowth f fd) (m_tuple : mg "tuple" = none) {f_grown : Addr} {fd_grown : FuncData} (F_grown : Fun K "_grown" "_grown" s_grown f_grown fd_grown) (G_grown : FnOk P w K mg base CX0 8 f_grown fd_grown ["net", "pairs"] (spGrown K T aC)) (b_grown : Binds K fd_grown ["net", "pairs"] []) (g_grown : mg "_grown" = some (.ref f_grown)) (fx : FTx K aC) : FnOk P w K mg base CX0 9 f fd ["net", "pairs"] (spGrowth K T aC) := by
  refine F.ok scgrowth (fun vs H Q E h => ?_) (fun cdv A outer s H vs Q E hr h => ?_)
  · obtain ⟨net, pz, n, ws, ps, rfl, W, hnet, hps, ok, J, wd, k⟩ := h
    rfl
  · obtain ⟨net, pz, n, ws, ps, rfl, W, hnet, hps, ok, J, wd, k⟩ := h
    refine ⟨_, (pss_cons (ps_asg (pe_call G_grown hr (by rfl) g_grown F_grown.kp b_grown .nil pass0 (pa_cons (pv 0) (pa_cons (pv 1) pa_nil))) (pg_tup (by rfl) (pgs_cons (pg_name (i := 2) scgrowth.nd rfl (Or.inl rfl)) (pgs_cons (pg_name (i := 3) scgrowth.nd rfl (Or.inl rfl)) pgs_nil))))
      (pss_one (ps_ret (pe_callTy call_tuple_of (by rfl) m_tuple (by decide +kernel) (pa_cons (pe_fld (pv 2) rfl) pa_nil))))), ?_⟩
    refine ⟨_, rfl, _, rfl, net, pz, n, ws, ps, rfl, W, hnet, hps, ok, J, wd, fun r f ls vs H1 hr F _ _ e1 => ?_⟩
    obtain ⟨dx, tv, hob, _⟩ := F.ob
    obtain ⟨vt, hlt, htk⟩ := F.tk
    refine ⟨r, _, rfl, SqT.of hr, rfl, _, _, rfl, _, _, rfl, rfl, ?_⟩
    refine ⟨_, rfl, f.p, aC, dx, _, _, rfl, hob, fx.cl, fx.n_taken, ff_taken _ _, f.lt, vt, rfl, .inl ⟨SqL.of hlt, fun a ha => ?_⟩⟩
    have e2 : Ext T noM H1 (upd H1 a (.tup vt)) := Ext.new ha
    exact k a vt _ upd_same ((Tp.of e2).tk htk) (e1.trans e2)
end
end Mw

set_option Elab.async false
set_option linter.all false
set_option maxRecDepth 100000
set_option maxHeartbeats 4000000
namespace Mw
open PySem PySem.Spec PyProof.Rows L2 GE
/-! ### the law's own fractions -/
theorem half_mod {a b : Nat} (h0 : 0 < b) (h : b < a) : 2 * (a % b) < a := by
  have h1 := Nat.mod_lt a h0
  have h2 := Nat.mod_add_div a b
  have h3 : 1 ≤ a / b := Nat.div_pos (Nat.le_of_lt h) h0
  have h4 : b * 1 ≤ b * (a / b) := Nat.mul_le_mul_left b h3
  omega
def spGcd : Sp := fun vs H Q _ => ∃ (a b : Nat), vs = [.int (a : Nat), .int (b : Nat)] ∧ b < 2 ^ 50 ∧ ∀ H', (∀ T, Ext T noM H H') → Q (.int (Nat.gcd a b : Nat)) H'
def spLRatio (K : PySem.W.Frag) (T : List Addr) : Sp := fun vs H Q _ => ∃ (t b u : Int), vs = [.int t, .int b] ∧ 0 < b ∧ b < 2 ^ 50 ∧ t * 4096 = u * b ∧ ∀ v H', FrV K H' u v → Ext T noM H H' → Q v H'
def spExact (K : PySem.W.Frag) (T : List Addr) : Sp := fun vs H Q _ => ∃ (u : Int), vs = [.int (u * 268435456)] ∧ ∀ v H', FrV K H' u v → Ext T noM H H' → Q v H'
theorem pow_half {i : Nat} (hi : i < 50) : (2 : Nat) ^ (50 - i) = 2 * 2 ^ (50 - (i + 1)) := by
  rw [show 50 - i = (50 - (i + 1)) + 1 by omega, Nat.pow_succ, Nat.mul_comm]
section
variable {P : Program} {w : World} {K : PySem.W.Frag} {mg : Str → Option Value} {base : Heap} {T : List Addr} {aC : Addr}
end
end Mw

set_option Elab.async false
set_option linter.all false
set_option maxRecDepth 100000
set_option maxHeartbeats 4000000
namespace Mw
open PySem PySem.Spec PyProof.Rows L2 GE
def jn1 (ws : List Wy) (cs : List Nat) (p : Pr) : Bool := decide (hom ws cs p.1 = hom ws cs p.2)
def jn (ws : List Wy) (cs : List Nat) (ps : List Pr) : Bool := ps.all (jn1 ws cs)
theorem all_take {α : Type} {f : α → Bool} {l : List α} {i : Nat} {x : α} (hx : l[i]? = some x) (hb : (l.take i).all f = true) (h : f x = true) : (l.take (i + 1)).all f = true := by
  rw [take_succ' hx, List.all_append, hb]; simp [h]
theorem all_no {α : Type} {f : α → Bool} {l : List α} {i : Nat} {x : α} (hx : l[i]? = some x) (h : f x = false) : l.all f = false :=
  List.all_eq_false.mpr ⟨x, List.mem_of_getElem? hx, by rw [h]; exact Bool.false_ne_true⟩
theorem nats_at {cs : List Nat} {j : Nat} {x : V} (hx : (cs.map fun (c : Nat) => V.int (c : Int))[j]? = some x) : ∃ c, cs[j]? = some c ∧ x = V.int ((c : Nat) : Int) := by
  rw [List.getElem?_map] at hx
  cases e : cs[j]? with
  | none => rw [e] at hx; cases hx
  | some c => rw [e] at hx; exact ⟨c, rfl, (Option.some.inj hx).symm⟩
/-! ### a group, grown -/
structure Gr (n : Nat) (es : List (Nat × Nat)) (p : Nat) (f : List Nat) : Prop where
  mem : p ∈ f
  nd : f.Nodup
  ok : ∀ x ∈ f, x < n ∧ Cn es p x
theorem Gr.snoc {n : Nat} {es : List (Nat × Nat)} {p y : Nat} {f : List Nat} (g : Gr n es p f) (hy : y ∉ f) (hn : y < n) (hc : Cn es p y) : Gr n es p (f ++ [y]) :=
  ⟨List.mem_append_left _ g.mem, by rw [List.nodup_append]; exact ⟨g.nd, nd1 _, fun a ha b hb z => hy (by rw [← List.mem_singleton.mp hb, ← z]; exact ha)⟩,
   fun x hx => by rcases List.mem_append.mp hx with h | h
                  · exact g.ok x h
                  · rw [List.mem_singleton.mp h]; exact ⟨hn, hc⟩⟩
theorem Gr.len {n : Nat} {es : List (Nat × Nat)} {p : Nat} {f : List Nat} (g : Gr n es p f) : f.length ≤ n := nodup_le g.nd fun x hx => (g.ok x hx).1
def Clo (ws : List Wy) (cs : List Nat) (f : List Nat) : Prop := ∀ c ∈ cs, ((wyAt ws c).1 ∈ f ↔ (wyAt ws c).2.1 ∈ f)
/-- a choice in a tuple or a list -/
def ChV (H : Hp) (cs : List Nat) (v : V) : Prop := ∃ a, v = .ref a ∧ (H a = some (.tup (natsV cs)) ∨ H a = some (.lst (natsV cs)))
theorem ChV.x {T : List Addr} {H H' : Hp} {cs : List Nat} {v : V} (h : ChV H cs v) (e : Ext T noM H H') : ChV H' cs v := by
  obtain ⟨a, rfl, h | h⟩ := h
  · exact ⟨a, rfl, .inl (e.tup (fun z => z) h)⟩
  · exact ⟨a, rfl, .inr (e.lst (fun z => z) h)⟩
structure TaskL (H : Hp) (n : Nat) (ws : List Wy) (cs : List Nat) (net ch : V) : Prop where
  W : Wf n ws
  lt : ∀ c ∈ cs, c < ws.length
  ln : cs.length ≤ 24
  net : Rp H (netD n ws) net
  ch : ChV H cs ch
theorem TaskL.x {T : List Addr} {H H' : Hp} {n : Nat} {ws : List Wy} {cs : List Nat} {net ch : V} (t : TaskL H n ws cs net ch) (e : Ext T noM H H') : TaskL H' n ws cs net ch := ⟨t.W, t.lt, t.ln, Rp.x e t.net, t.ch.x e⟩
theorem Task.l {H : Hp} {n : Nat} {ws : List Wy} {cs : List Nat} {net ch : V} (t : Task H n ws cs net ch) : TaskL H n ws cs net ch :=
  ⟨t.W, t.C.lt, Nat.le_trans t.C.len t.W.ln, t.net, by obtain ⟨a, rfl, h⟩ := ch_at t.ch; exact ⟨a, rfl, .inl h⟩⟩
def prP (p : Pr) : PyData := .tuple [.int (p.1 : Nat), .int (p.2 : Nat)]
theorem prP_shaped (p : Pr) : SeqAt.shaped (prP p) = true := by
  unfold SeqAt.shaped prP; simp [PyData.canLay0, PyData.canLayAll0, PyData.depth, PyData.depthAll]
theorem prP_all : ∀ ps : List Pr, PyData.canLayAll0 (ps.map prP) = true ∧ PyData.depthAll (ps.map prP) ≤ 1
  | [] => ⟨rfl, Nat.zero_le _⟩
  | p :: r => by
    obtain ⟨h1, h2⟩ := prP_all r
    simp only [List.map_cons, PyData.canLayAll0, PyData.depthAll, h1, Bool.and_true]
    exact ⟨by simp [prP, PyData.canLay0, PyData.canLayAll0], by simp [prP, PyData.depth, PyData.depthAll]; omega⟩
theorem prPs_shaped (ps : List Pr) : SeqAt.shaped (.list (ps.map prP)) = true := by
  obtain ⟨h1, h2⟩ := prP_all ps
  show (PyData.canLayAll0 (ps.map prP) && decide (PyData.depthAll (ps.map prP) + 1 ≤ 64)) = true
  rw [h1, Bool.true_and, decide_eq_true_eq]
  omega
theorem dp_pair {K : PySem.W.Frag} {H : Hp} {p : Pr} {v : V} (h : Rp H (pairD p) v) : Dp K H v (prP p) := by
  obtain ⟨a, rfl, ha⟩ := pair_at h
  exact .tup (SqT.of ha) (.cons (.int _) (.cons (.int _) .nil))
theorem dp_pairs {K : PySem.W.Frag} {H : Hp} : ∀ {ps : List Pr} {vs : List V}, RpL H (ps.map pairD) vs → DpAll K H vs (ps.map prP)
  | [], vs, h => by rw [h.nil]; exact .nil
  | p :: r, vs, h => by
    obtain ⟨v, u, rfl, h1, h2⟩ := h.cons
    exact .cons (dp_pair h1) (dp_pairs h2)
def spLGroup (T : List Addr) : Sp := fun vs H Q _ => ∃ (net ch : V) (n : Nat) (ws : List Wy) (cs : List Nat) (p : Nat), vs = [net, ch, .int (p : Nat)] ∧ TaskL H n ws cs net ch ∧ p < n ∧ ∀ a H', H' a = some (.tup (natsV (cls (hom ws cs) n p))) → Ext T noM H H' → Q (.ref a) H'
def spLPairs (T : List Addr) : Sp := fun vs H Q _ => ∃ (p s : Addr) (n : Nat) (most : Int), vs = [.ref p, .int (n : Nat), .int most] ∧ PoolAt H p s ∧ 1 ≤ n ∧ n ≤ 12 ∧ 0 ≤ most ∧ most ≤ 6 ∧ ∀ v ps H', PsOk n ps → Rp H' (pairsD ps) v → PoolAt H' p s → Ext T (atP p) H H' → Q v H'
def spLJoins (T : List Addr) : Sp := fun vs H Q _ => ∃ (net pz ch : V) (n : Nat) (ws : List Wy) (cs : List Nat) (ps : List Pr), vs = [net, pz, ch] ∧ TaskL H n ws cs net ch ∧ Rp H (pairsD ps) pz ∧ PsOk n ps ∧ ∀ H', Ext T noM H H' → Q (.bl (jn ws cs ps)) H'
/-- what is known of the list while it grows, in one turn -/
structure Grow (T : List Addr) (H H' : Hp) (l n : Nat) (ws : List Wy) (cs : List Nat) (p j : Nat) (f0 f : List Nat) : Prop where
  g : Gr n (edg ws cs) p f
  hl : H' l = some (.lst (natsV f))
  fr : H l = none
  e : Ext T noM H H'
  st : (f = f0 ∧ Clo ws (cs.take j) f) ∨ (f0.length < f.length ∧ ¬ Clo ws cs f0)
theorem Grow.push {T : List Addr} {H H' : Hp} {l n : Nat} {ws : List Wy} {cs : List Nat} {p j k : Nat} {f0 f : List Nat} (G : Grow T H H' l n ws cs p j f0 f) {c y : Nat} (hc : c ∈ cs) (hy : y ∉ f) (hn : y < n) (hcn : Cn (edg ws cs) p y)
    (hd : ¬ ((wyAt ws c).1 ∈ f ↔ (wyAt ws c).2.1 ∈ f)) : Grow T H (upd H' l (.lst (natsV f ++ [V.int (y : Nat)]))) l n ws cs p k f0 (f ++ [y]) := by
  refine ⟨G.g.snoc hy hn hcn, by rw [upd_same]; unfold natsV; rw [List.map_append]; rfl, G.fr, G.e.mut (.inl G.fr) G.hl ltbl, .inr ?_⟩
  rcases G.st with ⟨rfl, _⟩ | ⟨h1, h2⟩
  · exact ⟨by rw [List.length_append, List.length_singleton]; omega, fun z => hd (z c hc)⟩
  · exact ⟨by rw [List.length_append, List.length_singleton]; omega, h2⟩
section
variable {P : Program} {w : World} {K : PySem.W.Frag} {mg : Str → Option Value} {base : Heap} {T : List Addr}
theorem ok__law_group {f : Addr} {fd : FuncData} (F : Fun K "_law_group" "_law_group" s_law_group f fd) (m_range : mg "range" = none) (m_tuple : mg "tuple" = none) (m_sorted : mg "sorted" = none) : FnOk P w K mg base CX0 1 f fd ["net", "choice", "place"] (spLGroup T) := by
  refine F.ok sc_law_group (fun vs H Q E h => ?_) (fun cdv A outer s H vs Q E hr h => ?_)
  · obtain ⟨net, ch, n, ws, cs, p, rfl, t, hp, k⟩ := h
    rfl
  · obtain ⟨net, ch, n, ws, cs, p, rfl, t, hp, k⟩ := h
    refine ⟨_, (pss_cons (ps_set (i := 3) sc_law_group.nd rfl (Or.inl rfl) (pe_lst (pa_cons (pv 2) pa_nil)))
      (pss_cons (ps_for PassesOwn.never rfl (pi_range1 (by rfl) m_range (pa_cons (pe_ix ix_tup (pv 0) pe_int (fun _ _ => rfl)) pa_nil)) (pg_name (i := 4) sc_law_group.nd rfl (Or.inl rfl)) (pss_one (ps_for PassesOwn.never rfl (GE.pi_or (pi_tup (pv 1)) (pi_list (pv 1))) (pg_name (i := 5) sc_law_group.nd rfl (Or.inl rfl)) (pss_cons (ps_asg (pe_ix ix_tup (pe_ix ix_tup (pv 0) pe_int (fun _ _ => rfl)) (pv 5) (fun _ _ => rfl)) (pg_tup (by rfl) (pgs_cons (pg_name (i := 6) sc_law_group.nd rfl (Or.inl rfl)) (pgs_cons (pg_name (i := 7) sc_law_group.nd rfl (Or.inl rfl)) (pgs_cons (pg_name (i := 8) sc_law_group.nd rfl (Or.inl rfl)) pgs_nil)))))
      (Evl.pss_cut (ps_if (PW.pt (pw_and (pt_cmpR op_in_seq (pv 6) (pv 3) (by rfl)) (pw_and1 (pt_cmpR op_notIn_seq (pv 7) (pv 3) (by rfl))))) (pss_one (ps_expr (pe_bm PySem.F.plainAttrs_list PySem.F.slot_list_append PySem.F.type_list_append mt_append (pv 3) (pa_cons (pv 7) pa_nil)))) pss_nil)
      (pss_one (ps_if (PW.pt (pw_and (pt_cmpR op_in_seq (pv 7) (pv 3) (by rfl)) (pw_and1 (pt_cmpR op_notIn_seq (pv 6) (pv 3) (by rfl))))) (pss_one (ps_expr (pe_bm PySem.F.plainAttrs_list PySem.F.slot_list_append PySem.F.type_list_append mt_append (pv 3) (pa_cons (pv 6) pa_nil)))) pss_nil)))))))
      (pss_one (ps_ret (pe_callTy call_tuple_of (by rfl) m_tuple (by decide +kernel) (pa_cons (pe_callB cr_sorted (by rfl) m_sorted (by decide +kernel) (pa_cons (pv 3) pa_nil)) pa_nil)))))), ?_⟩
    obtain ⟨W, Clt, Cln, hnet, hch⟩ := t
    have HM := hom_ok W cs Clt
    obtain ⟨na, nb, us, rfl, ha, hb, hus⟩ := net_at hnet
    obtain ⟨ca, rfl, hca⟩ := hch
    rcases hca with hca | hca
    · have n12 := W.n12
      refine ⟨_, rfl, by show 1 ≤ sizeLine; decide, fun l hl => ?_⟩
      have e1 : Ext T noM H (upd H l (.lst (natsV [p]))) := Ext.new hl
      have g1 : Gr n (edg ws cs) p [p] := ⟨List.mem_singleton.mpr rfl, nd1 _, fun x hx => by rw [List.mem_singleton.mp hx]; exact ⟨hp, .refl _⟩⟩
      refine ⟨_, rfl, na, _, _, _, rfl, rfl, SqT.of (e1.tup (fun z => z) ha), at_of (j := 0) rfl rfl, n, rfl, by omega, by omega, ?_⟩
      refine for_range (lo := 0) (n := ((n : Int) - 0).toNat) (fun i σ' H' => ∃ f y4 y5 y6 y7 y8, σ' = [some (.ref na), some (.ref ca), some (.int (p : Nat)), some (.ref l), y4, y5, y6, y7, y8] ∧ Gr n (edg ws cs) p f ∧ H' l = some (.lst (natsV f)) ∧ Ext T noM H H' ∧ (Clo ws cs f ∨ i + 1 ≤ f.length))
        ⟨[p], none, none, none, none, none, rfl, g1, upd_same, e1, .inr (Nat.le_refl _)⟩ ?_ ?_
      · rintro i σ' H2 hi ⟨f0, y4, y5, y6, y7, y8, rfl, g2, hl2, e2, hs⟩
        refine .inl ⟨_, rfl, ca, rfl, ⟨_, SqT.of (e2.tup (fun z => z) hca)⟩, for_tup (K := K) (a := ca) (xs := cs.map fun (c : Nat) => V.int (c : Int)) (fun j σ' H' => ∃ f y5 y6 y7 y8, σ' = [some (.ref na), some (.ref ca), some (.int (p : Nat)), some (.ref l), some (.int (0 + (i : Int))), y5, y6, y7, y8] ∧ Grow T H H' l n ws cs p j f0 f)
          ⟨f0, _, _, _, _, rfl, g2, hl2, hl, e2, .inl ⟨rfl, fun c hc => by cases hc⟩⟩ (fun j σ' H' _ ⟨_, _, _, _, _, _, G⟩ => SqT.of (G.e.tup (fun z => z) hca)) ?_ ?_⟩
        · rintro j x σ' H3 hx ⟨f, y5, y6, y7, y8, rfl, G⟩
          obtain ⟨c, hc, rfl⟩ : ∃ c, cs[j]? = some c ∧ x = V.int ((c : Nat) : Int) := by
            rw [List.getElem?_map] at hx
            cases e : cs[j]? with
            | none => rw [e] at hx; cases hx
            | some c => rw [e] at hx; exact ⟨c, rfl, (Option.some.inj hx).symm⟩
          have hcm := List.mem_of_getElem? hc
          have hcl : c < ws.length := Clt c hcm
          obtain ⟨wa, hwa, hwt⟩ := way_get W hus hcl
          obtain ⟨_, ok1, ok2, _⟩ := wy_ok W hcl
          have hed : ((wyAt ws c).1, (wyAt ws c).2.1) ∈ edg ws cs := List.mem_map.mpr ⟨c, hcm, rfl⟩
          have hfl := G.g.len
          refine ⟨_, rfl, na, _, _, _, rfl, rfl, SqT.of (G.e.tup (fun z => z) ha), at_of (j := 1) rfl rfl, _, rfl, nb, _, _, _, rfl, rfl, SqT.of (G.e.tup (fun z => z) hb), at_of (j := c) rfl hwa, wa, _, rfl, SqT.of (G.e.tup (fun z => z) hwt), rfl, _, _, rfl, _, _, rfl, _, _, rfl, rfl, ?_⟩
          refine ⟨fun σ' H' => ∃ f, σ' = [some (.ref na), some (.ref ca), some (.int (p : Nat)), some (.ref l), some (.int (0 + (i : Int))), some (.int c), some (.int (wyAt ws c).1), some (.int (wyAt ws c).2.1), some (.int (wyAt ws c).2.2)] ∧
            Grow T H H' l n ws cs p j f0 f ∧ ((wyAt ws c).1 ∈ f → (wyAt ws c).2.1 ∈ f), ?_, ?_⟩
          · refine ⟨_, rfl, _, rfl, l, _, rfl, .inl (SqL.of G.hl), rfl, flat_nats f, _, rfl, ?_⟩
            rw [if_neg (by decide), inV_nats]
            refine ite2 (fun q1 => ?_) (fun q1 => iteF ⟨f, rfl, G, fun z => absurd (decide_eq_true z) q1⟩)
            refine ⟨_, rfl, _, rfl, l, _, rfl, .inl (SqL.of G.hl), rfl, flat_nats f, _, rfl, ?_⟩
            rw [if_pos rfl, inV_nats]
            have q1' := of_decide_eq_true q1
            refine ite2 (fun q2 => ?_) (fun q2 => ⟨f, rfl, G, fun z => Classical.byContradiction fun y => q2 (by rw [decide_eq_false y]; rfl)⟩)
            have q2' : (wyAt ws c).2.1 ∉ f := fun z => by rw [decide_eq_true z] at q2; cases q2
            refine ⟨_, rfl, .inl ⟨rfl, _, SqL.of G.hl⟩, _, rfl, l, _, _, rfl, rfl, G.hl, ?_, _, rfl, G.push (k := j) hcm q2' ok2 ((G.g.ok _ q1').2.fwd hed) (fun z => q2' (z.mp q1')), fun _ => List.mem_append_right _ (List.mem_singleton.mpr rfl)⟩
            unfold natsV; rw [List.length_map]; exact small1000 (by omega)
          · rintro σ' H4 ⟨f, rfl, G, hab⟩
            have hfl := G.g.len
            have same : ((wyAt ws c).2.1 ∈ f → (wyAt ws c).1 ∈ f) → Grow T H H4 l n ws cs p (j + 1) f0 f := fun hba => by
              refine ⟨G.g, G.hl, G.fr, G.e, ?_⟩
              rcases G.st with ⟨e, h⟩ | h
              · refine .inl ⟨e, fun c' hc' => ?_⟩
                rw [take_succ' hc] at hc'
                rcases List.mem_append.mp hc' with q | q
                · exact h c' q
                · rw [List.mem_singleton.mp q]; exact ⟨hab, hba⟩
              · exact .inr h
            refine ⟨_, rfl, _, rfl, l, _, rfl, .inl (SqL.of G.hl), rfl, flat_nats f, _, rfl, ?_⟩
            rw [if_neg (by decide), inV_nats]
            refine ite2 (fun q1 => ?_) (fun q1 => iteF ⟨f, _, _, _, _, rfl, same fun z => absurd (decide_eq_true z) q1⟩)
            refine ⟨_, rfl, _, rfl, l, _, rfl, .inl (SqL.of G.hl), rfl, flat_nats f, _, rfl, ?_⟩
            rw [if_pos rfl, inV_nats]
            have q1' := of_decide_eq_true q1
            refine ite2 (fun q2 => ?_) (fun q2 => ⟨f, _, _, _, _, rfl, same fun z => Classical.byContradiction fun y => q2 (by rw [decide_eq_false y]; rfl)⟩)
            have q2' : (wyAt ws c).1 ∉ f := fun z => by rw [decide_eq_true z] at q2; cases q2
            refine ⟨_, rfl, .inl ⟨rfl, _, SqL.of G.hl⟩, _, rfl, l, _, _, rfl, rfl, G.hl, ?_, _, _, _, _, _, rfl, G.push hcm q2' (Nat.lt_trans ok1 ok2) ((G.g.ok _ q1').2.bwd hed) (fun z => q2' (z.mpr q1'))⟩
            unfold natsV; rw [List.length_map]; exact small1000 (by omega)
        · rintro σ' H3 ⟨f, y5, y6, y7, y8, rfl, G⟩
          refine ⟨f, _, _, _, _, _, rfl, G.g, G.hl, G.e, ?_⟩
          rcases G.st with ⟨e, h⟩ | ⟨h1, h2⟩
          · rw [List.length_map, List.take_length] at h
            exact .inl h
          · rcases hs with hs | hs
            · exact absurd hs h2
            · exact .inr (by omega)
      · rintro σ' H2 ⟨f, y4, y5, y6, y7, y8, rfl, g, hl2, e2, hs⟩
        have hfl := g.len
        have hcl : Clo ws cs f := by
          rcases hs with h | h
          · exact h
          · omega
        have hcl2 : ∀ e ∈ edg ws cs, e.1 ∈ f ↔ e.2 ∈ f := fun e he => by
          obtain ⟨c, hc, rfl⟩ := List.mem_map.mp he
          exact hcl c hc
        have hnat : natsV f = (f.map fun x : Nat => (x : Int)).map V.int := by rw [List.map_map]; rfl
        refine ⟨_, rfl, l, f.map fun x : Nat => (x : Int), rfl, by rw [← hnat]; exact SqL.of hl2, by rw [List.length_map]; omega, fun ns q hns hst hq => ?_⟩
        obtain ⟨l2, rfl, pw, mem⟩ := sort_nats hns hst g.nd
        have el := closed_cls HM hp g.mem g.ok hcl2 pw mem
        subst el
        refine ⟨q, _, rfl, .inl ⟨SqL.of upd_same, fun t ht => ?_⟩⟩
        have e3 : (cls (hom ws cs) n p).map (V.int ∘ fun x : Nat => (x : Int)) = natsV (cls (hom ws cs) n p) := rfl
        refine k t _ ?_ ((e2.trans (Ext.new hq)).trans (Ext.new ht))
        rw [upd_same, List.map_map, e3]
    · have n12 := W.n12
      refine ⟨_, rfl, by show 1 ≤ sizeLine; decide, fun l hl => ?_⟩
      have e1 : Ext T noM H (upd H l (.lst (natsV [p]))) := Ext.new hl
      have g1 : Gr n (edg ws cs) p [p] := ⟨List.mem_singleton.mpr rfl, nd1 _, fun x hx => by rw [List.mem_singleton.mp hx]; exact ⟨hp, .refl _⟩⟩
      refine ⟨_, rfl, na, _, _, _, rfl, rfl, SqT.of (e1.tup (fun z => z) ha), at_of (j := 0) rfl rfl, n, rfl, by omega, by omega, ?_⟩
      refine for_range (lo := 0) (n := ((n : Int) - 0).toNat) (fun i σ' H' => ∃ f y4 y5 y6 y7 y8, σ' = [some (.ref na), some (.ref ca), some (.int (p : Nat)), some (.ref l), y4, y5, y6, y7, y8] ∧ Gr n (edg ws cs) p f ∧ H' l = some (.lst (natsV f)) ∧ Ext T noM H H' ∧ (Clo ws cs f ∨ i + 1 ≤ f.length))
        ⟨[p], none, none, none, none, none, rfl, g1, upd_same, e1, .inr (Nat.le_refl _)⟩ ?_ ?_
      · rintro i σ' H2 hi ⟨f0, y4, y5, y6, y7, y8, rfl, g2, hl2, e2, hs⟩
        refine .inr ⟨_, rfl, ca, rfl, ⟨_, SqL.of (e2.lst (fun z => z) hca)⟩, for_list (K := K) (a := ca) (xs := cs.map fun (c : Nat) => V.int (c : Int)) (fun j σ' H' => ∃ f y5 y6 y7 y8, σ' = [some (.ref na), some (.ref ca), some (.int (p : Nat)), some (.ref l), some (.int (0 + (i : Int))), y5, y6, y7, y8] ∧ Grow T H H' l n ws cs p j f0 f)
          ⟨f0, _, _, _, _, rfl, g2, hl2, hl, e2, .inl ⟨rfl, fun c hc => by cases hc⟩⟩ (fun j σ' H' _ ⟨_, _, _, _, _, _, G⟩ => SqL.of (G.e.lst (fun z => z) hca)) ?_ ?_⟩
        · rintro j x σ' H3 hx ⟨f, y5, y6, y7, y8, rfl, G⟩
          obtain ⟨c, hc, rfl⟩ : ∃ c, cs[j]? = some c ∧ x = V.int ((c : Nat) : Int) := by
            rw [List.getElem?_map] at hx
            cases e : cs[j]? with
            | none => rw [e] at hx; cases hx
            | some c => rw [e] at hx; exact ⟨c, rfl, (Option.some.inj hx).symm⟩
          have hcm := List.mem_of_getElem? hc
          have hcl : c < ws.length := Clt c hcm
          obtain ⟨wa, hwa, hwt⟩ := way_get W hus hcl
          obtain ⟨_, ok1, ok2, _⟩ := wy_ok W hcl
          have hed : ((wyAt ws c).1, (wyAt ws c).2.1) ∈ edg ws cs := List.mem_map.mpr ⟨c, hcm, rfl⟩
          have hfl := G.g.len
          refine ⟨_, rfl, na, _, _, _, rfl, rfl, SqT.of (G.e.tup (fun z => z) ha), at_of (j := 1) rfl rfl, _, rfl, nb, _, _, _, rfl, rfl, SqT.of (G.e.tup (fun z => z) hb), at_of (j := c) rfl hwa, wa, _, rfl, SqT.of (G.e.tup (fun z => z) hwt), rfl, _, _, rfl, _, _, rfl, _, _, rfl, rfl, ?_⟩
          refine ⟨fun σ' H' => ∃ f, σ' = [some (.ref na), some (.ref ca), some (.int (p : Nat)), some (.ref l), some (.int (0 + (i : Int))), some (.int c), some (.int (wyAt ws c).1), some (.int (wyAt ws c).2.1), some (.int (wyAt ws c).2.2)] ∧
            Grow T H H' l n ws cs p j f0 f ∧ ((wyAt ws c).1 ∈ f → (wyAt ws c).2.1 ∈ f), ?_, ?_⟩
          · refine ⟨_, rfl, _, rfl, l, _, rfl, .inl (SqL.of G.hl), rfl, flat_nats f, _, rfl, ?_⟩
            rw [if_neg (by decide), inV_nats]
            refine ite2 (fun q1 => ?_) (fun q1 => iteF ⟨f, rfl, G, fun z => absurd (decide_eq_true z) q1⟩)
            refine ⟨_, rfl, _, rfl, l, _, rfl, .inl (SqL.of G.hl), rfl, flat_nats f, _, rfl, ?_⟩
            rw [if_pos rfl, inV_nats]
            have q1' := of_decide_eq_true q1
            refine ite2 (fun q2 => ?_) (fun q2 => ⟨f, rfl, G, fun z => Classical.byContradiction fun y => q2 (by rw [decide_eq_false y]; rfl)⟩)
            have q2' : (wyAt ws c).2.1 ∉ f := fun z => by rw [decide_eq_true z] at q2; cases q2
            refine ⟨_, rfl, .inl ⟨rfl, _, SqL.of G.hl⟩, _, rfl, l, _, _, rfl, rfl, G.hl, ?_, _, rfl, G.push (k := j) hcm q2' ok2 ((G.g.ok _ q1').2.fwd hed) (fun z => q2' (z.mp q1')), fun _ => List.mem_append_right _ (List.mem_singleton.mpr rfl)⟩
            unfold natsV; rw [List.length_map]; exact small1000 (by omega)
          · rintro σ' H4 ⟨f, rfl, G, hab⟩
            have hfl := G.g.len
            have same : ((wyAt ws c).2.1 ∈ f → (wyAt ws c).1 ∈ f) → Grow T H H4 l n ws cs p (j + 1) f0 f := fun hba => by
              refine ⟨G.g, G.hl, G.fr, G.e, ?_⟩
              rcases G.st with ⟨e, h⟩ | h
              · refine .inl ⟨e, fun c' hc' => ?_⟩
                rw [take_succ' hc] at hc'
                rcases List.mem_append.mp hc' with q | q
                · exact h c' q
                · rw [List.mem_singleton.mp q]; exact ⟨hab, hba⟩
              · exact .inr h
            refine ⟨_, rfl, _, rfl, l, _, rfl, .inl (SqL.of G.hl), rfl, flat_nats f, _, rfl, ?_⟩
            rw [if_neg (by decide), inV_nats]
            refine ite2 (fun q1 => ?_) (fun q1 => iteF ⟨f, _, _, _, _, rfl, same fun z => absurd (decide_eq_true z) q1⟩)
            refine ⟨_, rfl, _, rfl, l, _, rfl, .inl (SqL.of G.hl), rfl, flat_nats f, _, rfl, ?_⟩
            rw [if_pos rfl, inV_nats]
            have q1' := of_decide_eq_true q1
            refine ite2 (fun q2 => ?_) (fun q2 => ⟨f, _, _, _, _, rfl, same fun z => Classical.byContradiction fun y => q2 (by rw [decide_eq_false y]; rfl)⟩)
            have q2' : (wyAt ws c).1 ∉ f := fun z => by rw [decide_eq_true z] at q2; cases q2
            refine ⟨_, rfl, .inl ⟨rfl, _, SqL.of G.hl⟩, _, rfl, l, _, _, rfl, rfl, G.hl, ?_, _, _, _, _, _, rfl, G.push hcm q2' (Nat.lt_trans ok1 ok2) ((G.g.ok _ q1').2.bwd hed) (fun z => q2' (z.mpr q1'))⟩
            unfold natsV; rw [List.length_map]; exact small1000 (by omega)
        · rintro σ' H3 ⟨f, y5, y6, y7, y8, rfl, G⟩
          refine ⟨f, _, _, _, _, _, rfl, G.g, G.hl, G.e, ?_⟩
          rcases G.st with ⟨e, h⟩ | ⟨h1, h2⟩
          · rw [List.length_map, List.take_length] at h
            exact .inl h
          · rcases hs with hs | hs
            · exact absurd hs h2
            · exact .inr (by omega)
      · rintro σ' H2 ⟨f, y4, y5, y6, y7, y8, rfl, g, hl2, e2, hs⟩
        have hfl := g.len
        have hcl : Clo ws cs f := by
          rcases hs with h | h
          · exact h
          · omega
        have hcl2 : ∀ e ∈ edg ws cs, e.1 ∈ f ↔ e.2 ∈ f := fun e he => by
          obtain ⟨c, hc, rfl⟩ := List.mem_map.mp he
          exact hcl c hc
        have hnat : natsV f = (f.map fun x : Nat => (x : Int)).map V.int := by rw [List.map_map]; rfl
        refine ⟨_, rfl, l, f.map fun x : Nat => (x : Int), rfl, by rw [← hnat]; exact SqL.of hl2, by rw [List.length_map]; omega, fun ns q hns hst hq => ?_⟩
        obtain ⟨l2, rfl, pw, mem⟩ := sort_nats hns hst g.nd
        have el := closed_cls HM hp g.mem g.ok hcl2 pw mem
        subst el
        refine ⟨q, _, rfl, .inl ⟨SqL.of upd_same, fun t ht => ?_⟩⟩
        have e3 : (cls (hom ws cs) n p).map (V.int ∘ fun x : Nat => (x : Int)) = natsV (cls (hom ws cs) n p) := rfl
        refine k t _ ?_ ((e2.trans (Ext.new hq)).trans (Ext.new ht))
        rw [upd_same, List.map_map, e3]
theorem ok__law_joins {f : Addr} {fd : FuncData} (F : Fun K "_law_joins" "_law_joins" s_law_joins f fd) (m_len : mg "len" = none) {f_law_group : Addr} {fd_law_group : FuncData} (F_law_group : Fun K "_law_group" "_law_group" s_law_group f_law_group fd_law_group) (G_law_group : FnOk P w K mg base CX0 1 f_law_group fd_law_group ["net", "choice", "place"] (spLGroup T)) (b_law_group : Binds K fd_law_group ["net", "choice", "place"] []) (g_law_group : mg "_law_group" = some (.ref f_law_group)) : FnOk P w K mg base CX0 2 f fd ["net", "pairs", "choice"] (spLJoins T) := by
  refine F.ok sc_law_joins (fun vs H Q E h => ?_) (fun cdv A outer s H vs Q E hr h => ?_)
  · obtain ⟨net, pz, ch, n, ws, cs, ps, rfl, t, hps, ok, k⟩ := h
    rfl
  · obtain ⟨net, pz, ch, n, ws, cs, ps, rfl, t, hps, ok, k⟩ := h
    refine ⟨_, (pss_one (ps_ret (pe_cmpR op_eq (pe_callB call_len_seq (by rfl) m_len PySem.boot_len (pa_cons (pe_lc (own := [("pair", 3)]) (g := (gName 3)) rfl sc_law_joins.nd (pi_tup (pv 1)) (blkOk_by (own := [("pair", 3)]) (N := ["net", "pairs", "choice", "pair"]) (sc := defScope s_law_joins) (by decide +kernel)) (fun _ _ _ _ _ => (pg_name (i := 3) sc_law_joins.nd rfl (Or.inl rfl))) (fun _ _ _ _ _ => (pts_one (pt_cmpR (GE.notIn_seqK (K := K)) (pe_ix (GE.ix_tupK (K := K)) (pv 3) pe_int (fun _ _ => rfl)) (pe_call G_law_group hr (by rfl) g_law_group F_law_group.kp b_law_group .nil pass0 (pa_cons (pv 0) (pa_cons (pv 2) (pa_cons (pe_ix (GE.ix_tupK (K := K)) (pv 3) pe_int (fun _ _ => rfl)) pa_nil)))) (by rfl)))) (fun _ _ _ _ _ => (pv 3))) pa_nil)) pe_int (nomark _)))), ?_⟩
    obtain ⟨pa, pus, rfl, hpa, hpr⟩ := hps.t
    have hlen : pus.length = ps.length := by rw [hpr.len, List.length_map]
    have hln := ok.ln
    refine ⟨_, rfl, pa, rfl, ⟨_, SqT.of hpa⟩, fun Dl hD => ?_⟩
    have e1 : Ext T noM H (upd H Dl (.lst [])) := Ext.new hD
    refine lc_tup (K := K) (a := pa) (xs := pus) (fun j H' => ∃ acc, Ext T noM H H' ∧ H' Dl = some (.lst acc) ∧ acc.length ≤ j ∧ (acc = [] ↔ (ps.take j).all (jn1 ws cs) = true)) ⟨[], e1, upd_same, Nat.le_refl _, ⟨fun _ => rfl, fun _ => rfl⟩⟩ (fun j H' _ ⟨_, e, _⟩ => SqT.of (e.tup (fun z => z) hpa)) ?_ ?_
    · rintro j x H3 hx ⟨acc, e, hD3, hal, hiff⟩
      have hj : j < ps.length := by
        have h1 := (List.getElem?_eq_some_iff.mp hx).1
        omega
      obtain ⟨x', hx', hr⟩ := hpr.get (i := j) (d := pairD ps[j]) (by rw [List.getElem?_map, List.getElem?_eq_getElem hj]; rfl)
      rw [hx] at hx'
      obtain rfl := Option.some.inj hx'
      obtain ⟨xa, rfl, hxa⟩ := pair_at (Rp.x e hr)
      obtain ⟨p1, p2⟩ := ok.ok _ (List.getElem_mem hj)
      have hpi : ps[j]? = some ps[j] := List.getElem?_eq_getElem hj
      refine ⟨rfl, _, rfl, xa, _, _, _, rfl, rfl, SqT.of hxa, at_of (j := 1) rfl rfl, ?_⟩
      refine ⟨_, rfl, _, rfl, _, rfl, xa, _, _, _, rfl, rfl, SqT.of hxa, at_of (j := 0) rfl rfl, net, ch, n, ws, cs, ps[j].1, rfl, t.x e, by omega, fun a H4 hA e4 => ?_⟩
      refine ⟨a, _, rfl, .inr (SqT.of hA), rfl, flat_nats _, _, rfl, ?_⟩
      rw [if_pos rfl, inV_nats]
      have hD4 := e4.lst (fun z => z) hD3
      refine ite2 (fun q => ?_) (fun q => ?_)
      · have hf : jn1 ws cs ps[j] = false := decide_eq_false fun z => by
          rw [decide_eq_true (mem_cls.mpr ⟨p2, z.symm⟩)] at q; cases q
        refine ⟨_, rfl, acc, hD4, small1000 (by omega), acc ++ [.ref xa], (e.trans e4).mut (.inl hD) hD4 ltbl, upd_same, ?_, ⟨fun z => by simp at z, fun z => ?_⟩⟩
        · rw [List.length_append, List.length_singleton]; omega
        · rw [take_succ' hpi, List.all_append] at z
          simp [hf] at z
      · have hin : ps[j].2 ∈ cls (hom ws cs) n ps[j].1 := Classical.byContradiction fun z => q (by rw [decide_eq_false z]; rfl)
        have ht : jn1 ws cs ps[j] = true := decide_eq_true (mem_cls.mp hin).2.symm
        refine ⟨acc, e.trans e4, hD4, Nat.le_succ_of_le hal, hiff.trans ⟨fun z => all_take hpi z ht, fun z => ?_⟩⟩
        rw [take_succ' hpi, List.all_append, Bool.and_eq_true] at z
        exact z.1
    · rintro H3 ⟨acc, e, hD3, hal, hiff⟩
      rw [hlen, List.take_length] at hiff
      refine ⟨Dl, acc, rfl, .inl (SqL.of hD3), rfl, ?_⟩
      have hb : decide (V.int (acc.length : Nat) = V.int 0) = jn ws cs ps := by
        unfold jn
        cases ha : acc with
        | nil => rw [hiff.mp ha]; rfl
        | cons y ys =>
          rw [ha] at hiff
          have : ps.all (jn1 ws cs) = false := by
            cases h : ps.all (jn1 ws cs) with
            | false => rfl
            | true => exact absurd (hiff.mpr h) (by simp)
          rw [this]
          exact decide_eq_false fun z => by injection z with z; simp at z; omega
      have := k H3 e
      rw [← hb] at this
      exact this
end
end Mw

set_option Elab.async false
set_option linter.all false
set_option maxRecDepth 100000
set_option maxHeartbeats 4000000
namespace Mw
open PySem PySem.Spec PyProof.Rows L2 GE
def spLOpen (T : List Addr) : Sp := fun vs H Q _ => ∃ (gt : Addr) (g : List Nat) (pz : V) (ps : List Pr), vs = [pz, .ref gt] ∧ H gt = some (.tup (natsV g)) ∧ Rp H (pairsD ps) pz ∧ ps.length ≤ 6 ∧
  ∀ H', Ext T noM H H' → Q (.bl (ps.any fun q => decide (q.1 ∈ g) != decide (q.2 ∈ g))) H'
/-- a list of groups -/
def GrL (H : Hp) (n : Nat) (h : Nat → Nat) (R : List Nat) (l : Addr) : Prop := ∃ vs : List V, H l = some (.lst vs) ∧ vs.length = R.length ∧ ∀ (i r : Nat), R[i]? = some r → ∃ t : Addr, vs[i]? = some (V.ref t) ∧ H t = some (.tup (natsV (cls h n r)))
theorem GrL.x {T : List Addr} {H H' : Hp} {n : Nat} {h : Nat → Nat} {R : List Nat} {l : Addr} (g : GrL H n h R l) (e : Ext T noM H H') : GrL H' n h R l := by
  obtain ⟨vs, h1, h2, h3⟩ := g
  exact ⟨vs, e.lst (fun z => z) h1, h2, fun i r q => by obtain ⟨t, q1, q2⟩ := h3 i r q; exact ⟨t, q1, e.tup (fun z => z) q2⟩⟩
def sidesF (ws : Wl) (n : Nat) (h : Nat → Nat) (c : Nat) : List Nat := (reps h n).filter fun r => decide (h (way ws c).1 = r) || decide (h (way ws c).2.1 = r)
def sides (ws : Wl) (n : Nat) (h : Nat → Nat) (c : Nat) : List Nat := if (sidesF ws n h c).length = 2 then sidesF ws n h c else []
def spLSides (T : List Addr) : Sp := fun vs H Q _ => ∃ (xa l : Addr) (n c : Nat) (ws : Wl) (h : Nat → Nat), vs = [.ref xa, .ref l] ∧ H xa = some (.tup [.int (way ws c).1, .int (way ws c).2.1, .int (way ws c).2.2]) ∧ (way ws c).1 < n ∧ (way ws c).2.1 < n ∧ n ≤ 12 ∧ GrL H n h (reps h n) l ∧
  ∀ r H', GrL H' n h (sides ws n h c) r → H r = none → Ext T noM H H' → Q (.ref r) H'
section
variable {P : Program} {w : World} {K : PySem.W.Frag} {mg : Str → Option Value} {base : Heap} {T : List Addr} {aC : Addr}
end
end Mw

set_option Elab.async false
set_option linter.all false
set_option maxRecDepth 100000
set_option maxHeartbeats 4000000
namespace Mw
open PySem PySem.Spec PyProof.Rows L2 GE
def widK (wid : List (List Nat × Int)) : List (List Key × V) := wid.map fun kw => (keyOf kw.1, V.int (kw.2 * 268435456))
def xl (ws : Wl) (c : Nat) (wid : List (List Nat × Int)) : Int := (wid.map fun kw => if (decide ((way ws c).1 ∈ kw.1) != decide ((way ws c).2.1 ∈ kw.1)) = true then kw.2 else 0).sum
theorem widK_val {wid : List (List Nat × Int)} (nd : (wid.map (·.1)).Nodup) {i : Nat} {kw : List Nat × Int} (h : wid[i]? = some kw) : valV (widK wid) (keyOf kw.1) = some (.int (kw.2 * 268435456)) := by
  induction wid generalizing i with
  | nil => simp at h
  | cons a l ih =>
    obtain ⟨n1, n2⟩ := List.nodup_cons.mp nd
    show valV ((keyOf a.1, V.int (a.2 * 268435456)) :: widK l) _ = _
    cases i with
    | zero =>
      have : a = kw := by simpa using h
      subst this
      exact valV_pos rfl
    | succ i =>
      have h' : l[i]? = some kw := by simpa using h
      rw [valV_neg (fun z => n1 (by
        have e : a.1 = kw.1 := keyOf_inj z
        show a.1 ∈ _
        rw [e]; exact List.mem_map_of_mem (List.mem_of_getElem? h')))]
      exact ih n2 h'
def spLLack (T : List Addr) : Sp := fun vs H Q _ => ∃ (xa d : Addr) (c : Nat) (ws : Wl) (wid : List (List Nat × Int)), vs = [.ref xa, .ref d] ∧ H xa = some (.tup [.int (way ws c).1, .int (way ws c).2.1, .int (way ws c).2.2]) ∧ (way ws c).2.2 ≤ 10000 ∧ H d = some (.dT (widK wid)) ∧ (wid.map (·.1)).Nodup ∧ wid.length ≤ 300 ∧
  ∀ H', Ext T noM H H' → Q (.int (((way ws c).2.2 : Int) * 1099511627776 - xl ws c wid * 268435456)) H'
section
variable {P : Program} {w : World} {K : PySem.W.Frag} {mg : Str → Option Value} {base : Heap} {T : List Addr} {aC : Addr}
end
end Mw

set_option Elab.async false
set_option linter.all false
set_option maxRecDepth 100000
set_option maxHeartbeats 4000000
namespace Mw
open PySem PySem.Spec PyProof.Rows L2 GE
theorem xl_eq {ws : Wl} {c : Nat} {h : Nat → Nat} (hne : h (way ws c).1 ≠ h (way ws c).2.1) : ∀ {wid : List (List Nat × Int)}, (∀ kw ∈ wid, ∀ x ∈ kw.1, ∀ y ∈ kw.1, h x = h y) → xl ws c wid = wsum (way ws c).1 wid + wsum (way ws c).2.1 wid
  | [], _ => rfl
  | (k, s) :: r, hk => by
    have ih := xl_eq hne (wid := r) fun kw q => hk kw (List.mem_cons_of_mem _ q)
    have h0 := hk (k, s) List.mem_cons_self
    have e1 : xl ws c ((k, s) :: r) = (if (decide ((way ws c).1 ∈ k) != decide ((way ws c).2.1 ∈ k)) = true then s else 0) + xl ws c r := by unfold xl; rw [List.map_cons, List.sum_cons]
    have e2 : ∀ p, wsum p ((k, s) :: r) = (if p ∈ k then s else 0) + wsum p r := fun p => rfl
    rw [e1, e2, e2, ih]
    by_cases a1 : (way ws c).1 ∈ k
    · have b1 : (way ws c).2.1 ∉ k := fun z => hne (h0 _ a1 _ z)
      rw [if_pos (by rw [decide_eq_true a1, decide_eq_false b1]; rfl), if_pos a1, if_neg b1]; omega
    · by_cases b1 : (way ws c).2.1 ∈ k
      · rw [if_pos (by rw [decide_eq_false a1, decide_eq_true b1]; rfl), if_neg a1, if_pos b1]; omega
      · rw [if_neg (by rw [decide_eq_false a1, decide_eq_false b1]; exact Bool.false_ne_true), if_neg a1, if_neg b1]; omega
theorem GM.lackL {n t : Nat} {ws : Wl} {S : Gs} (W : WsOk n ws) (G : GM n ws t S) {c : Nat} (hc : c < ws.length) (hx : crosses ws S c = true) : ((way ws c).2.2 : Int) * 1099511627776 - xl ws c S.wid * 268435456 = lack ws S c * 268435456 := by
  obtain ⟨w1, w2, _⟩ := W.ok c hc
  have e := xl_eq (of_decide_eq_true hx) (wid := S.wid) fun kw q x hx y hy => ((G.key kw q).1 x hx).2 y hy
  rw [e, ← G.sum _ (Nat.lt_trans w1 w2), ← G.sum _ w2]
  unfold lack; omega
theorem sides_two {n : Nat} {es : List (Nat × Nat)} {ws : Wl} {h : Nat → Nat} (HM : Hom n es h) {c : Nat} (ha : (way ws c).1 < n) (hb : (way ws c).2.1 < n) : (sidesF ws n h c).length = 2 ↔ h (way ws c).1 ≠ h (way ws c).2.1 := by
  have nd : (sidesF ws n h c).Nodup := (reps_nodup h n).filter _
  have mem : ∀ r, r ∈ sidesF ws n h c ↔ r = h (way ws c).1 ∨ r = h (way ws c).2.1 := fun r => by
    unfold sidesF
    rw [List.mem_filter, mem_reps', Bool.or_eq_true, decide_eq_true_eq, decide_eq_true_eq]
    constructor
    · rintro ⟨_, z | z⟩
      · exact .inl z.symm
      · exact .inr z.symm
    · rintro (z | z)
      · subst z; exact ⟨⟨Nat.lt_of_le_of_lt (HM.le _ ha) ha, HM.idem _ ha⟩, .inl rfl⟩
      · subst z; exact ⟨⟨Nat.lt_of_le_of_lt (HM.le _ hb) hb, HM.idem _ hb⟩, .inr rfl⟩
  constructor
  · intro hl e
    have h2 : (sidesF ws n h c).Perm [h (way ws c).1] := (List.perm_ext_iff_of_nodup nd (nd1 _)).mpr fun r => by rw [mem, List.mem_singleton, e]; simp
    have := h2.length_eq
    rw [hl] at this; cases this
  · intro hne
    have h2 : (sidesF ws n h c).Perm [h (way ws c).1, h (way ws c).2.1] := (List.perm_ext_iff_of_nodup nd (by simp [hne])).mpr fun r => by rw [mem]; simp
    exact h2.length_eq
theorem sides_len {n : Nat} {es : List (Nat × Nat)} {ws : Wl} {S : Gs} (HM : Hom n es S.h) {c : Nat} (ha : (way ws c).1 < n) (hb : (way ws c).2.1 < n) : ((sides ws n S.h c).length = 2 ↔ crosses ws S c = true) := by
  have h2 := sides_two HM ha hb
  unfold sides crosses
  rw [decide_eq_true_eq, ← h2]
  by_cases z : (sidesF ws n S.h c).length = 2
  · rw [if_pos z]
  · rw [if_neg z]; exact ⟨fun y => by simp at y, fun y => absurd y z⟩
/-- what the law keeps of a growth -/
structure LSt (H : Hp) (n : Nat) (ws : Wl) (S : Gs) (net : V) (l d : Addr) : Prop where
  net : Rp H (netD n ws) net
  l : GrL H n S.h (reps S.h n) l
  d : H d = some (.dT (widK S.wid))
  nd : (S.wid.map (·.1)).Nodup
  wl : S.wid.length ≤ 300
theorem LSt.x {T : List Addr} {H H' : Hp} {n : Nat} {ws : Wl} {S : Gs} {net : V} {l d : Addr} (L : LSt H n ws S net l d) (e : Ext T noM H H') : LSt H' n ws S net l d := ⟨Rp.x e L.net, L.l.x e, e.kp _ _ (fun z => z) L.d (fun ps z => nomatch z), L.nd, L.wl⟩
def spLFull (T : List Addr) : Sp := fun vs H Q _ => ∃ (net : V) (l d : Addr) (n t : Nat) (ws : Wl) (S : Gs), vs = [net, .ref l, .ref d] ∧ LSt H n ws S net l d ∧ Wf n ws ∧ GM n ws t S ∧ ∀ H', Ext T noM H H' → Q (firstV ws S) H'
section
variable {P : Program} {w : World} {K : PySem.W.Frag} {mg : Str → Option Value} {base : Heap} {T : List Addr} {aC : Addr}
end
end Mw

set_option Elab.async false
set_option linter.all false
set_option maxRecDepth 100000
set_option maxHeartbeats 4000000
namespace Mw
open PySem PySem.Spec PyProof.Rows L2 GE
theorem op_inDK {X : Cx} {K : PySem.W.Frag} (hu : X.A.units + 65 < cLine) (h : X.K = K := by rfl) : OpR X (compareOp .In) (rInD K) := h ▸ op_inD hu
theorem natDs_list {h : Nat → Nat} {n : Nat} (R : List Nat) : SeqAt.shaped (.list (R.map fun r => natD (cls h n r))) = true := natDs_shaped (h := h) (n := n) R
def waitV : Option Int → V
  | some x => .int (x * 268435456)
  | none => .non
theorem sides_perm {n : Nat} {es : List (Nat × Nat)} {ws : Wl} {S : Gs} (HM : Hom n es S.h) {c : Nat} (ha : (way ws c).1 < n) (hb : (way ws c).2.1 < n) (R : List Nat) : ((sides ws n S.h c).filter fun r => decide (r ∈ R)).length = if crosses ws S c = true then spd ws S R c else 0 := by
  have hl := sides_len (S := S) HM ha hb
  by_cases hx : crosses ws S c = true
  · rw [if_pos hx]
    have hne := of_decide_eq_true hx
    have e : sides ws n S.h c = sidesF ws n S.h c := if_pos ((sides_two HM ha hb).mpr hne)
    have nd : (sidesF ws n S.h c).Nodup := (reps_nodup S.h n).filter _
    have h2 : (sidesF ws n S.h c).Perm [S.h (way ws c).1, S.h (way ws c).2.1] := (List.perm_ext_iff_of_nodup nd (by simp [hne])).mpr fun r => by
      unfold sidesF
      rw [List.mem_filter, mem_reps', Bool.or_eq_true, decide_eq_true_eq, decide_eq_true_eq]
      simp only [List.mem_cons, List.not_mem_nil, or_false]
      constructor
      · rintro ⟨_, z | z⟩
        · exact .inl z.symm
        · exact .inr z.symm
      · rintro (z | z)
        · subst z; exact ⟨⟨Nat.lt_of_le_of_lt (HM.le _ ha) ha, HM.idem _ ha⟩, .inl rfl⟩
        · subst z; exact ⟨⟨Nat.lt_of_le_of_lt (HM.le _ hb) hb, HM.idem _ hb⟩, .inr rfl⟩
    rw [e, (h2.filter _).length_eq]
    unfold spd
    by_cases q1 : S.h (way ws c).1 ∈ R <;> by_cases q2 : S.h (way ws c).2.1 ∈ R <;> simp [q1, q2]
  · rw [if_neg hx]
    have : ¬ (sides ws n S.h c).length = 2 := fun z => hx (hl.mp z)
    have e : sides ws n S.h c = [] := by
      unfold sides at this ⊢
      split
      · rename_i z; rw [if_pos z] at this; exact absurd z this
      · rfl
    rw [e]; rfl
def spLWait (T : List Addr) : Sp := fun vs H Q _ => ∃ (net : V) (l d sl : Addr) (n t : Nat) (ws : Wl) (S : Gs) (R : List Nat), vs = [net, .ref l, .ref d, .ref sl] ∧ LSt H n ws S net l d ∧ Wf n ws ∧ GM n ws t S ∧ t < 12 ∧ GrL H n S.h R sl ∧ (∀ r ∈ R, r < n ∧ S.h r = r) ∧
  ∀ H', Ext T noM H H' → Q (waitV (least ((canW ws S R).map (cand ws S R)))) H'
section
variable {P : Program} {w : World} {K : PySem.W.Frag} {mg : Str → Option Value} {base : Heap} {T : List Addr} {aC : Addr}
end
end Mw

set_option linter.all false
namespace Mw
open GE
def li (l : List Nat) : List Int := l.map fun x : Nat => (x : Int)
theorem perm_sorted : ∀ {l m : List (List Int)}, l.Perm m → l.Pairwise (fun x y => lexL y x = false) → m.Pairwise (fun x y => lexL y x = false) → l = m
  | [], m, p, _, _ => (List.nil_perm.mp p).symm ▸ rfl
  | x :: l, [], p, _, _ => absurd p.length_eq (by simp)
  | x :: l, y :: m, p, h1, h2 => by
    obtain ⟨a1, a2⟩ := List.pairwise_cons.mp h1
    obtain ⟨b1, b2⟩ := List.pairwise_cons.mp h2
    have refl : ∀ z : List Int, lexL z z = false := fun z => by
      cases q : lexL z z with
      | false => rfl
      | true => have := lexL_asym z z q; rw [q] at this; exact this
    have hx : lexL y x = false := by
      rcases List.mem_cons.mp (p.mem_iff.mpr List.mem_cons_self : y ∈ x :: l) with e | e
      · rw [e]; exact refl _
      · exact a1 y e
    have hy : lexL x y = false := by
      rcases List.mem_cons.mp (p.mem_iff.mp List.mem_cons_self : x ∈ y :: m) with e | e
      · rw [e]; exact refl _
      · exact b1 x e
    have e : x = y := lexL_total x y hy hx
    subst e
    rw [perm_sorted (List.Perm.cons_inv p) a2 b2]
theorem reps_sorted {n : Nat} {es : List (Nat × Nat)} {h : Nat → Nat} (H : Hom n es h) : ((reps h n).map fun r => li (cls h n r)).Pairwise (fun x y => lexL y x = false) := by
  rw [List.pairwise_map]
  have pw : (reps h n).Pairwise (· < ·) := (range_pw n).filter _
  have key : ∀ (l : List Nat), l.Pairwise (· < ·) → (∀ r ∈ l, r < n ∧ h r = r) → l.Pairwise (fun x y => lexL (li (cls h n y)) (li (cls h n x)) = false) := by
    intro l
    induction l with
    | nil => intro _ _; exact List.Pairwise.nil
    | cons a l ih =>
      intro hp hl
      obtain ⟨p1, p2⟩ := List.pairwise_cons.mp hp
      refine List.pairwise_cons.mpr ⟨fun b hb => ?_, ih p2 fun r hr => hl r (List.mem_cons_of_mem _ hr)⟩
      have hab := p1 b hb
      obtain ⟨an, aa⟩ := hl a List.mem_cons_self
      obtain ⟨bn, bb⟩ := hl b (List.mem_cons_of_mem _ hb)
      obtain ⟨ra, ea⟩ := cls_head H an
      obtain ⟨rb, eb⟩ := cls_head H bn
      rw [ea, eb, aa, bb]
      show (if (b : Int) = (a : Int) then lexL _ _ else decide ((b : Int) < (a : Int))) = false
      rw [if_neg (by omega)]
      exact decide_eq_false (by omega)
  exact key _ pw fun r hr => mem_reps'.mp hr
/-- the groups when two are one -/
theorem reps_join {n : Nat} {es : List (Nat × Nat)} {h : Nat → Nat} (H : Hom n es h) {a b : Nat} (ha : a < n) (hb : b < n) (hne : h a ≠ h b) :
    (((reps h n).filter fun r => decide (r ≠ h a) && decide (r ≠ h b)) ++ [min (h a) (h b)]).Perm (reps (relab h a b) n) := by
  have H2 := H.step ha hb
  have la := H.le a ha
  have lb := H.le b hb
  have ia := H.idem a ha
  have ib := H.idem b hb
  refine (List.perm_ext_iff_of_nodup ?_ (reps_nodup _ _)).mpr fun r => ?_
  · rw [List.nodup_append]
    refine ⟨(reps_nodup _ _).filter _, List.nodup_cons.mpr ⟨(fun h => nomatch h), List.nodup_nil⟩, fun x hx y hy e => ?_⟩
    subst e
    have e2 := List.mem_singleton.mp hy
    have := (List.mem_filter.mp hx).2
    rw [Bool.and_eq_true, decide_eq_true_eq, decide_eq_true_eq] at this
    omega
  · rw [List.mem_append, List.mem_filter, List.mem_singleton, mem_reps', mem_reps', Bool.and_eq_true, decide_eq_true_eq, decide_eq_true_eq]
    constructor
    · rintro (⟨⟨rn, rr⟩, n1, n2⟩ | e)
      · refine ⟨rn, ?_⟩
        rw [relab_eq H ha hb rn, if_neg (by rw [rr]; omega)]; exact rr
      · subst e
        have hm : min (h a) (h b) < n := by omega
        refine ⟨hm, ?_⟩
        have hmm : h (min (h a) (h b)) = min (h a) (h b) := by
          rcases Nat.le_total (h a) (h b) with z | z
          · rw [Nat.min_eq_left z]; exact ia
          · rw [Nat.min_eq_right z]; exact ib
        rw [relab_eq H ha hb hm, hmm]
        split
        · rfl
        · rfl
    · rintro ⟨rn, e⟩
      rw [relab_eq H ha hb rn] at e
      by_cases z : h r = h a ∨ h r = h b
      · rw [if_pos z] at e; exact .inr e.symm
      · rw [if_neg z] at e
        refine .inl ⟨⟨rn, e⟩, fun y => z (.inl (by rw [y, ia])), fun y => z (.inr (by rw [y, ib]))⟩
end Mw

set_option Elab.async false
set_option linter.all false
set_option maxRecDepth 100000
set_option maxHeartbeats 4000000
namespace Mw
open PySem PySem.Spec PyProof.Rows L2 GE
theorem op_notInDTK {X : Cx} {K : PySem.W.Frag} (hu : X.A.units + 65 < cLine) (h : X.K = K := by rfl) : OpR X (compareOp .NotIn) (rInDT K true) := h ▸ op_notInDT hu
/-- the whole numbers of a tuple -/
def keyV (H : Hp) : V → List Int
  | .ref a => match H a with
    | some (.tup xs) => xs.map GE.iv
    | _ => []
  | _ => []
theorem iv_nats (l : List Nat) : (natsV l).map GE.iv = li l := by unfold natsV li; rw [List.map_map]; rfl
theorem keyV_at {H : Hp} {t : Addr} {l : List Nat} (h : H t = some (.tup (natsV l))) : keyV H (.ref t) = li l := by
  show (match H t with | some (.tup xs) => xs.map GE.iv | _ => []) = _
  rw [h]; exact iv_nats l
theorem li_ints (l : List Nat) : (li l).map V.int = natsV l := by unfold natsV li; rw [List.map_map]; rfl
/-- groups put in order -/
theorem sorted_groups {n : Nat} {es : List (Nat × Nat)} {g : Nat → Nat} (HM : Hom n es g) {H : Hp} {L ys : List V} {G : List Nat} (hG : G.Perm (reps g n)) (hl : L.length = G.length)
    (hx : ∀ (m r : Nat), G[m]? = some r → ∃ t : Addr, L[m]? = some (V.ref t) ∧ H t = some (.tup (natsV (cls g n r)))) (p : ys.Perm L) (s : SrtO.Srtd (fun x y => lexL (keyV H x) (keyV H y)) ys) :
    ys.length = (reps g n).length ∧ ∀ (i r : Nat), (reps g n)[i]? = some r → ∃ t : Addr, ys[i]? = some (V.ref t) ∧ H t = some (.tup (natsV (cls g n r))) := by
  have e1 : L.map (keyV H) = G.map fun r => li (cls g n r) := by
    refine List.ext_getElem? fun m => ?_
    rw [List.getElem?_map, List.getElem?_map]
    rcases Nat.lt_or_ge m G.length with h | h
    · obtain ⟨t, q1, q2⟩ := hx m G[m] (List.getElem?_eq_getElem h)
      rw [List.getElem?_eq_getElem h, q1]
      show some (keyV H (.ref t)) = _
      rw [keyV_at q2]; rfl
    · rw [List.getElem?_eq_none h, List.getElem?_eq_none (by rw [hl]; exact h)]; rfl
  have e2 : ys.map (keyV H) = (reps g n).map fun r => li (cls g n r) := by
    refine perm_sorted ((p.map _).trans (by rw [e1]; exact hG.map _)) ?_ (reps_sorted HM)
    rw [List.pairwise_map]
    exact s
  have hlen : ys.length = (reps g n).length := by rw [p.length_eq, hl, hG.length_eq]
  refine ⟨hlen, fun i r hr => ?_⟩
  have hi : i < ys.length := by rw [hlen]; exact (List.getElem?_eq_some_iff.mp hr).1
  have hm : ys[i] ∈ L := p.mem_iff.mp (List.getElem_mem hi)
  obtain ⟨m, hm1, hm2⟩ := List.getElem_of_mem hm
  obtain ⟨t, q1, q2⟩ := hx m (G[m]'(by rw [← hl]; exact hm1)) (List.getElem?_eq_getElem _)
  rw [List.getElem?_eq_getElem hm1, hm2] at q1
  have q3 := Option.some.inj q1
  have e3 := congrArg (fun l => l[i]?) e2
  rw [List.getElem?_map, List.getElem?_map, hr, List.getElem?_eq_getElem hi] at e3
  have e4 : keyV H ys[i] = li (cls g n r) := Option.some.inj e3
  rw [q3, keyV_at q2] at e4
  exact ⟨t, by rw [List.getElem?_eq_getElem hi, q3], by rw [q2, ← li_ints, e4, li_ints]⟩
def spLTog (T : List Addr) : Sp := fun vs H Q _ => ∃ (net : V) (l : Addr) (n c : Nat) (ws : Wl) (S : Gs), vs = [net, .ref l, .int (c : Nat)] ∧ Rp H (netD n ws) net ∧ Wf n ws ∧ (∃ es, Hom n es S.h) ∧ GrL H n S.h (reps S.h n) l ∧ c < ws.length ∧ crosses ws S c = true ∧
  ∀ r H', GrL H' n (relab S.h (way ws c).1 (way ws c).2.1) (reps (relab S.h (way ws c).1 (way ws c).2.1) n) r → H r = none → Ext T noM H H' → Q (.ref r) H'
section
variable {P : Program} {w : World} {K : PySem.W.Frag} {mg : Str → Option Value} {base : Heap} {T : List Addr} {aC : Addr}
end
end Mw

set_option Elab.async false
set_option linter.all false
set_option maxRecDepth 100000
set_option maxHeartbeats 4000000
namespace Mw
open PySem PySem.Spec PyProof.Rows L2 GE
theorem fr0 : frX 0 = 0 ∧ frY 0 = 1 := fr_int 0
theorem frV_zero {K : PySem.W.Frag} {H : Hp} {a : Addr} (h : H a = some (.tup [.int 0, .int 1])) : FrV K H 0 (.ref a) := ⟨a, rfl, by rw [fr0.1, fr0.2]; exact SqT.of h⟩
theorem GrL.t {H H' : Hp} {n : Nat} {h : Nat → Nat} {R : List Nat} {l : Addr} (g : GrL H n h R l) (t : ∀ b xs, H b = some (.tup xs) → H' b = some (.tup xs)) (hl : ∀ xs, H l = some (.lst xs) → H' l = some (.lst xs)) : GrL H' n h R l := by
  obtain ⟨vs, h1, h2, h3⟩ := g
  exact ⟨vs, hl _ h1, h2, fun i r q => by obtain ⟨u, q1, q2⟩ := h3 i r q; exact ⟨u, q1, t _ _ q2⟩⟩
/-- a list of groups, as a tuple -/
theorem GrL.ris {K : PySem.W.Frag} {H : Hp} {n : Nat} {h : Nat → Nat} {R : List Nat} {l a : Addr} {vs : List V} (hv : vs.length = R.length ∧ ∀ (i r : Nat), R[i]? = some r → ∃ t : Addr, vs[i]? = some (V.ref t) ∧ H t = some (.tup (natsV (cls h n r)))) (ha : H a = some (.tup vs)) (ok : ∀ r ∈ R, r < n ∧ h r = r) : RisV K H n h R (.ref a) := ⟨⟨a, vs, rfl, ha, hv.1, hv.2⟩, ok⟩
theorem widK_get {l : List (List Nat × Int)} {k : List Nat} : (valV (widK l) (keyOf k)).getD (.int 0) = .int (widOf l k * 268435456) := by
  induction l with
  | nil => rfl
  | cons a r ih =>
    obtain ⟨j, w⟩ := a
    show (valV ((keyOf j, V.int (w * 268435456)) :: widK r) (keyOf k)).getD (.int 0) = .int ((if j = k then w else widOf r k) * 268435456)
    by_cases q : j = k
    · subst q
      rw [valV_pos rfl, if_pos rfl]; rfl
    · rw [valV_neg (fun z => q (keyOf_inj z)), if_neg q]; exact ih
theorem widK_mem {l : List (List Nat × Int)} {k : List Nat} : (valV (widK l) (keyOf k)).isSome = decide (k ∈ l.map (·.1)) := by
  induction l with
  | nil => rfl
  | cons a r ih =>
    obtain ⟨j, w⟩ := a
    show (valV ((keyOf j, V.int (w * 268435456)) :: widK r) (keyOf k)).isSome = _
    by_cases q : j = k
    · subst q
      rw [valV_pos rfl]; simp
    · rw [valV_neg (fun z => q (keyOf_inj z)), ih]
      have q' : ¬ k = j := fun z => q z.symm
      simp [q']
theorem widK_same {l : List (List Nat × Int)} {k : List Nat} {z : V} (h : k ∉ l.map (·.1)) : ((widK l).map fun kv => if kv.1 = keyOf k then (kv.1, z) else kv) = widK l := by
  induction l with
  | nil => rfl
  | cons a r ih =>
    obtain ⟨j, w⟩ := a
    show ((keyOf j, V.int (w * 268435456)) :: widK r).map _ = (keyOf j, V.int (w * 268435456)) :: widK r
    rw [List.map_cons, if_neg (fun z => h (by rw [List.map_cons, keyOf_inj z]; exact List.mem_cons_self)), ih fun z => h (by rw [List.map_cons]; exact List.mem_cons_of_mem _ z)]
theorem widK_put {l : List (List Nat × Int)} {k : List Nat} {d : Int} (nd : (l.map (·.1)).Nodup) : putK (widK l) (keyOf k) (.int ((widOf l k + d) * 268435456)) = widK (addW l k d) := by
  unfold putK
  rw [valV_any, widK_mem]
  by_cases q : k ∈ l.map (·.1)
  · rw [decide_eq_true q, if_pos rfl]
    induction l with
    | nil => cases q
    | cons a r ih =>
      obtain ⟨j, w⟩ := a
      obtain ⟨n1, n2⟩ := List.nodup_cons.mp nd
      by_cases e : j = k
      · subst e
        have e1 : addW ((j, w) :: r) j d = (j, w + d) :: r := if_pos rfl
        have e2 : widOf ((j, w) :: r) j = w := if_pos rfl
        rw [e1, e2]
        show ((keyOf j, V.int (w * 268435456)) :: widK r).map _ = (keyOf j, V.int ((w + d) * 268435456)) :: widK r
        rw [List.map_cons, if_pos rfl, widK_same n1]
      · have e1 : addW ((j, w) :: r) k d = (j, w) :: addW r k d := if_neg e
        have e2 : widOf ((j, w) :: r) k = widOf r k := if_neg e
        rw [e1, e2]
        show ((keyOf j, V.int (w * 268435456)) :: widK r).map _ = (keyOf j, V.int (w * 268435456)) :: widK (addW r k d)
        rw [List.map_cons, if_neg (fun z => e (keyOf_inj z)), ih n2 (by
          rcases List.mem_cons.mp q with y | y
          · exact absurd y.symm e
          · exact y)]
  · rw [decide_eq_false q, if_neg Bool.false_ne_true, widOf_no q, Int.zero_add]
    induction l with
    | nil => rfl
    | cons a r ih =>
      obtain ⟨j, w⟩ := a
      have e : ¬ j = k := fun z => q (by rw [List.map_cons, z]; exact List.mem_cons_self)
      have e1 : addW ((j, w) :: r) k d = (j, w) :: addW r k d := if_neg e
      rw [e1]
      show (keyOf j, V.int (w * 268435456)) :: (widK r ++ [(keyOf k, V.int (d * 268435456))]) = (keyOf j, V.int (w * 268435456)) :: widK (addW r k d)
      rw [ih (List.nodup_cons.mp nd).2 fun z => q (by rw [List.map_cons]; exact List.mem_cons_of_mem _ z)]
theorem parted_any {n : Nat} {ps : List Pr} (ok : PsOk n ps) (h : Nat → Nat) {r : Nat} (rn : r < n) (rr : h r = r) : (ps.any fun q => decide (q.1 ∈ cls h n r) != decide (q.2 ∈ cls h n r)) = ps.any (parted h r) := by
  refine any_congr fun q hq => ?_
  obtain ⟨o1, o2⟩ := ok.ok q hq
  unfold parted
  rw [show decide (q.1 ∈ cls h n r) = decide (h q.1 = r) from by rw [decide_eq_decide, mem_cls, rr]; exact ⟨fun z => z.2, fun z => ⟨by omega, z⟩⟩,
    show decide (q.2 ∈ cls h n r) = decide (h q.2 = r) from by rw [decide_eq_decide, mem_cls, rr]; exact ⟨fun z => z.2, fun z => ⟨o2, z⟩⟩]
theorem waitV_some (x : Int) : waitV (some x) = .int (x * 268435456) := rfl
/-- what the law keeps of a growth, with its rows -/
structure LGr (K : PySem.W.Frag) (H : Hp) (n : Nat) (ws : Wl) (ps : List Pr) (net : V) (S : Gs) (L : List Rw) (l d lt lr : Addr) : Prop where
  s : LSt H n ws S net l d
  tk : ∃ vs, H lt = some (.lst vs) ∧ TkL K H S.taken vs
  rw : ∃ vs, H lr = some (.lst vs) ∧ SeenL K H n ps L vs
  n1 : l ≠ lt
  n2 : l ≠ lr
  n3 : lt ≠ lr
theorem LGr.x {K : PySem.W.Frag} {T : List Addr} {H H' : Hp} {n : Nat} {ws : Wl} {ps : List Pr} {net : V} {S : Gs} {L : List Rw} {l d lt lr : Addr} (G : LGr K H n ws ps net S L l d lt lr) (e : Ext T noM H H') : LGr K H' n ws ps net S L l d lt lr := by
  obtain ⟨v1, a1, a2⟩ := G.tk
  obtain ⟨v2, b1, b2⟩ := G.rw
  exact ⟨G.s.x e, ⟨v1, e.lst (fun z => z) a1, (Tp.of e).tk a2⟩, ⟨v2, e.lst (fun z => z) b1, b2.t (Tp.of e)⟩, G.n1, G.n2, G.n3⟩
def spLGrown (K : PySem.W.Frag) (T : List Addr) : Sp := fun vs H Q _ => ∃ (net pz : V) (n : Nat) (ws : Wl) (ps : List Pr), vs = [net, pz] ∧ Wf n ws ∧ Rp H (netD n ws) net ∧ Rp H (pairsD ps) pz ∧ PsOk n ps ∧ (∀ q ∈ ps, Cn (wedges ws) q.1 q.2) ∧
  ∀ r lt d lr tv rv H', H' r = some (.tup [.ref lt, .ref d, .ref lr]) → H' lt = some (.lst tv) → TkL K H' (allGro n ws ps).1.taken tv → H' d = some (.dT (widK (allGro n ws ps).1.wid)) → H' lr = some (.lst rv) → SeenL K H' n ps (allGro n ws ps).2 rv → Ext T noM H H' → Q (.ref r) H'
section
variable {P : Program} {w : World} {K : PySem.W.Frag} {mg : Str → Option Value} {base : Heap} {T : List Addr} {aC : Addr}
end
end Mw

set_option Elab.async false
set_option linter.all false
set_option maxRecDepth 100000
set_option maxHeartbeats 4000000
namespace Mw
open PySem PySem.Spec PyProof.Rows L2 GE
/-! ### the law's tasks -/
def spTask (T : List Addr) : Sp := fun vs H Q _ => ∃ (p s : Addr) (most ways : Int), vs = [.ref p, .int most, .int ways] ∧ PoolAt H p s ∧ 1 ≤ most ∧ most ≤ 12 ∧ 0 ≤ ways ∧ ways ≤ 24 ∧
  ∀ t net pz n ws ps H', Wf n ws → PsOk n ps → (∀ q ∈ ps, Cn (wedges ws) q.1 q.2) → Rp H' (netD n ws) net → Rp H' (pairsD ps) pz → H' t = some (.tup [net, pz]) → PoolAt H' p s → Ext T (atP p) H H' → Q (.ref t) H'
def spAny (T : List Addr) : Sp := fun vs H Q _ => ∃ (p s : Addr), vs = [.ref p] ∧ PoolAt H p s ∧
  ∀ t net pz n ws ps H', Wf n ws → PsOk n ps → (∀ q ∈ ps, Cn (wedges ws) q.1 q.2) → Rp H' (netD n ws) net → Rp H' (pairsD ps) pz → H' t = some (.tup [net, pz]) → PoolAt H' p s → Ext T (atP p) H H' → Q (.ref t) H'
section
variable {P : Program} {w : World} {K : PySem.W.Frag} {mg : Str → Option Value} {base : Heap} {T : List Addr} {aC : Addr}
end
end Mw

set_option Elab.async false
set_option linter.all false
set_option maxRecDepth 100000
set_option maxHeartbeats 4000000
namespace Mw
open PySem PySem.Spec PyProof.Rows L2 GE
/-! ### the same data, also such as stand in the written part -/
def Sm : Nat → D → Prop
  | 0, _ => False
  | _ + 1, .i _ => True
  | _ + 1, .non => True
  | _ + 1, .bl _ => False
  | n + 1, .t ds => ds.length ≤ 1000 ∧ ∀ d ∈ ds, Sm n d
theorem tyx_tup {K : PySem.W.Frag} {H : Hp} {a : Addr} {xs : List V} (h : SqT K H a xs) : TyX K H (.ref a) (.type "tuple") := by
  rcases h with (h | ⟨o, h⟩) | ⟨o, its, n, h1, h2, _⟩
  · exact .base (.tup h)
  · exact .fTuple h
  · exact .kTuple h1 h2
mutual
def RpK (K : PySem.W.Frag) (H : Hp) : D → V → Prop
  | .i n, v => v = .int n
  | .non, v => v = .non
  | .bl b, v => v = .bl b
  | .t ds, v => ∃ a vs, v = .ref a ∧ SqT K H a vs ∧ RpKL K H ds vs
def RpKL (K : PySem.W.Frag) (H : Hp) : List D → List V → Prop
  | [], vs => vs = []
  | d :: ds, vs => ∃ v r, vs = v :: r ∧ RpK K H d v ∧ RpKL K H ds r
end
section
variable {K : PySem.W.Frag} {H H' : Hp} {T : List Addr}
theorem RpK.i {n : Int} {v : V} (h : RpK K H (.i n) v) : v = .int n := by unfold RpK at h; exact h
theorem RpK.t {ds : List D} {v : V} (h : RpK K H (.t ds) v) : ∃ a vs, v = .ref a ∧ SqT K H a vs ∧ RpKL K H ds vs := by unfold RpK at h; exact h
theorem rpk_i (n : Int) : RpK K H (.i n) (.int n) := by unfold RpK; rfl
theorem rpk_t {ds : List D} {a : Addr} {vs : List V} (h : SqT K H a vs) (r : RpKL K H ds vs) : RpK K H (.t ds) (.ref a) := by unfold RpK; exact ⟨a, vs, rfl, h, r⟩
theorem rpkl_nil : RpKL K H [] [] := by unfold RpKL; rfl
theorem rpkl_cons {d : D} {ds : List D} {v : V} {vs : List V} (h : RpK K H d v) (r : RpKL K H ds vs) : RpKL K H (d :: ds) (v :: vs) := by unfold RpKL; exact ⟨v, vs, rfl, h, r⟩
theorem RpKL.cons {d : D} {ds : List D} {vs : List V} (h : RpKL K H (d :: ds) vs) : ∃ v r, vs = v :: r ∧ RpK K H d v ∧ RpKL K H ds r := by unfold RpKL at h; exact h
theorem RpKL.nil {vs : List V} (h : RpKL K H [] vs) : vs = [] := by unfold RpKL at h; exact h
theorem RpKL.len : ∀ {ds : List D} {vs : List V}, RpKL K H ds vs → vs.length = ds.length
  | [], vs, h => by rw [h.nil] <;> rfl
  | d :: ds, vs, h => by
    obtain ⟨v, r, rfl, _, h2⟩ := h.cons
    rw [List.length_cons, List.length_cons, RpKL.len h2]
theorem RpKL.get : ∀ {ds : List D} {vs : List V} {i : Nat} {d : D}, RpKL K H ds vs → ds[i]? = some d → ∃ v, vs[i]? = some v ∧ RpK K H d v
  | [], vs, i, d, _, e => by simp at e
  | d :: ds, vs, 0, d', h, e => by
    obtain ⟨v, r, rfl, h1, _⟩ := h.cons
    simp at e
    exact ⟨v, rfl, e ▸ h1⟩
  | d :: ds, vs, i + 1, d', h, e => by
    obtain ⟨v, r, rfl, _, h2⟩ := h.cons
    obtain ⟨u, e1, e2⟩ := RpKL.get (i := i) h2 (by simpa using e)
    exact ⟨u, by simpa using e1, e2⟩
mutual
theorem RpK.tp (hp : ∀ b xs, SqT K H b xs → SqT K H' b xs) : ∀ {d : D} {v : V}, RpK K H d v → RpK K H' d v
  | .i n, v, h => by rw [h.i]; exact rpk_i n
  | .non, v, h => by unfold RpK at h ⊢; exact h
  | .bl b, v, h => by unfold RpK at h ⊢; exact h
  | .t ds, v, h => by
    obtain ⟨a, vs, rfl, h1, h2⟩ := h.t
    exact rpk_t (hp _ _ h1) (RpKL.tp hp h2)
theorem RpKL.tp (hp : ∀ b xs, SqT K H b xs → SqT K H' b xs) : ∀ {ds : List D} {vs : List V}, RpKL K H ds vs → RpKL K H' ds vs
  | [], vs, h => by rw [h.nil]; exact rpkl_nil
  | d :: ds, vs, h => by
    obtain ⟨v, r, rfl, h1, h2⟩ := h.cons
    exact rpkl_cons (RpK.tp hp h1) (RpKL.tp hp h2)
end
theorem RpK.x (e : Ext T noM H H') {d : D} {v : V} (h : RpK K H d v) : RpK K H' d v := h.tp fun b xs q => SqT.x q e fun z => z
theorem RpKL.x (e : Ext T noM H H') {d : List D} {v : List V} (h : RpKL K H d v) : RpKL K H' d v := h.tp fun b xs q => SqT.x q e fun z => z
mutual
theorem rpk_of : ∀ {d : D} {v : V}, Rp H d v → RpK K H d v
  | .i n, v, h => by rw [h.i]; exact rpk_i n
  | .non, v, h => by unfold Rp at h; unfold RpK; exact h
  | .bl b, v, h => by unfold Rp at h; unfold RpK; exact h
  | .t ds, v, h => by
    obtain ⟨a, vs, rfl, h1, h2⟩ := h.t
    exact rpk_t (SqT.of h1) (rpkl_of h2)
theorem rpkl_of : ∀ {ds : List D} {vs : List V}, RpL H ds vs → RpKL K H ds vs
  | [], vs, h => by rw [h.nil]; exact rpkl_nil
  | d :: ds, vs, h => by
    obtain ⟨v, r, rfl, h1, h2⟩ := h.cons
    exact rpkl_cons (rpk_of h1) (rpkl_of h2)
end
def frD (u : Int) : D := .t [.i (frX u), .i (frY u)]
theorem FrV.k {u : Int} {v : V} (h : FrV K H u v) : RpK K H (frD u) v := by
  obtain ⟨a, rfl, ha⟩ := h
  exact rpk_t ha (rpkl_cons (rpk_i _) (rpkl_cons (rpk_i _) rpkl_nil))
theorem sm_fr (u : Int) (k : Nat) : Sm (k + 2) (frD u) := ⟨by show 2 ≤ 1000; decide, fun d hd => by
  rcases List.mem_cons.mp hd with z | z
  · rw [z]; exact True.intro
  · rw [List.mem_singleton.mp z]; exact True.intro⟩
end
def spSame (K : PySem.W.Frag) (n : Nat) (T : List Addr) : Sp := fun vs H Q _ => ∃ (a b : V) (d : D), vs = [a, b] ∧ RpK K H d a ∧ RpK K H d b ∧ Sm n d ∧ ∀ H', Ext T noM H H' → Q (.bl true) H'
section
variable {P : Program} {w : World} {K : PySem.W.Frag} {mg : Str → Option Value} {base : Heap} {T : List Addr} {n : Nat}
theorem ok__law_same {f : Addr} {fd : FuncData} (F : Fun K "_law_same" "_law_same" s_law_same f fd) (m_isinstance : mg "isinstance" = none) (m_tuple : mg "tuple" = none) (m_str : mg "str" = none) (m_int : mg "int" = none) (m_len : mg "len" = none) (m_bool : mg "bool" = none) (m_range : mg "range" = none) {f_law_same : Addr} {fd_law_same : FuncData} (F_law_same : Fun K "_law_same" "_law_same" s_law_same f_law_same fd_law_same) (G_law_same : FnOk P w K mg base CX0 n f_law_same fd_law_same ["actual", "due"] (spSame K n T)) (b_law_same : Binds K fd_law_same ["actual", "due"] []) (g_law_same : mg "_law_same" = some (.ref f_law_same)) : FnOk P w K mg base CX0 (n + 1) f fd ["actual", "due"] (spSame K (n + 1) T) := by
  refine F.ok sc_law_same (fun vs H Q E h => ?_) (fun cdv A outer s H vs Q E hr h => ?_)
  · obtain ⟨x, y, d, rfl, ha, hb, hs, k⟩ := h
    rfl
  · obtain ⟨x, y, d, rfl, ha, hb, hs, k⟩ := h
    refine ⟨_, (pss_cons (ps_if (pt_val (pe_callB call_isi (by rfl) m_isinstance (by decide +kernel) (pa_cons (pv 1) (pa_cons (pe_bltn (u := .type "tuple") (v := .ty "tuple") (by rfl) m_tuple (by decide +kernel) rfl) pa_nil)))) (pss_cons (ps_if (PW.pt (pw_or (pt_not (pt_val (pe_callB call_isi (by rfl) m_isinstance (by decide +kernel) (pa_cons (pv 0) (pa_cons (pe_bltn (u := .type "tuple") (v := .ty "tuple") (by rfl) m_tuple (by decide +kernel) rfl) pa_nil))))) (pw_or1 (pt_cmpR op_ne (pe_callB call_len_seq (by rfl) m_len PySem.boot_len (pa_cons (pv 0) pa_nil)) (pe_callB call_len_seq (by rfl) m_len PySem.boot_len (pa_cons (pv 1) pa_nil)) (nomark _))))) (pss_one (ps_ret pe_bl)) pss_nil)
      (pss_one (ps_ret (pe_cmpR op_eq (pe_callB call_len_seq (by rfl) m_len PySem.boot_len (pa_cons (pe_lc (own := [("k", 2)]) (g := (gName 2)) rfl sc_law_same.nd (pi_range1 (by rfl) m_range (pa_cons (pe_callB call_len_seq (by rfl) m_len PySem.boot_len (pa_cons (pv 1) pa_nil)) pa_nil)) (blkOk_by (own := [("k", 2)]) (N := ["actual", "due", "k"]) (sc := defScope s_law_same) (by decide +kernel)) (fun _ _ _ _ _ => (pg_name (i := 2) sc_law_same.nd rfl (Or.inl rfl))) (fun _ _ _ _ _ => (pts_one (pt_not (pt_val (pe_call G_law_same hr (by rfl) g_law_same F_law_same.kp b_law_same .nil pass0 (pa_cons (pe_ix (GE.ix_tupK (K := K)) (pv 0) (pv 2) (fun _ _ => rfl)) (pa_cons (pe_ix (GE.ix_tupK (K := K)) (pv 1) (pv 2) (fun _ _ => rfl)) pa_nil))))))) (fun _ _ _ _ _ => (pv 2))) pa_nil)) pe_int (nomark _))))) pss_nil)
      (pss_cons (ps_if (pt_cmpR op_isN (pv 1) pe_non (nomark _)) (pss_one (ps_ret (pe_cmpR op_isN (pv 0) pe_non (nomark _)))) pss_nil)
      (pss_cons (ps_if (pt_val (pe_callB call_isi (by rfl) m_isinstance (by decide +kernel) (pa_cons (pv 1) (pa_cons (pe_bltn (u := .type "str") (v := .ty "str") (by rfl) m_str (by decide +kernel) rfl) pa_nil)))) (pss_one (ps_ret (pe_and (pe_callB call_isi (by rfl) m_isinstance (by decide +kernel) (pa_cons (pv 0) (pa_cons (pe_bltn (u := .type "str") (v := .ty "str") (by rfl) m_str (by decide +kernel) rfl) pa_nil))) (pe_one (pe_cmpR op_eq (pv 0) (pv 1) (nomark _)))))) pss_nil)
      (pss_one (ps_ret (pe_and (pe_callB call_isi (by rfl) m_isinstance (by decide +kernel) (pa_cons (pv 0) (pa_cons (pe_bltn (u := .type "int") (v := .ty "int") (by rfl) m_int (by decide +kernel) rfl) pa_nil))) (pe_and (pe_not (pe_callB call_isi (by rfl) m_isinstance (by decide +kernel) (pa_cons (pv 0) (pa_cons (pe_bltn (u := .type "bool") (v := .ty "bool") (by rfl) m_bool (by decide +kernel) rfl) pa_nil)))) (pe_one (pe_cmpR op_eq (pv 0) (pv 1) (nomark _)))))))))), ?_⟩
    cases d with
    | bl b => exact hs.elim
    | i z =>
      rw [ha.i, hb.i]
      refine ⟨_, rfl, _, _, _, _, false, rfl, .ty _, .base (.int _), kit_ty (by decide +kernel), ⟨_, rfl, iteF ?_⟩⟩
      refine ⟨_, rfl, rfl, _, rfl, iteF ?_⟩
      refine ⟨_, rfl, _, _, _, _, false, rfl, .ty _, .base (.int _), kit_ty (by decide +kernel), ⟨_, rfl, iteF ?_⟩⟩
      refine ⟨_, rfl, _, _, _, _, true, rfl, .ty _, .base (.int _), kit_ty (by decide +kernel), ⟨_, rfl, iteT ?_⟩⟩
      refine ⟨_, rfl, _, _, _, _, false, rfl, .ty _, .base (.int _), kit_ty (by decide +kernel), ⟨_, rfl, ⟨_, rfl, iteT ?_⟩⟩⟩
      refine ⟨_, rfl, _, rfl, rfl, ?_⟩
      rw [decide_eq_true rfl]
      exact k H (Ext.refl _ _ _)
    | non =>
      unfold RpK at ha hb
      subst ha hb
      refine ⟨_, rfl, _, _, _, _, false, rfl, .ty _, .base (.non), kit_ty (by decide +kernel), ⟨_, rfl, iteF ?_⟩⟩
      refine ⟨_, rfl, rfl, _, rfl, iteT ?_⟩
      exact ⟨_, rfl, rfl, k H (Ext.refl _ _ _)⟩
    | t ds =>
      obtain ⟨a1, v1, rfl, h1, r1⟩ := ha.t
      obtain ⟨a2, v2, rfl, h2, r2⟩ := hb.t
      obtain ⟨hlen, hsm⟩ := hs
      have hl1 := r1.len
      have hl2 := r2.len
      have e12 : v1.length = v2.length := by omega
      refine ⟨_, rfl, _, _, _, _, true, rfl, .ty _, tyx_tup h2, kit_ty (by decide +kernel), ⟨_, rfl, iteT ?_⟩⟩
      refine ⟨_, rfl, _, _, _, _, true, rfl, .ty _, tyx_tup h1, kit_ty (by decide +kernel), ⟨_, rfl, iteF ?_⟩⟩
      refine ⟨_, rfl, a1, v1, rfl, .inr (h1), _, rfl, a2, v2, rfl, .inr (h2), rfl, _, rfl, ?_⟩
      refine ite2 (fun q => ?_) (fun q => ?_)
      · exfalso; rw [e12] at q; simp at q
      refine ⟨_, rfl, a2, v2, rfl, .inr (h2), v2.length, rfl, by omega, by omega, fun Dl hD => ?_⟩
      have e1 : Ext T noM H (upd H Dl (.lst [])) := Ext.new hD
      refine lc_range (lo := 0) (n := ((v2.length : Int) - 0).toNat) (fun j H' => Ext T noM H H' ∧ H' Dl = some (.lst [])) ⟨e1, upd_same⟩ ?_ ?_
      · rintro j H3 hj ⟨e, hD3⟩
        have hj' : j < ds.length := by omega
        obtain ⟨x1, g1, p1⟩ := r1.get (List.getElem?_eq_getElem hj')
        obtain ⟨x2, g2, p2⟩ := r2.get (List.getElem?_eq_getElem hj')
        have hz : (0 : Int) + (j : Int) = (j : Int) := Int.zero_add _
        rw [hz]
        refine ⟨rfl, ?_⟩
        refine ⟨_, rfl, _, rfl, a1, _, _, _, rfl, rfl, SqT.x h1 e fun z => z, at_of (j := j) rfl g1, _, rfl, _, rfl, a2, _, _, _, rfl, rfl, SqT.x h2 e fun z => z, at_of (j := j) rfl g2, x1, x2, ds[j], rfl, RpK.x e p1, RpK.x e p2, hsm _ (List.getElem_mem hj'), fun H4 e4 => ⟨_, rfl, iteF ⟨e.trans e4, e4.lst (fun z => z) hD3⟩⟩⟩
      · rintro H3 ⟨e, hD3⟩
        refine ⟨Dl, [], rfl, .inl (SqL.of hD3), rfl, ?_⟩
        exact k H3 e
end
section
variable {P : Program} {w : World} {K : PySem.W.Frag} {mg : Str → Option Value} {base : Heap} {T : List Addr}
theorem same_all {f : Addr} {fd : FuncData} (F : Fun K "_law_same" "_law_same" s_law_same f fd) (m_isinstance : mg "isinstance" = none) (m_tuple : mg "tuple" = none) (m_str : mg "str" = none) (m_int : mg "int" = none) (m_len : mg "len" = none) (m_bool : mg "bool" = none)
    (m_range : mg "range" = none) (b : Binds K fd ["actual", "due"] []) (g : mg "_law_same" = some (.ref f)) : ∀ n, FnOk P w K mg base CX0 n f fd ["actual", "due"] (spSame K n T)
  | 0 => ⟨fun vs H Q E h => by obtain ⟨x, y, d, rfl, _⟩ := h; rfl, fun A outer s H args us vs Q E hr he hb hv hs => by obtain ⟨x, y, d, rfl, _, _, hs, _⟩ := hs; exact hs.elim⟩
  | n + 1 => ok__law_same F m_isinstance m_tuple m_str m_int m_len m_bool m_range F (same_all F m_isinstance m_tuple m_str m_int m_len m_bool m_range b g n) b g
end
end Mw

set_option Elab.async false
set_option linter.all false
set_option maxRecDepth 100000
set_option maxHeartbeats 4000000
namespace Mw
open PySem PySem.Spec PyProof.Rows L2 GE
def spLaw (K : PySem.W.Frag) (T : List Addr) : Sp := fun vs H Q _ => ∃ (a : Addr) (ns : List Int), vs = [.ref a] ∧ SqL K H a (ns.map V.int) ∧ ns.length ≤ 63 ∧ Wd T H ∧ ∀ H', Q (.bl true) H'
theorem gro_GF {n : Nat} {ws : Wl} {ps : List Pr} (W : WsOk n ws) (J : ∀ q ∈ ps, Cn (wedges ws) q.1 q.2) : ∀ (k t : Nat) (S : Gs) (L : List Rw), GF n ws t S → L.length ≤ t + 1 → ∃ t', GF n ws t' (gro n ws ps k S L).1 ∧ (gro n ws ps k S L).2.length ≤ t' + 1
  | 0, t, S, L, G, hL => ⟨t, G, hL⟩
  | k + 1, t, S, L, G, hL => by
    by_cases h : opens n ps S.h = []
    · rw [gro_stop h]; exact ⟨t, G, hL⟩
    · have e : gro n ws ps (k + 1) S L = gro n ws ps k (turn n ws ps S) (L ++ [((turn n ws ps S).time, (turn n ws ps S).h)]) := if_neg h
      rw [e]
      exact gro_GF W J k (t + 1) _ _ (G.turn W J h).2 (by rw [List.length_append, List.length_singleton]; omega)
theorem allGro_GF {n : Nat} {ws : Wl} {ps : List Pr} (W : WsOk n ws) (J : ∀ q ∈ ps, Cn (wedges ws) q.1 q.2) : ∃ t, GF n ws t (allGro n ws ps).1 ∧ (allGro n ws ps).2.length ≤ t + 1 := gro_GF W J n 0 start _ (GF.start W) (Nat.le_refl _)
section
variable {P : Program} {w : World} {K : PySem.W.Frag} {mg : Str → Option Value} {base : Heap} {T : List Addr} {aC : Addr}
end
end Mw

set_option Elab.async false
set_option linter.all false
set_option maxRecDepth 100000
set_option maxHeartbeats 4000000
namespace Mw
open PySem PySem.Spec PyProof.Rows L2 GE
def outc (c : Nat) (cs : List Nat) : List Nat := cs.filter fun x => decide (x ≠ c)
def spr (ws : List Wy) (cs : List Nat) (ps : List Pr) : Option Nat := cs.find? fun c => jn ws (outc c cs) ps
def optV : Option Nat → V
  | some c => .int (c : Nat)
  | none => .non
theorem Ch.out {m : Nat} {cs : List Nat} (C : Ch m cs) (c : Nat) : Ch m (outc c cs) := ⟨fun x hx => C.lt x (List.mem_filter.mp hx).1, C.asc.filter _⟩
theorem outc_len (c : Nat) (cs : List Nat) : (outc c cs).length ≤ cs.length := List.length_filter_le _ _
theorem find_at {α : Type} {f : α → Bool} {l : List α} {i : Nat} {x : α} (hx : l[i]? = some x) (hb : ∀ y ∈ l.take i, f y = false) (h : f x = true) : l.find? f = some x := by
  have hi := (List.getElem?_eq_some_iff.mp hx).1
  have e : l = l.take i ++ x :: l.drop (i + 1) := by
    have e1 := List.take_append_drop i l
    have e2 : l.drop i = x :: l.drop (i + 1) := by
      rw [List.drop_eq_getElem_cons hi]
      congr 1
      exact (List.getElem?_eq_some_iff.mp hx).2
    rw [← e2, e1]
  rw [e, List.find?_append, List.find?_eq_none.mpr fun y hy => by rw [hb y hy]; exact Bool.false_ne_true]
  simp [h]
theorem find_no {α : Type} {f : α → Bool} {l : List α} (hb : ∀ y ∈ l, f y = false) : l.find? f = none := List.find?_eq_none.mpr fun y hy => by rw [hb y hy]; exact Bool.false_ne_true
/-! ### forests -/
theorem Cn.snoc_iff {es : List (Nat × Nat)} {a b x y : Nat} : Cn (es ++ [(a, b)]) x y ↔ Cn es x y ∨ (Cn es x a ∧ Cn es b y) ∨ (Cn es x b ∧ Cn es a y) := by
  constructor
  · intro h
    induction h with
    | refl => exact .inl (.refl _)
    | fwd _ he ih =>
      rcases List.mem_append.mp he with q | q
      · rcases ih with z | ⟨z1, z2⟩ | ⟨z1, z2⟩
        · exact .inl (z.fwd q)
        · exact .inr (.inl ⟨z1, z2.fwd q⟩)
        · exact .inr (.inr ⟨z1, z2.fwd q⟩)
      · have e := List.mem_singleton.mp q
        injection e with e1 e2
        subst e1 e2
        rcases ih with z | ⟨z1, z2⟩ | ⟨z1, z2⟩
        · exact .inr (.inl ⟨z, .refl _⟩)
        · exact .inr (.inl ⟨z1, .refl _⟩)
        · exact .inl z1
    | bwd _ he ih =>
      rcases List.mem_append.mp he with q | q
      · rcases ih with z | ⟨z1, z2⟩ | ⟨z1, z2⟩
        · exact .inl (z.bwd q)
        · exact .inr (.inl ⟨z1, z2.bwd q⟩)
        · exact .inr (.inr ⟨z1, z2.bwd q⟩)
      · have e := List.mem_singleton.mp q
        injection e with e1 e2
        subst e1 e2
        rcases ih with z | ⟨z1, z2⟩ | ⟨z1, z2⟩
        · exact .inr (.inr ⟨z, .refl _⟩)
        · exact .inl z1
        · exact .inr (.inr ⟨z1, .refl _⟩)
  · have up : ∀ {u v : Nat}, Cn es u v → Cn (es ++ [(a, b)]) u v := fun c => c.mono fun e he => List.mem_append_left _ he
    have ab : Cn (es ++ [(a, b)]) a b := .fwd (.refl _) (List.mem_append_right _ (List.mem_singleton.mpr rfl))
    rintro (z | ⟨z1, z2⟩ | ⟨z1, z2⟩)
    · exact up z
    · exact ((up z1).trans ab).trans (up z2)
    · exact ((up z1).trans ab.symm).trans (up z2)
theorem mem_outc {c x : Nat} {cs : List Nat} : x ∈ outc c cs ↔ x ∈ cs ∧ x ≠ c := by unfold outc; rw [List.mem_filter, decide_eq_true_eq]
theorem mem_edg {ws : List Wy} {cs : List Nat} {e : Nat × Nat} : e ∈ edg ws cs ↔ ∃ c ∈ cs, e = ((wyAt ws c).1, (wyAt ws c).2.1) := by
  unfold edg; rw [List.mem_map]
  exact ⟨fun ⟨c, h1, h2⟩ => ⟨c, h1, h2.symm⟩, fun ⟨c, h1, h2⟩ => ⟨c, h1, h2.symm⟩⟩
theorem edg_mono {ws : List Wy} {cs ds : List Nat} (h : ∀ x ∈ cs, x ∈ ds) : ∀ e ∈ edg ws cs, e ∈ edg ws ds := fun e he => by
  obtain ⟨c, h1, h2⟩ := mem_edg.mp he
  exact mem_edg.mpr ⟨c, h c h1, h2⟩
theorem edg_in {ws : List Wy} {cs : List Nat} {c : Nat} (h : c ∈ cs) : Cn (edg ws cs) (wyAt ws c).1 (wyAt ws c).2.1 := .fwd (.refl _) (mem_edg.mpr ⟨c, h, rfl⟩)
structure Fo (ws : List Wy) (cs : List Nat) : Prop where
  nd : cs.Nodup
  br : ∀ c ∈ cs, ¬ Cn (edg ws (outc c cs)) (wyAt ws c).1 (wyAt ws c).2.1
theorem Fo.nil (ws : List Wy) : Fo ws [] := ⟨List.nodup_nil, fun c h => nomatch h⟩
theorem Fo.snoc {ws : List Wy} {cs : List Nat} {c : Nat} (F : Fo ws cs) (h : ¬ Cn (edg ws cs) (wyAt ws c).1 (wyAt ws c).2.1) : Fo ws (cs ++ [c]) := by
  have hc : c ∉ cs := fun z => h (edg_in z)
  refine ⟨by rw [List.nodup_append]; exact ⟨F.nd, List.nodup_cons.mpr ⟨(fun h => nomatch h), List.nodup_nil⟩, fun a ha b hb z => hc (by rw [← List.mem_singleton.mp hb, ← z]; exact ha)⟩, fun d hd => ?_⟩
  have es : ∀ e ∈ edg ws [c], e = ((wyAt ws c).1, (wyAt ws c).2.1) := fun e he => by
    obtain ⟨x, h1, h2⟩ := mem_edg.mp he
    rw [h2, List.mem_singleton.mp h1]
  by_cases e : d = c
  · subst e
    exact fun z => h (z.mono (edg_mono fun x hx => by
      obtain ⟨h1, h2⟩ := mem_outc.mp hx
      rcases List.mem_append.mp h1 with q | q
      · exact q
      · exact absurd (List.mem_singleton.mp q) h2))
  · have hd' : d ∈ cs := by
      rcases List.mem_append.mp hd with q | q
      · exact q
      · exact absurd (List.mem_singleton.mp q) e
    intro z
    have z2 : Cn (edg ws (outc d cs) ++ [((wyAt ws c).1, (wyAt ws c).2.1)]) (wyAt ws d).1 (wyAt ws d).2.1 := z.mono fun u hu => by
      obtain ⟨x, h1, h2⟩ := mem_edg.mp hu
      obtain ⟨h3, h4⟩ := mem_outc.mp h1
      rcases List.mem_append.mp h3 with q | q
      · exact List.mem_append_left _ (mem_edg.mpr ⟨x, mem_outc.mpr ⟨q, h4⟩, h2⟩)
      · rw [h2, List.mem_singleton.mp q]; exact List.mem_append_right _ (List.mem_singleton.mpr rfl)
    have up : ∀ {u v : Nat}, Cn (edg ws (outc d cs)) u v → Cn (edg ws cs) u v := fun c => c.mono (edg_mono fun x hx => (mem_outc.mp hx).1)
    have dd := edg_in (ws := ws) hd'
    rcases Cn.snoc_iff.mp z2 with q | ⟨q1, q2⟩ | ⟨q1, q2⟩
    · exact F.br d hd' q
    · exact h (((up q1).symm.trans dd).trans (up q2).symm)
    · exact h (((up q2).trans dd.symm).trans (up q1))
theorem jn_iff {n : Nat} {ws : List Wy} {cs : List Nat} {ps : List Pr} (W : Wf n ws) (ok : PsOk n ps) (hc : ∀ c ∈ cs, c < ws.length) : jn ws cs ps = true ↔ ∀ p ∈ ps, Cn (edg ws cs) p.1 p.2 := by
  unfold jn jn1
  rw [List.all_eq_true]
  exact ⟨fun h p hp => ((hom_ok W cs hc).iff p.1 p.2 (by have := ok.ok p hp; omega) (ok.ok p hp).2).mp (of_decide_eq_true (h p hp)), fun h p hp => decide_eq_true (((hom_ok W cs hc).iff p.1 p.2 (by have := ok.ok p hp; omega) (ok.ok p hp).2).mpr (h p hp))⟩
theorem jn_mono {n : Nat} {ws : List Wy} {cs ds : List Nat} {ps : List Pr} (W : Wf n ws) (ok : PsOk n ps) (hd : ∀ c ∈ ds, c < ws.length) (h : ∀ x ∈ cs, x ∈ ds) (j : jn ws cs ps = true) : jn ws ds ps = true :=
  (jn_iff W ok hd).mpr fun p hp => ((jn_iff W ok fun c hc => hd c (h c hc)).mp j p hp).mono (edg_mono h)
/-- a way that is not needed in the whole is not needed in a part that joins -/
theorem prune {n : Nat} {ws : List Wy} {F kept : List Nat} {ps : List Pr} {c : Nat} (W : Wf n ws) (ok : PsOk n ps) (FO : Fo ws F) (hF : ∀ c ∈ F, c < ws.length) (hk : ∀ x ∈ kept, x ∈ F) (jk : jn ws kept ps = true) (jc : jn ws (outc c F) ps = true) : jn ws (outc c kept) ps = true := by
  have kl : ∀ x ∈ kept, x < ws.length := fun x hx => hF x (hk x hx)
  have ol : ∀ x ∈ outc c kept, x < ws.length := fun x hx => kl x (mem_outc.mp hx).1
  refine (jn_iff W ok ol).mpr fun p hp => ?_
  have h1 := (jn_iff W ok kl).mp jk p hp
  have h2 := (jn_iff W ok (fun x hx => hF x (mem_outc.mp hx).1)).mp jc p hp
  have h3 : Cn (edg ws (outc c kept) ++ [((wyAt ws c).1, (wyAt ws c).2.1)]) p.1 p.2 := h1.mono fun u hu => by
    obtain ⟨x, q1, q2⟩ := mem_edg.mp hu
    by_cases e : x = c
    · rw [q2, e]; exact List.mem_append_right _ (List.mem_singleton.mpr rfl)
    · exact List.mem_append_left _ (mem_edg.mpr ⟨x, mem_outc.mpr ⟨q1, e⟩, q2⟩)
  by_cases hc : c ∈ kept
  · have up : ∀ {u v : Nat}, Cn (edg ws (outc c kept)) u v → Cn (edg ws (outc c F)) u v := fun z => z.mono (edg_mono fun x hx => mem_outc.mpr ⟨hk x (mem_outc.mp hx).1, (mem_outc.mp hx).2⟩)
    rcases Cn.snoc_iff.mp h3 with q | ⟨q1, q2⟩ | ⟨q1, q2⟩
    · exact q
    · exact absurd (((up q1).symm.trans h2).trans (up q2).symm) (FO.br c (hk c hc))
    · exact absurd (((up q2).trans h2.symm).trans (up q1)) (FO.br c (hk c hc))
  · exact h1.mono (edg_mono fun x hx => mem_outc.mpr ⟨hx, fun e => hc (by rw [← e]; exact hx)⟩)
/-- the taken ways -/
def tkn (S : Gs) : List Nat := S.taken.map (·.2)
structure TkOk (ws : Wl) (S : Gs) : Prop where
  h : S.h = hom ws (tkn S)
  fo : Fo ws (tkn S)
  lt : ∀ c ∈ tkn S, c < ws.length
theorem TkOk.take {n : Nat} {ws : Wl} {S : Gs} {c : Nat} (W : Wf n ws) (T : TkOk ws S) (hc : c < ws.length) (hx : crosses ws S c = true) : TkOk ws (take1 ws S c) := by
  have e : tkn (take1 ws S c) = tkn S ++ [c] := by unfold tkn take1; rw [List.map_append]; rfl
  have ok := (wy_ok W hc).2
  refine ⟨?_, ?_, fun x hx => ?_⟩
  · rw [e, hom_snoc, ← T.h]; rfl
  · rw [e]
    refine T.fo.snoc fun z => ?_
    have := ((hom_ok W (tkn S) T.lt).iff _ _ (Nat.lt_trans ok.1 ok.2.1) ok.2.1).mpr z
    rw [← T.h] at this
    exact of_decide_eq_true hx this
  · rw [e] at hx
    rcases List.mem_append.mp hx with q | q
    · exact T.lt x q
    · rw [List.mem_singleton.mp q]; exact hc
theorem TkOk.takeAll {n : Nat} {ws : Wl} (W : Wf n ws) : ∀ (k : Nat) {S : Gs}, TkOk ws S → TkOk ws (takeAll ws k S)
  | 0, S, T => T
  | k + 1, S, T => by
    cases e : first ws S with
    | none => rw [takeAll_stop e]; exact T
    | some c =>
      rw [takeAll_go e]
      obtain ⟨hc, hx, _⟩ := first_some e
      exact TkOk.takeAll W k (T.take W hc hx)
theorem TkOk.start (ws : Wl) : TkOk ws Mw.start := ⟨rfl, Fo.nil ws, fun c h => nomatch h⟩
theorem TkOk.gro {n : Nat} {ws : Wl} {ps : List Pr} (W : Wf n ws) : ∀ (k : Nat) (S : Gs) (L : List Rw), TkOk ws S → TkOk ws (gro n ws ps k S L).1
  | 0, S, L, T => T
  | k + 1, S, L, T => by
    by_cases h : opens n ps S.h = []
    · rw [gro_stop h]; exact T
    · have e : Mw.gro n ws ps (k + 1) S L = Mw.gro n ws ps k (turn n ws ps S) (L ++ [((turn n ws ps S).time, (turn n ws ps S).h)]) := if_neg h
      rw [e]
      refine TkOk.gro W k _ _ (TkOk.takeAll W n ?_)
      exact ⟨T.h, T.fo, T.lt⟩
theorem gro_end {n : Nat} {ws : Wl} {ps : List Pr} (W : WsOk n ws) (J : ∀ q ∈ ps, Cn (wedges ws) q.1 q.2) : ∀ (k t : Nat) (S : Gs) (L : List Rw), GF n ws t S → k + t = n → opens n ps (gro n ws ps k S L).1.h = []
  | 0, t, S, L, G, e => by
    have := G.c
    show opens n ps S.h = []
    have hr : reps S.h n = [] := List.eq_nil_of_length_eq_zero (by omega)
    unfold opens; rw [hr]; rfl
  | k + 1, t, S, L, G, e => by
    by_cases h : opens n ps S.h = []
    · rw [gro_stop h]; exact h
    · have e2 : gro n ws ps (k + 1) S L = gro n ws ps k (turn n ws ps S) (L ++ [((turn n ws ps S).time, (turn n ws ps S).h)]) := if_neg h
      rw [e2]
      exact gro_end W J k (t + 1) _ _ (G.turn W J h).2 (by omega)
/-- all pairs are joined in the end -/
theorem opens_jn {n : Nat} {ws : Wl} {ps : List Pr} {S : Gs} {es : List (Nat × Nat)} (HM : Hom n es S.h) (ok : PsOk n ps) (h : opens n ps S.h = []) : ∀ p ∈ ps, S.h p.1 = S.h p.2 := fun p hp => Classical.byContradiction fun z => by
  obtain ⟨o1, o2⟩ := ok.ok p hp
  have h1 : p.1 < n := by omega
  have hm : S.h p.1 ∈ opens n ps S.h := by
    unfold opens
    refine List.mem_filter.mpr ⟨mem_reps'.mpr ⟨Nat.lt_of_le_of_lt (HM.le _ h1) h1, HM.idem _ h1⟩, List.any_eq_true.mpr ⟨p, hp, ?_⟩⟩
    unfold parted
    rw [decide_eq_true rfl, decide_eq_false fun y => z y.symm]; rfl
  rw [h] at hm; cases hm
abbrev tkF (n : Nat) (ws : Wl) (ps : List Pr) : List Nat := tkn (allGro n ws ps).1
theorem tkF_ok {n : Nat} {ws : Wl} {ps : List Pr} (W : Wf n ws) (ok : PsOk n ps) (J : ∀ q ∈ ps, Cn (wedges ws) q.1 q.2) : TkOk ws (allGro n ws ps).1 ∧ jn ws (tkF n ws ps) ps = true ∧ (tkF n ws ps).length ≤ n := by
  have Wo := wf_ok W
  have T := TkOk.gro (ps := ps) W n start [(0, start.h)] (TkOk.start ws)
  obtain ⟨t, GG, _⟩ := allGro_GF (ps := ps) Wo J
  refine ⟨T, ?_, by have := GG.tk; unfold tkF tkn; rw [List.length_map]; omega⟩
  have he := gro_end (ps := ps) Wo J n 0 start [(0, start.h)] (GF.start Wo) (Nat.add_zero n)
  obtain ⟨es, HM⟩ := GG.g.hom
  have h2 := opens_jn (ws := ws) HM ok he
  unfold jn
  rw [List.all_eq_true]
  intro p hp
  have h3 := h2 p hp
  have h4 : (allGro n ws ps).1.h = hom ws (tkF n ws ps) := T.h
  unfold jn1
  rw [← h4]; exact decide_eq_true h3
def need (n : Nat) (ws : Wl) (ps : List Pr) (c : Nat) : Bool := !jn ws (outc c (tkF n ws ps)) ps
def tkS (n : Nat) (ws : Wl) (ps : List Pr) : List Nat := (List.range ws.length).filter fun c => decide (c ∈ tkF n ws ps)
def toldL (n : Nat) (ws : Wl) (ps : List Pr) : List Nat := (tkS n ws ps).filter (need n ws ps)
theorem tkS_pw (n : Nat) (ws : Wl) (ps : List Pr) : (tkS n ws ps).Pairwise (· < ·) := (range_pw _).filter _
theorem toldL_pw (n : Nat) (ws : Wl) (ps : List Pr) : (toldL n ws ps).Pairwise (· < ·) := (tkS_pw n ws ps).filter _
theorem mem_tkS {n : Nat} {ws : Wl} {ps : List Pr} (T : TkOk ws (allGro n ws ps).1) {c : Nat} : c ∈ tkS n ws ps ↔ c ∈ tkF n ws ps := by
  unfold tkS; rw [List.mem_filter, List.mem_range, decide_eq_true_eq]
  exact ⟨fun h => h.2, fun h => ⟨T.lt c h, h⟩⟩
theorem mem_told {n : Nat} {ws : Wl} {ps : List Pr} (T : TkOk ws (allGro n ws ps).1) {c : Nat} : c ∈ toldL n ws ps ↔ c ∈ tkF n ws ps ∧ need n ws ps c = true := by
  unfold toldL; rw [List.mem_filter, mem_tkS T]
/-- what is left when the ways of dn were looked at -/
def keptL (n : Nat) (ws : Wl) (ps : List Pr) (dn : List Nat) : List Nat := (tkS n ws ps).filter fun x => decide (x ∉ dn) || need n ws ps x
theorem kept_step {n : Nat} {ws : Wl} {ps : List Pr} (W : Wf n ws) (ok : PsOk n ps) (T : TkOk ws (allGro n ws ps).1) {dn : List Nat} {c : Nat} (hc : c ∈ tkF n ws ps) (hd : c ∉ dn) (j : jn ws (keptL n ws ps dn) ps = true) :
    (jn ws (outc c (keptL n ws ps dn)) ps = true → keptL n ws ps (dn ++ [c]) = outc c (keptL n ws ps dn)) ∧ (jn ws (outc c (keptL n ws ps dn)) ps = false → keptL n ws ps (dn ++ [c]) = keptL n ws ps dn) ∧ jn ws (keptL n ws ps (dn ++ [c])) ps = true := by
  have kin : ∀ x ∈ keptL n ws ps dn, x ∈ tkF n ws ps := fun x hx => (mem_tkS T).mp (List.mem_filter.mp hx).1
  have h1 : need n ws ps c = false → keptL n ws ps (dn ++ [c]) = outc c (keptL n ws ps dn) := fun hn => by
    unfold keptL outc
    rw [List.filter_filter]
    refine List.filter_congr fun x hx => ?_
    by_cases e : x = c
    · subst e
      simp [hn]
    · simp [e]
  have h2 : need n ws ps c = true → keptL n ws ps (dn ++ [c]) = keptL n ws ps dn := fun hn => by
    unfold keptL
    refine List.filter_congr fun x hx => ?_
    by_cases e : x = c
    · subst e
      simp [hn]
    · simp [e]
  cases hn : need n ws ps c with
  | false =>
    have jc : jn ws (outc c (tkF n ws ps)) ps = true := by
      unfold need at hn
      cases q : jn ws (outc c (tkF n ws ps)) ps with
      | true => rfl
      | false => rw [q] at hn; cases hn
    have jp := prune W ok T.fo T.lt kin j jc
    exact ⟨fun _ => h1 hn, fun q => by rw [jp] at q; (first | cases q | exact absurd q (by simp)), by rw [h1 hn]; exact jp⟩
  | true =>
    have jc : jn ws (outc c (tkF n ws ps)) ps = false := by
      unfold need at hn
      cases q : jn ws (outc c (tkF n ws ps)) ps with
      | true => rw [q] at hn; cases hn
      | false => rfl
    refine ⟨fun q => ?_, fun _ => h2 hn, by rw [h2 hn]; exact j⟩
    have := jn_mono W ok (fun x hx => T.lt x (mem_outc.mp hx).1) (fun x hx => mem_outc.mpr ⟨kin x (mem_outc.mp hx).1, (mem_outc.mp hx).2⟩) q
    rw [jc] at this; cases this
theorem kept_all {n : Nat} {ws : Wl} {ps : List Pr} (T : TkOk ws (allGro n ws ps).1) {dn : List Nat} (h : ∀ x ∈ tkF n ws ps, x ∈ dn) : keptL n ws ps dn = toldL n ws ps := by
  unfold keptL toldL
  refine List.filter_congr fun x hx => ?_
  have := h x ((mem_tkS T).mp hx)
  simp [this]
theorem kept_nil (n : Nat) (ws : Wl) (ps : List Pr) : keptL n ws ps [] = tkS n ws ps := by
  unfold keptL
  exact List.filter_eq_self.mpr fun x _ => by simp
theorem tkS_jn {n : Nat} {ws : Wl} {ps : List Pr} (W : Wf n ws) (ok : PsOk n ps) (T : TkOk ws (allGro n ws ps).1) (j : jn ws (tkF n ws ps) ps = true) : jn ws (tkS n ws ps) ps = true :=
  jn_mono W ok (fun c hc => T.lt c ((mem_tkS T).mp hc)) (fun x hx => (mem_tkS T).mpr hx) j
/-- told joins, and none is spare -/
theorem told_jn {n : Nat} {ws : Wl} {ps : List Pr} (W : Wf n ws) (ok : PsOk n ps) (T : TkOk ws (allGro n ws ps).1) (j : jn ws (tkF n ws ps) ps = true) : jn ws (toldL n ws ps) ps = true := by
  have key : ∀ l : List Nat, l.Nodup → (∀ x ∈ l, x ∈ tkF n ws ps) → ∀ dn : List Nat, (∀ x ∈ l, x ∉ dn) → jn ws (keptL n ws ps dn) ps = true → jn ws (keptL n ws ps (dn ++ l)) ps = true := by
    intro l
    induction l with
    | nil => intro _ _ dn _ h; rw [List.append_nil]; exact h
    | cons c l ih =>
      intro nd hin dn hdn h
      obtain ⟨n1, n2⟩ := List.nodup_cons.mp nd
      have h3 := (kept_step W ok T (hin c List.mem_cons_self) (hdn c List.mem_cons_self) h).2.2
      have := ih n2 (fun x hx => hin x (List.mem_cons_of_mem _ hx)) (dn ++ [c]) (fun x hx q => by
        rcases List.mem_append.mp q with q | q
        · exact hdn x (List.mem_cons_of_mem _ hx) q
        · exact n1 (by rw [← List.mem_singleton.mp q]; exact hx)) h3
      rw [List.append_assoc] at this
      exact this
  have := key (tkF n ws ps) T.fo.nd (fun x hx => hx) [] (fun x _ h => nomatch h) (by rw [kept_nil]; exact tkS_jn W ok T j)
  rw [List.nil_append, kept_all T fun x hx => hx] at this
  exact this
theorem told_spr {n : Nat} {ws : Wl} {ps : List Pr} (W : Wf n ws) (ok : PsOk n ps) (T : TkOk ws (allGro n ws ps).1) : spr ws (toldL n ws ps) ps = none := by
  refine find_no fun c hc => ?_
  obtain ⟨h1, h2⟩ := (mem_told T).mp hc
  unfold need at h2
  cases q : jn ws (outc c (toldL n ws ps)) ps with
  | false => rfl
  | true =>
    have := jn_mono W ok (fun x hx => T.lt x (mem_outc.mp hx).1) (fun x hx => mem_outc.mpr ⟨((mem_told T).mp (mem_outc.mp hx).1).1, (mem_outc.mp hx).2⟩) q
    rw [this] at h2; cases h2
theorem told_ch {n : Nat} {ws : Wl} {ps : List Pr} (T : TkOk ws (allGro n ws ps).1) : Ch ws.length (toldL n ws ps) := ⟨fun c hc => T.lt c ((mem_told T).mp hc).1, toldL_pw n ws ps⟩
theorem sort_all {ns : List Int} {f l : List Nat} (h : ns.Perm (f.map fun x : Nat => (x : Int))) (s : ns.Pairwise (· ≤ ·)) (nd : f.Nodup) (pl : l.Pairwise (· < ·)) (hl : ∀ x, x ∈ l ↔ x ∈ f) : ns = l.map fun x : Nat => (x : Int) := by
  obtain ⟨l', e, p, hm⟩ := sort_nats h s nd
  rw [e, sorted_ext p pl fun x => (hm x).trans (hl x).symm]
theorem TkL.at_ {K : PySem.W.Frag} {H : Hp} : ∀ {l : List (Int × Nat)} {vs : List V} {i : Nat} {t : Int} {c : Nat}, TkL K H l vs → l[i]? = some (t, c) → ∃ a tv, vs[i]? = some (V.ref a) ∧ H a = some (.tup [tv, .int (c : Nat)])
  | [], vs, i, t, c, _, e => by simp at e
  | (s, d) :: r, vs, 0, t, c, ⟨a, tv, us, e, h1, h2, h3⟩, q => by
    subst e
    have : (s, d) = (t, c) := by simpa using q
    injection this with e1 e2
    subst e1 e2
    exact ⟨a, tv, rfl, h1⟩
  | (s, d) :: r, vs, i + 1, t, c, ⟨a, tv, us, e, h1, h2, h3⟩, q => by
    subst e
    obtain ⟨b, bv, q1, q2⟩ := TkL.at_ (i := i) h3 (by simpa using q)
    exact ⟨b, bv, by simpa using q1, q2⟩
def spWithout (T : List Addr) : Sp := fun vs H Q _ => ∃ (ch : V) (cs : List Nat) (c : Nat), vs = [ch, .int (c : Nat)] ∧ Rp H (chD cs) ch ∧ cs.length ≤ 24 ∧ Wd T H ∧ ∀ u H', Rp H' (chD (outc c cs)) u → Ext T noM H H' → Q u H'
def spJoins (T : List Addr) : Sp := fun vs H Q _ => ∃ (net pz ch : V) (n : Nat) (ws : List Wy) (cs : List Nat) (ps : List Pr), vs = [net, pz, ch] ∧ Task H n ws cs net ch ∧ Rp H (pairsD ps) pz ∧ PsOk n ps ∧ Wd T H ∧ ∀ H', Ext T noM H H' → Q (.bl (jn ws cs ps)) H'
def spSpare (T : List Addr) : Sp := fun vs H Q _ => ∃ (net pz ch : V) (n : Nat) (ws : List Wy) (cs : List Nat) (ps : List Pr), vs = [net, pz, ch] ∧ Task H n ws cs net ch ∧ Rp H (pairsD ps) pz ∧ PsOk n ps ∧ Wd T H ∧ ∀ H', Ext T noM H H' → Q (optV (spr ws cs ps)) H'

def spTold (T : List Addr) : Sp := fun vs H Q _ => ∃ (net pz : V) (n : Nat) (ws : Wl) (ps : List Pr), vs = [net, pz] ∧ Wf n ws ∧ Rp H (netD n ws) net ∧ Rp H (pairsD ps) pz ∧ PsOk n ps ∧ (∀ q ∈ ps, Cn (wedges ws) q.1 q.2) ∧ Wd T H ∧
  ∀ u H', Rp H' (chD (toldL n ws ps)) u → Ext T noM H H' → Q u H'
def spLTold (T : List Addr) : Sp := fun vs H Q _ => ∃ (net pz : V) (n : Nat) (ws : Wl) (ps : List Pr), vs = [net, pz] ∧ Wf n ws ∧ Rp H (netD n ws) net ∧ Rp H (pairsD ps) pz ∧ PsOk n ps ∧ (∀ q ∈ ps, Cn (wedges ws) q.1 q.2) ∧
  ∀ u H', Rp H' (chD (toldL n ws ps)) u → Ext T noM H H' → Q u H'
section
variable {P : Program} {w : World} {K : PySem.W.Frag} {mg : Str → Option Value} {base : Heap} {T : List Addr} {aC : Addr}
theorem ok_joins {f : Addr} {fd : FuncData} {c PT : Addr} (F : GE.FunC K "joins" "joins" sjoins f fd c) (TB : GxR.TabB base mg c PT) (hPT : PT ∈ T) (m_all : mg "all" = none) {f_homes : Addr} {fd_homes : FuncData} (F_homes : Fun K "_homes" "_homes" s_homes f_homes fd_homes) (G_homes : FnOk P w K mg base CX0 2 f_homes fd_homes ["net", "choice"] (spHomes T)) (b_homes : Binds K fd_homes ["net", "choice"] []) (g_homes : mg "_homes" = some (.ref f_homes)) : FnOk P w K mg base CX0 3 f fd ["net", "pairs", "choice"] (spJoins T) := by
  refine F.ok scjoins (fun vs H Q E h => ?_) (fun A outer s H vs Q E hr h => ?_)
  · obtain ⟨net, pz, ch, n, ws, cs, ps, rfl, t, hps, ok, wd, k⟩ := h
    rfl
  · obtain ⟨net, pz, ch, n, ws, cs, ps, rfl, t, hps, ok, wd, k⟩ := h
    refine ⟨_, (pss_cons (ps_set (i := 3) scjoins.nd rfl (Or.inr rfl) (pe_call G_homes hr (by rfl) g_homes F_homes.kp b_homes .nil pass0 (pa_cons (pv 0) (pa_cons (pv 2) pa_nil))))
      (pss_one (ps_ret (GE.pe_allG (own := [("a", 4), ("b", 5)]) (k := 0) hr (by rfl) m_all scjoins.nd TB rfl (pi_tup (pv 1)) (GE.gblk_by (N := ["net", "pairs", "choice", "homes", "a", "b"]) (sc := defScope sjoins) (by decide +kernel)) (fun _ _ _ _ _ _ _ _ => (GE.pg_tupK (K := K) 2 (pgs_cons (pg_name (i := 4) scjoins.nd rfl (Or.inl rfl)) (pgs_cons (pg_name (i := 5) scjoins.nd rfl (Or.inl rfl)) pgs_nil)))) (fun _ _ _ _ _ _ _ _ hr' => pts_nil) (fun _ _ _ _ _ _ _ _ hr' => (pe_cmpR op_eq (pe_ix (GE.ix_listK (K := K)) (pv 3) (pv 4) (fun _ _ => rfl)) (pe_ix (GE.ix_listK (K := K)) (pv 3) (pv 5) (fun _ _ => rfl)) (nomark _))))))), ?_⟩
    have n12 := t.W.n12
    refine ⟨_, rfl, _, rfl, net, ch, n, ws, cs, rfl, t, fun l H2 hl hL e2 => ?_⟩
    obtain ⟨pa, pus, rfl, hpa, hpr⟩ := (Rp.x e2 hps).t
    have wd2 := wd.ext e2
    refine ⟨_, rfl, pa, rfl, ⟨_, SqT.of hpa⟩, wd2 PT hPT, fun H3 tb => ?_⟩
    have e3 : Ext T noM H2 H3 := Ext.tab (wd2 PT hPT) tb
    refine turn_tupI (K := K) (a := pa) (xs := pus) (fun i ys H' => ys.length = i ∧ (ps.take i).all (jn1 ws cs) = true ∧ Ext T noM H2 H') ⟨rfl, rfl, e3⟩ (fun i ys H' _ p => SqT.of (p.2.2.tup (fun z => z) hpa)) ?_ ?_
    · rintro ys H' ⟨_, hb, e⟩
      have hlen : pus.length = ps.length := by rw [hpr.len, List.length_map]
      rw [hlen, List.take_length] at hb
      have := k H' (e2.trans e)
      unfold jn at this
      rw [hb] at this
      exact this
    · rintro i x ys H' hx ⟨hyl, hb, e⟩ N hN
      have hi : i < ps.length := by
        have h1 := (List.getElem?_eq_some_iff.mp hx).1
        have h2 := hpr.len
        rw [List.length_map] at h2
        omega
      obtain ⟨x', hx', hr⟩ := hpr.get (i := i) (d := pairD ps[i]) (by rw [List.getElem?_map, List.getElem?_eq_getElem hi]; rfl)
      rw [hx] at hx'
      obtain rfl := Option.some.inj hx'
      obtain ⟨xa, rfl, hxa⟩ := pair_at (Rp.x e hr)
      obtain ⟨p1, p2⟩ := ok.ok _ (List.getElem_mem hi)
      have hL' := e.lst (fun z => z) hL
      have hpi : ps[i]? = some ps[i] := List.getElem?_eq_getElem hi
      have hln := ok.ln
      refine ⟨xa, _, rfl, SqT.of hxa, rfl, _, _, rfl, _, _, rfl, rfl, rfl, tYesI ?_⟩
      refine ⟨_, rfl, _, rfl, l, _, _, _, rfl, rfl, SqL.of hL', at_of (j := ps[i].1) rfl (hV_get (by omega)), _, rfl, _, rfl, l, _, _, _, rfl, rfl, SqL.of hL', at_of (j := ps[i].2) rfl (hV_get p2), rfl, ?_⟩
      refine ⟨small1000 (by omega), _, rfl, fun q => hN _ _ ⟨?_, all_take hpi hb ?_, e⟩, fun q => ?_⟩
      · rw [List.length_append, List.length_singleton, hyl]
      · exact decide_eq_true (vint_inj.mp (of_decide_eq_true q))
      · have hf : jn ws cs ps = false := all_no hpi (decide_eq_false fun z => of_decide_eq_false q (vint_inj.mpr z))
        have := k H' (e2.trans e)
        rw [hf] at this
        exact this
theorem ok_without {f : Addr} {fd : FuncData} {c PT : Addr} (F : GE.FunC K "without" "without" swithout f fd c) (TB : GxR.TabB base mg c PT) (hPT : PT ∈ T) (m_tuple : mg "tuple" = none) : FnOk P w K mg base CX0 3 f fd ["choice", "way"] (spWithout T) := by
  refine F.ok scwithout (fun vs H Q E h => ?_) (fun A outer s H vs Q E hr h => ?_)
  · obtain ⟨ch, cs, c, rfl, hch, hl24, wd, k⟩ := h
    rfl
  · obtain ⟨ch, cs, c, rfl, hch, hl24, wd, k⟩ := h
    refine ⟨_, (pss_one (ps_ret (GE.pe_tupG (own := [("other", 2)]) (g := (gName 2)) (k := 0) hr (by rfl) m_tuple scwithout.nd TB rfl (pi_tup (pv 0)) (GE.gblk_by (N := ["choice", "way", "other"]) (sc := defScope swithout) (by decide +kernel)) (fun _ _ _ _ _ _ _ _ => (pg_name (i := 2) scwithout.nd rfl (Or.inl rfl))) (fun _ _ _ _ _ _ _ _ hr' => (pts_one (pt_cmpR op_ne (pv 2) (pv 1) (nomark _)))) (fun _ _ _ _ _ _ _ _ hr' => (pv 2))))), ?_⟩
    obtain ⟨ca, rfl, hca⟩ := ch_at hch
    refine ⟨_, rfl, ca, rfl, ⟨_, SqT.of hca⟩, wd PT hPT, fun H2 tb => ?_⟩
    have e2 : Ext T noM H H2 := Ext.tab (wd PT hPT) tb
    refine turn_tupI (K := K) (a := ca) (xs := cs.map fun (c : Nat) => V.int (c : Int)) (fun i ys H' => ys = natsV (outc c (cs.take i)) ∧ Ext T noM H H') ⟨rfl, e2⟩ (fun i ys H' _ p => SqT.of (p.2.tup (fun z => z) hca)) ?_ ?_
    · rintro ys H' ⟨rfl, e⟩ q hq
      rw [List.length_map, List.take_length]
      exact k _ _ (rp_ch upd_same) (e.trans (Ext.new hq))
    · rintro i x ys H' hx ⟨rfl, e⟩ N hN
      obtain ⟨d, hd, rfl⟩ := nats_at hx
      have hsn : outc c (cs.take (i + 1)) = outc c (cs.take i) ++ if d = c then [] else [d] := by
        rw [take_succ' hd]; unfold outc; rw [List.filter_append]
        by_cases z : d = c <;> simp [z]
      refine ⟨rfl, ?_⟩
      refine ⟨_, rfl, _, rfl, rfl, _, rfl, ?_⟩
      refine ite2 (fun q => ?_) (fun q => ?_)
      · have z : ¬ d = c := fun z => by rw [z] at q; simp at q
        rw [if_neg z] at hsn
        refine ⟨_, rfl, ?_, hN _ _ ⟨?_, e⟩⟩
        · have h1 := outc_len c (cs.take i)
          have h2 := List.length_take_le i cs
          rw [List.length_take] at h1
          unfold natsV; rw [List.length_map]; exact small1000 (by omega)
        · rw [hsn]; unfold natsV; rw [List.map_append]; rfl
      · have z : d = c := Classical.byContradiction fun z => q (by rw [decide_eq_false fun y => z (vint_inj.mp y)]; rfl)
        rw [if_pos z, List.append_nil] at hsn
        exact hN _ _ ⟨by rw [hsn], e⟩
theorem ok_told {f : Addr} {fd : FuncData} (F : Fun K "told" "told" stold f fd) (m_tuple : mg "tuple" = none) (m_reversed : mg "reversed" = none) (m_sorted : mg "sorted" = none) {fwithout : Addr} {fdwithout : FuncData} (Fwithout : Fun K "without" "without" swithout fwithout fdwithout) (Gwithout : FnOk P w K mg base CX0 9 fwithout fdwithout ["choice", "way"] (spWithout T)) (bwithout : Binds K fdwithout ["choice", "way"] []) (gwithout : mg "without" = some (.ref fwithout)) {fjoins : Addr} {fdjoins : FuncData} (Fjoins : Fun K "joins" "joins" sjoins fjoins fdjoins) (Gjoins : FnOk P w K mg base CX0 9 fjoins fdjoins ["net", "pairs", "choice"] (spJoins T)) (bjoins : Binds K fdjoins ["net", "pairs", "choice"] []) (gjoins : mg "joins" = some (.ref fjoins)) {fgrowth : Addr} {fdgrowth : FuncData} (Fgrowth : Fun K "growth" "growth" sgrowth fgrowth fdgrowth) (Ggrowth : FnOk P w K mg base CX0 9 fgrowth fdgrowth ["net", "pairs"] (spGrowth K T aC)) (bgrowth : Binds K fdgrowth ["net", "pairs"] []) (ggrowth : mg "growth" = some (.ref fgrowth)) : FnOk P w K mg base CX0 10 f fd ["net", "pairs"] (spTold T) := by
  refine F.ok sctold (fun vs H Q E h => ?_) (fun cdv A outer s H vs Q E hr h => ?_)
  · obtain ⟨net, pz, n, ws, ps, rfl, W, hnet, hps, ok, J, wd, k⟩ := h
    rfl
  · obtain ⟨net, pz, n, ws, ps, rfl, W, hnet, hps, ok, J, wd, k⟩ := h
    refine ⟨_, (pss_cons (ps_setLc (i := 2) (own := [("taken", 3)]) (g := (gName 3)) (tt := tYes) rfl sctold.nd rfl rfl (sw_true rfl rfl rfl (by decide +kernel)) (pi_tup (pe_call Ggrowth hr (by rfl) ggrowth Fgrowth.kp bgrowth .nil pass0 (pa_cons (pv 0) (pa_cons (pv 1) pa_nil)))) (blkOk_by (own := [("taken", 3)]) (N := ["net", "pairs", "order", "taken", "kept", "way", "rest"]) (sc := defScope stold) (by decide +kernel)) (fun _ _ _ _ _ => (pg_name (i := 3) sctold.nd rfl (Or.inl rfl))) (fun _ _ _ _ _ => pts_nil) (fun _ _ _ _ _ => (pe_ix (GE.ix_tupK (K := K)) (pv 3) pe_int (fun _ _ => rfl))))
      (pss_cons (ps_set (i := 4) sctold.nd rfl (Or.inl rfl) (pe_callTy call_tuple_of (by rfl) m_tuple (by decide +kernel) (pa_cons (pe_callB cr_sorted (by rfl) m_sorted (by decide +kernel) (pa_cons (pv 2) pa_nil)) pa_nil)))
      (pss_cons (ps_for PassesOwn.never rfl (pi_reversed (by rfl) m_reversed (pa_cons (pv 2) pa_nil)) (pg_name (i := 5) sctold.nd rfl (Or.inl rfl)) (pss_cons (ps_set (i := 6) sctold.nd rfl (Or.inl rfl) (pe_call Gwithout hr (by rfl) gwithout Fwithout.kp bwithout .nil pass0 (pa_cons (pv 4) (pa_cons (pv 5) pa_nil))))
      (pss_one (ps_if (pt_val (pe_call Gjoins hr (by rfl) gjoins Fjoins.kp bjoins .nil pass0 (pa_cons (pv 0) (pa_cons (pv 1) (pa_cons (pv 6) pa_nil))))) (pss_one (ps_set (i := 4) sctold.nd rfl (Or.inl rfl) (pv 6))) pss_nil))))
      (pss_one (ps_ret (pv 4)))))), ?_⟩
    have n12 := W.n12
    obtain ⟨TK, jF, lF⟩ := tkF_ok W ok J
    refine ⟨_, rfl, _, rfl, net, pz, n, ws, ps, rfl, W, hnet, hps, ok, J, wd, fun ga vs H1 hga htk e1 => ?_⟩
    have hvl := htk.len
    have hFl : (tkF n ws ps).length = (allGro n ws ps).1.taken.length := by unfold tkF tkn; rw [List.length_map]
    refine ⟨ga, rfl, ⟨_, SqT.of hga⟩, fun Dl hD => ?_⟩
    refine lc_tup (K := K) (a := ga) (xs := vs) (fun j H' => Ext T noM H1 H' ∧ H' Dl = some (.lst (natsV ((tkF n ws ps).take j)))) ⟨Ext.new hD, upd_same⟩ (fun j H' _ p => SqT.of (p.1.tup (fun z => z) hga)) ?_ ?_
    · rintro j x H2 hx ⟨e2, hD2⟩
      have hj : j < (allGro n ws ps).1.taken.length := by have := (List.getElem?_eq_some_iff.mp hx).1; omega
      obtain ⟨⟨tt, c⟩, htc⟩ : ∃ q, (allGro n ws ps).1.taken[j]? = some q := ⟨_, List.getElem?_eq_getElem hj⟩
      obtain ⟨xa, tv, q1, q2⟩ := htk.at_ htc
      rw [hx] at q1
      obtain rfl := Option.some.inj q1
      have hFj : (tkF n ws ps)[j]? = some c := by unfold tkF tkn; rw [List.getElem?_map, htc]; rfl
      refine ⟨rfl, tYesI ?_⟩
      refine ⟨_, rfl, xa, _, _, _, rfl, rfl, SqT.of (e2.tup (fun z => z) q2), at_of (j := 1) rfl rfl, _, hD2, ?_, e2.mut (.inl hD) hD2 ltbl, ?_⟩
      · unfold natsV; rw [List.length_map, List.length_take]; exact small1000 (by omega)
      · rw [upd_same, take_succ' hFj]; unfold natsV; rw [List.map_append]; rfl
    rintro H2 ⟨e2, hD2⟩
    rw [hvl, ← hFl, List.take_length] at hD2
    have efs : natsV (tkF n ws ps) = ((tkF n ws ps).map fun x : Nat => (x : Int)).map V.int := by unfold natsV; rw [List.map_map]; rfl
    have hD2' := hD2
    rw [efs] at hD2'
    refine ⟨_, rfl, Dl, _, rfl, SqL.of hD2', by rw [List.length_map]; omega, fun ns lq hperm hsort hlq => ?_⟩
    have ens := sort_all hperm hsort TK.fo.nd (tkS_pw n ws ps) (fun x => mem_tkS TK)
    subst ens
    have eS : ((tkS n ws ps).map fun x : Nat => (x : Int)).map V.int = natsV (tkS n ws ps) := by unfold natsV; rw [List.map_map]; rfl
    rw [eS]
    have e3 : Ext T noM H2 (upd H2 lq (.lst (natsV (tkS n ws ps)))) := Ext.new hlq
    have hq3 : (upd H2 lq (.lst (natsV (tkS n ws ps)))) lq = some (.lst (natsV (tkS n ws ps))) := upd_same
    generalize (upd H2 lq (.lst (natsV (tkS n ws ps)))) = H3 at e3 hq3 ⊢
    refine ⟨lq, _, rfl, .inl ⟨SqL.of hq3, fun tq htq => ?_⟩⟩
    have e4 : Ext T noM H3 (upd H3 tq (.tup (natsV (tkS n ws ps)))) := Ext.new htq
    have hk4 : Rp (upd H3 tq (.tup (natsV (tkS n ws ps)))) (chD (keptL n ws ps [])) (.ref tq) := by rw [kept_nil]; exact rp_ch upd_same
    generalize (upd H3 tq (.tup (natsV (tkS n ws ps)))) = H4 at e4 hk4 ⊢
    have e14 := (e1.trans e2).trans (e3.trans e4)
    have hD4 := (e3.trans e4).lst (fun z => z) hD2
    have kln : ∀ dn, (keptL n ws ps dn).length ≤ 24 := fun dn => by
      have h1 := List.length_filter_le (fun x => decide (x ∉ dn) || need n ws ps x) (tkS n ws ps)
      have h2 := List.length_filter_le (fun c => decide (c ∈ tkF n ws ps)) (List.range ws.length)
      rw [List.length_range] at h2
      have h3 := W.ln
      have h2 : (tkS n ws ps).length ≤ ws.length := h2
      unfold keptL; omega
    have kch : ∀ dn, Ch ws.length (keptL n ws ps dn) := fun dn => ⟨fun c hc => TK.lt c ((mem_tkS TK).mp (List.mem_filter.mp hc).1), (tkS_pw n ws ps).filter _⟩
    have hnv : (natsV (tkF n ws ps)).length = (tkF n ws ps).length := by unfold natsV; rw [List.length_map]
    refine ⟨_, rfl, Dl, _, rfl, SqL.of hD4, RT.for_Itv (K := K) (a := Dl) (xs := natsV (tkF n ws ps)) (fun i σ' H' => ∃ y2 u y4 y5, σ' = [some net, some pz, some (.ref Dl), y2, some u, y4, y5] ∧ Rp H' (chD (keptL n ws ps ((tkF n ws ps).reverse.take i))) u ∧ jn ws (keptL n ws ps ((tkF n ws ps).reverse.take i)) ps = true ∧ Ext T noM H4 H') ⟨_, _, _, _, rfl, by simpa using hk4, by rw [List.take_zero, kept_nil]; exact tkS_jn W ok TK jF, Ext.refl _ _ _⟩ (fun i σ' H' ⟨_, _, _, _, _, _, _, e⟩ => SqL.of (e.lst (fun z => z) hD4)) ?_ ?_⟩
    · rintro i x σ' H5 hi hx ⟨y2, u, y4, y5, rfl, hu, hj, e5⟩
      rw [hnv] at hi hx
      obtain ⟨c, hc, rfl⟩ : ∃ c, (tkF n ws ps)[(tkF n ws ps).length - 1 - i]? = some c ∧ x = V.int ((c : Nat) : Int) := by
        unfold natsV at hx
        rw [List.getElem?_map] at hx
        cases e : (tkF n ws ps)[(tkF n ws ps).length - 1 - i]? with
        | none => rw [e] at hx; cases hx
        | some c => rw [e] at hx; exact ⟨c, rfl, (Option.some.inj hx).symm⟩
      have hcr : (tkF n ws ps).reverse[i]? = some c := by rw [List.getElem?_reverse hi]; exact hc
      have hcF := List.mem_of_getElem? hc
      have hcd : c ∉ (tkF n ws ps).reverse.take i := nodup_not ((List.reverse_perm _).nodup_iff.mpr TK.fo.nd) hcr
      have hts := take_succ' hcr
      obtain ⟨s1, s2, s3⟩ := kept_step W ok TK hcF hcd hj
      rw [← hts] at s1 s2 s3
      have e45 := e14.trans e5
      refine ⟨_, rfl, _, rfl, u, _, c, rfl, hu, kln _, wd.ext e45, fun r H6 hr e6 => ?_⟩
      have e46 := e45.trans e6
      refine ⟨_, rfl, _, rfl, _, rfl, net, pz, r, n, ws, _, ps, rfl, ⟨W, (kch _).out c, Rp.x e46 hnet, hr⟩, Rp.x e46 hps, ok, wd.ext e46, fun H7 e7 => ⟨_, rfl, ?_⟩⟩
      refine ite2 (fun q => ?_) (fun q => ?_)
      · exact ⟨_, rfl, _, _, _, _, rfl, by rw [s1 q]; exact Rp.x e7 hr, s3, (e5.trans e6).trans e7⟩
      · exact ⟨_, _, _, _, rfl, by rw [s2 (Bool.eq_false_iff.mpr q)]; exact Rp.x (e6.trans e7) hu, s3, (e5.trans e6).trans e7⟩
    · rintro σ' H5 ⟨y2, u, y4, y5, rfl, hu, hj, e5⟩
      rw [hnv, show (tkF n ws ps).reverse.take (tkF n ws ps).length = (tkF n ws ps).reverse from List.take_of_length_le (by rw [List.length_reverse]; exact Nat.le_refl _), kept_all TK fun x hx => List.mem_reverse.mpr hx] at hu
      exact ⟨_, rfl, k u H5 hu (e14.trans e5)⟩
end
end Mw

set_option Elab.async false
set_option linter.all false
set_option maxRecDepth 100000
set_option maxHeartbeats 4000000
namespace Mw
open PySem PySem.Spec PyProof.Rows L2 GE
abbrev Wid := List (List Nat × Int)
/-! ### all full ways, whatever the fuel -/
theorem takeAll_add (ws : Wl) : ∀ (a b : Nat) (S : Gs), takeAll ws (a + b) S = takeAll ws b (takeAll ws a S)
  | 0, b, S => by rw [Nat.zero_add]; rfl
  | a + 1, b, S => by
    rw [show a + 1 + b = (a + b) + 1 by omega]
    show (match first ws S with | none => S | some c => takeAll ws (a + b) (take1 ws S c)) = takeAll ws b (match first ws S with | none => S | some c => takeAll ws a (take1 ws S c))
    cases e : first ws S with
    | none => exact (takeAll_stop e _).symm
    | some c => exact takeAll_add ws a b (take1 ws S c)
theorem takeAll_uniq {ws : Wl} {S : Gs} {a b : Nat} (ha : first ws (takeAll ws a S) = none) (hb : first ws (takeAll ws b S) = none) : takeAll ws a S = takeAll ws b S := by
  have h1 := takeAll_add ws a b S
  have h2 := takeAll_add ws b a S
  rw [takeAll_stop ha] at h1
  rw [takeAll_stop hb, Nat.add_comm] at h2
  rw [← h1, h2]
theorem takeAll_none {n : Nat} {ws : Wl} (W : WsOk n ws) : ∀ (k : Nat) (S : Gs), (∃ es, Hom n es S.h) → (reps S.h n).length ≤ k → first ws (takeAll ws k S) = none ∧ ∃ es, Hom n es (takeAll ws k S).h
  | 0, S, ⟨es, H⟩, hk => by
    refine ⟨?_, es, H⟩
    cases e : first ws S with
    | none => exact e
    | some c =>
      obtain ⟨hc, hx, _⟩ := first_some e
      obtain ⟨w1, w2, _⟩ := W.ok c hc
      have := reps_less H (Nat.lt_trans w1 w2) w2 (of_decide_eq_true hx)
      omega
  | k + 1, S, ⟨es, H⟩, hk => by
    have e0 : takeAll ws (k + 1) S = match first ws S with | none => S | some c => takeAll ws k (take1 ws S c) := rfl
    rw [e0]
    cases e : first ws S with
    | none => exact ⟨e, es, H⟩
    | some c =>
      obtain ⟨hc, hx, _⟩ := first_some e
      obtain ⟨w1, w2, _⟩ := W.ok c hc
      have := reps_less H (Nat.lt_trans w1 w2) w2 (of_decide_eq_true hx)
      exact takeAll_none W k (take1 ws S c) ⟨_, H.step (Nat.lt_trans w1 w2) w2⟩ (show (reps (relab S.h _ _) n).length ≤ k by omega)
theorem reps_le (h : Nat → Nat) (n : Nat) : (reps h n).length ≤ n := by
  have := List.length_filter_le (fun x => h x == x) (List.range n)
  rw [List.length_range] at this; exact this
/-! ### widths by their keys -/
def foldK (ks : List (List Nat)) (s : Int) (l : Wid) : Wid := ks.foldl (fun w k => addW w k s) l
theorem keys_add (k : List Nat) (s : Int) : ∀ l : Wid, (addW l k s).map (·.1) = if k ∈ l.map (·.1) then l.map (·.1) else l.map (·.1) ++ [k]
  | [] => by show [k] = if k ∈ [] then [] else [k]; rw [if_neg (fun h => nomatch h)]
  | (j, w) :: r => by
    by_cases e : j = k
    · subst e
      rw [show addW ((j, w) :: r) j s = (j, w + s) :: r from if_pos rfl, List.map_cons, List.map_cons, if_pos List.mem_cons_self]
    · rw [show addW ((j, w) :: r) k s = (j, w) :: addW r k s from if_neg e, List.map_cons, List.map_cons, keys_add k s r]
      by_cases q : k ∈ r.map (·.1)
      · rw [if_pos q, if_pos (List.mem_cons_of_mem _ q)]
      · rw [if_neg q, if_neg fun z => (List.mem_cons.mp z).elim (fun y => e y.symm) q]; rfl
theorem has_self (k : List Nat) (s : Int) (l : Wid) : k ∈ (addW l k s).map (·.1) := by
  rw [keys_add]
  by_cases q : k ∈ l.map (·.1)
  · rw [if_pos q]; exact q
  · rw [if_neg q]; exact List.mem_append_right _ (List.mem_singleton.mpr rfl)
theorem has_keep {k j : List Nat} {s : Int} {l : Wid} (h : k ∈ l.map (·.1)) : k ∈ (addW l j s).map (·.1) := by
  rw [keys_add]
  by_cases q : j ∈ l.map (·.1)
  · rw [if_pos q]; exact h
  · rw [if_neg q]; exact List.mem_append_left _ h
theorem nd_add {k : List Nat} {s : Int} {l : Wid} (h : (l.map (·.1)).Nodup) : ((addW l k s).map (·.1)).Nodup := by
  rw [keys_add]
  by_cases q : k ∈ l.map (·.1)
  · rw [if_pos q]; exact h
  · rw [if_neg q]
    exact List.nodup_append.mpr ⟨h, List.pairwise_singleton _ _, fun a ha b hb e => by rw [List.mem_singleton.mp hb] at e; exact q (e ▸ ha)⟩
theorem add_cons_eq {k : List Nat} {w s : Int} {r : Wid} : addW ((k, w) :: r) k s = (k, w + s) :: r := if_pos rfl
theorem add_cons_ne {j k : List Nat} {w s : Int} {r : Wid} (e : j ≠ k) : addW ((j, w) :: r) k s = (j, w) :: addW r k s := if_neg e
theorem add_twice (k : List Nat) (s t : Int) : ∀ l : Wid, addW (addW l k s) k t = addW l k (s + t)
  | [] => by show addW [(k, s)] k t = [(k, s + t)]; exact add_cons_eq
  | (j, w) :: r => by
    by_cases e : j = k
    · subst e; rw [add_cons_eq, add_cons_eq, add_cons_eq, Int.add_assoc]
    · rw [add_cons_ne e, add_cons_ne e, add_cons_ne e, add_twice k s t r]
theorem add_comm {k j : List Nat} {s t : Int} (hkj : k ≠ j) : ∀ l : Wid, k ∈ l.map (·.1) → addW (addW l k s) j t = addW (addW l j t) k s
  | [], h => nomatch h
  | (i, w) :: r, h => by
    by_cases e : i = k
    · subst e
      rw [add_cons_eq, add_cons_ne hkj, add_cons_ne hkj, add_cons_eq]
    · by_cases e2 : i = j
      · subst e2
        rw [add_cons_ne e, add_cons_eq, add_cons_eq, add_cons_ne e]
      · have h2 : k ∈ r.map (·.1) := (List.mem_cons.mp h).elim (fun y => absurd y.symm e) id
        rw [add_cons_ne e, add_cons_ne e2, add_cons_ne e2, add_cons_ne e, add_comm hkj r h2]
theorem fold_out {k : List Nat} {s t : Int} : ∀ (ks : List (List Nat)) (l : Wid), k ∉ ks → k ∈ l.map (·.1) → foldK ks s (addW l k t) = addW (foldK ks s l) k t
  | [], l, _, _ => rfl
  | j :: ks, l, hn, hk => by
    have e : k ≠ j := fun z => hn (z ▸ List.mem_cons_self)
    show foldK ks s (addW (addW l k t) j s) = addW (foldK ks s (addW l j s)) k t
    rw [add_comm e l hk]
    exact fold_out ks _ (fun z => hn (List.mem_cons_of_mem _ z)) (has_keep hk)
theorem fold_fold {a b : Int} : ∀ (ks : List (List Nat)) (l : Wid), ks.Nodup → foldK ks b (foldK ks a l) = foldK ks (a + b) l
  | [], l, _ => rfl
  | k :: ks, l, h => by
    obtain ⟨h1, h2⟩ := List.nodup_cons.mp h
    show foldK ks b (addW (foldK ks a (addW l k a)) k b) = foldK ks (a + b) (addW l k (a + b))
    rw [← fold_out ks _ h1 (has_self k a l), add_twice, fold_fold ks _ h2]
theorem nd_fold {s : Int} : ∀ (ks : List (List Nat)) {l : Wid}, (l.map (·.1)).Nodup → ((foldK ks s l).map (·.1)).Nodup
  | [], _, h => h
  | k :: ks, _, h => nd_fold ks (nd_add h)
theorem key_fold {s : Int} : ∀ (ks : List (List Nat)) {l : Wid} {k : List Nat}, k ∈ (foldK ks s l).map (·.1) → k ∈ ks ∨ k ∈ l.map (·.1)
  | [], _, _, h => .inr h
  | j :: ks, l, k, h => by
    rcases key_fold ks (l := addW l j s) h with q | q
    · exact .inl (List.mem_cons_of_mem _ q)
    · rw [keys_add] at q
      by_cases z : j ∈ l.map (·.1)
      · rw [if_pos z] at q; exact .inr q
      · rw [if_neg z] at q
        rcases List.mem_append.mp q with q | q
        · exact .inr q
        · exact .inl (by rw [List.mem_singleton.mp q]; exact List.mem_cons_self)
theorem add_perm {k : List Nat} {s : Int} {l m : Wid} (h : l.Perm m) : (l.map (·.1)).Nodup → (addW l k s).Perm (addW m k s) := by
  induction h with
  | nil => intro _; exact List.Perm.refl _
  | @cons x l m h ih =>
    intro nd
    obtain ⟨j, w⟩ := x
    rw [List.map_cons, List.nodup_cons] at nd
    by_cases e : j = k
    · subst e; rw [add_cons_eq, add_cons_eq]; exact h.cons _
    · rw [add_cons_ne e, add_cons_ne e]; exact (ih nd.2).cons _
  | swap x y l =>
    intro nd
    obtain ⟨i, v⟩ := x
    obtain ⟨j, w⟩ := y
    have hne : j ≠ i := fun z => by
      rw [List.map_cons, List.map_cons, List.nodup_cons] at nd
      exact nd.1 (z ▸ List.mem_cons_self)
    by_cases e : j = k
    · subst e
      rw [add_cons_eq, add_cons_ne (fun z => hne z.symm), add_cons_eq]; exact List.Perm.swap _ _ _
    · by_cases e2 : i = k
      · subst e2
        rw [add_cons_ne e, add_cons_eq, add_cons_eq]; exact List.Perm.swap _ _ _
      · rw [add_cons_ne e, add_cons_ne e2, add_cons_ne e2, add_cons_ne e]; exact List.Perm.swap _ _ _
  | trans h1 _ i1 i2 => intro nd; exact (i1 nd).trans (i2 ((h1.map _).nodup_iff.mp nd))
theorem fold_perm {s : Int} : ∀ (ks : List (List Nat)) {l m : Wid}, l.Perm m → (l.map (·.1)).Nodup → (foldK ks s l).Perm (foldK ks s m)
  | [], _, _, h, _ => h
  | k :: ks, _, _, h, nd => fold_perm ks (add_perm h nd) (nd_add nd)
theorem add_left {k : List Nat} {s : Int} {c : Wid} (hk : k ∉ c.map (·.1)) : ∀ a : Wid, (addW (a ++ c) k s).Perm (addW a k s ++ c)
  | [] => by
    show (addW c k s).Perm ([(k, s)] ++ c)
    have : ∀ c : Wid, k ∉ c.map (·.1) → addW c k s = c ++ [(k, s)] := by
      intro c
      induction c with
      | nil => intro _; rfl
      | cons x c ih =>
        intro h
        obtain ⟨j, w⟩ := x
        rw [add_cons_ne (fun z : j = k => h (z ▸ List.mem_cons_self)), ih fun z => h (List.mem_cons_of_mem _ z)]; rfl
    rw [this c hk]
    exact List.perm_append_comm
  | (j, w) :: a => by
    by_cases e : j = k
    · subst e
      rw [List.cons_append, add_cons_eq, add_cons_eq]; exact List.Perm.refl _
    · rw [List.cons_append, add_cons_ne e, add_cons_ne e]; exact (add_left hk a).cons _
theorem fold_left {s : Int} {c : Wid} : ∀ (ks : List (List Nat)) (a : Wid), (∀ k ∈ ks, k ∉ c.map (·.1)) → ((a ++ c).map (·.1)).Nodup → (foldK ks s (a ++ c)).Perm (foldK ks s a ++ c)
  | [], a, _, _ => List.Perm.refl _
  | k :: ks, a, h, nd => by
    have h1 := add_left (s := s) (h k List.mem_cons_self) a
    have nd1 : ((addW (a ++ c) k s).map (·.1)).Nodup := nd_add nd
    exact (fold_perm ks h1 nd1).trans (fold_left ks _ (fun j hj => h j (List.mem_cons_of_mem _ hj)) ((h1.map _).nodup_iff.mp nd1))
theorem add_right {k : List Nat} {s : Int} {c : Wid} : ∀ a : Wid, k ∉ a.map (·.1) → addW (a ++ c) k s = a ++ addW c k s
  | [], _ => rfl
  | (j, w) :: a, h => by
    rw [List.cons_append, add_cons_ne (fun z : j = k => h (z ▸ List.mem_cons_self)), add_right a fun z => h (List.mem_cons_of_mem _ z)]; rfl
theorem fold_right {s : Int} {a : Wid} : ∀ (ks : List (List Nat)) (c : Wid), (∀ k ∈ ks, k ∉ a.map (·.1)) → foldK ks s (a ++ c) = a ++ foldK ks s c
  | [], _, _ => rfl
  | k :: ks, c, h => by
    show foldK ks s (addW (a ++ c) k s) = a ++ foldK ks s (addW c k s)
    rw [add_right a (h k List.mem_cons_self)]
    exact fold_right ks _ fun j hj => h j (List.mem_cons_of_mem _ hj)
/-! ### steps of one part of time -/
def step (n : Nat) (ws : Wl) (ps : List Pr) (S : Gs) : Gs := if opens n ps S.h = [] then S else takeAll ws n (grow n S (opens n ps S.h) 1)
def iter (n : Nat) (ws : Wl) (ps : List Pr) : Nat → Gs → Gs
  | 0, S => S
  | k + 1, S => iter n ws ps k (step n ws ps S)
theorem iter_add {n : Nat} {ws : Wl} {ps : List Pr} : ∀ (a b : Nat) (S : Gs), iter n ws ps (a + b) S = iter n ws ps b (iter n ws ps a S)
  | 0, b, S => by rw [Nat.zero_add]; rfl
  | a + 1, b, S => by rw [show a + 1 + b = (a + b) + 1 by omega]; exact iter_add a b _
theorem iter_stop {n : Nat} {ws : Wl} {ps : List Pr} {S : Gs} (h : opens n ps S.h = []) : ∀ k, iter n ws ps k S = S
  | 0 => rfl
  | k + 1 => by
    show iter n ws ps k (step n ws ps S) = S
    rw [show step n ws ps S = S from if_pos h]; exact iter_stop h k
theorem grow_wid (n : Nat) (S : Gs) (R : List Nat) (s : Int) : (grow n S R s).wid = foldK (R.map (cls S.h n)) s S.wid := by
  show R.foldl (fun w r => addW w (cls S.h n r) s) S.wid = (R.map (cls S.h n)).foldl (fun w k => addW w k s) S.wid
  rw [List.foldl_map]
theorem cls_inj {n : Nat} {h : Nat → Nat} {r q : Nat} (hr : r < n ∧ h r = r) (hq : q < n ∧ h q = q) (e : cls h n r = cls h n q) : r = q := by
  have : r ∈ cls h n q := by rw [← e]; exact mem_cls.mpr ⟨hr.1, rfl⟩
  have := (mem_cls.mp this).2
  rw [hr.2, hq.2] at this; exact this
theorem keys_nodup {n : Nat} {ps : List Pr} {h : Nat → Nat} : ((opens n ps h).map (cls h n)).Nodup := by
  refine List.pairwise_map.mpr (List.Pairwise.imp_of_mem ?_ (opens_nodup n ps h))
  intro a b ha hb hne e
  exact hne (cls_inj (mem_opens.mp ha).1 (mem_opens.mp hb).1 e)
theorem grow_grow {n : Nat} {ps : List Pr} (S : Gs) (a b : Int) : grow n (grow n S (opens n ps S.h) a) (opens n ps S.h) b = grow n S (opens n ps S.h) (a + b) := by
  have hw : (grow n (grow n S (opens n ps S.h) a) (opens n ps S.h) b).wid = (grow n S (opens n ps S.h) (a + b)).wid := by
    rw [grow_wid, grow_wid, grow_wid]
    exact fold_fold _ _ keys_nodup
  have hd : (grow n (grow n S (opens n ps S.h) a) (opens n ps S.h) b).dep = (grow n S (opens n ps S.h) (a + b)).dep := by
    funext p
    show S.dep p + (if S.h p ∈ opens n ps S.h then a else 0) + (if S.h p ∈ opens n ps S.h then b else 0) = S.dep p + if S.h p ∈ opens n ps S.h then a + b else 0
    by_cases q : S.h p ∈ opens n ps S.h
    · rw [if_pos q, if_pos q, if_pos q]; omega
    · rw [if_neg q, if_neg q, if_neg q]; omega
  have ht : (grow n (grow n S (opens n ps S.h) a) (opens n ps S.h) b).time = (grow n S (opens n ps S.h) (a + b)).time := by
    show S.time + a + b = S.time + (a + b); omega
  exact (show ∀ x y : Gs, x.h = y.h → x.dep = y.dep → x.wid = y.wid → x.time = y.time → x.taken = y.taken → x = y from fun ⟨_, _, _, _, _⟩ ⟨_, _, _, _, _⟩ e1 e2 e3 e4 e5 => by
    simp only at e1 e2 e3 e4 e5
    subst e1 e2 e3 e4 e5; rfl) _ _ rfl hd hw ht rfl
/-- before the span is over nothing is full -/
theorem first_early {n t : Nat} {ws : Wl} {S : Gs} {R : List Nat} {x : Int} {j : Int} (G : GM n ws t S) (ht : t < 12) (hf : first ws S = none) (hx : least ((canW ws S R).map (cand ws S R)) = some x) (j0 : 0 ≤ j) (hj : j < x) : first ws (grow n S R j) = none := by
  refine List.find?_eq_none.mpr fun c hc z => ?_
  have hc' := List.mem_range.mp hc
  unfold full at z
  rw [Bool.and_eq_true, decide_eq_true_eq, lack_grow] at z
  have hcr : crosses ws S c = true := z.1
  have hl := first_none hf hc' hcr
  rcases Nat.eq_zero_or_pos (spd ws S R c) with q | q
  · rw [q] at z
    have := z.2
    simp at this; omega
  · obtain ⟨e1, _⟩ := G.cand_eq ht R q
    have hm : x ≤ cand ws S R c := (least_some _ _ _ hx).2.1 _ (List.mem_map_of_mem (mem_canW.mpr ⟨hc', hcr, q⟩))
    have h3 : j * (spd ws S R c : Int) < cand ws S R c * (spd ws S R c : Int) := Int.mul_lt_mul_of_pos_right (by omega) (by omega)
    have := z.2
    omega
theorem iter_part {n t : Nat} {ws : Wl} {ps : List Pr} {S : Gs} {x : Int} (G : GM n ws t S) (ht : t < 12) (hf : first ws S = none) (ho : opens n ps S.h ≠ []) (hx : least ((canW ws S (opens n ps S.h)).map (cand ws S (opens n ps S.h))) = some x) :
    ∀ k : Nat, ((k : Int) + 1 < x) → iter n ws ps (k + 1) S = grow n S (opens n ps S.h) ((k : Int) + 1)
  | 0, hk => by
    show step n ws ps S = _
    rw [show step n ws ps S = takeAll ws n (grow n S (opens n ps S.h) 1) from if_neg ho]
    exact takeAll_stop (first_early G ht hf hx (show (0 : Int) ≤ 1 by decide) (by omega)) n
  | k + 1, hk => by
    have hk' : ((k : Int) + 1 < x) := by omega
    rw [iter_add (k + 1) 1, iter_part G ht hf ho hx k hk']
    show step n ws ps (grow n S (opens n ps S.h) ((k : Int) + 1)) = _
    have ho' : opens n ps (grow n S (opens n ps S.h) ((k : Int) + 1)).h ≠ [] := ho
    rw [show step n ws ps (grow n S (opens n ps S.h) ((k : Int) + 1)) = takeAll ws n (grow n (grow n S (opens n ps S.h) ((k : Int) + 1)) (opens n ps S.h) 1) from if_neg ho', grow_grow]
    rw [takeAll_stop (first_early G ht hf hx (by omega) (by omega))]
    rw [Int.natCast_add]; rfl
theorem iter_turn {n t : Nat} {ws : Wl} {ps : List Pr} {S : Gs} (W : WsOk n ws) (J : ∀ q ∈ ps, Cn (wedges ws) q.1 q.2) (G : GF n ws t S) (ho : opens n ps S.h ≠ []) : ∃ k, iter n ws ps k S = turn n ws ps S := by
  obtain ⟨ht, _⟩ := G.turn W J ho
  obtain ⟨s0, _, _, hle, _⟩ := G.g.grow W J ht G.f ho
  have et : turn n ws ps S = takeAll ws n (grow n S (opens n ps S.h) (span ws S (opens n ps S.h))) := rfl
  obtain ⟨m, hm⟩ : ∃ m : Nat, span ws S (opens n ps S.h) = (m : Int) + 1 := ⟨(span ws S (opens n ps S.h) - 1).toNat, by omega⟩
  refine ⟨m + 1, ?_⟩
  rw [et, hm]
  rw [hm] at hle
  cases m with
  | zero => exact if_neg ho
  | succ m =>
    rw [iter_add (m + 1) 1, iter_part G.g ht G.f ho hle m (by omega)]
    show step n ws ps (grow n S (opens n ps S.h) ((m : Int) + 1)) = _
    have ho' : opens n ps (grow n S (opens n ps S.h) ((m : Int) + 1)).h ≠ [] := ho
    rw [show step n ws ps (grow n S (opens n ps S.h) ((m : Int) + 1)) = takeAll ws n (grow n (grow n S (opens n ps S.h) ((m : Int) + 1)) (opens n ps S.h) 1) from if_neg ho', grow_grow]
    rw [Int.natCast_add]; rfl
theorem iter_gro {n : Nat} {ws : Wl} {ps : List Pr} (W : WsOk n ws) (J : ∀ q ∈ ps, Cn (wedges ws) q.1 q.2) : ∀ (k t : Nat) (S : Gs) (L : List Rw), GF n ws t S → k + t = n → ∃ N, ∀ m, iter n ws ps (N + m) S = (gro n ws ps k S L).1
  | 0, t, S, L, G, hk => by
    have ho : opens n ps S.h = [] := gro_end W J 0 t S L G hk
    exact ⟨0, fun m => by rw [iter_stop ho]; rfl⟩
  | k + 1, t, S, L, G, hk => by
    by_cases ho : opens n ps S.h = []
    · exact ⟨0, fun m => by rw [iter_stop ho, gro_stop ho]⟩
    · have e : gro n ws ps (k + 1) S L = gro n ws ps k (turn n ws ps S) (L ++ [((turn n ws ps S).time, (turn n ws ps S).h)]) := if_neg ho
      obtain ⟨a, ha⟩ := iter_turn W J G ho
      obtain ⟨N, hN⟩ := iter_gro W J k (t + 1) (turn n ws ps S) (L ++ [((turn n ws ps S).time, (turn n ws ps S).h)]) (G.turn W J ho).2 (by omega)
      exact ⟨a + N, fun m => by rw [Nat.add_assoc, iter_add, ha, hN, e]⟩
theorem iter_all {n : Nat} {ws : Wl} {ps : List Pr} (W : WsOk n ws) (J : ∀ q ∈ ps, Cn (wedges ws) q.1 q.2) : ∃ N, ∀ m, iter n ws ps (N + m) start = (allGro n ws ps).1 := iter_gro W J n 0 start _ (GF.start W) (Nat.add_zero n)
end Mw

set_option Elab.async false
set_option linter.all false
set_option maxRecDepth 100000
set_option maxHeartbeats 4000000
namespace Mw
open PySem PySem.Spec PyProof.Rows L2 GE
/-! ### two nets beside one another -/
def shK (d : Nat) (k : List Nat) : List Nat := k.map (d + ·)
def shR (d : Nat) (l : Wid) : Wid := l.map fun kw => (shK d kw.1, kw.2)
def shP (d : Nat) (ps : List Pr) : List Pr := ps.map fun q => (d + q.1, d + q.2)
structure Mix (n1 : Nat) (ws1 ws2 ws : Wl) (f1 f2 : Nat → Nat) : Prop where
  a : ∀ i, i < ws1.length → f1 i < ws.length ∧ way ws (f1 i) = way ws1 i
  b : ∀ i, i < ws2.length → f2 i < ws.length ∧ way ws (f2 i) = (n1 + (way ws2 i).1, n1 + (way ws2 i).2.1, (way ws2 i).2.2)
  ma : ∀ i j, i < j → j < ws1.length → f1 i < f1 j
  mb : ∀ i j, i < j → j < ws2.length → f2 i < f2 j
  c : ∀ c, c < ws.length → (∃ i, i < ws1.length ∧ c = f1 i) ∨ ∃ i, i < ws2.length ∧ c = f2 i
structure Un (n1 n2 : Nat) (f1 f2 : Nat → Nat) (S S1 S2 : Gs) : Prop where
  h1 : ∀ p, p < n1 → S.h p = S1.h p
  h2 : ∀ q, q < n2 → S.h (n1 + q) = n1 + S2.h q
  d1 : ∀ p, p < n1 → S.dep p = S1.dep p
  d2 : ∀ q, q < n2 → S.dep (n1 + q) = S2.dep q
  tk : ∀ c, c ∈ tkn S ↔ (∃ i ∈ tkn S1, c = f1 i) ∨ ∃ i ∈ tkn S2, c = f2 i
  wd : S.wid.Perm (S1.wid ++ shR n1 S2.wid)
structure Iv (n : Nat) (ws : Wl) (S : Gs) : Prop where
  hom : ∃ es, Hom n es S.h
  nd : (S.wid.map (·.1)).Nodup
  key : ∀ k ∈ S.wid.map (·.1), k ≠ [] ∧ ∀ x ∈ k, x < n
theorem tkn_take (ws : Wl) (S : Gs) (c : Nat) : tkn (take1 ws S c) = tkn S ++ [c] := by
  unfold tkn take1
  rw [List.map_append]; rfl
theorem shK_inj {d : Nat} {j k : List Nat} (h : shK d j = shK d k) : j = k := (List.map_inj_right fun x y e => by omega).mp h
theorem shR_keys (d : Nat) (l : Wid) : (shR d l).map (·.1) = (l.map (·.1)).map (shK d) := by
  unfold shR
  rw [List.map_map, List.map_map]; rfl
theorem add_shR (d : Nat) (k : List Nat) (s : Int) : ∀ l : Wid, addW (shR d l) (shK d k) s = shR d (addW l k s)
  | [] => rfl
  | (j, w) :: r => by
    show addW ((shK d j, w) :: shR d r) (shK d k) s = shR d (addW ((j, w) :: r) k s)
    by_cases e : j = k
    · subst e; rw [add_cons_eq, add_cons_eq]; rfl
    · rw [add_cons_ne (fun z => e (shK_inj z)), add_cons_ne e, add_shR d k s r]; rfl
theorem fold_shR (d : Nat) (s : Int) : ∀ (ks : List (List Nat)) (l : Wid), foldK (ks.map (shK d)) s (shR d l) = shR d (foldK ks s l)
  | [], _ => rfl
  | k :: ks, l => by
    show foldK (ks.map (shK d)) s (addW (shR d l) (shK d k) s) = shR d (foldK ks s (addW l k s))
    rw [add_shR, fold_shR d s ks]
section
variable {n1 n2 : Nat} {ws1 ws2 ws : Wl} {f1 f2 : Nat → Nat} {ps1 ps2 : List Pr} {S S1 S2 : Gs}
theorem Un.full1 (U : Un n1 n2 f1 f2 S S1 S2) (W1 : WsOk n1 ws1) (M : Mix n1 ws1 ws2 ws f1 f2) {i : Nat} (hi : i < ws1.length) : full ws S (f1 i) = full ws1 S1 i := by
  obtain ⟨w1, w2, _⟩ := W1.ok i hi
  unfold full crosses lack
  rw [(M.a i hi).2, U.h1 _ (Nat.lt_trans w1 w2), U.h1 _ w2, U.d1 _ (Nat.lt_trans w1 w2), U.d1 _ w2]
theorem Un.full2 (U : Un n1 n2 f1 f2 S S1 S2) (W2 : WsOk n2 ws2) (M : Mix n1 ws1 ws2 ws f1 f2) {i : Nat} (hi : i < ws2.length) : full ws S (f2 i) = full ws2 S2 i := by
  obtain ⟨w1, w2, _⟩ := W2.ok i hi
  unfold full crosses lack
  rw [(M.b i hi).2]
  dsimp only
  rw [U.h2 _ (Nat.lt_trans w1 w2), U.h2 _ w2, U.d2 _ (Nat.lt_trans w1 w2), U.d2 _ w2]
  congr 1
  exact decide_eq_decide.mpr ⟨fun z y => z (by rw [y]), fun z y => z (by omega)⟩
theorem Un.take1 (U : Un n1 n2 f1 f2 S S1 S2) (W1 : WsOk n1 ws1) (M : Mix n1 ws1 ws2 ws f1 f2) (H1 : ∃ es, Hom n1 es S1.h) {i : Nat} (hi : i < ws1.length) : Un n1 n2 f1 f2 (Mw.take1 ws S (f1 i)) (Mw.take1 ws1 S1 i) S2 := by
  obtain ⟨w1, w2, _⟩ := W1.ok i hi
  obtain ⟨es, H⟩ := H1
  have w0 := Nat.lt_trans w1 w2
  have l1 := H.le _ w0
  have l2 := H.le _ w2
  refine ⟨fun p hp => ?_, fun q hq => ?_, U.d1, U.d2, fun c => ?_, U.wd⟩
  · show relab S.h (way ws (f1 i)).1 (way ws (f1 i)).2.1 p = relab S1.h (way ws1 i).1 (way ws1 i).2.1 p
    rw [(M.a i hi).2]
    unfold relab
    rw [U.h1 _ hp, U.h1 _ w0, U.h1 _ w2]
  · show relab S.h (way ws (f1 i)).1 (way ws (f1 i)).2.1 (n1 + q) = n1 + S2.h q
    rw [(M.a i hi).2]
    unfold relab
    rw [U.h2 _ hq, U.h1 _ w0, U.h1 _ w2, if_neg (by omega)]
  · rw [tkn_take, tkn_take, List.mem_append, List.mem_singleton, U.tk]
    constructor
    · rintro ((⟨j, q1, q2⟩ | q) | q)
      · exact .inl ⟨j, List.mem_append_left _ q1, q2⟩
      · exact .inr q
      · exact .inl ⟨i, List.mem_append_right _ (List.mem_singleton.mpr rfl), q⟩
    · rintro (⟨j, q1, q2⟩ | q)
      · rcases List.mem_append.mp q1 with q1 | q1
        · exact .inl (.inl ⟨j, q1, q2⟩)
        · rw [List.mem_singleton.mp q1] at q2; exact .inr q2
      · exact .inl (.inr q)
theorem Un.take2 (U : Un n1 n2 f1 f2 S S1 S2) (W2 : WsOk n2 ws2) (M : Mix n1 ws1 ws2 ws f1 f2) (H1 : ∃ es, Hom n1 es S1.h) {i : Nat} (hi : i < ws2.length) : Un n1 n2 f1 f2 (Mw.take1 ws S (f2 i)) S1 (Mw.take1 ws2 S2 i) := by
  obtain ⟨w1, w2, _⟩ := W2.ok i hi
  obtain ⟨es, H⟩ := H1
  have w0 := Nat.lt_trans w1 w2
  refine ⟨fun p hp => ?_, fun q hq => ?_, U.d1, U.d2, fun c => ?_, U.wd⟩
  · show relab S.h (way ws (f2 i)).1 (way ws (f2 i)).2.1 p = S1.h p
    rw [(M.b i hi).2]
    unfold relab
    dsimp only
    have := H.le _ hp
    rw [U.h1 _ hp, U.h2 _ w0, U.h2 _ w2, if_neg (by omega)]
  · show relab S.h (way ws (f2 i)).1 (way ws (f2 i)).2.1 (n1 + q) = n1 + relab S2.h (way ws2 i).1 (way ws2 i).2.1 q
    rw [(M.b i hi).2]
    unfold relab
    dsimp only
    rw [U.h2 _ hq, U.h2 _ w0, U.h2 _ w2]
    by_cases e : S2.h q = max (S2.h (way ws2 i).1) (S2.h (way ws2 i).2.1)
    · rw [if_pos e, if_pos (by omega)]; omega
    · rw [if_neg e, if_neg (by omega)]
  · rw [tkn_take, tkn_take, List.mem_append, List.mem_singleton, U.tk]
    constructor
    · rintro ((q | ⟨j, q1, q2⟩) | q)
      · exact .inl q
      · exact .inr ⟨j, List.mem_append_left _ q1, q2⟩
      · exact .inr ⟨i, List.mem_append_right _ (List.mem_singleton.mpr rfl), q⟩
    · rintro (q | ⟨j, q1, q2⟩)
      · exact .inl (.inl q)
      · rcases List.mem_append.mp q1 with q1 | q1
        · exact .inl (.inr ⟨j, q1, q2⟩)
        · rw [List.mem_singleton.mp q1] at q2; exact .inr q2
theorem first_iff {ws : Wl} {S : Gs} {c : Nat} : first ws S = some c ↔ c < ws.length ∧ full ws S c = true ∧ ∀ j, j < c → full ws S j = false := by
  unfold first
  rw [List.find?_range_eq_some, List.mem_range]
  constructor
  · rintro ⟨q1, q2, q3⟩
    exact ⟨q2, q1, fun j hj => by have := q3 j hj; cases e : full ws S j with
      | false => rfl
      | true => rw [e] at this; cases this⟩
  · rintro ⟨q1, q2, q3⟩
    exact ⟨q2, q1, fun j hj => by rw [q3 j hj]; rfl⟩
theorem first_nil {ws : Wl} {S : Gs} : first ws S = none ↔ ∀ c, c < ws.length → full ws S c = false := by
  unfold first
  rw [List.find?_eq_none]
  exact ⟨fun h c hc => by have := h c (List.mem_range.mpr hc); exact Bool.eq_false_iff.mpr this, fun h c hc => by rw [h c (List.mem_range.mp hc)]; exact Bool.false_ne_true⟩
theorem hom_take {n : Nat} {ws : Wl} {S : Gs} (W : WsOk n ws) (H : ∃ es, Hom n es S.h) {c : Nat} (hc : c < ws.length) : ∃ es, Hom n es (Mw.take1 ws S c).h := by
  obtain ⟨es, H⟩ := H
  obtain ⟨w1, w2, _⟩ := W.ok c hc
  exact ⟨_, H.step (Nat.lt_trans w1 w2) w2⟩
theorem Un.takes (W1 : WsOk n1 ws1) (W2 : WsOk n2 ws2) (M : Mix n1 ws1 ws2 ws f1 f2) : ∀ (k : Nat) {S S1 S2 : Gs}, Un n1 n2 f1 f2 S S1 S2 → (∃ es, Hom n1 es S1.h) → (∃ es, Hom n2 es S2.h) → ∃ k1 k2, Un n1 n2 f1 f2 (takeAll ws k S) (takeAll ws1 k1 S1) (takeAll ws2 k2 S2)
  | 0, S, S1, S2, U, _, _ => ⟨0, 0, U⟩
  | k + 1, S, S1, S2, U, H1, H2 => by
    have e0 : takeAll ws (k + 1) S = match first ws S with | none => S | some c => takeAll ws k (Mw.take1 ws S c) := rfl
    rw [e0]
    cases e : first ws S with
    | none => exact ⟨0, 0, U⟩
    | some c =>
      obtain ⟨q1, q2, q3⟩ := first_iff.mp e
      rcases M.c c q1 with ⟨i, hi, rfl⟩ | ⟨i, hi, rfl⟩
      · have e1 : first ws1 S1 = some i := first_iff.mpr ⟨hi, by rw [← U.full1 W1 M hi]; exact q2, fun j hj => by rw [← U.full1 W1 M (Nat.lt_trans hj hi)]; exact q3 _ (M.ma j i hj hi)⟩
        obtain ⟨k1, k2, h⟩ := Un.takes W1 W2 M k (U.take1 W1 M H1 hi) (hom_take W1 H1 hi) H2
        refine ⟨k1 + 1, k2, ?_⟩
        have e2 : takeAll ws1 (k1 + 1) S1 = takeAll ws1 k1 (Mw.take1 ws1 S1 i) := by show (match first ws1 S1 with | none => S1 | some c => takeAll ws1 k1 (Mw.take1 ws1 S1 c)) = _; rw [e1]
        rw [e2]; exact h
      · have e1 : first ws2 S2 = some i := first_iff.mpr ⟨hi, by rw [← U.full2 W2 M hi]; exact q2, fun j hj => by rw [← U.full2 W2 M (Nat.lt_trans hj hi)]; exact q3 _ (M.mb j i hj hi)⟩
        obtain ⟨k1, k2, h⟩ := Un.takes W1 W2 M k (U.take2 W2 M H1 hi) H1 (hom_take W2 H2 hi)
        refine ⟨k1, k2 + 1, ?_⟩
        have e2 : takeAll ws2 (k2 + 1) S2 = takeAll ws2 k2 (Mw.take1 ws2 S2 i) := by show (match first ws2 S2 with | none => S2 | some c => takeAll ws2 k2 (Mw.take1 ws2 S2 c)) = _; rw [e1]
        rw [e2]; exact h
theorem Un.all (W1 : WsOk n1 ws1) (W2 : WsOk n2 ws2) (W : WsOk (n1 + n2) ws) (M : Mix n1 ws1 ws2 ws f1 f2) (U : Un n1 n2 f1 f2 S S1 S2) (H : ∃ es, Hom (n1 + n2) es S.h) (H1 : ∃ es, Hom n1 es S1.h) (H2 : ∃ es, Hom n2 es S2.h) :
    Un n1 n2 f1 f2 (takeAll ws (n1 + n2) S) (takeAll ws1 n1 S1) (takeAll ws2 n2 S2) := by
  obtain ⟨k1, k2, h⟩ := Un.takes W1 W2 M (n1 + n2) U H1 H2
  have hf := first_nil.mp (takeAll_none W (n1 + n2) S H (reps_le _ _)).1
  have g1 : first ws1 (takeAll ws1 k1 S1) = none := first_nil.mpr fun c hc => by rw [← h.full1 W1 M hc]; exact hf _ (M.a c hc).1
  have g2 : first ws2 (takeAll ws2 k2 S2) = none := first_nil.mpr fun c hc => by rw [← h.full2 W2 M hc]; exact hf _ (M.b c hc).1
  rw [takeAll_uniq (takeAll_none W1 n1 S1 H1 (reps_le _ _)).1 g1, takeAll_uniq (takeAll_none W2 n2 S2 H2 (reps_le _ _)).1 g2]
  exact h
/-! ### the open groups of both -/
theorem range_two (n1 n2 : Nat) : List.range (n1 + n2) = List.range n1 ++ (List.range n2).map (n1 + ·) := List.range_add
theorem Un.reps (U : Un n1 n2 f1 f2 S S1 S2) : Mw.reps S.h (n1 + n2) = Mw.reps S1.h n1 ++ (Mw.reps S2.h n2).map (n1 + ·) := by
  unfold Mw.reps
  rw [range_two, List.filter_append, List.filter_map]
  congr 1
  · refine List.filter_congr fun x hx => ?_
    rw [U.h1 _ (List.mem_range.mp hx)]
  · congr 1
    refine List.filter_congr fun x hx => ?_
    show (S.h (n1 + x) == n1 + x) = (S2.h x == x)
    rw [U.h2 _ (List.mem_range.mp hx), Bool.eq_iff_iff, beq_iff_eq, beq_iff_eq]
    omega
theorem Un.opens (U : Un n1 n2 f1 f2 S S1 S2) (H1 : ∃ es, Hom n1 es S1.h) (o1 : ∀ p ∈ ps1, p.1 < n1 ∧ p.2 < n1) (o2 : ∀ p ∈ ps2, p.1 < n2 ∧ p.2 < n2) :
    Mw.opens (n1 + n2) (ps1 ++ shP n1 ps2) S.h = Mw.opens n1 ps1 S1.h ++ (Mw.opens n2 ps2 S2.h).map (n1 + ·) := by
  obtain ⟨es, H⟩ := H1
  unfold Mw.opens
  rw [U.reps, List.filter_append, List.filter_map]
  congr 1
  · refine List.filter_congr fun r hr => ?_
    have hr' := (mem_reps'.mp hr).1
    rw [List.any_append]
    have e1 : ps1.any (parted S.h r) = ps1.any (parted S1.h r) := by
      rw [Bool.eq_iff_iff, List.any_eq_true, List.any_eq_true]
      have : ∀ q ∈ ps1, parted S.h r q = parted S1.h r q := fun q hq => by
        unfold parted
        rw [U.h1 _ (o1 q hq).1, U.h1 _ (o1 q hq).2]
      exact ⟨fun ⟨q, a, b⟩ => ⟨q, a, by rw [← this q a]; exact b⟩, fun ⟨q, a, b⟩ => ⟨q, a, by rw [this q a]; exact b⟩⟩
    have e2 : (shP n1 ps2).any (parted S.h r) = false := by
      rw [List.any_eq_false]
      intro q hq
      obtain ⟨q', h', rfl⟩ := List.mem_map.mp hq
      unfold parted
      dsimp only
      rw [U.h2 _ (o2 q' h').1, U.h2 _ (o2 q' h').2, decide_eq_false (by omega), decide_eq_false (by omega)]
      exact Bool.false_ne_true
    rw [e1, e2, Bool.or_false]
  · congr 1
    refine List.filter_congr fun r hr => ?_
    show (ps1 ++ shP n1 ps2).any (parted S.h (n1 + r)) = _
    rw [List.any_append]
    have e1 : ps1.any (parted S.h (n1 + r)) = false := by
      rw [List.any_eq_false]
      intro q hq
      have a1 := H.le _ (o1 q hq).1
      have a2 := H.le _ (o1 q hq).2
      have := o1 q hq
      unfold parted
      rw [U.h1 _ (o1 q hq).1, U.h1 _ (o1 q hq).2, decide_eq_false (by omega), decide_eq_false (by omega)]
      exact Bool.false_ne_true
    have e2 : (shP n1 ps2).any (parted S.h (n1 + r)) = ps2.any (parted S2.h r) := by
      unfold shP
      rw [List.any_map, Bool.eq_iff_iff, List.any_eq_true, List.any_eq_true]
      have : ∀ q ∈ ps2, parted S.h (n1 + r) (n1 + q.1, n1 + q.2) = parted S2.h r q := fun q hq => by
        unfold parted
        dsimp only
        rw [U.h2 _ (o2 q hq).1, U.h2 _ (o2 q hq).2]
        congr 1
        · exact decide_eq_decide.mpr (by omega)
        · exact decide_eq_decide.mpr (by omega)
      exact ⟨fun ⟨q, a, b⟩ => ⟨q, a, by rw [← this q a]; exact b⟩, fun ⟨q, a, b⟩ => ⟨q, a, by rw [← this q a] at b; exact b⟩⟩
    rw [e1, e2, Bool.false_or]
theorem Un.cls1 (U : Un n1 n2 f1 f2 S S1 S2) (H1 : ∃ es, Hom n1 es S1.h) {r : Nat} (hr : r < n1) : cls S.h (n1 + n2) r = cls S1.h n1 r := by
  obtain ⟨es, H⟩ := H1
  have hl := H.le _ hr
  unfold cls
  rw [range_two, List.filter_append, List.filter_map, U.h1 _ hr]
  have e1 : (List.range n1).filter (fun x => S.h x == S1.h r) = (List.range n1).filter (fun x => S1.h x == S1.h r) := List.filter_congr fun x hx => by rw [U.h1 _ (List.mem_range.mp hx)]
  have e2 : (List.range n2).filter ((fun x => S.h x == S1.h r) ∘ (n1 + ·)) = [] := List.filter_eq_nil_iff.mpr fun x hx => by
    show ¬ (S.h (n1 + x) == S1.h r) = true
    rw [U.h2 _ (List.mem_range.mp hx), beq_iff_eq]; omega
  rw [e1, e2]; exact List.append_nil _
theorem Un.cls2 (U : Un n1 n2 f1 f2 S S1 S2) (H1 : ∃ es, Hom n1 es S1.h) {r : Nat} (hr : r < n2) : cls S.h (n1 + n2) (n1 + r) = shK n1 (cls S2.h n2 r) := by
  obtain ⟨es, H⟩ := H1
  unfold cls shK
  rw [range_two, List.filter_append, List.filter_map, U.h2 _ hr]
  have e1 : (List.range n1).filter (fun x => S.h x == n1 + S2.h r) = [] := List.filter_eq_nil_iff.mpr fun x hx => by
    have := H.le _ (List.mem_range.mp hx)
    have := List.mem_range.mp hx
    rw [U.h1 _ (List.mem_range.mp hx), beq_iff_eq]; omega
  rw [e1, List.nil_append]
  congr 1
  refine List.filter_congr fun x hx => ?_
  show (S.h (n1 + x) == n1 + S2.h r) = (S2.h x == S2.h r)
  rw [U.h2 _ (List.mem_range.mp hx), Bool.eq_iff_iff, beq_iff_eq, beq_iff_eq]; omega
theorem cls_key {n : Nat} {h : Nat → Nat} {r : Nat} (hr : r < n ∧ h r = r) : cls h n r ≠ [] ∧ ∀ x ∈ cls h n r, x < n := ⟨List.ne_nil_of_mem (mem_cls.mpr ⟨hr.1, rfl⟩), fun x hx => (mem_cls.mp hx).1⟩
theorem Un.grow (U : Un n1 n2 f1 f2 S S1 S2) (I : Iv (n1 + n2) ws S) (I1 : Iv n1 ws1 S1) (I2 : Iv n2 ws2 S2) (o1 : ∀ p ∈ ps1, p.1 < n1 ∧ p.2 < n1) (o2 : ∀ p ∈ ps2, p.1 < n2 ∧ p.2 < n2) :
    Un n1 n2 f1 f2 (Mw.grow (n1 + n2) S (Mw.opens (n1 + n2) (ps1 ++ shP n1 ps2) S.h) 1) (Mw.grow n1 S1 (Mw.opens n1 ps1 S1.h) 1) (Mw.grow n2 S2 (Mw.opens n2 ps2 S2.h) 1) := by
  have eo := U.opens I1.hom o1 o2
  have r1 : ∀ r ∈ Mw.opens n1 ps1 S1.h, r < n1 ∧ S1.h r = r := fun r hr => (mem_opens.mp hr).1
  have r2 : ∀ r ∈ Mw.opens n2 ps2 S2.h, r < n2 ∧ S2.h r = r := fun r hr => (mem_opens.mp hr).1
  obtain ⟨es, H⟩ := I1.hom
  rw [eo]
  generalize Mw.opens n1 ps1 S1.h = R1 at r1
  generalize Mw.opens n2 ps2 S2.h = R2 at r2
  refine ⟨U.h1, U.h2, fun p hp => ?_, fun q hq => ?_, U.tk, ?_⟩
  · show S.dep p + (if S.h p ∈ R1 ++ R2.map (n1 + ·) then 1 else 0) = S1.dep p + if S1.h p ∈ R1 then 1 else 0
    have hl := H.le _ hp
    rw [U.d1 _ hp, U.h1 _ hp]
    congr 1
    have : S1.h p ∈ R1 ++ R2.map (n1 + ·) ↔ S1.h p ∈ R1 := by
      rw [List.mem_append]
      refine ⟨fun z => z.elim id fun y => ?_, .inl⟩
      obtain ⟨r, _, e⟩ := List.mem_map.mp y
      omega
    by_cases z : S1.h p ∈ R1
    · rw [if_pos z, if_pos (this.mpr z)]
    · rw [if_neg z, if_neg fun y => z (this.mp y)]
  · show S.dep (n1 + q) + (if S.h (n1 + q) ∈ R1 ++ R2.map (n1 + ·) then 1 else 0) = S2.dep q + if S2.h q ∈ R2 then 1 else 0
    rw [U.d2 _ hq, U.h2 _ hq]
    congr 1
    have : n1 + S2.h q ∈ R1 ++ R2.map (n1 + ·) ↔ S2.h q ∈ R2 := by
      rw [List.mem_append]
      refine ⟨fun z => z.elim (fun y => ?_) fun y => ?_, fun z => .inr (List.mem_map_of_mem z)⟩
      · have := (r1 _ y).1; omega
      · obtain ⟨r, hr, e⟩ := List.mem_map.mp y
        have : r = S2.h q := by omega
        exact this ▸ hr
    by_cases z : S2.h q ∈ R2
    · rw [if_pos z, if_pos (this.mpr z)]
    · rw [if_neg z, if_neg fun y => z (this.mp y)]
  · rw [grow_wid, grow_wid, grow_wid]
    have ek : (R1 ++ R2.map (n1 + ·)).map (cls S.h (n1 + n2)) = R1.map (cls S1.h n1) ++ (R2.map (cls S2.h n2)).map (shK n1) := by
      rw [List.map_append, List.map_map, List.map_map]
      congr 1
      · exact List.map_congr_left fun r hr => U.cls1 ⟨es, H⟩ (r1 r hr).1
      · exact List.map_congr_left fun r hr => U.cls2 ⟨es, H⟩ (r2 r hr).1
    rw [ek]
    have nd : ((S1.wid ++ shR n1 S2.wid).map (·.1)).Nodup := (U.wd.map _).nodup_iff.mp I.nd
    refine (fold_perm _ U.wd I.nd).trans ?_
    show (foldK (R1.map (cls S1.h n1) ++ (R2.map (cls S2.h n2)).map (shK n1)) 1 (S1.wid ++ shR n1 S2.wid)).Perm _
    have ea : ∀ (a b : List (List Nat)) (l : Wid), foldK (a ++ b) 1 l = foldK b 1 (foldK a 1 l) := fun a b l => by unfold foldK; rw [List.foldl_append]
    rw [ea]
    have c1 : ∀ k ∈ R1.map (cls S1.h n1), k ∉ (shR n1 S2.wid).map (·.1) := fun k hk hz => by
      obtain ⟨r, hr, rfl⟩ := List.mem_map.mp hk
      rw [shR_keys] at hz
      obtain ⟨j, hj, ej⟩ := List.mem_map.mp hz
      obtain ⟨k1, k2⟩ := cls_key (r1 r hr)
      obtain ⟨x, hx⟩ := List.exists_mem_of_ne_nil _ k1
      have hx1 := k2 x hx
      rw [← ej] at hx
      obtain ⟨y, _, ey⟩ := List.mem_map.mp hx
      omega
    have p1 := fold_left (s := 1) _ S1.wid c1 nd
    have nd1 : ((foldK (R1.map (cls S1.h n1)) 1 (S1.wid ++ shR n1 S2.wid)).map (·.1)).Nodup := nd_fold _ nd
    refine (fold_perm _ p1 nd1).trans ?_
    have c2 : ∀ k ∈ (R2.map (cls S2.h n2)).map (shK n1), k ∉ (foldK (R1.map (cls S1.h n1)) 1 S1.wid).map (·.1) := fun k hk hz => by
      obtain ⟨j, hj, rfl⟩ := List.mem_map.mp hk
      obtain ⟨r, hr, rfl⟩ := List.mem_map.mp hj
      obtain ⟨k1, k2⟩ := cls_key (r2 r hr)
      have hb : ∀ x ∈ shK n1 (cls S2.h n2 r), x < n1 := by
        rcases key_fold _ hz with z | z
        · obtain ⟨r', hr', e'⟩ := List.mem_map.mp z
          rw [← e']; exact (cls_key (r1 r' hr')).2
        · exact (I1.key _ z).2
      obtain ⟨x, hx⟩ := List.exists_mem_of_ne_nil _ k1
      have := hb (n1 + x) (List.mem_map_of_mem hx)
      omega
    rw [fold_right _ _ c2, fold_shR]
/-! ### a step keeps what holds -/
theorem Iv.grow {n : Nat} {ws : Wl} {ps : List Pr} {S : Gs} (I : Iv n ws S) : Iv n ws (Mw.grow n S (Mw.opens n ps S.h) 1) := by
  refine ⟨I.hom, by rw [grow_wid]; exact nd_fold _ I.nd, fun k hk => ?_⟩
  rw [grow_wid] at hk
  rcases key_fold _ hk with z | z
  · obtain ⟨r, hr, rfl⟩ := List.mem_map.mp z
    exact cls_key (mem_opens.mp hr).1
  · exact I.key k z
theorem Iv.all {n : Nat} {ws : Wl} {S : Gs} (W : WsOk n ws) (I : Iv n ws S) : Iv n ws (takeAll ws n S) ∧ first ws (takeAll ws n S) = none := by
  obtain ⟨q1, q2⟩ := takeAll_none W n S I.hom (reps_le _ _)
  have e := (takeAll_time ws n S).2.2
  exact ⟨⟨q2, by rw [e]; exact I.nd, by rw [e]; exact I.key⟩, q1⟩
theorem Iv.step {n : Nat} {ws : Wl} {ps : List Pr} {S : Gs} (W : WsOk n ws) (I : Iv n ws S) (hf : first ws S = none) : Iv n ws (Mw.step n ws ps S) ∧ first ws (Mw.step n ws ps S) = none := by
  unfold Mw.step
  by_cases h : Mw.opens n ps S.h = []
  · rw [if_pos h]; exact ⟨I, hf⟩
  · rw [if_neg h]; exact I.grow.all W
/-- where nothing is open, growing changes the time alone -/
theorem grow_still {n : Nat} {ws : Wl} {ps : List Pr} {S : Gs} (hf : first ws S = none) (h : Mw.opens n ps S.h = []) : (takeAll ws n (Mw.grow n S (Mw.opens n ps S.h) 1)).h = (Mw.step n ws ps S).h ∧ (takeAll ws n (Mw.grow n S (Mw.opens n ps S.h) 1)).dep = (Mw.step n ws ps S).dep ∧
    (takeAll ws n (Mw.grow n S (Mw.opens n ps S.h) 1)).wid = (Mw.step n ws ps S).wid ∧ (takeAll ws n (Mw.grow n S (Mw.opens n ps S.h) 1)).taken = (Mw.step n ws ps S).taken := by
  have e1 : Mw.step n ws ps S = S := if_pos h
  rw [e1, h]
  have ed : (Mw.grow n S [] 1).dep = S.dep := by
    funext p
    show S.dep p + (if S.h p ∈ [] then 1 else 0) = S.dep p
    rw [if_neg (fun z => nomatch z)]; omega
  have hf2 : first ws (Mw.grow n S [] 1) = none := first_nil.mpr fun c hc => by
    have := first_nil.mp hf c hc
    have e : full ws (Mw.grow n S [] 1) c = full ws S c := by
      unfold full lack
      rw [ed]; rfl
    rw [e]; exact this
  rw [takeAll_stop hf2]
  exact ⟨rfl, ed, rfl, rfl⟩
theorem step_eq {n : Nat} {ws : Wl} {ps : List Pr} {S : Gs} (hf : first ws S = none) : (takeAll ws n (Mw.grow n S (Mw.opens n ps S.h) 1)).h = (Mw.step n ws ps S).h ∧ (takeAll ws n (Mw.grow n S (Mw.opens n ps S.h) 1)).dep = (Mw.step n ws ps S).dep ∧
    (takeAll ws n (Mw.grow n S (Mw.opens n ps S.h) 1)).wid = (Mw.step n ws ps S).wid ∧ (takeAll ws n (Mw.grow n S (Mw.opens n ps S.h) 1)).taken = (Mw.step n ws ps S).taken := by
  by_cases h : Mw.opens n ps S.h = []
  · exact grow_still hf h
  · rw [show Mw.step n ws ps S = takeAll ws n (Mw.grow n S (Mw.opens n ps S.h) 1) from if_neg h]
    exact ⟨rfl, rfl, rfl, rfl⟩
theorem Un.step (W1 : WsOk n1 ws1) (W2 : WsOk n2 ws2) (W : WsOk (n1 + n2) ws) (M : Mix n1 ws1 ws2 ws f1 f2) (U : Un n1 n2 f1 f2 S S1 S2) (I : Iv (n1 + n2) ws S) (I1 : Iv n1 ws1 S1) (I2 : Iv n2 ws2 S2) (hf : first ws S = none) (hf1 : first ws1 S1 = none) (hf2 : first ws2 S2 = none) (o1 : ∀ p ∈ ps1, p.1 < n1 ∧ p.2 < n1) (o2 : ∀ p ∈ ps2, p.1 < n2 ∧ p.2 < n2) :
    Un n1 n2 f1 f2 (Mw.step (n1 + n2) ws (ps1 ++ shP n1 ps2) S) (Mw.step n1 ws1 ps1 S1) (Mw.step n2 ws2 ps2 S2) := by
  have h := (U.grow I I1 I2 o1 o2).all W1 W2 W M I.hom I1.hom I2.hom
  obtain ⟨a1, a2, a3, a4⟩ := step_eq (ps := ps1 ++ shP n1 ps2) hf
  obtain ⟨b1, b2, b3, b4⟩ := step_eq (ps := ps1) hf1
  obtain ⟨c1, c2, c3, c4⟩ := step_eq (ps := ps2) hf2
  refine ⟨fun p hp => by rw [← a1, ← b1]; exact h.h1 p hp, fun q hq => by rw [← a1, ← c1]; exact h.h2 q hq, fun p hp => by rw [← a2, ← b2]; exact h.d1 p hp, fun q hq => by rw [← a2, ← c2]; exact h.d2 q hq, fun c => ?_, by rw [← a3, ← b3, ← c3]; exact h.wd⟩
  have := h.tk c
  unfold tkn at this ⊢
  rw [a4, b4, c4] at this
  exact this
theorem Un.iter (W1 : WsOk n1 ws1) (W2 : WsOk n2 ws2) (W : WsOk (n1 + n2) ws) (M : Mix n1 ws1 ws2 ws f1 f2) (o1 : ∀ p ∈ ps1, p.1 < n1 ∧ p.2 < n1) (o2 : ∀ p ∈ ps2, p.1 < n2 ∧ p.2 < n2) : ∀ (k : Nat) {S S1 S2 : Gs}, Un n1 n2 f1 f2 S S1 S2 → Iv (n1 + n2) ws S → Iv n1 ws1 S1 → Iv n2 ws2 S2 → first ws S = none → first ws1 S1 = none → first ws2 S2 = none →
    Un n1 n2 f1 f2 (Mw.iter (n1 + n2) ws (ps1 ++ shP n1 ps2) k S) (Mw.iter n1 ws1 ps1 k S1) (Mw.iter n2 ws2 ps2 k S2)
  | 0, _, _, _, U, _, _, _, _, _, _ => U
  | k + 1, S, S1, S2, U, I, I1, I2, hf, hf1, hf2 => by
    obtain ⟨a1, a2⟩ := I.step (ps := ps1 ++ shP n1 ps2) W hf
    obtain ⟨b1, b2⟩ := I1.step (ps := ps1) W1 hf1
    obtain ⟨c1, c2⟩ := I2.step (ps := ps2) W2 hf2
    exact Un.iter W1 W2 W M o1 o2 k (U.step W1 W2 W M I I1 I2 hf hf1 hf2 o1 o2) a1 b1 c1 a2 b2 c2
theorem Iv.start {n : Nat} {ws : Wl} : Iv n ws Mw.start := ⟨⟨[], Hom.start n⟩, List.nodup_nil, fun k hk => nomatch hk⟩
theorem Un.final (W1 : WsOk n1 ws1) (W2 : WsOk n2 ws2) (W : WsOk (n1 + n2) ws) (M : Mix n1 ws1 ws2 ws f1 f2) (o1 : ∀ p ∈ ps1, p.1 < n1 ∧ p.2 < n1) (o2 : ∀ p ∈ ps2, p.1 < n2 ∧ p.2 < n2)
    (J : ∀ q ∈ ps1 ++ shP n1 ps2, Cn (wedges ws) q.1 q.2) (J1 : ∀ q ∈ ps1, Cn (wedges ws1) q.1 q.2) (J2 : ∀ q ∈ ps2, Cn (wedges ws2) q.1 q.2) :
    Un n1 n2 f1 f2 (allGro (n1 + n2) ws (ps1 ++ shP n1 ps2)).1 (allGro n1 ws1 ps1).1 (allGro n2 ws2 ps2).1 := by
  obtain ⟨N, hN⟩ := iter_all W J
  obtain ⟨N1, hN1⟩ := iter_all W1 J1
  obtain ⟨N2, hN2⟩ := iter_all W2 J2
  have U0 : Un n1 n2 f1 f2 Mw.start Mw.start Mw.start := ⟨fun _ _ => rfl, fun _ _ => rfl, fun _ _ => rfl, fun _ _ => rfl, fun c => ⟨(fun h => nomatch h), fun h => by rcases h with ⟨i, hi, _⟩ | ⟨i, hi, _⟩ <;> cases hi⟩, List.Perm.refl _⟩
  have h := Un.iter W1 W2 W M o1 o2 (N + (N1 + N2)) U0 Iv.start Iv.start Iv.start (GF.start W).f (GF.start W1).f (GF.start W2).f
  rw [hN (N1 + N2), show N + (N1 + N2) = N1 + (N + N2) by omega, hN1 (N + N2), show N1 + (N + N2) = N2 + (N + N1) by omega, hN2 (N + N1)] at h
  exact h
end
end Mw

set_option Elab.async false
set_option linter.all false
set_option maxRecDepth 100000
set_option maxHeartbeats 4000000
namespace Mw
open PySem PySem.Spec PyProof.Rows L2 GE
/-! ### a part of a net, alone, beside the whole net: the same places, the part's ways and pairs only -/
structure Sub (n : Nat) (ws ws1 : Wl) (pl : List Nat) (f : Nat → Nat) (ps ps1 : List Pr) : Prop where
  a : ∀ i, i < ws1.length → f i < ws.length ∧ way ws (f i) = way ws1 i
  i1 : ∀ i, i < ws1.length → (way ws1 i).1 ∈ pl ∧ (way ws1 i).2.1 ∈ pl
  m : ∀ i j, i < j → j < ws1.length → f i < f j
  c : ∀ c, c < ws.length → (∃ i, i < ws1.length ∧ c = f i) ∨ ((way ws c).1 ∉ pl ∧ (way ws c).2.1 ∉ pl)
  p : ∀ q, q ∈ ps1 ↔ q ∈ ps ∧ q.1 ∈ pl
  q : ∀ q ∈ ps, (q.1 ∈ pl ↔ q.2 ∈ pl)
  l : ∀ x ∈ pl, x < n
  b : ∀ q ∈ ps, q.1 < n ∧ q.2 < n
structure Up (n : Nat) (ws1 : Wl) (pl : List Nat) (f : Nat → Nat) (S S1 : Gs) : Prop where
  h : ∀ p ∈ pl, S.h p = S1.h p
  d : ∀ p ∈ pl, S.dep p = S1.dep p
  c : ∀ p, p < n → (S.h p ∈ pl ↔ p ∈ pl)
  t : ∀ i, i < ws1.length → (f i ∈ tkn S ↔ i ∈ tkn S1)
section
variable {n : Nat} {ws ws1 : Wl} {pl : List Nat} {f : Nat → Nat} {ps ps1 : List Pr} {S S1 : Gs}
theorem Sub.inj (M : Sub n ws ws1 pl f ps ps1) {i j : Nat} (hi : i < ws1.length) (hj : j < ws1.length) (e : f i = f j) : i = j := by
  rcases Nat.lt_trichotomy i j with q | q | q
  · have := M.m i j q hj; omega
  · exact q
  · have := M.m j i q hi; omega
theorem Up.full (U : Up n ws1 pl f S S1) (M : Sub n ws ws1 pl f ps ps1) {i : Nat} (hi : i < ws1.length) : full ws S (f i) = full ws1 S1 i := by
  obtain ⟨p1, p2⟩ := M.i1 i hi
  unfold Mw.full crosses lack
  rw [(M.a i hi).2, U.h _ p1, U.h _ p2, U.d _ p1, U.d _ p2]
theorem Up.take (U : Up n ws1 pl f S S1) (W1 : WsOk n ws1) (M : Sub n ws ws1 pl f ps ps1) {i : Nat} (hi : i < ws1.length) : Up n ws1 pl f (take1 ws S (f i)) (take1 ws1 S1 i) := by
  obtain ⟨p1, p2⟩ := M.i1 i hi
  have m1 := (U.c _ (M.l _ p1)).mpr p1
  have m2 := (U.c _ (M.l _ p2)).mpr p2
  refine ⟨fun p hp => ?_, U.d, fun p hp => ?_, fun j hj => ?_⟩
  · show relab S.h (way ws (f i)).1 (way ws (f i)).2.1 p = relab S1.h (way ws1 i).1 (way ws1 i).2.1 p
    rw [(M.a i hi).2]
    unfold relab
    rw [U.h _ hp, U.h _ p1, U.h _ p2]
  · show relab S.h (way ws (f i)).1 (way ws (f i)).2.1 p ∈ pl ↔ p ∈ pl
    rw [(M.a i hi).2]
    unfold relab
    split
    · rename_i e
      refine ⟨fun _ => (U.c p hp).mp ?_, fun _ => ?_⟩
      · rw [e]
        rcases Nat.le_total (S.h (way ws1 i).1) (S.h (way ws1 i).2.1) with z | z
        · rw [Nat.max_eq_right z]; exact m2
        · rw [Nat.max_eq_left z]; exact m1
      · rcases Nat.le_total (S.h (way ws1 i).1) (S.h (way ws1 i).2.1) with z | z
        · rw [Nat.min_eq_left z]; exact m1
        · rw [Nat.min_eq_right z]; exact m2
    · exact U.c p hp
  · rw [tkn_take, tkn_take, List.mem_append, List.mem_append, List.mem_singleton, List.mem_singleton, U.t j hj]
    exact or_congr Iff.rfl ⟨fun z => M.inj hj hi z, fun z => by rw [z]⟩
theorem Up.other (U : Up n ws1 pl f S S1) (W : WsOk n ws) (M : Sub n ws ws1 pl f ps ps1) {c : Nat} (hc : c < ws.length) (o : (way ws c).1 ∉ pl ∧ (way ws c).2.1 ∉ pl) : Up n ws1 pl f (take1 ws S c) S1 := by
  obtain ⟨w1, w2, _⟩ := W.ok c hc
  have m1 : S.h (way ws c).1 ∉ pl := fun z => o.1 ((U.c _ (Nat.lt_trans w1 w2)).mp z)
  have m2 : S.h (way ws c).2.1 ∉ pl := fun z => o.2 ((U.c _ w2).mp z)
  have mx : max (S.h (way ws c).1) (S.h (way ws c).2.1) ∉ pl := by
    rcases Nat.le_total (S.h (way ws c).1) (S.h (way ws c).2.1) with z | z
    · rw [Nat.max_eq_right z]; exact m2
    · rw [Nat.max_eq_left z]; exact m1
  have mn : min (S.h (way ws c).1) (S.h (way ws c).2.1) ∉ pl := by
    rcases Nat.le_total (S.h (way ws c).1) (S.h (way ws c).2.1) with z | z
    · rw [Nat.min_eq_left z]; exact m1
    · rw [Nat.min_eq_right z]; exact m2
  refine ⟨fun p hp => ?_, U.d, fun p hp => ?_, fun j hj => ?_⟩
  · show relab S.h (way ws c).1 (way ws c).2.1 p = S1.h p
    unfold relab
    rw [if_neg (fun z : S.h p = max (S.h (way ws c).1) (S.h (way ws c).2.1) => mx (by rw [← z]; exact (U.c p (M.l p hp)).mpr hp))]
    exact U.h p hp
  · show relab S.h (way ws c).1 (way ws c).2.1 p ∈ pl ↔ p ∈ pl
    unfold relab
    split
    · rename_i e
      exact ⟨fun z => absurd z mn, fun z => absurd ((U.c p hp).mpr z) (by rw [e]; exact mx)⟩
    · exact U.c p hp
  · rw [tkn_take, List.mem_append, List.mem_singleton, U.t j hj]
    refine ⟨fun z => z.elim id fun z => absurd (M.i1 j hj).1 ?_, .inl⟩
    rw [← (M.a j hj).2, z]; exact o.1
theorem Up.takes (W : WsOk n ws) (W1 : WsOk n ws1) (M : Sub n ws ws1 pl f ps ps1) : ∀ (k : Nat) {S S1 : Gs}, Up n ws1 pl f S S1 → ∃ k1, Up n ws1 pl f (takeAll ws k S) (takeAll ws1 k1 S1)
  | 0, S, S1, U => ⟨0, U⟩
  | k + 1, S, S1, U => by
    have e0 : takeAll ws (k + 1) S = match first ws S with | none => S | some c => takeAll ws k (take1 ws S c) := rfl
    rw [e0]
    cases e : first ws S with
    | none => exact ⟨0, U⟩
    | some c =>
      obtain ⟨q1, q2, q3⟩ := first_iff.mp e
      rcases M.c c q1 with ⟨i, hi, rfl⟩ | o
      · have e1 : first ws1 S1 = some i := first_iff.mpr ⟨hi, by rw [← U.full M hi]; exact q2, fun j hj => by rw [← U.full M (Nat.lt_trans hj hi)]; exact q3 _ (M.m j i hj hi)⟩
        obtain ⟨k1, h⟩ := Up.takes W W1 M k (U.take W1 M hi)
        refine ⟨k1 + 1, ?_⟩
        have e2 : takeAll ws1 (k1 + 1) S1 = takeAll ws1 k1 (take1 ws1 S1 i) := by show (match first ws1 S1 with | none => S1 | some c => takeAll ws1 k1 (take1 ws1 S1 c)) = _; rw [e1]
        rw [e2]; exact h
      · exact Up.takes W W1 M k (U.other W M q1 o)
theorem Up.all (W : WsOk n ws) (W1 : WsOk n ws1) (M : Sub n ws ws1 pl f ps ps1) (U : Up n ws1 pl f S S1) (H : ∃ es, Hom n es S.h) (H1 : ∃ es, Hom n es S1.h) : Up n ws1 pl f (takeAll ws n S) (takeAll ws1 n S1) := by
  obtain ⟨k1, h⟩ := Up.takes W W1 M n U
  have hf := first_nil.mp (takeAll_none W n S H (reps_le _ _)).1
  have g1 : first ws1 (takeAll ws1 k1 S1) = none := first_nil.mpr fun c hc => by rw [← h.full M hc]; exact hf _ (M.a c hc).1
  rw [takeAll_uniq (takeAll_none W1 n S1 H1 (reps_le _ _)).1 g1]
  exact h
theorem Up.opens (U : Up n ws1 pl f S S1) (M : Sub n ws ws1 pl f ps ps1) (H : ∃ es, Hom n es S.h) (H1 : ∃ es, Hom n es S1.h) {p : Nat} (hp : p ∈ pl) : S.h p ∈ Mw.opens n ps S.h ↔ S1.h p ∈ Mw.opens n ps1 S1.h := by
  obtain ⟨es, H⟩ := H
  obtain ⟨es1, H1⟩ := H1
  have hpn := M.l p hp
  have hr := (U.c p hpn).mpr hp
  have i0 := H.idem p hpn
  have i1 := H1.idem p hpn
  have l0 := H.le p hpn
  have l1 := H1.le p hpn
  have e := U.h p hp
  rw [mem_opens, mem_opens]
  have key : ∀ q ∈ ps1, parted S.h (S.h p) q = parted S1.h (S1.h p) q := fun q hq => by
    obtain ⟨q1, q2⟩ := (M.p q).mp hq
    unfold parted
    rw [U.h _ q2, U.h _ ((M.q q q1).mp q2), e]
  constructor
  · rintro ⟨_, q, hq, hx⟩
    have hin : q.1 ∈ pl := by
      unfold parted at hx
      by_cases z1 : S.h q.1 = S.h p
      · exact (U.c _ (M.b q hq).1).mp (by rw [z1]; exact hr)
      · by_cases z2 : S.h q.2 = S.h p
        · exact (M.q q hq).mpr ((U.c _ (M.b q hq).2).mp (by rw [z2]; exact hr))
        · rw [decide_eq_false z1, decide_eq_false z2] at hx; cases hx
    have hq1 := (M.p q).mpr ⟨hq, hin⟩
    exact ⟨⟨by omega, i1⟩, q, hq1, by rw [← key q hq1]; exact hx⟩
  · rintro ⟨_, q, hq, hx⟩
    exact ⟨⟨by omega, i0⟩, q, ((M.p q).mp hq).1, by rw [key q hq]; exact hx⟩
theorem Up.grow (U : Up n ws1 pl f S S1) (M : Sub n ws ws1 pl f ps ps1) (H : ∃ es, Hom n es S.h) (H1 : ∃ es, Hom n es S1.h) (s : Int) : Up n ws1 pl f (Mw.grow n S (Mw.opens n ps S.h) s) (Mw.grow n S1 (Mw.opens n ps1 S1.h) s) := by
  refine ⟨U.h, fun p hp => ?_, U.c, U.t⟩
  show S.dep p + (if S.h p ∈ Mw.opens n ps S.h then s else 0) = S1.dep p + (if S1.h p ∈ Mw.opens n ps1 S1.h then s else 0)
  rw [U.d p hp]
  have := U.opens M H H1 hp
  by_cases z : S.h p ∈ Mw.opens n ps S.h
  · rw [if_pos z, if_pos (this.mp z)]
  · rw [if_neg z, if_neg fun y => z (this.mpr y)]
theorem Up.step (U : Up n ws1 pl f S S1) (W : WsOk n ws) (W1 : WsOk n ws1) (M : Sub n ws ws1 pl f ps ps1) (I : Iv n ws S) (I1 : Iv n ws1 S1) (hf : first ws S = none) (hf1 : first ws1 S1 = none) : Up n ws1 pl f (Mw.step n ws ps S) (Mw.step n ws1 ps1 S1) := by
  have h := (U.grow M I.hom I1.hom 1).all W W1 M I.hom I1.hom
  obtain ⟨a1, a2, a3, a4⟩ := step_eq (ps := ps) hf
  obtain ⟨b1, b2, b3, b4⟩ := step_eq (ps := ps1) hf1
  refine ⟨fun p hp => by rw [← a1, ← b1]; exact h.h p hp, fun p hp => by rw [← a2, ← b2]; exact h.d p hp, fun p hp => by rw [← a1]; exact h.c p hp, fun i hi => ?_⟩
  have := h.t i hi
  unfold tkn at this ⊢
  rw [a4, b4] at this
  exact this
theorem Up.iter (W : WsOk n ws) (W1 : WsOk n ws1) (M : Sub n ws ws1 pl f ps ps1) : ∀ (k : Nat) {S S1 : Gs}, Up n ws1 pl f S S1 → Iv n ws S → Iv n ws1 S1 → first ws S = none → first ws1 S1 = none → Up n ws1 pl f (Mw.iter n ws ps k S) (Mw.iter n ws1 ps1 k S1)
  | 0, _, _, U, _, _, _, _ => U
  | k + 1, S, S1, U, I, I1, hf, hf1 => by
    obtain ⟨a1, a2⟩ := I.step (ps := ps) W hf
    obtain ⟨b1, b2⟩ := I1.step (ps := ps1) W1 hf1
    exact Up.iter W W1 M k (U.step W W1 M I I1 hf hf1) a1 b1 a2 b2
theorem Up.final (W : WsOk n ws) (W1 : WsOk n ws1) (M : Sub n ws ws1 pl f ps ps1) (J : ∀ q ∈ ps, Cn (wedges ws) q.1 q.2) (J1 : ∀ q ∈ ps1, Cn (wedges ws1) q.1 q.2) : Up n ws1 pl f (allGro n ws ps).1 (allGro n ws1 ps1).1 := by
  obtain ⟨N, hN⟩ := iter_all W J
  obtain ⟨N1, hN1⟩ := iter_all W1 J1
  have U0 : Up n ws1 pl f Mw.start Mw.start := ⟨fun _ _ => rfl, fun _ _ => rfl, fun _ _ => Iff.rfl, fun i _ => ⟨(fun h => nomatch h), fun h => nomatch h⟩⟩
  have h := Up.iter W W1 M (N + N1) U0 Iv.start Iv.start (GF.start W).f (GF.start W1).f
  rw [hN N1, Nat.add_comm, hN1 N] at h
  exact h
end
end Mw

set_option Elab.async false
set_option linter.all false
set_option maxRecDepth 100000
set_option maxHeartbeats 2000000
/-! tests that only look: their answer, and a branch by it -/
namespace GE
open PySem PySem.Spec PyProof.Rows L2
def Ev (t : TT) (σ : L2.St) (H : Hp) (b : Bool) : Prop := ∀ Q : Bool → Hp → Prop, Q b H → t σ H Q
theorem ev_and {t u : TT} {σ : L2.St} {H : Hp} {a b : Bool} (h1 : Ev t σ H a) (h2 : a = true → Ev u σ H b) : Ev (tAnd t u) σ H (a && b) := fun Q q => by
  refine h1 _ ?_
  cases a with
  | true => exact h2 rfl Q q
  | false => exact q
theorem ev_or {t u : TT} {σ : L2.St} {H : Hp} {a b : Bool} (h1 : Ev t σ H a) (h2 : a = false → Ev u σ H b) : Ev (tOr t u) σ H (a || b) := fun Q q => by
  refine h1 _ ?_
  cases a with
  | true => exact q
  | false => exact h2 rfl Q q
theorem ev_andc {t u : TT} {σ : L2.St} {H : Hp} {Q : Bool → Hp → Prop} {a : Bool} (h1 : Ev t σ H a) (h2 : if a = true then u σ H Q else Q false H) : tAnd t u σ H Q := h1 _ h2
theorem ev_ifq {c : TT} {t u : TS} {D : Ends} {σ : L2.St} {H : Hp} (h : c σ H fun b H1 => if b = true then t D σ H1 else u D σ H1) : tIfS c t u D σ H := h
theorem ev_not {t : TT} {σ : L2.St} {H : Hp} {a : Bool} (h1 : Ev t σ H a) : Ev (tNot t) σ H (!a) := fun Q q => h1 _ q
theorem ev_if {c : TT} {t u : TS} {D : Ends} {σ : L2.St} {H : Hp} {b : Bool} (h : Ev c σ H b) (h1 : b = true → t D σ H) (h2 : b = false → u D σ H) : tIfS c t u D σ H := by
  refine h _ ?_
  cases b with
  | true => exact h1 rfl
  | false => exact h2 rfl
end GE

set_option Elab.async false
set_option linter.all false
set_option maxRecDepth 100000
set_option maxHeartbeats 2000000
/-! texts: f-strings by a name, enumerate with a start -/
namespace GE
open PySem PySem.Spec PyProof.Rows L2
def tJ (ts : List TE) : TE := fun σ H Q => tJs ts Str.empty σ H fun out H1 => Q (.str out) H1
theorem pe_js {X : Cx} {v1 v2 : Expr} {rest : List Expr} {ts : List TE} {pos : Pos} (h : PJ X (v1 :: v2 :: rest) ts) : PE X (.JoinedStr (v1 :: v2 :: rest) pos) (tJ ts) := pe_joined h
theorem pe_globI {X : Cx} {x : Str} {n : Int} {pos : Pos} (hg : Gl X x) (h : ∃ tk, X.mg x = some (.int n tk)) (hd : (x == ("__debug__" : Str)) = false := by decide) : PE X (.Name x pos) (tC (.int n)) := by
  obtain ⟨tk, h⟩ := h
  exact pe_glob hg h ⟨_, rfl⟩ hd
section
variable {M : Model} {A : Around} {E : Value → Shared → Prop} {s : Shared} {env : Env}
theorem kwT_call {cpos : Pos} {T : String} {a : Expr} {as : List Expr} {ks : List Keyword} {Q : Value → Shared → Prop}
    (run : wpAny M A (spliced (backTo cpos (starEach (a :: as) env))) (fun us r1 => wpAny M A (evalAll ((backToKw cpos (keywordEach ks env)).map (·.2))) (fun zs r2 => wpAny M A (call (.type T) us (((backToKw cpos (keywordEach ks env)).filterMap (·.1)).zip zs)) Q E r2) E r1) E s)
    (g1 : backTo cpos (starEach (a :: as) env) = (false, eval a env) :: backTo cpos (starEach as env)) (g2 : (backTo cpos (starEach (a :: as) env)).any (·.1) = false)
    (g3 : (backToKw cpos (keywordEach ks env)).all (·.1.isSome) = true) (g4 : (backToKw cpos (keywordEach ks env)).any (·.1.isNone) = false) :
    wpAny M A (callWith cpos (.type T) [] (backTo cpos (starEach (a :: as) env)) (backToKw cpos (keywordEach ks env))) Q E s := by
  have arg : wpAny M A (evalArgs (.type T) true (backTo cpos (starEach (a :: as) env)) (backToKw cpos (keywordEach ks env))) (fun g r => wpAny M A (call (.type T) ([] ++ g.pos) g.kw) Q E r) E s := by
    rw [g1] at run ⊢
    exact evalArgs_kwB g3 run
  unfold callWith
  refine wpAny_bind (wpAny_holding (wpAny_mono arg (fun g r1 q1 => wpAny_bind (wpAny_standAt ?_)) fun _ _ y => y))
  simp only [g2, g4, Bool.or_false]
  exact wpAny_bind (wpAny_pure (wpAny_bind (wpAny_mono q1 (fun z r2 q2 => wpAny_bind (wpAny_holding (wpAny_point (wpAny_pure q2)))) fun _ _ y => y)))
end
theorem enum_endL {prog : Program} {w : World} {A : Around} {E : Value → Shared → Prop} {s : Shared} {e it a : Addr} {i : Nat} {c : Int} {items : Array Value} {old : Value} {Q : Option Value → Shared → Prop} (hh : A.handled = none) (he : IsEnum s.heap e it c old) (hit : s.heap.IsListIter it a i)
    (hT : s.heap.IsList a items) (hx : items[i]? = none) (hQ : ∀ h', Heap.ExtBut it s.heap h' → Q none { s with heap := h' }) : wpAny (model prog w) A (pyNext (.ref e)) Q E s := by
  have ty : s.TypeIs (.ref e) "enumerate" := ⟨_, he, rfl⟩
  unfold pyNext
  refine wpAny_bind (wpAny_attempt (wpAny_callSpecial?_slot (name := Str.ofString "__next__") ty F.slot_enumerate_next (wpAny_call_entry F.slot_enumerate_next ty F.entry_enumerate_next ?_ (F.args_enumerate_next_1 _))))
  show wpAny _ _ (field (.ref e) 2 >>= _) _ _ s
  refine wpAny_bind (wpAny_field he rfl (x := .ref it) rfl ?_)
  refine wpAny_bind (wpAny_nextOf_list_end hh hit hT hx fun h' x eb ⟨o, ho, hc⟩ => ?_)
  exact wpAny_bind (wpAny_isInstance (T := "StopIteration") (b := true) ⟨o, ho, hc⟩ isSubtype_stop (wpAny_pure (hQ _ eb)))
/-- enumerate(list, start=1) -/
def Ite1 (K : PySem.W.Frag) (a : Addr) : It :=
  ⟨fun i H => ∃ (xs : List V) (x : V), SqL K H a xs ∧ xs[i]? = some x, fun i H v H' => ∃ T x, v = .ref T ∧ H T = none ∧ H' = upd H T (.tup [.int ((i + 1 : Nat) : Int), x]) ∧ ∀ xs, SqL K H a xs → xs[i]? = some x, fun i H => ∃ xs : List V, SqL K H a xs ∧ xs.length ≤ i⟩
theorem walk_enum1 {K : PySem.W.Frag} {a : Addr} {xs : List V} : Walk (Ite1 K a) xs.length (fun H => SqL K H a xs) (YPair (fun i => some (.int ((i + 1 : Nat) : Int))) (fun i => xs[i]?)) := by
  refine ⟨fun i _ hi q => ⟨xs, xs[i], q, List.getElem?_eq_getElem hi⟩, fun _ q => ⟨xs, q, Nat.le_refl _⟩, fun i H v H' _ q y => ?_⟩
  obtain ⟨T, x, h1, h2, h3, h4⟩ := y
  exact ⟨T, .int ((i + 1 : Nat) : Int), x, h1, h2, h3, rfl, h4 xs q⟩
theorem turn_enum1 {P : Program} {w : World} {K : PySem.W.Frag} {elts : List Expr} {kk : Nat} {tpos : Pos} (a e it : Addr) :
    Turn P w K (.Tuple elts kk tpos) (Ite1 K a) [e, it] e (fun i h => (∃ old, IsEnum h e it ((i + 1 : Nat) : Int) old) ∧ h.IsListIter it a i ∧ e ≠ it ∧ a ≠ it ∧ a ≠ e) where
  mem := by simp
  obj := fun i h st b hb => by
    obtain ⟨⟨old, he⟩, ⟨o, ho, hc, hd⟩, _⟩ := st
    have e' : b = e ∨ b = it := by simpa using hb
    rcases e' with z | z
    · rw [z]; exact ⟨_, he, fun v q => nomatch q⟩
    · rw [z]; exact ⟨o, ho, fun v q => by rw [hd] at q; cases q⟩
  keep := fun i h h' st k => let ⟨⟨old, he⟩, hi, hne⟩ := st; ⟨⟨old, k e (by simp) _ he⟩, hi.at fun o q => k it (by simp) o q, hne⟩
  item := by
    intro X hP hw hK hc i pins s σ H E I hf st hg
    subst hP hw hK
    obtain ⟨⟨old, he⟩, hit, hne, hai, hae⟩ := st
    obtain ⟨xs, x, hq, hx⟩ := hg
    obtain ⟨its, rv, p, hz⟩ := I.list hq
    obtain ⟨u, hu, ru⟩ := rv.get hx
    have hel : e < s.heap.objs.size := Heap.lt_size he
    have hil : it < s.heap.objs.size := by obtain ⟨_, q, _⟩ := hit; exact Heap.lt_size q
    have hT0 : s.heap.IsList a its.toArray := p.isList
    have hlt : i < its.toArray.size := by
      have := (List.getElem?_eq_some_iff.mp hu).1
      simpa using this
    refine wpAny_pyNext_enum_itemC (Draws.list (A := X.A.in1) (I.ok.hd hc) it a hai its.toArray) he ⟨hit, hT0⟩ hlt hne (by simp [hne, Ne.symm hae]) fun y h' tk hy ho hst' hT hsz hk => ?_
    have ey : y = u := by
      have h2 : its.toArray[i]? = some u := by simpa using hu
      exact Option.some.inj (hy.symm.trans h2)
    subst ey
    refine ⟨_, rfl, wpAny_letOwnedTupleGo_enum (s := { s with heap := h', toks := tk + 1 }) ho fun h'' he' sb => ?_⟩
    have hT2 : h''.get? s.heap.objs.size = some { cls := .type "tuple", data := .seq #[.int ((i + 1 : Nat) : Int) tk, y] } := (sb.2 _ (Nat.ne_of_gt hel)).trans hT
    have new : ObjOk X.prog X.w (upd H s.heap.objs.size (.tup [.int ((i + 1 : Nat) : Int), x])) h'' s.heap.objs.size (.tup [.int ((i + 1 : Nat) : Int), x]) :=
      ⟨by show 2 ≤ sizeLine; decide, [.int ((i + 1 : Nat) : Int) tk, y], .cons ⟨_, rfl⟩ (.cons ru .nil), ⟨_, hT2, rfl, _, rfl⟩⟩
    have I1 : Inv X pins σ (upd H s.heap.objs.size (.tup [.int ((i + 1 : Nat) : Int), x])) { s with heap := h'', toks := tk + 1 } :=
      I.turnedNew (ch := [e, it]) (fun b ob hb q => (sb.2 b (fun z => hb (by simp [z]))).trans (hk b ob (fun z => hb (by simp [z])) (fun z => hb (by simp [z])) q)) hf (Nat.le_refl _) new
    refine ⟨.ref s.heap.objs.size, _, I1, rfl, ⟨_, x, rfl, I.hok.fresh (Nat.le_refl _), rfl, fun ys hy' => ?_⟩, ⟨⟨y, ?_⟩, hst'.1.at fun o q => (sb.2 it (Ne.symm hne)).trans q, hne, hai, hae⟩, fun b hb => ?_⟩
    · rw [I.list_inj hy' hq]; exact hx
    · have e1 : ((i + 1 + 1 : Nat) : Int) = ((i + 1 : Nat) : Int) + 1 := by omega
      rw [e1]; exact he'
    · have hb' : b < s.heap.objs.size := by
        have e' : b = e ∨ b = it := by simpa using hb
        rcases e' with z | z
        · rw [z]; exact hel
        · rw [z]; exact hil
      rw [upd_ne (Nat.ne_of_lt hb')]
      exact (hf b hb).1
  done := by
    intro X hP hw hK hc i pins s σ H E I hf st hg
    subst hP hw hK
    obtain ⟨⟨old, he⟩, hit, hne, hai, hae⟩ := st
    obtain ⟨xs, hq, hx⟩ := hg
    obtain ⟨its, rv, p, hz⟩ := I.list hq
    obtain ⟨f0, f1, f2, f3, f4, f5⟩ := hf it (by simp)
    have hl := rv.length
    refine enum_endL (I.ok.hd hc) he hit p.isList (by simp; omega) fun h' eb => ⟨rfl, I.turned (t' := s.toks) (fun b o hb q => eb b o hb q) f0 f1 f3 f4 f5⟩
  self := fun A i s Q E st h => let ⟨⟨_, he⟩, _⟩ := st; wpAny_pyIter_enum he h
def iEnum1 (K : PySem.W.Frag) (ta : TA) : TI := fun σ H R => ta σ H fun vs H1 => ∃ a xs, vs = [.ref a] ∧ SqL K H1 a xs ∧ R (Ite1 K a) H1
theorem pi_enum1 {X : Cx} {e : Expr} {ta : TA} {p pos tpos kpos ipos : Pos} {elts : List Expr} {kk kz : Nat} (hg : Gl X "enumerate") (hm : X.mg "enumerate" = none) (ha : PA X [e] ta)
    (g1 : backTo pos (starEach [e] X.env) = (false, eval e X.env) :: backTo pos (starEach [] X.env) := by rfl) (g2 : (backTo pos (starEach [e] X.env)).any (·.1) = false := by rfl) :
    PI X (.Tuple elts kk tpos) (.Call (.Name "enumerate" p) [e] [⟨some "start", .Constant (.int 1) kz ipos, kpos⟩] pos) (iEnum1 X.K ta) := by
  refine ⟨fun pins s σ H R I h => ?_⟩
  refine wpAny_Call_Name_kw (ld_blt I hg hm boot_enumerate ?_)
  refine kwT_call (thn (ha.run pos pins s σ H _ I h) fun us s1 ⟨vs, H1, I1, r1, q1⟩ => thn ((pk_cons (nm := some "start") (kpos := kpos) (e := .Constant (.int 1) kz ipos) (pe_int (X := X)) pk_nil).run pos pins s1 σ H1 (fun zs H2 => zs = [.int 1] ∧ H2 = H1) I1 ⟨rfl, rfl⟩) fun ws s2 ⟨zs, H2, I2, r2, ez, eH⟩ => ?_) g1 g2 rfl rfl
  subst ez
  subst eH
  obtain ⟨a, xs, ex, hq, q⟩ := q1
  subst ex
  obtain ⟨z0, rfl, ⟨tk, rfl⟩⟩ : ∃ z0, ws = [z0] ∧ RelV (.int 1) z0 := by
    cases r2 with
    | cons r rr =>
      cases rr
      exact ⟨_, rfl, r⟩
  cases r1 with
  | cons r rr =>
    cases rr
    cases r
    obtain ⟨its, rv, p', hz⟩ := I2.list hq
    have hT0 : s2.heap.IsList a its.toArray := p'.isList
    have hal : a < s2.heap.objs.size := by obtain ⟨_, q0, _⟩ := hT0; exact Heap.lt_size q0
    show wpAny _ _ (call (.type "enumerate") [.ref a] [(Str.ofString "start", .int 1 tk)]) _ _ s2
    refine enum_begins_start (begins_list a its.toArray) hT0 (by decide) (by decide) fun h' he hit hsz hk => wpAny_pyIter_enum he ?_
    have I3 : Inv X pins σ H2 { s2 with heap := h' } := I2.kept (t' := s2.toks) hk
    refine ⟨s2.heap.objs.size + 1, [s2.heap.objs.size + 1, s2.heap.objs.size], _, _, H2, rfl, I3, turn_enum1 a (s2.heap.objs.size + 1) s2.heap.objs.size, ⟨⟨.none, he⟩, ⟨_, hit, rfl, rfl⟩, Nat.succ_ne_self _, Nat.ne_of_lt hal, Nat.ne_of_lt (Nat.lt_succ_of_lt hal)⟩, fun b hb => ?_, q⟩
    have e' : b = s2.heap.objs.size + 1 ∨ b = s2.heap.objs.size := by simpa using hb
    have hle : s2.heap.objs.size ≤ b := by
      rcases e' with z | z
      · rw [z]; exact Nat.le_add_right _ _
      · rw [z]; exact Nat.le_refl _
    exact I2.fpOk hle (I2.hok.fresh hle)
end GE

set_option Elab.async false
set_option linter.all false
set_option maxRecDepth 100000
set_option maxHeartbeats 4000000
/-! own errors with a field: made, raised, caught, asked -/
namespace GE
open PySem PySem.Spec PyProof.Rows L2
section
variable {P : Program} {w : World} {K : PySem.W.Frag} {mg : Str → Option Value} {base : Heap} {k : Nat} {f : Addr} {fd : FuncData} {ps : List Str} {sp sq : Sp}
/-- a def that lets nothing out, where others may -/
theorem okX0 {CX : CXT} (F : FnOk P w K mg base CX0 k f fd ps sp) : FnOk P w K mg base CX k f fd ps sp :=
  ⟨F.len, fun A outer s H args us vs Q E hr he hb hv hs => codeAny_mono (F.run A outer s H args us vs Q E hr he hb hv hs) fun r s' h => match r, h with
    | .error _, h => h.elim
    | .ok (.ret _), h => h
    | .ok .next, h => h
    | .ok .brk, h => h
    | .ok .cont, h => h⟩
/-- of two promises either -/
theorem okOr {CX : CXT} (a : FnOk P w K mg base CX k f fd ps sp) (b : FnOk P w K mg base CX k f fd ps sq) : FnOk P w K mg base CX k f fd ps (fun vs H Q E => sp vs H Q E ∨ sq vs H Q E) :=
  ⟨fun vs H Q E h => h.elim (a.len vs H Q E) (b.len vs H Q E), fun A outer s H args us vs Q E r1 r2 r3 r4 h => h.elim (fun h => a.run A outer s H args us vs Q E r1 r2 r3 r4 h) fun h => b.run A outer s H args us vs Q E r1 r2 r3 r4 h⟩
abbrev CXn (P : Program) (w : World) : CXT := L2N.CX P w
theorem funN {x qual : Str} {st : Stmt} {N : List Str} (F : Fun K x qual st f fd) (S : FnScope N ps (defScope st)) (len : ∀ vs H Q E, sp vs H Q E → vs.length = ps.length)
    (body : ∀ (cdv : Value) (A : Around) (outer : List Env) (s : Shared) (H : Hp) (vs : List V) (Q : VK) (E : XK), Room k (A.deeper (envOfC qual (defScope st) s.heap.objs.size f cdv)) → sp vs H Q E →
      ∃ t, PSs (cxOf (CXn P w) P w K mg base N qual (defScope st) f cdv A outer s H E) (defBody st) t ∧ t { nx := fun _ H' => Q .non H', rt := Q } (start N vs) H) : FnOk P w K mg base (CXn P w) (k + 1) f fd ps sp := by
  obtain ⟨_, _, _, _, _, _, cv, _, _, rfl, l, c⟩ := F.ex
  exact fn_of l c S len fun A outer s H vs Q E r h => body cv A outer s H vs Q E r h
/-- .. called where an error is handled -/
theorem funH {CX : CXT} {x qual : Str} {st : Stmt} {N : List Str} (F : Fun K x qual st f fd) (S : FnScope N ps (defScope st)) (len : ∀ vs H Q E, sp vs H Q E → vs.length = ps.length)
    (body : ∀ (cdv : Value) (A : Around) (outer : List Env) (s : Shared) (H : Hp) (vs : List V) (Q : VK) (E : XK) (p : Addr × Obj), L2H.Hot1 A p → L2H.RoomH k (A.deeper (envOfC qual (defScope st) s.heap.objs.size f cdv)) → sp vs H Q E →
      ∃ t, PSs (L2H.cxH CX P w K mg base N qual (defScope st) f cdv A outer s H E p) (defBody st) t ∧ t { nx := fun _ H' => Q .non H', rt := Q } (L2.start N vs) H) : L2H.FnH P w K mg base CX (k + 1) f fd ps sp := by
  obtain ⟨_, _, _, _, _, _, cv, _, _, rfl, l, c⟩ := F.ex
  exact L2H.fn_ofH l c S len fun A outer s H vs Q E p a r h => body cv A outer s H vs Q E p a r h
/-- errors with whatever context are errors -/
theorem okN_X (F : FnOk P w K mg base (CXn P w) k f fd ps sp) : FnOk P w K mg base (L2.CX P w) k f fd ps sp :=
  ⟨F.len, fun A outer s H args us vs Q E r1 r2 r3 r4 h => codeAny_mono (F.run A outer s H args us vs Q E r1 r2 r3 r4 h) fun r s' h => match r, h with
    | .error _, ⟨a, B, H', cls, d, e, fl, h1, h2, h3, h4, h5, h6⟩ => ⟨a, B, H', cls, d, e, by
        obtain ⟨k1, k2, k3, oe, vs, T, oT, ts, g1, g2, g3⟩ := fl
        exact ⟨k1, k2, k3, oe, vs, T, oT, ts, g1, g2.zc, g3⟩, h1, h2, h3, h4, h5, h6⟩
    | .ok (.ret _), h => h
    | .ok .next, h => h
    | .ok .brk, h => h
    | .ok .cont, h => h⟩
end
/-! ### facts of the classes -/
def oexB (K : PySem.W.Frag) (C : Addr) : Bool := match K.lookup C with
  | some ⟨.type t, _, .cls cd, sl⟩ => (match cd.mro, sl.toList with
    | .ref B :: bm, [_, _, _, _, some (.builtin n), _] => decide (t = "type") && (decide (B = C) && (decide (n = "ValueError.__new__") && (!cd.hasDel && (cd.hasDict && PySem.HandSPX.refsVE bm))))
    | _, _ => false)
  | _ => false
theorem oexB_ok {K : PySem.W.Frag} {C : Addr} (q : oexB K C = true) : ∃ nm qn N bs bm sn sub ab col dd k0 k1 k2 k3 k5, K.lookup C = some (excClassObj nm qn C N bs bm true sn sub ab col dd k0 k1 k2 k3 k5 "ValueError.__new__") ∧ PySem.HandSPX.refsVE bm = true := by
  unfold oexB at q
  split at q
  · rename_i t dd cd sl lk
    split at q
    · rename_i B bm k0 k1 k2 k3 n k5 e1 e2
      rw [Bool.and_eq_true, Bool.and_eq_true, Bool.and_eq_true, Bool.and_eq_true, Bool.and_eq_true, decide_eq_true_eq, decide_eq_true_eq, decide_eq_true_eq, Bool.not_eq_true'] at q
      obtain ⟨rfl, rfl, rfl, q4, q5, q6⟩ := q
      obtain ⟨nm, bs, mro, ns, qn, hd, sn, sub, ab, col, del⟩ := cd
      dsimp only at e1 q4 q5
      subst e1 q4 q5
      obtain ⟨l⟩ := sl
      have e3 : l = [k0, k1, k2, k3, some (.builtin "ValueError.__new__"), k5] := e2
      subst e3
      exact ⟨nm, qn, ns, bs, bm, sn, sub, ab, col, dd, k0, k1, k2, k3, k5, lk, q6⟩
    · cases q
  · cases q
/-- what is asked of an own error's class at C, its __init__ at fI, its field fld -/
structure Xc (K : PySem.W.Frag) (C fI : Addr) (fld : Str) : Prop where
  ox : OexC K C
  xf : XfC K C
  xc : ExcC K C
  no : PySem.W.findIn K (.ref C) fld = some none
  iC : PySem.W.findIn K (.ref C) "__init__" = some (some (.ref fI))
  tI : PySem.W.typeIn K (.ref fI) = some (.type "function")
def xcB (K : PySem.W.Frag) (C fI : Addr) (fld : Str) : Bool :=
  oexB K C && (decide (PySem.W.findIn K (.ref C) "__setattr__" = some (some (.builtin "object.__setattr__"))) && (decide (PySem.W.subIn K (.ref C) (.type "BaseException") = some true) && (decide (PySem.W.typeIn K (.ref C) = some (.type "type")) &&
  (PySem.W.keepIn K (.ref C) && (decide (PySem.W.findIn K (.ref C) "__getattribute__" = some (some (.builtin "BaseException.__getattribute__"))) && (decide (PySem.W.findIn K (.ref C) "__getattr__" = some none) && (PySem.W.hasDictIn K C &&
  (decide (PySem.W.findIn K (.ref C) "__class__" = some (some (.builtin "object.__class__"))) && (decide (PySem.W.specialIn K (.builtin "object.__class__") "__get__" = some (some (.builtin "getset_descriptor.__get__"))) && (decide (PySem.W.takesIn K (.builtin "object.__class__") = some true) &&
  (decide (PySem.W.mroIn K C (.type "object") = some true) && (decide (PySem.W.findIn K (.ref C) fld = some none) && (decide (PySem.W.findIn K (.ref C) "__init__" = some (some (.ref fI))) && decide (PySem.W.typeIn K (.ref fI) = some (.type "function")))))))))))))))
theorem xcB_ok {K : PySem.W.Frag} {C fI : Addr} {fld : Str} (h : xcB K C fI fld = true) : Xc K C fI fld := by
  unfold xcB at h
  simp only [Bool.and_eq_true, decide_eq_true_eq] at h
  obtain ⟨h1, h2, h3, h4, h5, h6, h7, h8, h9, h10, h11, h12, h13, h14, h15⟩ := h
  exact ⟨⟨oexB_ok h1, h2, h3, h4, h5⟩, ⟨h6, h7, h3, h8⟩, ⟨h6, h7, h3, h8, h9, h10, h11, h12⟩, h13, h14, h15⟩
/-- the base class at B: its __init__ is ValueError's -/
structure Xb (K : PySem.W.Frag) (B : Addr) : Prop where
  rd : PySem.W.readsIn K B (.type "type") = true
  ga : PySem.W.specialIn K (.ref B) "__getattribute__" = some (some (.builtin "type.__getattribute__"))
  at_ : PySem.W.findCls K (.ref B) (.type "type") "__init__" = some (.val (.builtin "ValueError.__init__"))
def xbB (K : PySem.W.Frag) (B : Addr) : Bool := PySem.W.readsIn K B (.type "type") && (decide (PySem.W.specialIn K (.ref B) "__getattribute__" = some (some (.builtin "type.__getattribute__"))) && (match PySem.W.findCls K (.ref B) (.type "type") "__init__" with
  | some (.val (.builtin n)) => decide (n = "ValueError.__init__")
  | _ => false))
theorem xbB_ok {K : PySem.W.Frag} {B : Addr} (h : xbB K B = true) : Xb K B := by
  unfold xbB at h
  rw [Bool.and_eq_true, Bool.and_eq_true, decide_eq_true_eq] at h
  obtain ⟨h1, h2, h3⟩ := h
  refine ⟨h1, h2, ?_⟩
  split at h3
  · rename_i n e
    rw [e, of_decide_eq_true h3]
  · cases h3
/-! ### B.__init__(self, ..) -/
theorem pe_binit {X : Cx} {x : Str} {B : Addr} {e : Expr} {es : List Expr} {ta : TA} {p1 p2 pos : Pos} {pl : Sem Bool} (b : Xb X.K B) (hg : Gl X x) (hm : X.mg x = some (.ref B)) (ha : PA X (e :: es) ta) (hdb : (x == ("__debug__" : Str)) = false := by decide)
    (hc : eval (.Call (.Attribute (.Name x p1) "__init__" p2) (e :: es) [] pos) X.env = (do
      let v ← eval (.Name x p1) X.env
      standAt p2.atName
      let (g, own) ← holding [v] (getMethod v "__init__" pl)
      callWith pos g own (backTo pos (starEach (e :: es) X.env)) (backToKw pos (keywordEach [] X.env))) := by rfl)
    (he : starEach (e :: es) X.env = (false, eval e X.env) :: starEach es X.env := by rfl) (hp : (backTo pos (starEach es X.env)).any (·.1) = false := by rfl) : PE X (.Call (.Attribute (.Name x p1) "__init__" p2) (e :: es) [] pos) (tVeI X.K ta) := by
  refine ⟨fun pins s σ H Q I h => PySem.W.methodCall_KW (ld_glob I hg hm (PySem.W.method_cls I.kIn b.ga (PySem.W.cls_value I.kIn b.rd b.at_ (by decide +kernel) ?_)) hdb) hc⟩
  refine callWith_method1 (thn (ha.run pos pins _ σ H _ (I.tok _) h) ?_) he hp
  rintro us s1 ⟨vs, H1, J, r, a, C, ws, rfl, hl, T, ea, q⟩
  match us, r with
  | _ :: ur, .cons ra rw =>
    cases ra
    refine oinit_ok T J ea (Nat.le_trans (Nat.le_of_eq (Paired.length rw).symm) (Nat.le_trans hl (by decide))) fun s' J' => ?_
    exact ⟨.non, H1, J', rfl, q⟩
end GE

set_option Elab.async false
set_option linter.all false
set_option maxRecDepth 100000
set_option maxHeartbeats 4000000
namespace GE
open PySem PySem.Spec PyProof.Rows L2
/-! ### C(e, ..): the new error's context is None -/
theorem pmkN {X : Cx} {CX : CXT} {x : Str} {C fI : Addr} {k : Nat} {fd : FuncData} {ps : List Str} {sp : Sp} {fld : Str} {e : Expr} {es : List Expr} {ta : TA} {p pos : Pos} (T : Xc X.K C fI fld)
    (FI : FnOk X.prog X.w X.K X.mg X.base CX k fI fd ps sp) (hr : Room (k + 1) X.A) (hb : Binds X.K fd ps []) (hx : Passes CX X (fun _ _ _ => False)) (hg : Gl X x) (hm : X.mg x = some (.ref C)) (ha : PA X (e :: es) ta)
    (hdb : (x == ("__debug__" : Str)) = false := by decide) (he : starEach (e :: es) X.env = (false, eval e X.env) :: starEach es X.env := by rfl) (hp : (backTo pos (starEach es X.env)).any (·.1) = false := by rfl) :
    L2N.PMk X (.Call (.Name x p) (e :: es) [] pos) (tMkO C sp [] ta) := by
  intro pins s σ H Q I h
  obtain ⟨_, _, _, _, bm, _, _, _, _, _, _, _, _, _, _, look, hbm⟩ := T.ox.cls
  refine wpAny_Call_Name_kw (ld_glob I hg hm ?_ hdb)
  refine PySem.W.callWith_K (h₀ := X.base) I.ok.mod.kin T.ox.kC (thn (ha.run pos pins s σ H _ I h) ?_) he hp
  rintro us ⟨h1, g, dr, tk, os⟩ ⟨vs, H1, J, rv, small, q⟩
  refine ⟨J.kIn, ?_⟩
  -- where the error will stand
  have big : h1.objs.size ≤ h1.objs.size + 1 := Nat.le_succ _
  have free : H1 (h1.objs.size + 1) = none := J.hok.fresh big
  have asked := q _ free
  rw [List.append_nil] at asked
  have grows : ∀ b o, h1.get? b = some o → ((h1.push (PySem.W.kdv_tup us)).push (PySem.HandSPX.excO C h1.objs.size)).get? b = some o := fun b o z =>
    Heap.get?_push_of_some _ (Heap.get?_push_of_some _ z)
  have there : ((h1.push (PySem.W.kdv_tup us)).push (PySem.HandSPX.excO C h1.objs.size)).get? (h1.objs.size + 1) = some (PySem.HandSPX.excO C h1.objs.size) := by heap_get
  have J2 := J.laid (t' := tk) (h' := (h1.push (PySem.W.kdv_tup us)).push (PySem.HandSPX.excO C h1.objs.size)) grows big (exo_ok there)
  have rv2 : Vals (V.ref (h1.objs.size + 1) :: vs) (Value.ref (h1.objs.size + 1) :: us) := .cons rfl rv
  have long : (Value.ref (h1.objs.size + 1) :: us ++ []).length = ps.length := by rw [List.append_nil, ← rv2.length]; exact FI.len _ _ _ _ asked
  have lus : us.length ≤ sizeLine := Nat.le_trans (Nat.le_of_eq (Paired.length rv).symm) (Nat.le_trans small (by decide))
  have bnd := hb _ (Value.ref (h1.objs.size + 1) :: us) J2.kIn long
  rw [List.append_nil] at bnd
  refine wpAny_call (PySem.HandSPX.call_own F.excBase_ValueError (fun Y => PySem.HandSPX.refsVE_contains Y bm hbm) (J.kIn _ _ look) (PySem.W.looks_findIn J.kIn T.iC)
    (fun self => PySem.W.bind_fn J.kIn self T.tI) lus (codeAny_mono (FnOk.run FI _ X.stack _ _ ⟨Value.ref (h1.objs.size + 1) :: us, []⟩ (Value.ref (h1.objs.size + 1) :: us) _ _ (fun _ _ _ => False) (hr.make C us []) (J2.env0.make C us []) bnd rv2 asked) ?_))
  intro r s' hq
  match r, hq with
  | .error er, hq => exact hx pins σ _ _ er s' J2 hq
  | .ok (.ret u), ⟨v, H2, o2, bare, un, ok2, rv3, ev, d, fs, ea, ed, hd, q2⟩ =>
    subst ev
    obtain ⟨h2, g2, d2, t2, os2⟩ := s'
    obtain ⟨t0, G, J3, kG, gone, obj, na⟩ := mk_end0 (d2 := d2) (t2 := t2) J big grows un ok2 o2 bare ea ed hd
    exact ⟨rv3, _, _, _, ⟨G, g2, d2, t2, os2⟩, _, .ref C, some d, rfl, J3, kG, gone, obj, ⟨rfl, rfl, fun vs hv => by cases hv; rfl⟩, rfl, rfl, na, rfl, bare, raises_own T.ox.exC T.ox.tyC, q2⟩
  | .ok .next, hq => exact hq.elim
  | .ok .brk, hq => exact hq.elim
  | .ok .cont, hq => exact hq.elim
/-! ### isinstance of the caught error -/
theorem getClass {prog : Program} {w : World} {A : Around} {E : Value → Shared → Prop} {s : Shared} {K : PySem.W.Frag} {x D : Addr} {ox : Obj} {od : Option Obj} {Q : Option Value → Shared → Prop} (C : ExcC K D) (X : K.In s.heap) (I : PySem.W.InstAt s.heap x ox D od)
    (h : Q (some (.ref D)) { s with toks := s.toks + 1 }) : wpAny (model prog w) A (getAttr? (.ref x) "__class__") Q E s := by
  have found : PySem.W.findObj K D od "__class__" = some (.bind (.builtin "getset_descriptor.__get__") (.builtin "object.__class__")) := by
    have hc : (PySem.W.clsIn K D).isSome = true := by
      have := C.hd
      unfold PySem.W.hasDictIn at this
      cases e : PySem.W.clsIn K D with
      | none => rw [e] at this; cases this
      | some cd => rfl
    obtain ⟨cd, hc⟩ := Option.isSome_iff_exists.mp hc
    unfold PySem.W.findObj
    rw [hc, Option.bind_some, C.ha, Option.bind_some]
    simp [C.hn, C.ht]
  obtain ⟨hp, g, d, t, os⟩ := s
  have ty := I.type (M := model prog w)
  have ga := PySem.W.looks_findIn (M := model prog w) X C.hg
  have gk := PySem.W.looks_findIn (M := model prog w) X C.hk
  have fi := PySem.W.looks_find (M := model prog w) X I found
  have isE : PySem.W.Looks (model prog w) hp (isInstance (.ref x) (.type "BaseException")) true := ty.andThen (PySem.W.looks_subIn X C.hs)
  have n1 : (false && onTheHeap (Value.builtin "BaseException.__getattribute__")) = false := rfl
  have n2 : (onTheHeap (Value.ref D) && Value.builtin "BaseException.__getattribute__" == Value.builtin "object.__getattribute__") = false := by
    rw [show (Value.builtin "BaseException.__getattribute__" == Value.builtin "object.__getattribute__") = false by decide +kernel]; rfl
  unfold getAttr? getAttrBy? getAttrBy
  refine wpAny_bind (wpAny_mkText (wpAny_bind (wpAny_attempt (wpAny_holding (wpAny_bind (ty.at (wpAny_bind (ga.at ?_))))))))
  change wpAny _ _ (if (onTheHeap (Value.ref D) && Value.builtin "BaseException.__getattribute__" == Value.builtin "object.__getattribute__") = true then _ else _) _ _ _
  rw [n2, if_neg Bool.false_ne_true]
  unfold getAttrByItsOwn hookBefore
  refine wpAny_bind ?_
  rw [if_pos (show onTheHeap (Value.ref D) = true from rfl)]
  refine gk.at (wpAny_bind (wpAny_attempt (wpAny_holding ?_)))
  unfold callGetattribute
  rw [n1, if_neg Bool.false_ne_true]
  unfold boundAndCalled
  rw [F.excAttr_ValueError.ga.bind (.ref x)]
  refine wpAny_bind (wpAny_pure ?_)
  change wpAny _ _ (call (.builtin "BaseException.__getattribute__") [.ref x, .str "__class__" t]) _ _ _
  refine wpAny_call (codeAny_call_builtin F.excAttr_ValueError.ga.plain F.entry_bexc_ga ?_)
  refine @PySem.W.check_slot (model prog w) _ _ ⟨hp, g, d, t + 1, os⟩ "BaseException.__getattribute__" "BaseException" "__getattribute__" (.ref x) [.str "__class__" t] [] _ (by decide +kernel) (by decide +kernel) isE (F.args_bexc_ga (.ref x) (.str "__class__" t)) ?_
  unfold Builtin.«object.__getattribute__»
  refine wpAny_bind (wpAny_of_eq (a := ((Value.ref x : Value), [Value.str "__class__" t])) (by first | rfl | (simp only [slotArgs]; rfl)) (wpAny_bind (wpAny_pure (wpAny_bind (ty.at (wpAny_bind (fi.at ?_)))))))
  change wpAny _ _ (holding [Value.builtin "object.__class__"] (call (.builtin "getset_descriptor.__get__") [.builtin "object.__class__", .ref x, .ref D]) >>= ret) _ _ _
  refine wpAny_bind (wpAny_holding (wpAny_call (PySem.W.class_get (s := ⟨hp, g, d, t + 1, os⟩) (ox := ox) (od := od) X I C.hm (wpAny_pure ?_))))
  change wpAny _ _ (handedOut (.ref D)) _ _ _
  rw [PySem.W.handedOut_of (v := .ref D) rfl]
  first
    | exact wpAny_pure (wpAny_pure h)
    | exact wpAny_pure h
    | exact wpAny_pure (wpAny_bind (wpAny_pure (wpAny_pure h)))
theorem kitE {K : PySem.W.Frag} {x D : Addr} {ox : Obj} {od : Option Obj} (C : ExcC K D) : PySem.W.KitX K (.ref x) (.ref D) (fun h => PySem.W.InstAt h x ox D od) where
  ty := fun _ _ _ I => I.type
  it := fun _ _ X _ => by
    have := C.hd
    unfold PySem.W.hasDictIn PySem.W.clsIn at this
    split at this
    · rename_i c' d' cd' sl' ho
      exact fun A' Q' E' s' k q => by
        unfold isType loadHead
        exact wpAny_bind (wpAny_loadPart (k _ _ (X _ _ ho)) (wpAny_pure q))
    · cases this
  ne := fun h tp dd its n sl X htp => by
    have := C.hd
    refine Bool.eq_false_iff.mpr fun q => ?_
    have e : D = tp := Value.ref.inj (beq_iff_eq.mp q)
    subst e
    unfold PySem.W.hasDictIn PySem.W.clsIn at this
    split at this
    · rename_i c' d' cd' sl' ho
      have z := (X _ _ ho).symm.trans htp
      cases z
    · cases this
  ca := fun X I q => getClass C X I q
/-- the error at a, of the class at D, has its dict -/
structure Caught (K : PySem.W.Frag) (H : Hp) (cls : Value) (d : Option Addr) (D : Addr) (fs : List (Str × V)) : Prop where
  cl : cls = .ref D
  ec : ExcC K D
  dt : ∃ dd, d = some dd ∧ H dd = some (.xd fs)
def rIsC (K : PySem.W.Frag) (a : Addr) (cls : Value) (d : Option Addr) : List V → Hp → VK → Prop := fun xs H Q => ∃ (c : V) (u : Value) (D : Addr) (fs : List (Str × V)) (b : Bool), xs = [.ref a, c] ∧ Caught K H cls d D fs ∧ ClsV c u ∧ PySem.W.kitOne K (.ref D) u = some b ∧ Q (.bl b) H
def rIsCT (K : PySem.W.Frag) (a : Addr) (cls : Value) (d : Option Addr) : List V → Hp → VK → Prop := fun xs H Q => ∃ (tp : Addr) (cs : List V) (us : List Value) (D : Addr) (fs : List (Str × V)) (b : Bool), xs = [.ref a, .ref tp] ∧ H tp = some (.tup cs) ∧ Caught K H cls d D fs ∧ Paired ClsV cs us ∧
  PySem.W.kitAny K (.ref D) us = some b ∧ Q (.bl b) H
section
variable {X : Cx} {a : Addr} {oe : Obj} {pn : List (Addr × Obj)} {cls : Value} {d : Option Addr}
theorem caught_at {pins : List (Addr × Obj)} {σ : L2.St} {H : Hp} {s : Shared} {D : Addr} {fs : List (Str × V)} (hz : Zc cls d oe) (hf : ∃ vs, oe.data = .fields vs) (I : Inv (X.suite a ((a, oe) :: pn)) pins σ H s) (c : Caught X.K H cls d D fs) : ∃ od, PySem.W.InstAt s.heap a oe D od := by
  obtain ⟨rfl, _, dd, rfl, hd⟩ := c
  obtain ⟨at_, _⟩ := I.pin (a, oe) (List.mem_append_left _ List.mem_cons_self)
  obtain ⟨vs, hv⟩ := hf
  obtain ⟨mA, hns, _⟩ : ObjOk X.prog X.w H s.heap dd (.xd fs) := I.hok dd _ hd
  obtain ⟨od, ho, _⟩ := lookIn_ns hns
  exact ⟨some od, at_, hz.1, by unfold PySem.W.notCls; rw [hv] <;> rfl, by rw [hz.2]; exact ho⟩
theorem call_isC (hz : Zc cls d oe) (hf : ∃ vs, oe.data = .fields vs) : CallR (X.suite a ((a, oe) :: pn)) (.builtin "isinstance") (rIsC X.K a cls d) := by
  intro pins s σ H xs us Q I r h
  obtain ⟨c, u, D, fs, b, rfl, ca, cv, e, q⟩ := h
  obtain ⟨u1, u2, rfl, r1, r2⟩ := vals2 r
  cases (show u1 = Value.ref a from r1)
  obtain rfl := cv.eq r2
  obtain ⟨od, J⟩ := caught_at hz hf I ca
  exact PySem.W.kia_one (kitE ca.ec) I.kIn J e (fun z => nomatch z) fun tk => ⟨.bl b, H, I.tok tk, rfl, q⟩
theorem call_isCT (hz : Zc cls d oe) (hf : ∃ vs, oe.data = .fields vs) : CallR (X.suite a ((a, oe) :: pn)) (.builtin "isinstance") (rIsCT X.K a cls d) := by
  intro pins s σ H xs us Q I r h
  obtain ⟨tp, cs, ws, D, fs, b, rfl, ht, ca, cv, e, q⟩ := h
  obtain ⟨u1, u2, rfl, r1, r2⟩ := vals2 r
  cases (show u1 = Value.ref a from r1)
  cases (show u2 = Value.ref tp from r2)
  obtain ⟨od, J⟩ := caught_at hz hf I ca
  obtain ⟨_, its, rv, o, h1, h2, n, h3⟩ : ObjOk X.prog X.w H s.heap tp (.tup cs) := I.hok tp _ ht
  obtain rfl := ClsV.all cv rv
  obtain ⟨oc, od, dt, sl⟩ := o
  dsimp only at h2 h3
  subst h2 h3
  exact PySem.W.kia_tup (kitE ca.ec) I.kIn J h1 e (fun z => nomatch z) fun tk => ⟨.bl b, H, I.tok tk, rfl, q⟩
theorem hot_suite (hz : L2N.Zn cls d oe) (hf : ∃ vs, oe.data = .fields vs) : L2H.HotC (X.suite a ((a, oe) :: pn)) := by
  obtain ⟨vs, hv⟩ := hf
  exact ⟨(a, oe), ⟨rfl, vs, hv, hz.2.2 vs hv⟩, List.mem_cons_self⟩
end
/-! ### calls that may raise, in a try: the wish may speak of the slots -/
def tCallLS (i : Nat) (f : Addr) (sp : Sp) (E : L2.St → XK) (t : TA) : TE := fun σ H Q => σ[i]? = some (some (.ref f)) ∧ t σ H fun vs H1 => sp vs H1 Q (E σ)
def tMethSS (C : Addr) (m : Str) (sp : Sp) (E : L2.St → XK) (ta : TE) (t : TA) : TE := fun σ H Q => ta σ H fun x H1 => ∃ a dx fs, x = .ref a ∧ H1 a = some (.ins C dx fs) ∧ fs.lookup m = none ∧ t σ H1 fun vs H2 => sp (x :: vs) H2 Q (E σ)
section
variable {X : Cx} {CX : CXT} {k i : Nat} {f C : Addr} {fd : FuncData} {ps : List Str} {sp : Sp} {E : L2.St → XK} {x m : Str} {p pos apos : Pos} {e o : Expr} {es : List Expr} {ta : TE} {t : TA}
theorem pe_callLS (F : FnOk X.prog X.w X.K X.mg X.base CX k f fd ps sp) (hr : Room k X.A) (hN : X.N[i]? = some x) (hv : Vis X.env.scope x) (hk : PySem.W.keepIn X.K (.ref f) = true) (hb : Binds X.K fd ps []) (hx : ∀ σ, PassesAt CX X σ (E σ)) (ha : PA X (e :: es) t)
    (hdb : (x == ("__debug__" : Str)) = false := by decide) (hcd : (x == ("__classdict__" : Str)) = false := by decide) (he : starEach (e :: es) X.env = (false, eval e X.env) :: starEach es X.env := by rfl) (hp : (backTo pos (starEach es X.env)).any (·.1) = false := by rfl) :
    PE X (.Call (.Name x p) (e :: es) [] pos) (tCallLS i f sp E t) := by
  refine ⟨fun pins s σ H Q I ⟨here, h⟩ => wpAny_Call_Name_kw (thn ((pe_var (pos := p) hN hv hdb hcd).run pins s σ H (fun v H1 => v = .ref f ∧ H1 = H) I ⟨.ref f, here, rfl, rfl⟩) ?_)⟩
  rintro u s1 ⟨v, H1, J, r, rfl, rfl⟩
  cases r
  refine PySem.W.callWith_K (h₀ := X.base) I.ok.mod.kin hk (thn (ha.run pos pins s1 σ _ _ J h) ?_) he hp
  rintro us s2 ⟨vs, H2, J2, r2, q⟩
  exact ⟨J2.kIn, run_fnS F hr hb (hx σ) J2 r2 q⟩
theorem pe_methSS {pl : Sem Bool} (he : PE X o ta) (c : Cls X.K C) (hm : Meth X.K C m f) (F : FnOk X.prog X.w X.K X.mg X.base CX k f fd ps sp) (hr : Room k X.A) (hb : Binds X.K fd ps []) (hx : ∀ σ, PassesAt CX X σ (E σ)) (ha : PA X (e :: es) t)
    (hs : starEach (e :: es) X.env = (false, eval e X.env) :: starEach es X.env := by rfl) (hp : (backTo pos (starEach es X.env)).any (·.1) = false := by rfl)
    (ht : eval (.Call (.Attribute o m apos) (e :: es) [] pos) X.env = (do
      let v ← eval o X.env
      standAt apos.atName
      let (g, own) ← holding [v] (getMethod v m pl)
      callWith pos g own (backTo pos (starEach (e :: es) X.env)) (backToKw pos (keywordEach [] X.env))) := by rfl) :
    PE X (.Call (.Attribute o m apos) (e :: es) [] pos) (tMethSS C m sp E ta t) := by
  refine ⟨fun pins s σ H Q I h => PySem.W.methodCall_KW (pl := pl) (thn (he.run pins s σ H _ I h) ?_) ht⟩
  rintro u s1 ⟨x, H1, J, rx, a, dx, fs, rfl, ea, l, q⟩
  cases rx
  refine getmeth_ok J ea c hm l (PySem.W.callWith_K (first := [.ref a]) (h₀ := X.base) I.ok.mod.kin hm.kp (thn (ha.run pos pins s1 σ H1 _ J q) ?_) hs hp)
  rintro us s2 ⟨vs, H2, J2, r, q2⟩
  exact ⟨J2.kIn, run_fnS (us := .ref a :: us) (vs := .ref a :: vs) F hr hb (hx σ) J2 (.cons rfl r) q2⟩
theorem pe_methSS0 {pl : Sem Bool} (he : PE X o ta) (c : Cls X.K C) (hm : Meth X.K C m f) (F : FnOk X.prog X.w X.K X.mg X.base CX k f fd ps sp) (hr : Room k X.A) (hb : Binds X.K fd ps []) (hx : ∀ σ, PassesAt CX X σ (E σ))
    (ht : eval (.Call (.Attribute o m apos) [] [] pos) X.env = (do
      let v ← eval o X.env
      standAt apos.atName
      let (g, own) ← holding [v] (getMethod v m pl)
      callWith pos g own (backTo pos (starEach [] X.env)) (backToKw pos (keywordEach [] X.env))) := by rfl) :
    PE X (.Call (.Attribute o m apos) [] [] pos) (tMethSS C m sp E ta tNil) := by
  refine ⟨fun pins s σ H Q I h => PySem.W.methodCall_KW (pl := pl) (thn (he.run pins s σ H _ I h) ?_) ht⟩
  rintro u s1 ⟨x, H1, J, rx, a, dx, fs, rfl, ea, l, q⟩
  cases rx
  exact getmeth_ok J ea c hm l (PySem.W.callWith_K0 (first := [.ref a]) J.kIn hm.kp (run_fnS (us := [.ref a]) (vs := [.ref a]) F hr hb (hx σ) J (.cons rfl .nil) q))
end
/-! ### the heap behind a raise -/
theorem Ext.del {T : List Addr} {M : Addr → Prop} {H H' : Hp} {a : Addr} (e : Ext T M H H') (n : H a = none) (nt : ∀ ps, H' a ≠ some (.tbl ps)) : Ext T M H (L2.del H' a) := by
  refine ⟨fun b o m h nn => ?_, fun P hP hg => ?_, fun b h => ?_⟩
  · rw [del_ne (fun z => by rw [z, n] at h; cases h)]
    exact e.kp b o m h nn
  · obtain ⟨ps, hp, ht⟩ := e.tb P hP hg
    refine ⟨ps, ?_, ht⟩
    rw [del_ne fun z => nt ps (by rw [← z]; exact hp)]
    exact hp
  · by_cases hb : b = a
    · rw [hb]; exact n
    · rw [del_ne hb] at h
      exact e.fr b h
/-- what is told of a raised error: its field, and what is kept -/
def Raised (T : List Addr) (M : Addr → Prop) (C : Addr) (fld : Str) (v : V) (H : Hp) (E : XK) : Prop := ∀ (d : Addr) (fs : List (Str × V)) (H' : Hp), H d = none → H' d = some (.xd fs) → fs.lookup fld = some v → Ext T M H H' → E (.ref C) (some d) H'
theorem Raised.after {T : List Addr} {C : Addr} {fld : Str} {v : V} {H H1 : Hp} {E : XK} (h : Raised T noM C fld v H E) (e : Ext T noM H H1) : Raised T noM C fld v H1 E := fun d fs H' h1 h2 h3 h4 => h d fs H' (e.fr d h1) h2 h3 (e.trans h4)
/-- what an own __init__ promises: the object at its first argument gets a dict with the field -/
def spXInit (K : PySem.W.Frag) (T : List Addr) (C : Addr) (fld : Str) : Sp := fun vs H Q _ => ∃ (a : Addr) (v : V), vs = [.ref a, v] ∧ H a = some (exo a C none) ∧ (∃ n : Int, v = .int n ∧ n.natAbs < 1000000) ∧ ∀ d H', H' a = some (exo a C (some d)) → H' d = some (exd d [(fld, v)]) → H d = none → Ext T (fun b => b = a) H H' → Q .non H'
end GE

set_option Elab.async false
set_option linter.all false
set_option maxRecDepth 100000
set_option maxHeartbeats 2000000
/-! words and numbers in texts -/
namespace Mw
open PySem NumText
abbrev chs_ (x : Str) : List Nat := x.cps.toList
theorem str_ext {x y : Str} (h : chs_ x = chs_ y) : x = y := by
  have := congrArg (fun l : List Nat => (⟨l.toArray⟩ : Str)) h
  rw [TL.mk_tl, TL.mk_tl] at this
  exact this
/-- the text of a number -/
def nmS (n : Nat) : Str := Str.ofString (toString ((n : Nat) : Int))
theorem ch_nm (n : Nat) : chs_ (nmS n) = TL.numL n := TL.tl_num n
theorem ln_ch (x : Str) : x.length = (chs_ x).length := TL.len_tl x
theorem numL_mono : ∀ (N : Nat) {m n : Nat}, n ≤ N → m ≤ n → (TL.numL m).length ≤ (TL.numL n).length
  | N, m, n, hN, h => by
    by_cases h1 : m < 10
    · rw [TL.numL_lt h1]
      exact List.length_pos_iff.mpr (TL.numL_ne n)
    · rw [TL.numL_step (show 10 ≤ m by omega), TL.numL_step (show 10 ≤ n by omega), List.length_append, List.length_append]
      have := numL_mono (N - 1) (m := m / 10) (n := n / 10) (by omega) (by omega)
      show _ + 1 ≤ _ + 1
      omega
termination_by N _ n => n
decreasing_by omega
def isNum (a : Str) : Bool := Txt.isascii a && Txt.isdigit a
theorem dig_one {c : Nat} (h : c < 128) : Unicode.isDigit c = (decide (48 ≤ c) && decide (c ≤ 57)) := by
  have := PySem.W.os_isdigit h
  rw [← this]
  show _ = (decide ((⟨#[c]⟩ : Str).length > 0) && (#[c] : Array Nat).all Unicode.isDigit)
  simp [Str.length]
theorem isNum_iff {a : Str} : isNum a = true ↔ AllDigits (chs_ a) ∧ chs_ a ≠ [] := by
  unfold isNum Txt.isascii Txt.isdigit
  rw [Bool.and_eq_true, Bool.and_eq_true, decide_eq_true_eq, ln_ch, ← Array.all_toList, ← Array.all_toList, List.all_eq_true, List.all_eq_true]
  constructor
  · rintro ⟨h1, h2, h3⟩
    refine ⟨fun c hc => ?_, fun z => ?_⟩
    · have c1 : c < 128 := by simpa using h1 c hc
      have := h3 c hc
      rw [dig_one c1, Bool.and_eq_true, decide_eq_true_eq, decide_eq_true_eq] at this
      exact this
    · rw [z] at h2; exact absurd h2 (Nat.lt_irrefl 0)
  · rintro ⟨h1, h2⟩
    refine ⟨fun c hc => ?_, List.length_pos_iff.mpr h2, fun c hc => ?_⟩
    · have := h1 c hc
      exact decide_eq_true (by omega)
    · have := h1 c hc
      rw [dig_one (by omega), Bool.and_eq_true, decide_eq_true_eq, decide_eq_true_eq]
      exact this
theorem isNum_nm (n : Nat) : isNum (nmS n) = true := isNum_iff.mpr (by rw [ch_nm]; exact ⟨TL.numL_digits n, TL.numL_ne n⟩)
theorem int_of {a : Str} (h : isNum a = true) (hl : a.length ≤ 4300) : intText? a = some ((digitsVal (chs_ a) : Nat) : Int) := by
  obtain ⟨h1, h2⟩ := isNum_iff.mp h
  exact intText_digits h1 h2 hl
theorem dv_lt : ∀ (l : List Nat) (a : Nat), AllDigits l → l.foldl (fun acc c => acc * 10 + (c - 48)) a < (a + 1) * 10 ^ l.length
  | [], a, _ => by show a < (a + 1) * 1; omega
  | c :: l, a, h => by
    have hc := h.head
    have ih := dv_lt l (a * 10 + (c - 48)) h.tail
    rw [List.foldl_cons]
    refine Nat.lt_of_lt_of_le ih ?_
    rw [List.length_cons, Nat.pow_succ, Nat.mul_comm (10 ^ l.length) 10, ← Nat.mul_assoc]
    exact Nat.mul_le_mul_right _ (by omega)
theorem val_lt {l : List Nat} (h : AllDigits l) : digitsVal l < 10 ^ l.length := by
  have := dv_lt l 0 h
  rw [Nat.zero_add, Nat.one_mul] at this
  exact this
/-- the number from lo to hi that the word tells -/
def numT (a : Str) (lo hi : Nat) : Option Nat :=
  if (decide ((TL.numL hi).length < a.length) || !isNum a) = true then none
  else if (decide (nmS (digitsVal (chs_ a)) ≠ a) || (decide (digitsVal (chs_ a) < lo) || decide (hi < digitsVal (chs_ a)))) = true then none else some (digitsVal (chs_ a))
theorem numT_nm {n lo hi : Nat} (h1 : lo ≤ n) (h2 : n ≤ hi) : numT (nmS n) lo hi = some n := by
  have e : digitsVal (chs_ (nmS n)) = n := by rw [ch_nm, TL.numL_val]
  have hl := numL_mono hi (m := n) (Nat.le_refl _) h2
  unfold numT
  rw [isNum_nm, e, ln_ch, ch_nm, decide_eq_false (by omega : ¬ (TL.numL hi).length < (TL.numL n).length), if_neg (by decide), decide_eq_false (fun z => z rfl), decide_eq_false (by omega : ¬ n < lo), decide_eq_false (by omega : ¬ hi < n), if_neg (by decide)]
theorem numT_some {a : Str} {lo hi n : Nat} (h : numT a lo hi = some n) : a = nmS n ∧ lo ≤ n ∧ n ≤ hi := by
  unfold numT at h
  split at h
  · cases h
  · split at h
    · cases h
    · rename_i h2
      have e := Option.some.inj h
      rw [e] at h2
      rw [Bool.or_eq_true, Bool.or_eq_true, decide_eq_true_eq, decide_eq_true_eq, decide_eq_true_eq] at h2
      have h3 : nmS n = a := Classical.byContradiction fun z => h2 (.inl z)
      refine ⟨h3.symm, ?_, ?_⟩
      · exact Classical.byContradiction fun z => h2 (.inr (.inl (by omega)))
      · exact Classical.byContradiction fun z => h2 (.inr (.inr (by omega)))
theorem nm_inj {m n : Nat} (h : nmS m = nmS n) : m = n := TL.numL_inj (by rw [← ch_nm, ← ch_nm, h])
/-- splitting what was joined -/
theorem split_of {y : Str} {s : Nat} (ey : chs_ y = [s]) (hs : s < 256) {parts : List Str} (hne : parts ≠ []) (hp : ∀ p ∈ parts, s ∉ chs_ p) {x : Str} (hx : chs_ x = TL.joinL [s] (parts.map chs_)) : Txt.split x y = parts := by
  have e : x = Txt.join y parts := str_ext (by
    rw [hx, TL.join_eq]
    have := TL.tl_join y parts
    rw [show TL.tl y = [s] from ey] at this
    exact this.symm)
  rw [e]
  refine TL.split_join ey ?_ hne hp
  rw [← Array.all_toList, show y.cps.toList = [s] from ey]
  simp [hs]
theorem spl_ne (S : List Nat) : ∀ (l : List Nat) (k : Nat) (acc : List Nat), TL.spl S k acc l ≠ []
  | [], k, acc => by rw [TL.spl_nil]; exact List.cons_ne_nil _ _
  | c :: r, k, acc => by
    rw [TL.spl_pass]
    cases k with
    | zero =>
      rw [List.drop_zero]
      cases h : TL.pre S (c :: r) with
      | true => rw [TL.spl_hit h]; exact List.cons_ne_nil _ _
      | false => rw [TL.spl_miss h]; exact spl_ne S r 0 _
    | succ k =>
      rw [List.drop_succ_cons]
      have := spl_ne S r k acc
      rw [TL.spl_pass] at this
      exact this
theorem split_ne {x y : Str} {s : Nat} (ey : chs_ y = [s]) (hs : s < 256) : Txt.split x y ≠ [] := fun z => by
  have hk : y.cps.all (· < 256) = true := by
    rw [← Array.all_toList, show y.cps.toList = [s] from ey]
    simp [hs]
  have e := TL.split_spl x y (by rw [show TL.tl y = [s] from ey]; exact List.cons_ne_nil _ _) (TL.kind_ok hk)
  rw [z] at e
  exact spl_ne _ _ _ _ e.symm
theorem split_len {x y : Str} {s : Nat} (ey : chs_ y = [s]) : (Txt.split x y).length ≤ x.length + 1 ∧ ∀ w ∈ Txt.split x y, w.length ≤ x.length := by
  have hy : 1 ≤ y.length := by rw [ln_ch, ey]; exact Nat.le_refl 1
  have h := PyProof.Rows.split_weight x y hy
  have hp : ∀ (l : List Str), ∀ w ∈ l, w.length + l.length ≤ (l.map (·.length)).sum + l.length := fun l w hw => by
    have : w.length ≤ (l.map (·.length)).sum := by
      induction l with
      | nil => cases hw
      | cons a l ih =>
        rw [List.map_cons, List.sum_cons]
        rcases List.mem_cons.mp hw with e | e
        · rw [e]; omega
        · have := ih e; omega
    omega
  refine ⟨by omega, fun w hw => ?_⟩
  have h1 := hp _ w hw
  have h2 : 1 ≤ (Txt.split x y).length := List.length_pos_of_mem hw
  omega
end Mw

set_option Elab.async false
set_option linter.all false
set_option maxRecDepth 100000
set_option maxHeartbeats 4000000
namespace GE
open PySem PySem.Spec PyProof.Rows L2 Mw
theorem fnH_mono {P : Program} {w : World} {K : PySem.W.Frag} {mg : Str → Option Value} {base : Heap} {CX : CXT} {j k : Nat} {f : Addr} {fd : FuncData} {ps : List Str} {sp : Sp} (F : L2H.FnH P w K mg base CX j f fd ps sp) (h : j ≤ k) : L2H.FnH P w K mg base CX k f fd ps sp :=
  ⟨F.len, fun A outer s H args us vs Q E p hr => F.run A outer s H args us vs Q E p (hr.mono h)⟩
theorem pss_no {X : Cx} {st : List Stmt} : PSs X st (fun _ _ _ => False) := ⟨fun _ _ _ _ _ _ h => h.elim⟩
theorem takesN0 {X : Cx} : L2N.Takes X (fun _ _ _ _ => False) := fun _ _ ⟨_, _, _, _, _, _, _, _, _, _, _, _, _, _, _, _, z⟩ => z.elim
/-- a caught error's dict, with its field -/
theorem Caught.mk' {K : PySem.W.Frag} {H : Hp} {D d fI : Addr} {fs : List (Str × V)} {fld : Str} (x : Xc K D fI fld) (h : H d = some (.xd fs)) : Caught K H (.ref D) (some d) D fs := ⟨rfl, x.xc, d, rfl, h⟩
theorem kit_self {K : PySem.W.Frag} {c : Value} : PySem.W.kitOne K c c = some true := by unfold PySem.W.kitOne; rw [if_pos (beq_self_eq_true c)]
theorem kit_none2 {K : PySem.W.Frag} {t c1 c2 : Value} (h1 : PySem.W.kitOne K t c1 = some false) (h2 : PySem.W.kitOne K t c2 = some false) : PySem.W.kitAny K t [c1, c2] = some false :=
  kitAny_cons h1 (fun _ => kitAny_cons h2 (fun _ => rfl) fun z => nomatch z) fun z => nomatch z
/-- what the field of an own error may be -/
inductive FldOk : V → Prop
  | i (n : Nat) (h : n ≤ 100000) : FldOk (.int (n : Nat))
  | s (y : Str) (h : y.length ≤ 100) : FldOk (.str y)
/-- the promise of an own error's __init__ -/
def spXI (K : PySem.W.Frag) (T : List Addr) (C : Addr) (fld : Str) : Sp := fun vs H Q _ => ∃ (a : Addr) (v : V), vs = [.ref a, v] ∧ H a = some (exo a C none) ∧ FldOk v ∧
  ∀ d H', H' a = some (exo a C (some d)) → H' d = some (exd d [(fld, v)]) → H d = none → Ext T (fun b => b = a) H H' → Q .non H'
theorem exo_tbl' {a C : Addr} {d : Option Addr} : ∀ ps, exo a C d ≠ .tbl ps := fun ps => exo_tbl
theorem exd_tb {e : Addr} {fs : List (Str × V)} : ∀ ps, exd e fs ≠ .tbl ps := fun ps z => by
  have y : HO.ext _ = HO.tbl ps := z
  cases y
/-- the end of a raise -/
theorem raised_mk {K : PySem.W.Frag} {T : List Addr} {C : Addr} {fld : Str} {v : V} {H : Hp} {E : XK} (fv : FldOk v) (h : Raised T noM C fld v H E) : ∀ a, H a = none → spXI K T C fld (V.ref a :: ([v] ++ [])) (upd H a (exo a C none))
    (fun r H2 => r = .non ∧ ∃ (d : Addr) (fs : List (Str × V)), H2 a = some (exo a C (some d)) ∧ H2 d = some (exd d fs) ∧ H d = none ∧ E (.ref C) (some d) (upd (L2.del H2 a) d (.xd fs))) (fun _ _ _ => False) := by
  intro a na
  refine ⟨a, v, rfl, upd_same, fv, fun d H' ha hd nd e => ?_⟩
  have hda : d ≠ a := fun z => by rw [z, upd_same] at nd; cases nd
  rw [upd_ne hda] at nd
  refine ⟨rfl, d, _, ha, hd, nd, ?_⟩
  have e1 : Ext T noM H H' := by
    have x0 : Ext T noM H (upd H a (exo a C none)) := Ext.new na
    refine ⟨fun b o _ hb nt => ?_, fun P hP hg => e.tb P hP (x0.tb P hP hg), fun b hb => x0.fr b (e.fr b hb)⟩
    have hba : b ≠ a := fun z => by rw [z, na] at hb; cases hb
    exact e.kp b o hba (by rw [upd_ne hba]; exact hb) nt
  have e2 := e1.del na fun ps z => exo_tbl' ps (Option.some.inj (ha.symm.trans z))
  have ed : L2.del H' a d = some (exd d [(fld, v)]) := by rw [del_ne hda]; exact hd
  exact h d _ _ nd upd_same (by simp [List.lookup]) (e2.mut (.inl nd) ed exd_tb)
/-- the reading of self.fld = v in the __init__ -/
theorem xi_store {K : PySem.W.Frag} {T : List Addr} {C fI a : Addr} {fld : Str} {v : V} {H : Hp} {σ : L2.St} {D : Ends} {to te : TE} (x : Xc K C fI fld) (ha : H a = some (exo a C none)) (h1 : ∀ R : V → Hp → Prop, R v H → te σ H R) (h2 : ∀ R : V → Hp → Prop, R (.ref a) H → to σ H R)
    (k : ∀ d H', H' a = some (exo a C (some d)) → H' d = some (exd d [(fld, v)]) → H d = none → Ext T (fun b => b = a) H H' → D.nx σ H') : tOst K fld to te D σ H := by
  refine h1 _ (h2 _ ⟨a, C, rfl, x.ox, x.no, .inl ⟨ha, fun dx nd ne => ?_⟩⟩)
  refine k dx _ upd_same ?_ nd ?_
  · rw [upd_ne ne]; exact upd_same
  · have e1 : Ext T (fun b => b = a) H (upd H dx (exd dx [(fld, v)])) := Ext.new nd
    exact e1.mut (.inr rfl) (by rw [upd_ne (Ne.symm ne)]; exact ha) exo_tbl'
/-- a text with something written into it -/
theorem sl_1000 {n : Nat} (h : n ≤ 1000) : n ≤ sizeLine := Nat.le_trans h (by decide)
theorem ln_app' (a b : Str) : (a ++ b).length = a.length + b.length := by rw [ln_ch, ln_ch a, ln_ch b, show chs_ (a ++ b) = chs_ a ++ chs_ b from TL.tl_append a b, List.length_append]
theorem fmt_ok {v : V} {H : Hp} {Q : V → Hp → Prop} (f : FldOk v) (k : ∀ y : Str, y.length ≤ 100 → Q (.str y) H) : (∃ y : Str, v = .str y ∧ y.length ≤ sizeLine ∧ Q (.str y) H) ∨ ∃ i : Int, v = .int i ∧ i.natAbs.log2 < 1920 ∧ Q (.str (toString i)) H := by
  cases f with
  | i n h =>
    refine .inr ⟨_, rfl, ?_, k _ ?_⟩
    · rw [Int.natAbs_natCast]
      by_cases h0 : n = 0
      · subst h0; decide
      · exact Nat.lt_of_lt_of_le ((Nat.log2_lt h0).mpr (show n < 2 ^ 17 by omega)) (by decide)
    · have e : (Str.ofString (toString ((n : Nat) : Int))).length = (TL.numL n).length := by rw [ln_ch]; exact congrArg List.length (ch_nm n)
      have := TL.numL_len (n := n) (k := 6) (by decide) (by omega)
      show (Str.ofString (toString ((n : Nat) : Int))).length ≤ 100
      omega
  | s y h => exact .inl ⟨y, rfl, Nat.le_trans h (by decide), k y h⟩
theorem fmt_rd {te : TE} {σ : L2.St} {H : Hp} {Q : V → Hp → Prop} {v : V} (f : FldOk v) (h : ∀ R : V → Hp → Prop, R v H → te σ H R) (k : ∀ y : Str, y.length ≤ 100 → Q (.str y) H) : tFmt te σ H Q := h _ (fmt_ok f k)
end GE

set_option Elab.async false
set_option linter.all false
set_option maxRecDepth 100000
set_option maxHeartbeats 4000000
/-! dicts whose keys are tuples of tuples (of ints) and whose values are objects -/
namespace GE
open PySem PySem.Spec PyProof.Rows L2
mutual
def keyK : D → NestedKey
  | .i n => .num n
  | .non => .none
  | .bl b => .num (if b = true then 1 else 0)
  | .t ds => .tup (keyKs ds)
def keyKs : List D → List NestedKey
  | [] => []
  | d :: ds => keyK d :: keyKs ds
end
section
variable {P : Program} {w : World} {H : Hp} {h : Heap}
mutual
theorem key_is (ok : HOk P w H h) : ∀ {d : D} {v : V} {u : Value}, Rp H d v → RelV v u → NestedIs h (keyK d) u
  | .i n, v, u, r, e => by
    rw [r.i] at e
    obtain ⟨t, rfl⟩ := (show ∃ t, u = Value.int n t from e)
    exact .int n t
  | .non, v, u, r, e => by
    unfold Rp at r
    rw [r] at e
    obtain rfl := (show u = Value.none from e)
    exact .none
  | .bl b, v, u, r, e => by
    unfold Rp at r
    rw [r] at e
    obtain rfl := (show u = Value.bool b from e)
    exact .bool rfl
  | .t ds, v, u, r, e => by
    obtain ⟨a, vs, rfl, h1, h2⟩ := r.t
    obtain rfl := (show u = Value.ref a from e)
    obtain ⟨_, its, rv, o, g1, g2, n, g3⟩ := (show ObjOk P w H h a (.tup vs) from ok a _ h1)
    exact .tup g1 g2 g3 (keys_are ok h2 rv)
theorem keys_are (ok : HOk P w H h) : ∀ {ds : List D} {vs : List V} {us : List Value}, RpL H ds vs → Vals vs us → NestedAll h (keyKs ds) us
  | [], vs, us, r, e => by
    rw [r.nil] at e
    cases e
    exact .nil
  | d :: ds, vs, us, r, e => by
    obtain ⟨v, r', rfl, h1, h2⟩ := r.cons
    cases e with
    | cons e1 e2 => exact .cons (key_is ok h1 e1) (keys_are ok h2 e2)
end
end
abbrev NE := NestedKey × Addr × Addr
def entN (P : Program) (w : World) (x : NE) : DictEntry := entryOfKey (nestedKind P w) (x.1, x.2.1, Value.ref x.2.2)
/-- the dict at d, its keys at their addresses -/
def dnO (P : Program) (w : World) (d : Addr) (xs : List NE) : HO := .ext fun h => (d == sysModules) = false ∧ xs.length ≤ sizeLine ∧ ∃ o es ep, h.get? d = some o ∧ o.ExactDict ∧ o.data = .dict es ep ∧ es.toList = xs.map (entN P w) ∧ (xs.map (·.1)).Nodup
def KsOk (H : Hp) (xs : List NE) : Prop := ∀ x ∈ xs, ∃ kd : D, keyK kd = x.1 ∧ Rp H kd (.ref x.2.1) ∧ x.1.depth ≤ 8
def hasN (xs : List NE) (k : NestedKey) : Bool := (xs.find? fun x => decide (x.1 = k)).isSome
def getN (xs : List NE) (k : NestedKey) : Option Addr := (xs.find? fun x => decide (x.1 = k)).map (·.2.2)
def putN (xs : List NE) (k : NestedKey) (b c : Addr) : List NE := if hasN xs k = true then xs.map (fun x => if x.1 = k then (x.1, x.2.1, c) else x) else xs ++ [(k, b, c)]
theorem dnO_tup {P : Program} {w : World} {d : Addr} {xs : List NE} {vs : List V} : dnO P w d xs ≠ .tup vs := fun z => by
  have y : HO.ext _ = HO.tup vs := z
  cases y
theorem dnO_lst {P : Program} {w : World} {d : Addr} {xs : List NE} {vs : List V} : dnO P w d xs ≠ .lst vs := fun z => by
  have y : HO.ext _ = HO.lst vs := z
  cases y
theorem dnO_tbl {P : Program} {w : World} {d : Addr} {xs : List NE} : ∀ ps, dnO P w d xs ≠ .tbl ps := fun ps z => by
  have y : HO.ext _ = HO.tbl ps := z
  cases y
theorem dnO_ok {P : Program} {w : World} {H : Hp} {h : Heap} {d : Addr} {xs : List NE} (h0 : (d == sysModules) = false) (hl : xs.length ≤ sizeLine) {o : Obj} {es : Array DictEntry} {ep : Nat} (h1 : h.get? d = some o) (h2 : o.ExactDict) (h3 : o.data = .dict es ep) (h4 : es.toList = xs.map (entN P w)) (h5 : (xs.map (·.1)).Nodup) : ObjOk P w H h d (dnO P w d xs) :=
  ⟨⟨h0, hl, o, es, ep, h1, h2, h3, h4, h5⟩, ⟨o, h1⟩, fun g1 g2 ⟨a0, al, o, es, ep, a1, a2⟩ k => ⟨a0, al, o, es, ep, k _ a1, a2⟩⟩
abbrev raw (xs : List NE) : List (NestedKey × Addr × Value) := xs.map fun x => (x.1, x.2.1, Value.ref x.2.2)
theorem raw_keys (xs : List NE) : (raw xs).map (·.1) = xs.map (·.1) := by unfold raw; rw [List.map_map]; rfl
theorem atKey_raw (xs : List NE) (k : NestedKey) : atKey (raw xs) k = ((xs.find? fun x => decide (x.1 = k)).map fun x => (x.2.1, Value.ref x.2.2)) := by
  unfold atKey raw
  rw [List.find?_map]
  show Option.map _ (Option.map _ (xs.find? fun x => decide (x.1 = k))) = _
  rw [Option.map_map]; rfl
theorem storedH_raw (xs : List NE) (k : NestedKey) (b c : Addr) : storedH (raw xs) k b (.ref c) = raw (putN xs k b c) := by
  unfold storedH putN hasN
  rw [atKey_raw, Option.isSome_map]
  split
  · unfold raw
    rw [List.map_map, List.map_map]
    refine List.map_congr_left fun x _ => ?_
    show putAt k (.ref c) (x.1, x.2.1, Value.ref x.2.2) = _
    unfold putAt
    by_cases e : x.1 = k
    · rw [if_pos e]
      show _ = ((if x.1 = k then (x.1, x.2.1, c) else x).1, (if x.1 = k then (x.1, x.2.1, c) else x).2.1, Value.ref (if x.1 = k then (x.1, x.2.1, c) else x).2.2)
      rw [if_pos e]
    · rw [if_neg e]
      show _ = ((if x.1 = k then (x.1, x.2.1, c) else x).1, (if x.1 = k then (x.1, x.2.1, c) else x).2.1, Value.ref (if x.1 = k then (x.1, x.2.1, c) else x).2.2)
      rw [if_neg e]
  · unfold raw
    rw [List.map_append]; rfl
section
variable {X : Cx} {pins : List (Addr × Obj)} {σ : L2.St} {H : Hp} {s : Shared} {d b : Addr} {xs : List NE} {kd : D}
theorem dn_of (I : Inv X pins σ H s) (hd : H d = some (dnO X.prog X.w d xs)) (ks : KsOk H xs) : (d == sysModules) = false ∧ xs.length ≤ sizeLine ∧ s.heap.DictOfH (nestedKind X.prog X.w) d (raw xs) := by
  obtain ⟨⟨h0, hl, o, es, ep, h1, h2, h3, h4, h5⟩, _, _⟩ := (show ObjOk X.prog X.w H s.heap d (dnO X.prog X.w d xs) from I.hok d _ hd)
  refine ⟨h0, hl, o, es, ep, h1, h2, h3, ?_, fun x hx => ?_, by rw [raw_keys]; exact h5⟩
  · rw [h4]
    unfold raw
    rw [List.map_map]; rfl
  · obtain ⟨y, hy, rfl⟩ := List.mem_map.mp hx
    obtain ⟨kd, e, r, dp⟩ := ks y hy
    exact ⟨e ▸ key_is I.hok r (show RelV (.ref y.2.1) (.ref y.2.1) from rfl), dp⟩
theorem kn_of (I : Inv X pins σ H s) (r : Rp H kd (.ref b)) (dp : (keyK kd).depth ≤ 8) : (nestedKind X.prog X.w).is s.heap (keyK kd) b := ⟨key_is I.hok r (show RelV (.ref b) (.ref b) from rfl), dp⟩
end
def tDNewN (P : Program) (w : World) : TE := fun _ H Q => ∀ p, H p = none → Q (.ref p) (upd H p (dnO P w p []))
theorem pe_dnewN {X : Cx} {pos : Pos} : PE X (.Dict [] [] pos) (tDNewN X.prog X.w) := ⟨fun pins s σ H Q I h => by
  have hb := I.big
  have ok : ObjOk X.prog X.w (upd H s.heap.objs.size (dnO X.prog X.w s.heap.objs.size [])) (s.heap.push { cls := .type "dict", data := .dict #[] }) s.heap.objs.size (dnO X.prog X.w s.heap.objs.size []) :=
    dnO_ok (beq_eq_false_iff_ne.mpr (Ne.symm (Nat.ne_of_lt hb))) (Nat.zero_le _) (Heap.get?_push_size _ rfl) ⟨rfl, rfl, rfl⟩ rfl rfl List.nodup_nil
  exact wpAny_Dict_empty ⟨.ref s.heap.objs.size, _, I.laid (t' := s.toks) (fun _ _ q => Heap.get?_push_of_some _ q) (Nat.le_refl _) ok, rfl, h _ (I.hok.fresh (Nat.le_refl _))⟩⟩
def rInN (P : Program) (w : World) (neg : Bool) : R2 := fun x y H Q => ∃ (kd : D) (b d : Addr) (xs : List NE), x = .ref b ∧ y = .ref d ∧ Rp H kd (.ref b) ∧ (keyK kd).depth ≤ 8 ∧ H d = some (dnO P w d xs) ∧ KsOk H xs ∧ Q (.bl (neg ^^ hasN xs (keyK kd))) H
section
variable {X : Cx}
theorem op_inN (hu : X.A.units + 16 < cLine) : OpR X (compareOp .In) (rInN X.prog X.w false) := by
  intro pins s σ H x y v u Q I rx ry h
  obtain ⟨kd, b, d, xs, rfl, rfl, r, dp, hd, ks, q⟩ := h
  cases rx
  cases ry
  obtain ⟨h0, hl, hm⟩ := dn_of I hd ks
  refine wpAny_in_heap (knd := nestedKind X.prog X.w) (by show X.A.units + 1 + 8 < cLine; omega) (kn_of I r dp) h0 hm ?_
  rw [atKey_raw, Option.isSome_map]
  rw [Bool.false_xor] at q
  exact ⟨.bl _, H, I.tok _, rfl, q⟩
theorem op_notInN (hu : X.A.units + 16 < cLine) : OpR X (compareOp .NotIn) (rInN X.prog X.w true) := by
  intro pins s σ H x y v u Q I rx ry h
  obtain ⟨kd, b, d, xs, rfl, rfl, r, dp, hd, ks, q⟩ := h
  cases rx
  cases ry
  obtain ⟨h0, hl, hm⟩ := dn_of I hd ks
  refine notIn_keyed (knd := nestedKind X.prog X.w) (by show X.A.units + 1 + 8 < cLine; omega) (kn_of I r dp) h0 ⟨_, hm, rfl⟩ ?_
  rw [valueAt_pairsH, Option.isSome_map, atKey_raw, Option.isSome_map]
  rw [Bool.true_xor] at q
  exact ⟨.bl _, H, I.tok _, rfl, q⟩
def rIxN (P : Program) (w : World) : R2 := fun x y H Q => ∃ (kd : D) (b d c : Addr) (xs : List NE), x = .ref d ∧ y = .ref b ∧ Rp H kd (.ref b) ∧ (keyK kd).depth ≤ 8 ∧ H d = some (dnO P w d xs) ∧ KsOk H xs ∧ getN xs (keyK kd) = some c ∧ Q (.ref c) H
theorem ix_dN (hu : X.A.units + 16 < cLine) : IxR X (rIxN X.prog X.w) := by
  intro value slice pins s σ H x y v u Q I rx ry h hs
  obtain ⟨kd, b, d, c, xs, rfl, rfl, r, dp, hd, ks, g, q⟩ := h
  cases rx
  cases ry
  obtain ⟨h0, hl, hm⟩ := dn_of I hd ks
  obtain ⟨e, he, hc⟩ := Option.map_eq_some_iff.mp g
  refine tail_any hm.typeIs slot_dict_getitem.lookup (wpAny_getItem_heap (knd := nestedKind X.prog X.w) (p := (e.2.1, Value.ref e.2.2)) (by show X.A.units + 1 + 8 < cLine; omega) (kn_of I r dp) hm (by rw [atKey_raw, he]; rfl) ?_) hs
  exact ⟨.ref c, H, I.tok _, by rw [← hc]; rfl, q⟩
def rSetN (P : Program) (w : World) : V → V → V → Hp → (Hp → Prop) → Prop := fun o i v H Q => ∃ (kd : D) (b d c : Addr) (xs : List NE), o = .ref d ∧ i = .ref b ∧ v = .ref c ∧ Rp H kd (.ref b) ∧ (keyK kd).depth ≤ 8 ∧ H d = some (dnO P w d xs) ∧ KsOk H xs ∧ xs.length < 1000 ∧
  Q (upd H d (dnO P w d (putN xs (keyK kd) b c)))
theorem putN_len (xs : List NE) (k : NestedKey) (b c : Addr) : (putN xs k b c).length ≤ xs.length + 1 := by
  unfold putN
  split
  · rw [List.length_map]; omega
  · rw [List.length_append, List.length_singleton]; exact Nat.le_refl _
theorem set_dN (hu : X.A.units + 16 < cLine) : PSet X (rSetN X.prog X.w) := by
  intro pins s σ H o i v ov iv u Q I ro ri rv h
  obtain ⟨kd, b, d, c, xs, rfl, rfl, rfl, r, dp, hd, ks, hl, q⟩ := h
  cases ro
  cases ri
  cases rv
  obtain ⟨h0, _, hm⟩ := dn_of I hd ks
  refine wpAny_setItem_heap (knd := nestedKind X.prog X.w) (by show X.A.units + 1 + 8 < cLine; omega) (kn_of I r dp) hm (fun h' hm' hs => ?_) (by unfold raw; rw [List.length_map]; exact Nat.le_of_lt (Nat.lt_of_lt_of_le hl (by decide)))
  rw [storedH_raw] at hm'
  obtain ⟨o, es, ep, g1, g2, g3, g4, _, g5⟩ := hm'
  have hpl := putN_len xs (keyK kd) b c
  refine ⟨_, I.write (x := d) (e := d) (by rw [hd]; exact True.intro) (.inl rfl) (fun b' o' hb ho => (hs.2 b' hb).trans ho) ⟨o, g1⟩ (dnO_ok h0 (Nat.le_trans hpl (Nat.le_trans hl (by decide))) g1 g2 g3 ?_ (by rw [raw_keys] at g5; exact g5)), q⟩
  rw [g4]
  unfold raw
  rw [List.map_map]; rfl
end
/-! what the dict holds -/
theorem getN_put_same {xs : List NE} {k : NestedKey} {b c : Addr} : getN (putN xs k b c) k = some c := by
  unfold putN
  split
  · rename_i h
    unfold getN
    unfold hasN at h
    rw [List.find?_map]
    obtain ⟨e, he⟩ := Option.isSome_iff_exists.mp h
    have hk := List.find?_some he
    have : (xs.find? ((fun x => decide (x.1 = k)) ∘ fun x => if x.1 = k then (x.1, x.2.1, c) else x)) = some e := by
      rw [← he]
      congr 1
      funext x
      show decide ((if x.1 = k then (x.1, x.2.1, c) else x).1 = k) = decide (x.1 = k)
      split <;> rfl
    rw [this]
    show some (if e.1 = k then (e.1, e.2.1, c) else e).2.2 = some c
    rw [if_pos (of_decide_eq_true hk)]
  · rename_i h
    unfold getN
    rw [List.find?_append]
    have : (xs.find? fun x => decide (x.1 = k)) = none := by
      cases e : xs.find? fun x => decide (x.1 = k) with
      | none => rfl
      | some y => exact absurd (by unfold hasN; rw [e]; rfl) h
    rw [this]
    simp
theorem getN_put_ne {xs : List NE} {k k' : NestedKey} {b c : Addr} (hne : k' ≠ k) : getN (putN xs k b c) k' = getN xs k' := by
  unfold putN
  split
  · unfold getN
    rw [List.find?_map]
    have : ((fun x => decide (x.1 = k')) ∘ fun (x : NE) => if x.1 = k then (x.1, x.2.1, c) else x) = fun x => decide (x.1 = k') := by
      funext x
      show decide ((if x.1 = k then (x.1, x.2.1, c) else x).1 = k') = decide (x.1 = k')
      split <;> rfl
    rw [this]
    cases e : xs.find? fun x => decide (x.1 = k') with
    | none => rfl
    | some y =>
      have hy0 : decide (y.1 = k') = true := List.find?_some (p := fun x : NE => decide (x.1 = k')) e
      have hy : y.1 = k' := of_decide_eq_true hy0
      show some (if y.1 = k then (y.1, y.2.1, c) else y).2.2 = some y.2.2
      rw [if_neg (fun z => hne (hy.symm.trans z))]
  · unfold getN
    rw [List.find?_append]
    cases e : xs.find? fun x => decide (x.1 = k') with
    | none => simp [Ne.symm hne]
    | some y => rfl
theorem hasN_get {xs : List NE} {k : NestedKey} : hasN xs k = (getN xs k).isSome := by
  unfold hasN getN
  rw [Option.isSome_map]
end GE

set_option Elab.async false
set_option linter.all false
set_option maxRecDepth 100000
set_option maxHeartbeats 4000000
/-! try .. except .. as .. else -/
namespace GE
open PySem PySem.Spec PyProof.Rows L2
section
variable {X : Cx}
theorem ps_try_asE {x n : Str} {c : Value} {i : Nat} {body suite orelse : List Stmt} {b₀ : Stmt} {np pos pos' : Pos} {tb : WX → TS} {ts : Addr → Value → Option Addr → TS} {Wout : WX} {u : TS}
    (hs : X.stack = X.env :: X.outer) (hf : X.env.frame = some X.env.locals) (hN : X.N.Nodup) (hi : X.N[i]? = some n) (hln : X.env.kindOf n = some NameKind.local) (hc : Names X x c) (tk : L2N.Takes X Wout)
    (hb : ∀ (W : WX) (pn : List (Addr × Obj)) (xe : Value → Shared → Prop), L2N.Takes (X.tr pn xe) W → PassesOwn (model X.prog X.w) X.A X.env xe → PSs (X.tr pn xe) body (tb W))
    (hsu : ∀ (a : Addr) (oe : Obj) (cls : Value) (d : Option Addr) (pn : List (Addr × Obj)), L2N.Zn cls d oe → (∃ vs, oe.data = Data.fields vs) → PSs (X.suite a ((a, oe) :: pn)) (b₀ :: suite) (ts a cls d)) (ho : PSs X orelse u) :
    PS X (.Try body [.ExceptHandler (some (.Name x np)) (some n) (b₀ :: suite) pos'] orelse [] pos) (fun D σ H => tb (wAs X.K c i ts Wout D) { nx := u D, rt := D.rt, bk := D.bk, ct := D.ct } σ H) := ⟨fun pins s σ H D I h => by
  have ok := I.ok
  have hfr : X.A.frames = some (X.env :: X.outer) := by rw [ok.frames, hs]
  have hloc : Loc X.env.scope n := Or.inl hln
  refine wpAny_Try_except (wpAny_mono ((hb (wAs X.K c i ts Wout D) (X.pn ++ pins) _ (fun v s' k => ?_) PassesOwn.looking).run [] s σ H _ (I.toTry fun e s₁ => wpAny (model X.prog X.w) X.A (noteFrame e X.env) (fun _ s₂ => wpAny (model X.prog X.w) X.A (setFlight e none) (fun _ s₃ => wpAny (model X.prog X.w) X.A (handleBy e X.env [.ExceptHandler (some (.Name x np)) (some n) (b₀ :: suite) pos']) (SP X pins D) X.xe s₃) X.xe s₂) X.xe s₁) h) (fun f s1 q => ?_) fun e s1 he => he)
  · obtain ⟨a, B, sI, pins', σ', H', cls, d, rfl, J', nb, up, sky, na, os, ag, b, hb1, hyes, hno⟩ := k
    have J := Inv.ofTry J' ok
    have sky' : Sky B (X.env :: X.outer) a (L2N.Zn cls d) X.env.locals s'.heap := by rw [← hs]; exact sky
    refine L2N.Sky.land L2N.Zn.steady hfr hf sky' fun h3 fl3 up3 => ?_
    have J3 := J.landed nb fl3.left (up.trans up3) (show ({ heap := h3, gens := s'.gens, drawn := s'.drawn, toks := s'.toks, os := s'.os } : Shared).os = sI.os from os) (show AllBare ({ heap := h3, gens := s'.gens, drawn := s'.drawn, toks := s'.toks, os := s'.os } : Shared).gens from ag)
    obtain ⟨oe3, vs3, he3, hz3, hd3⟩ := HandSPX.FlyingZ.there fl3
    have nfr : ¬ a ∈ _ := fun hm => by
      obtain ⟨_, o', e', hnf⟩ := Heap.FunFrames.mem fl3.2.2.1 hm
      rw [he3] at e'
      exact hnf vs3 (by rw [← Option.some.inj e']; exact hd3)
    have nL : a ≠ X.env.locals := fun z => nfr (List.mem_filterMap.mpr ⟨X.env, List.mem_cons_self, by rw [hf, z]⟩)
    have nF : ¬ a ∈ X.fs := fun hm => by
      obtain ⟨e, he, q⟩ := List.mem_filterMap.mp hm
      exact nfr (List.mem_filterMap.mpr ⟨e, List.mem_cons_of_mem _ he, q⟩)
    have S3 := J3.suite he3 hd3 na nL nF
    have LM := W.exm_one (M := model X.prog X.w) (Inv.kIn J3) (fun A Q E s k q => wpAny_typeOf_ref (k a oe3 he3) (by rw [hz3.1]; exact q)) hb1
    refine wpAny_handleBy_cons (codeAny_handlers_test ?_) fun q => nomatch q
    have test : ∀ {Q : Value → Shared → Prop} {E : Value → Shared → Prop}, Q c _ → wpAny (model X.prog X.w) (X.A.mark (some (.ref a))) (eval (.Name x np) X.env) Q E _ := fun {Q E} q => by
      obtain ⟨hg, hdbg, hm | ⟨hm, hv, hnn⟩⟩ := hc
      · exact ld_glob S3 hg hm q hdbg
      · exact ld_blt S3 hg hm hv q hnn hdbg
    refine test (W.Looks.here LM ?_)
    cases b with
    | false =>
      refine wpAny_handleBy_nil ?_
      obtain ⟨k1, k2, k3, oe, vs, T, oT, ts', he, hz, hd, h1, hr⟩ := (id fl3)
      refine wpAny_bind (wpAny_field he hd h1 ?_)
      rw [if_neg (by simp)]
      refine wpAny_bind ?_
      rw [hf]
      refine HandSPX.setFlight_upZ fl3 fun h4 hh4 up4 => wpAny_throw (tk _ _ ⟨a, B, sI, pins, σ', H', cls, d, rfl, J, nb, (up.trans up3).trans up4, .inr (.inr (by rw [hs]; exact hh4)), na, os, ag, hno rfl⟩)
    | true =>
      refine codeAny_handlers_suite_as (HandSPX.lands_againZ fl3 fun h4 fl4 up4 => ?_)
      have J4 := J.landed nb fl4.left ((up.trans up3).trans up4) (show ({ heap := h4, gens := s'.gens, drawn := s'.drawn, toks := s'.toks, os := s'.os } : Shared).os = sI.os from os) (show AllBare ({ heap := h4, gens := s'.gens, drawn := s'.drawn, toks := s'.toks, os := s'.os } : Shared).gens from ag)
      obtain ⟨oe4, vs4, he4, hz4, hd4⟩ := HandSPX.FlyingZ.there fl4
      have S4 := J4.suite he4 hd4 na nL nF
      refine store_ok (X := X.suite a ((a, oe4) :: (X.pn ++ pins))) S4 hN hi hloc (show RelV (.ref a) (.ref a) from rfl) (fun s5 S5 => wpAny_mono ((hsu a oe4 cls d (X.pn ++ pins) hz4 ⟨vs4, hd4⟩).run [] s5 _ H' _ S5 (hyes rfl a na)) (fun f s6 q => ?_) fun _ _ z => z.elim) (.inr hln)
      have fin : ∀ {σ6 : L2.St} {H6 : Hp} {Q : Unit → Shared → Prop}, L2.Inv (X.suite a ((a, oe4) :: (X.pn ++ pins))) [] σ6 H6 s6 → (∀ s7, L2.Inv X pins (List.set σ6 i none) H6 s7 → Q () s7) → wpAny (model X.prog X.w) X.A (do
          bindName X.env n Value.none
          unbindBehindTheSuite X.env n pos') Q X.xe s6 := fun S6 hq => gone_ok (Inv.unsuite S6 ok) hN hi hln hq
      cases f with
      | ret v =>
        obtain ⟨v6, σ6, H6, S6, r6, q6⟩ := q
        exact fin S6 fun s7 J7 => ⟨v6, _, H6, J7, r6, q6⟩
      | _ =>
        obtain ⟨σ6, H6, S6, q6⟩ := q
        exact fin S6 fun s7 J7 => ⟨_, H6, J7, q6⟩
  · cases f with
    | next =>
      obtain ⟨σ', H', J', q⟩ := q
      exact ho.run pins s1 σ' H' D (J'.ofTry ok) q
    | ret v =>
      obtain ⟨v', σ', H', J', r, q⟩ := q
      exact ⟨v', σ', H', J'.ofTry ok, r, q⟩
    | _ =>
      obtain ⟨σ', H', J', q⟩ := q
      exact ⟨σ', H', J'.ofTry ok, q⟩⟩
end
end GE

set_option Elab.async false
set_option linter.all false
set_option maxRecDepth 100000
set_option maxHeartbeats 4000000
/-! list.remove of a tuple -/
namespace GE
open PySem PySem.Spec PyProof.Rows L2
/-- how one turn ends -/
abbrev turnR (prog : Program) (w : World) (A : Around) (R : Result → Shared → Prop) : PySem.Fin → Shared → Prop := fun fin s' => match fin with
  | .done f => R (.ok f) s'
  | .again c' => c'.quiet = true ∧ codeAny (model prog w) A c' R s'
theorem rem_loop {prog : Program} {w : World} {A : Around} {R : Result → Shared → Prop} {l : Addr} {items : Array Value} {n j : Nat} {x : Value} {hp : Heap} {g : Array GenState} {d : Drawn} {tk : Nat} {os : OsState}
    (hl : hp.get? l = some { cls := .type "list", data := .seq items n }) (hj : j < items.size) (hs1 : items.size ≤ sizeLine)
    (he : ∀ m (hm : m < items.size), m ≤ j → ∀ (E : Value → Shared → Prop) (Q : Bool → Shared → Prop), Q (decide (m = j)) ⟨hp, g, d, tk, os⟩ → wpAny (model prog w) A.in1 (eqBool items[m] x) Q E ⟨hp, g, d, tk, os⟩)
    (h : R (.ok (.ret .none)) ⟨hp.update l (Obj.mapSeq fun xs => xs.eraseIdxIfInBounds j), g, d, tk, os⟩) :
    ∀ (k i : Nat), j - i = k → i ≤ j → wpAny (model prog w) A.in1 (Builtin.«list.remove.loop» { pos := [.ref l, x, rawInt (i : Int)] }) (turnR prog w A R) (fun e s' => R (.error e) s') ⟨hp, g, d, tk, os⟩ := by
  have at_ : ∀ i : Nat, (hi : i < items.size) → items[((i : Nat) : Int).toNat]? = some items[i] := fun i hi => Array.getElem?_eq_getElem hi
  intro k
  induction k with
  | zero =>
    intro i hk hij
    obtain rfl : i = j := by omega
    refine wpAny_bind (wpAny_bind (wpAny_bind (wpAny_load' hl (wpAny_pure (wpAny_pure ?_)))))
    rw [at_ i hj]
    refine wpAny_bind (he i hj (Nat.le_refl _) _ _ ?_)
    rw [decide_eq_true rfl]
    refine wpAny_ite_true rfl (wpAny_bind (wpAny_updateSeq (o := { cls := .type "list", data := .seq items n }) (xs := items) (n := n) hl rfl (wpAny_pure ?_) hs1 ?_))
    · exact h
    · have : (items.eraseIdxIfInBounds i).size ≤ items.size := by
        unfold Array.eraseIdxIfInBounds
        rw [dif_pos hj, Array.size_eraseIdx]
        omega
      exact Nat.le_trans this (Nat.le_trans hs1 (Nat.le_succ _))
  | succ k ih =>
    intro i hk hij
    have hi : i < items.size := by omega
    refine wpAny_bind (wpAny_bind (wpAny_bind (wpAny_load' hl (wpAny_pure (wpAny_pure ?_)))))
    rw [at_ i hi]
    refine wpAny_bind (he i hi hij _ _ ?_)
    rw [decide_eq_false (by omega)]
    refine wpAny_ite_false rfl (wpAny_pure ?_)
    refine ⟨plainId_quiet MeetsSeq.plain_remove_loop _, codeAny_builtin MeetsSeq.entry_remove_loop ?_⟩
    rw [Around.under_plainId MeetsSeq.plain_remove_loop]
    have := ih (i + 1) (by omega) (by omega)
    exact this
def remS (l : Addr) (items : Array Value) (n j : Nat) (x : Value) : PySem.Spec := fun A R s => s.heap.get? l = some { cls := .type "list", data := .seq items n } ∧ j < items.size ∧ items.size ≤ sizeLine ∧
  (∀ (prog : Program) (w : World) (m : Nat) (hm : m < items.size), m ≤ j → ∀ (E : Value → Shared → Prop) (Q : Bool → Shared → Prop), Q (decide (m = j)) s → wpAny (model prog w) A.in1 (eqBool items[m] x) Q E s) ∧
  R (.ok (.ret .none)) ⟨s.heap.update l (Obj.mapSeq fun xs => xs.eraseIdxIfInBounds j), s.gens, s.drawn, s.toks, s.os⟩
theorem rem_meets (l : Addr) (items : Array Value) (n j : Nat) (x : Value) : Meets (Builtin.«list.remove» { pos := [.ref l, x] }) (remS l items n j x) := by
  rintro prog w A R ⟨hp, g, d, tk, os⟩ ⟨hl, hj, hs, he, h⟩
  refine wpAny_bind (wpAny_bind (wpAny_ite_true rfl (wpAny_pure (wpAny_pure (wpAny_pure ?_)))))
  refine ⟨plainId_quiet MeetsSeq.plain_remove_loop _, codeAny_builtin MeetsSeq.entry_remove_loop ?_⟩
  rw [Around.under_plainId MeetsSeq.plain_remove_loop]
  exact rem_loop hl hj hs (he prog w) h (j - 0) 0 rfl (Nat.zero_le _)
theorem vals_get : ∀ {xs : List V} {us : List Value} {i : Nat} {v : V}, Vals xs us → xs[i]? = some v → ∃ u, us[i]? = some u ∧ RelV v u
  | [], us, i, v, h, e => by cases e
  | x :: xs, us, 0, v, h, e => by
    cases h with
    | cons h1 h2 =>
      obtain rfl := Option.some.inj e
      exact ⟨_, rfl, h1⟩
  | x :: xs, us, i + 1, v, h, e => by
    cases h with
    | cons h1 h2 => exact vals_get (i := i) h2 e
theorem vals_erase : ∀ {xs : List V} {us : List Value} (j : Nat), Vals xs us → Vals (xs.eraseIdx j) (us.eraseIdx j)
  | [], us, j, h => by cases h; exact .nil
  | x :: xs, us, 0, h => by
    cases h with
    | cons h1 h2 => exact h2
  | x :: xs, us, j + 1, h => by
    cases h with
    | cons h1 h2 => exact .cons h1 (vals_erase j h2)
def rRemN : V → List V → Hp → VK → Prop := fun x vs H Q => ∃ (l b : Addr) (us : List V) (ds : List D) (kd : D) (j : Nat), x = .ref l ∧ vs = [.ref b] ∧ H l = some (.lst us) ∧ RpL H ds us ∧ Rp H kd (.ref b) ∧ (keyK kd).depth ≤ 8 ∧ (∀ d ∈ ds, (∃ es, d = .t es) ∧ (keyK d).depth ≤ 8) ∧ us.length ≤ 1000 ∧ j < ds.length ∧
  (∀ m d, m ≤ j → ds[m]? = some d → decide (keyK d = keyK kd) = decide (m = j)) ∧ Q .non (upd H l (.lst (us.eraseIdx j)))
theorem mt_removeN {X : Cx} (hu : X.A.units + 20 < cLine) : MtM X "list.remove" rRemN := by
  rintro pins s σ H x vs v us' Q I rx rv ⟨l, b, us, ds, kd, j, rfl, rfl, hH, rl, rb, dp, hds, hln, hj, hm, q⟩
  cases rx
  obtain ⟨u, rfl, ru⟩ := Vals.one rv
  cases ru
  obtain ⟨z, its, n, r, hl, e⟩ := I.lstM hH
  refine call_meets F.slot_list_remove ⟨_, e, rfl⟩ F.entry_list_remove (F.args_list_remove_2 (.ref l) (.ref b)) (rem_meets l its.toArray n j (.ref b)) ⟨e, ?_, ?_, ?_, ?_⟩
  · rw [List.size_toArray, ← hl, rl.len]; exact hj
  · rw [List.size_toArray, ← hl]; exact z
  · intro prog w m hm1 hmj E Q q'
    have hlen := rl.len
    have hmd : m < ds.length := by omega
    obtain ⟨v, hv, r0⟩ := rl.get (i := m) (d := ds[m]) (List.getElem?_eq_getElem hmd)
    obtain ⟨⟨es, e0⟩, dp0⟩ := hds _ (List.getElem_mem hmd)
    obtain ⟨u, hu1, hu2⟩ := vals_get r hv
    have hu3 : its.toArray[m] = u := by
      have : its[m]? = some its.toArray[m] := by simp
      rw [this] at hu1
      exact Option.some.inj hu1
    have r1 := r0
    rw [e0] at r1
    obtain ⟨a, vs, rfl, _, _⟩ := r1.t
    have hu4 : u = .ref a := hu2
    rw [hu3, hu4]
    refine (nestedKind prog w).eqBool (x := keyK ds[m]) (y := keyK kd) ?_ ⟨key_is I.hok r0 (show RelV (.ref a) (.ref a) from rfl), dp0⟩ ⟨key_is I.hok rb (show RelV (.ref b) (.ref b) from rfl), dp⟩ ?_
    · show _ + 8 < cLine
      have : X.A.in1.units = X.A.units + 1 := rfl
      omega
    · rw [hm m _ hmj (List.getElem?_eq_getElem hmd)]
      exact q'
  · refine ⟨.non, _, I.lset (its' := its.eraseIdx j) hH e ?_ (vals_erase j r) ?_, rfl, q⟩
    · have : j < its.toArray.size := by rw [List.size_toArray, ← hl, rl.len]; exact hj
      unfold Array.eraseIdxIfInBounds
      rw [dif_pos this, List.eraseIdx_toArray]
    · have := List.length_eraseIdx_le us j
      exact Nat.le_trans this (Nat.le_trans hln (by decide))
end GE

set_option Elab.async false
set_option linter.all false
set_option maxRecDepth 100000
set_option maxHeartbeats 4000000
/-! dicts with nested keys: the rules with program and world named -/
namespace GE
open PySem PySem.Spec PyProof.Rows L2
section
variable {X : Cx} {P : Program} {w : World}
theorem pe_dnewP {pos : Pos} (h1 : X.prog = P) (h2 : X.w = w) : PE X (.Dict [] [] pos) (tDNewN P w) := by
  subst h1 h2
  exact pe_dnewN
theorem op_inP (h1 : X.prog = P) (h2 : X.w = w) (hu : X.A.units + 16 < cLine) : OpR X (compareOp .In) (rInN P w false) := by
  subst h1 h2
  exact op_inN hu
theorem op_notInP (h1 : X.prog = P) (h2 : X.w = w) (hu : X.A.units + 16 < cLine) : OpR X (compareOp .NotIn) (rInN P w true) := by
  subst h1 h2
  exact op_notInN hu
theorem ix_dP (h1 : X.prog = P) (h2 : X.w = w) (hu : X.A.units + 16 < cLine) : IxR X (rIxN P w) := by
  subst h1 h2
  exact ix_dN hu
theorem set_dP (h1 : X.prog = P) (h2 : X.w = w) (hu : X.A.units + 16 < cLine) : PSet X (rSetN P w) := by
  subst h1 h2
  exact set_dN hu
end
end GE

set_option Elab.async false
set_option linter.all false
set_option maxRecDepth 100000
set_option maxHeartbeats 4000000
namespace Mw
open PySem PySem.Spec PyProof.Rows L2 GE
theorem rpl_set {H : Hp} : ∀ {ds : List D} {vs : List V} {i : Nat} {d : D} {v : V}, RpL H ds vs → Rp H d v → RpL H (ds.set i d) (vs.set i v)
  | [], vs, i, d, v, h, _ => by rw [h.nil]; exact rpl_nil
  | e :: ds, vs, i, d, v, h, g => by
    obtain ⟨u, r, rfl, h1, h2⟩ := h.cons
    cases i with
    | zero => exact rpl_cons g h2
    | succ i => exact rpl_cons h1 (rpl_set (i := i) h2 g)
theorem rpl_del {H : Hp} : ∀ {ds : List D} {vs : List V} (i : Nat), RpL H ds vs → RpL H (ds.eraseIdx i) (vs.eraseIdx i)
  | [], vs, i, h => by rw [h.nil]; exact rpl_nil
  | e :: ds, vs, i, h => by
    obtain ⟨u, r, rfl, h1, h2⟩ := h.cons
    cases i with
    | zero => exact h2
    | succ i => exact rpl_cons h1 (rpl_del i h2)
theorem eqv_pr (p q : Pr) : PyData.eqv (prP p) (prP q) = decide (p = q) := by
  obtain ⟨a, b⟩ := p
  obtain ⟨c, d⟩ := q
  by_cases h1 : a = c <;> by_cases h2 : b = d <;> simp [prP, PyData.eqv, PyData.eqvAll, h1, h2] <;> omega
theorem any_pr (q : Pr) (ps : List Pr) : ((ps.map prP).any fun z => PyData.eqv z (prP q)) = decide (q ∈ ps) := by
  rw [Bool.eq_iff_iff, List.any_eq_true, decide_eq_true_eq]
  constructor
  · rintro ⟨z, hz, e⟩
    obtain ⟨p, hp, rfl⟩ := List.mem_map.mp hz
    rw [eqv_pr, decide_eq_true_eq] at e
    rw [← e]; exact hp
  · intro h
    exact ⟨prP q, List.mem_map.mpr ⟨q, h, rfl⟩, by rw [eqv_pr, decide_eq_true rfl]⟩
theorem map_del {α β : Type} (f : α → β) : ∀ (l : List α) (i : Nat), (l.eraseIdx i).map f = (l.map f).eraseIdx i
  | [], i => rfl
  | x :: l, 0 => rfl
  | x :: l, i + 1 => by
    show f x :: (l.eraseIdx i).map f = f x :: (l.map f).eraseIdx i
    rw [map_del f l i]
theorem key_pr {p q : Pr} : keyK (pairD p) = keyK (pairD q) ↔ p = q := by
  constructor
  · intro h
    have h : NestedKey.tup [.num (p.1 : Int), .num (p.2 : Int)] = .tup [.num (q.1 : Int), .num (q.2 : Int)] := h
    simp at h
    exact Prod.ext (by omega) (by omega)
  · intro h; rw [h]
theorem rem_at {q : Pr} : ∀ {ps : List Pr}, q ∈ ps → ∃ j, j < ps.length ∧ ps.erase q = ps.eraseIdx j ∧ ∀ m d, m ≤ j → (ps.map pairD)[m]? = some d → decide (keyK d = keyK (pairD q)) = decide (m = j)
  | p :: ps, h => by
    by_cases e : p = q
    · subst e
      refine ⟨0, Nat.succ_pos _, by rw [List.erase_cons_head]; rfl, fun m d hm hd => ?_⟩
      obtain rfl : m = 0 := by omega
      obtain rfl := Option.some.inj hd
      rw [decide_eq_true rfl, decide_eq_true rfl]
    · obtain ⟨j, h1, h2, h3⟩ := rem_at ((List.mem_cons.mp h).resolve_left fun z => e z.symm)
      refine ⟨j + 1, Nat.succ_lt_succ h1, by rw [List.erase_cons_tail (by simpa using e), h2]; rfl, fun m d hm hd => ?_⟩
      cases m with
      | zero =>
        obtain rfl := Option.some.inj hd
        rw [decide_eq_false (fun z => e (key_pr.mp z)), decide_eq_false (by omega)]
      | succ m =>
        rw [h3 m d (by omega) hd, decide_eq_decide]
        omega
theorem seqIx {i n : Nat} (h : i < n) : seqIndex? (i : Int) n = some i := by
  unfold seqIndex?
  have h1 : ¬ (i : Int) < 0 := by omega
  have h2 : decide (0 ≤ (i : Int)) = true := decide_eq_true (by omega)
  have h3 : decide ((i : Int) < (n : Int)) = true := decide_eq_true (by omega)
  simp only [if_neg h1, h2, h3, Bool.and_self, if_true]
  rfl
structure YTx (K : PySem.W.Frag) (aD : Addr) : Prop where
  cl : Cls K aD
  n__places : NoAttr K aD "_places"
  n__ways : NoAttr K aD "_ways"
  n__pairs : NoAttr K aD "_pairs"
  n__known : NoAttr K aD "_known"
  n__many : NoAttr K aD "_many"
/-- a part of a net: its places, its ways, its pairs -/
abbrev Part := List Nat × Wl × List Pr
def partD (p : Part) : D := .t [chD p.1, .t (p.2.1.map wayD), pairsD p.2.2]
/-- the dict of what was told for parts -/
def KnAt (P : Program) (w : World) (H : Hp) (kd : Addr) (n : Nat) (ks : List Part) : Prop := ∃ xs : List NE, H kd = some (dnO P w kd xs) ∧ KsOk H xs ∧ xs.length ≤ ks.length ∧
  ∀ p : Part, (getN xs (keyK (partD p)) = none ∧ p ∉ ks) ∨ ∃ c, getN xs (keyK (partD p)) = some c ∧ p ∈ ks ∧ Rp H (chD (toldL n p.2.1 p.2.2)) (.ref c)
def yf (n : Nat) (lw lp kd : Addr) (many : Nat) : List (Str × V) := [("_places", .int (n : Nat)), ("_ways", .ref lw), ("_pairs", .ref lp), ("_known", .ref kd), ("_many", .int (many : Nat))]
structure Yd where
  y : Addr
  lw : Addr
  lp : Addr
  kd : Addr
/-- what a yard holds -/
structure Ys where
  n : Nat
  ws : Wl
  ps : List Pr
  ks : List Part
  many : Nat
structure YdAt (P : Program) (w : World) (K : PySem.W.Frag) (aD : Addr) (H : Hp) (a : Yd) (S : Ys) : Prop where
  ob : ∃ dx, H a.y = some (.ins aD dx (yf S.n a.lw a.lp a.kd S.many))
  wy : ∃ us, H a.lw = some (.lst us) ∧ RpL H (S.ws.map wayD) us
  pr : ∃ us, H a.lp = some (.lst us) ∧ RpL H (S.ps.map pairD) us
  kn : KnAt P w H a.kd S.n S.ks
  ne : a.lw ≠ a.lp
def YM (a : Yd) : Addr → Prop := fun b => b = a.y ∨ b = a.lw ∨ b = a.lp
def YN (a : Yd) : Addr → Prop := fun b => YM a b ∨ b = a.kd
theorem KnAt.ext {P : Program} {w : World} {T : List Addr} {M : Addr → Prop} {H H' : Hp} {kd : Addr} {n : Nat} {ks : List Part} (h : KnAt P w H kd n ks) (e : Ext T M H H') (hk : ¬ M kd) (hM : ∀ b vs, M b → H b ≠ some (.tup vs)) : KnAt P w H' kd n ks := by
  obtain ⟨xs, h1, h2, h3, h4⟩ := h
  refine ⟨xs, e.kp _ _ hk h1 dnO_tbl, fun x hx => ?_, h3, fun p => ?_⟩
  · obtain ⟨d, g1, g2, g3⟩ := h2 x hx
    exact ⟨d, g1, g2.ext e hM, g3⟩
  · rcases h4 p with g | ⟨c, g1, g2, g3⟩
    · exact .inl g
    · exact .inr ⟨c, g1, g2, g3.ext e hM⟩
theorem YdAt.ext {P : Program} {w : World} {K : PySem.W.Frag} {aD : Addr} {T : List Addr} {M : Addr → Prop} {H H' : Hp} {a : Yd} {S : Ys} (h : YdAt P w K aD H a S) (e : Ext T M H H') (hn : ∀ b, YN a b → ¬ M b) (hM : ∀ b vs, M b → H b ≠ some (.tup vs)) : YdAt P w K aD H' a S := by
  obtain ⟨⟨dx, h1⟩, ⟨us, h2, h3⟩, ⟨vs, h4, h5⟩, h6, h7⟩ := h
  exact ⟨⟨dx, e.kp _ _ (hn _ (.inl (.inl rfl))) h1 fun ps z => nomatch z⟩, ⟨us, e.lst (hn _ (.inl (.inr (.inl rfl)))) h2, h3.ext e hM⟩, ⟨vs, e.lst (hn _ (.inl (.inr (.inr rfl)))) h4, h5.ext e hM⟩, h6.ext e (hn _ (.inr rfl)) hM, h7⟩
theorem YdAt.x {P : Program} {w : World} {K : PySem.W.Frag} {aD : Addr} {T : List Addr} {H H' : Hp} {a : Yd} {S : Ys} (h : YdAt P w K aD H a S) (e : Ext T noM H H') : YdAt P w K aD H' a S := h.ext e (fun _ _ z => z) fun _ _ m => m.elim
theorem YdAt.not {P : Program} {w : World} {K : PySem.W.Frag} {aD : Addr} {H : Hp} {a : Yd} {S : Ys} (h : YdAt P w K aD H a S) : ∀ b vs, YM a b → H b ≠ some (.tup vs) := fun b vs e z => by
  obtain ⟨⟨dx, h1⟩, ⟨us, h2, h3⟩, ⟨vs, h4, h5⟩, h6, h7⟩ := h
  rcases e with e | e | e
  · rw [e, h1] at z; cases z
  · rw [e, h2] at z; cases z
  · rw [e, h4] at z; cases z
theorem YdAt.diff {P : Program} {w : World} {K : PySem.W.Frag} {aD : Addr} {H : Hp} {a : Yd} {S : Ys} (h : YdAt P w K aD H a S) : a.y ≠ a.lw ∧ a.y ≠ a.lp ∧ a.y ≠ a.kd ∧ a.lw ≠ a.kd ∧ a.lp ≠ a.kd := by
  obtain ⟨⟨dx, h1⟩, ⟨us, h2, h3⟩, ⟨vs, h4, h5⟩, ⟨xs, h6, _⟩, h7⟩ := h
  refine ⟨fun z => ?_, fun z => ?_, fun z => ?_, fun z => ?_, fun z => ?_⟩
  · rw [z, h2] at h1; cases h1
  · rw [z, h4] at h1; cases h1
  · rw [z, h6] at h1
    have y := Option.some.inj h1
    unfold dnO at y
    cases y
  · rw [z, h6] at h2
    exact dnO_lst (Option.some.inj h2)
  · rw [z, h6] at h4
    exact dnO_lst (Option.some.inj h4)
/-- another list of ways -/
theorem YdAt.ways {P : Program} {w : World} {K : PySem.W.Frag} {aD : Addr} {T : List Addr} {H : Hp} {a : Yd} {S : Ys} {us : List V} {ws' : Wl} (h : YdAt P w K aD H a S) (hu : RpL H (ws'.map wayD) us) :
    YdAt P w K aD (upd H a.lw (.lst us)) a { S with ws := ws' } ∧ Ext T (YM a) H (upd H a.lw (.lst us)) := by
  have hn := h.not
  obtain ⟨d1, d2, d3, d4, d5⟩ := h.diff
  obtain ⟨⟨dx, h1⟩, ⟨us0, h2, h3⟩, ⟨vs, h4, h5⟩, h6, h7⟩ := h
  have x : Ext T (YM a) H (upd H a.lw (.lst us)) := (Ext.refl T _ H).mut (.inr (.inr (.inl rfl))) h2 ltbl
  refine ⟨⟨⟨dx, by rw [upd_ne d1]; exact h1⟩, ⟨us, upd_same, hu.ext x hn⟩, ⟨vs, by rw [upd_ne h7.symm]; exact h4, h5.ext x hn⟩, h6.ext x ?_ hn, h7⟩, x⟩
  rintro (z | z | z)
  · exact d3 z.symm
  · exact d4 z.symm
  · exact d5 z.symm
theorem YdAt.prs {P : Program} {w : World} {K : PySem.W.Frag} {aD : Addr} {T : List Addr} {H : Hp} {a : Yd} {S : Ys} {us : List V} {ps' : List Pr} (h : YdAt P w K aD H a S) (hu : RpL H (ps'.map pairD) us) :
    YdAt P w K aD (upd H a.lp (.lst us)) a { S with ps := ps' } ∧ Ext T (YM a) H (upd H a.lp (.lst us)) := by
  have hn := h.not
  obtain ⟨d1, d2, d3, d4, d5⟩ := h.diff
  obtain ⟨⟨dx, h1⟩, ⟨vs, h2, h3⟩, ⟨us0, h4, h5⟩, h6, h7⟩ := h
  have x : Ext T (YM a) H (upd H a.lp (.lst us)) := (Ext.refl T _ H).mut (.inr (.inr (.inr rfl))) h4 ltbl
  refine ⟨⟨⟨dx, by rw [upd_ne d2]; exact h1⟩, ⟨vs, by rw [upd_ne h7]; exact h2, h3.ext x hn⟩, ⟨us, upd_same, hu.ext x hn⟩, h6.ext x ?_ hn, h7⟩, x⟩
  rintro (z | z | z)
  · exact d3 z.symm
  · exact d4 z.symm
  · exact d5 z.symm
/-- an edit -/
inductive Ed where
  | build (q : Wy)
  | change (i c : Nat)
  | cut (i : Nat)
  | want (q : Pr)
  | drop (q : Pr)
/-- what an edit does, and why it is refused -/
def edT : Ed → Wl → List Pr → Str × Wl × List Pr
  | .build q, ws, ps => if 24 ≤ ws.length then ("full", ws, ps) else ("", ws ++ [q], ps)
  | .change i c, ws, ps => if ws.length ≤ i then ("way", ws, ps) else ("", ws.set i ((wyAt ws i).1, (wyAt ws i).2.1, c), ps)
  | .cut i, ws, ps => if ws.length ≤ i then ("way", ws, ps) else ("", ws.eraseIdx i, ps)
  | .want q, ws, ps => if q ∈ ps then ("known", ws, ps) else if 6 ≤ ps.length then ("full", ws, ps) else ("", ws, ps ++ [q])
  | .drop q, ws, ps => if q ∈ ps then ("", ws, ps.erase q) else ("unknown", ws, ps)
def edV : Ed → List V
  | .build q => [.int (q.1 : Nat), .int (q.2.1 : Nat), .int (q.2.2 : Nat)]
  | .change i c => [.int (i : Nat), .int (c : Nat)]
  | .cut i => [.int (i : Nat)]
  | .want q => [.int (q.1 : Nat), .int (q.2 : Nat)]
  | .drop q => [.int (q.1 : Nat), .int (q.2 : Nat)]
structure YsOk (S : Ys) : Prop where
  w : Wf S.n S.ws
  p : PsOk S.n S.ps
def EdOk (n : Nat) : Ed → Prop
  | .build q => WayOk n q
  | .change i c => i ≤ 100000000 ∧ 1 ≤ c ∧ c ≤ 10000
  | .cut i => i ≤ 100000000
  | .want q => q.1 < q.2 ∧ q.2 < n
  | .drop q => q.1 < q.2 ∧ q.2 < n
def YRes (P : Program) (w : World) (K : PySem.W.Frag) (T : List Addr) (aD aR : Addr) (a : Yd) (S : Ys) (r : Str × Wl × List Pr) (H : Hp) (Q : VK) (E : XK) : Prop :=
  (r.1 = "" → ∀ H', YdAt P w K aD H' a { S with ws := r.2.1, ps := r.2.2 } → Ext T (YM a) H H' → Q .non H') ∧ (r.1 ≠ "" → Raised T noM aR "reason" (.str r.1) H E)
/-- a method of a yard that does an edit -/
def spYEd (P : Program) (w : World) (K : PySem.W.Frag) (T : List Addr) (aD aR : Addr) (I : Ed → Prop) : Sp := fun vs H Q E => ∃ (a : Yd) (S : Ys) (e : Ed), I e ∧ vs = .ref a.y :: edV e ∧ YdAt P w K aD H a S ∧ YsOk S ∧ EdOk S.n e ∧ YRes P w K T aD aR a S (edT e S.ws S.ps) H Q E
def isB : Ed → Prop := fun e => ∃ q, e = .build q
def isCh : Ed → Prop := fun e => ∃ i c, e = .change i c
def isCut : Ed → Prop := fun e => ∃ i, e = .cut i
def isW : Ed → Prop := fun e => ∃ q, e = .want q
def isD : Ed → Prop := fun e => ∃ q, e = .drop q
def spYCheck (P : Program) (w : World) (K : PySem.W.Frag) (T : List Addr) (aD aR : Addr) : Sp := fun vs H Q E => ∃ (a : Yd) (S : Ys) (i : Nat), vs = [.ref a.y, .int (i : Nat)] ∧ YdAt P w K aD H a S ∧ (i < S.ws.length → Q .non H) ∧ (S.ws.length ≤ i → Raised T noM aR "reason" (.str "way") H E)
def spYInit (P : Program) (w : World) (K : PySem.W.Frag) (T : List Addr) (aD : Addr) : Sp := fun vs H Q _ => ∃ (p dx : Addr) (n : Nat), vs = [.ref p, .int (n : Nat)] ∧ H p = some (.ins aD dx []) ∧
  ∀ (a : Yd) H', a.y = p → YdAt P w K aD H' a ⟨n, [], [], [], 0⟩ → (∀ b, YN a b → b = p ∨ H b = none) → Ext T (fun b => b = p) H H' → Q .non H'
def tskD (n : Nat) (ws : Wl) (ps : List Pr) : D := .t [netD n ws, pairsD ps]
def spYTask (P : Program) (w : World) (K : PySem.W.Frag) (T : List Addr) (aD : Addr) : Sp := fun vs H Q _ => ∃ (a : Yd) (S : Ys), vs = [.ref a.y] ∧ YdAt P w K aD H a S ∧ YsOk S ∧ ∀ v H', Rp H' (tskD S.n S.ws S.ps) v → Ext T noM H H' → Q v H'
section
variable {P : Program} {w : World} {K : PySem.W.Frag} {mg : Str → Option Value} {base : Heap} {T : List Addr} {aC aD aApart aRefused : Addr}
theorem ok_Refused___init__ {f : Addr} {fd : FuncData} (F : Fun K "__init__" "Refused.__init__" sRefused___init__ f fd) {aMoatError : Addr} (gMoatError : mg "MoatError" = some (.ref aMoatError)) (BMoatError : GE.Xb K aMoatError) {fI : Addr} (XRefused : GE.Xc K aRefused fI "reason") : FnOk P w K mg base CX0 1 f fd ["self", "reason"] (GE.spXI K T aRefused "reason") := by
  refine F.ok scRefused___init__ (fun vs H Q E h => ?_) (fun cdv A outer s H vs Q E hr h => ?_)
  · obtain ⟨a, v, rfl, ha, hv, k⟩ := h
    rfl
  · obtain ⟨a, v, rfl, ha, hv, k⟩ := h
    refine ⟨_, (pss_cons (ps_expr (GE.pe_binit BMoatError (by rfl) gMoatError (pa_cons (pv 0) (pa_cons (GE.pe_js (PJ.cons pe_str (PJ.cons (pe_fmt (pv 1)) PJ.nil))) pa_nil))))
      (pss_one (ps_ost (pv 0) (pv 1)))), ?_⟩
    refine ⟨_, rfl, _, rfl, (by simp only [ln_app']; exact sl_1000 (by decide)), ?_⟩
    refine fmt_rd hv (fun R r => ⟨_, rfl, r⟩) fun y hy => ?_
    refine ⟨_, rfl, (by simp only [ln_app']; refine sl_1000 ?_; have : ("the edit is refused: " : Str).length = 21 := rfl; have h0 : Str.empty.length = 0 := rfl; omega), ?_⟩
    refine ⟨a, aRefused, _, rfl, by show 1 ≤ 1000; decide, XRefused.ox, ha, ?_⟩
    show tOst K "reason" (tVar 0) (tVar 1) _ _ _
    exact xi_store XRefused ha (fun R r => ⟨_, rfl, r⟩) (fun R r => ⟨_, rfl, r⟩) k
theorem ok_Yard___init__ {f : Addr} {fd : FuncData} (F : Fun K "__init__" "Yard.__init__" sYard___init__ f fd) (fy : YTx K aD) : FnOk P w K mg base CX0 1 f fd ["self", "places"] (spYInit P w K T aD) := by
  refine F.ok scYard___init__ (fun vs H Q E h => ?_) (fun cdv A outer s H vs Q E hr h => ?_)
  · obtain ⟨p, dx, n, rfl, hp, k⟩ := h
    rfl
  · obtain ⟨p, dx, n, rfl, hp, k⟩ := h
    refine ⟨_, (pss_cons (ps_fld (pv 0) (pv 1) rfl)
      (pss_cons (ps_fld (pv 0) (pe_lst pa_nil) rfl)
      (pss_cons (ps_fld (pv 0) (pe_lst pa_nil) rfl)
      (pss_cons (ps_fld (pv 0) (GE.pe_dnewP (P := P) (w := w) rfl rfl) rfl)
      (pss_one (ps_fld (pv 0) pe_int rfl)))))), ?_⟩
    have X : ∀ (H' : Hp) (o o' : HO), H' p = some o → (∀ ps, o ≠ .tbl ps) → Ext T (fun b => b = p) H' (upd H' p o') := fun H' o o' h nt => (Ext.refl T _ H').mut (.inr rfl) h nt
    refine ⟨_, rfl, _, rfl, p, aD, dx, _, rfl, hp, fy.cl, fy.n__places, by show 0 < 1000; decide, ?_⟩
    have x1 := X H _ (.ins aD dx (putF "_places" (.int (n : Nat)) [])) hp fun ps z => nomatch z
    have h1 : (upd H p (.ins aD dx (putF "_places" (.int (n : Nat)) []))) p = some (.ins aD dx (putF "_places" (.int (n : Nat)) [])) := upd_same
    generalize (upd H p (.ins aD dx (putF "_places" (.int (n : Nat)) []))) = H1 at x1 h1 ⊢
    refine ⟨by show 0 ≤ sizeLine; decide, fun lw hlw => ?_⟩
    have x2 : Ext T (fun b => b = p) H1 (upd H1 lw (.lst [])) := Ext.new hlw
    have hlw2 : (upd H1 lw (.lst [])) lw = some (.lst []) := upd_same
    have lwp : lw ≠ p := fun z => by rw [z, h1] at hlw; cases hlw
    have h2 : (upd H1 lw (.lst [])) p = some (.ins aD dx (putF "_places" (.int (n : Nat)) [])) := by rw [upd_ne (fun z => lwp z.symm)]; exact h1
    generalize (upd H1 lw (.lst [])) = H2 at x2 hlw2 h2 ⊢
    refine ⟨_, rfl, p, aD, dx, _, rfl, h2, fy.cl, fy.n__ways, by show 1 < 1000; decide, ?_⟩
    have x3 := X H2 _ (.ins aD dx (putF "_ways" (.ref lw) (putF "_places" (.int (n : Nat)) []))) h2 fun ps z => nomatch z
    have h3 : (upd H2 p (.ins aD dx (putF "_ways" (.ref lw) (putF "_places" (.int (n : Nat)) [])))) p = some (.ins aD dx (putF "_ways" (.ref lw) (putF "_places" (.int (n : Nat)) []))) := upd_same
    have hlw3 : (upd H2 p (.ins aD dx (putF "_ways" (.ref lw) (putF "_places" (.int (n : Nat)) [])))) lw = some (.lst []) := by rw [upd_ne lwp]; exact hlw2
    generalize (upd H2 p (.ins aD dx (putF "_ways" (.ref lw) (putF "_places" (.int (n : Nat)) [])))) = H3 at x3 h3 hlw3 ⊢
    refine ⟨by show 0 ≤ sizeLine; decide, fun lp hlp => ?_⟩
    have x4 : Ext T (fun b => b = p) H3 (upd H3 lp (.lst [])) := Ext.new hlp
    have lpp : lp ≠ p := fun z => by rw [z, h3] at hlp; cases hlp
    have lpw : lw ≠ lp := fun z => by rw [← z, hlw3] at hlp; cases hlp
    have hlp4 : (upd H3 lp (.lst [])) lp = some (.lst []) := upd_same
    have h4 : (upd H3 lp (.lst [])) p = some (.ins aD dx (putF "_ways" (.ref lw) (putF "_places" (.int (n : Nat)) []))) := by rw [upd_ne (fun z => lpp z.symm)]; exact h3
    have hlw4 : (upd H3 lp (.lst [])) lw = some (.lst []) := by rw [upd_ne lpw]; exact hlw3
    generalize (upd H3 lp (.lst [])) = H4 at x4 h4 hlw4 hlp4 ⊢
    refine ⟨_, rfl, p, aD, dx, _, rfl, h4, fy.cl, fy.n__pairs, by show 2 < 1000; decide, ?_⟩
    have x5 := X H4 _ (.ins aD dx (putF "_pairs" (.ref lp) (putF "_ways" (.ref lw) (putF "_places" (.int (n : Nat)) [])))) h4 fun ps z => nomatch z
    have h5 : (upd H4 p (.ins aD dx (putF "_pairs" (.ref lp) (putF "_ways" (.ref lw) (putF "_places" (.int (n : Nat)) []))))) p = some (.ins aD dx (putF "_pairs" (.ref lp) (putF "_ways" (.ref lw) (putF "_places" (.int (n : Nat)) [])))) := upd_same
    have hlw5 : (upd H4 p (.ins aD dx (putF "_pairs" (.ref lp) (putF "_ways" (.ref lw) (putF "_places" (.int (n : Nat)) []))))) lw = some (.lst []) := by rw [upd_ne lwp]; exact hlw4
    have hlp5 : (upd H4 p (.ins aD dx (putF "_pairs" (.ref lp) (putF "_ways" (.ref lw) (putF "_places" (.int (n : Nat)) []))))) lp = some (.lst []) := by rw [upd_ne lpp]; exact hlp4
    generalize (upd H4 p (.ins aD dx (putF "_pairs" (.ref lp) (putF "_ways" (.ref lw) (putF "_places" (.int (n : Nat)) []))))) = H5 at x5 h5 hlw5 hlp5 ⊢
    refine fun kd hkd => ?_
    have x6 : Ext T (fun b => b = p) H5 (upd H5 kd (dnO P w kd [])) := Ext.new hkd
    have kdp : kd ≠ p := fun z => by rw [z, h5] at hkd; cases hkd
    have kdw : lw ≠ kd := fun z => by rw [← z, hlw5] at hkd; cases hkd
    have kdq : lp ≠ kd := fun z => by rw [← z, hlp5] at hkd; cases hkd
    have hkd6 : (upd H5 kd (dnO P w kd [])) kd = some (dnO P w kd []) := upd_same
    have h6 : (upd H5 kd (dnO P w kd [])) p = some (.ins aD dx (putF "_pairs" (.ref lp) (putF "_ways" (.ref lw) (putF "_places" (.int (n : Nat)) [])))) := by rw [upd_ne (fun z => kdp z.symm)]; exact h5
    have hlw6 : (upd H5 kd (dnO P w kd [])) lw = some (.lst []) := by rw [upd_ne kdw]; exact hlw5
    have hlp6 : (upd H5 kd (dnO P w kd [])) lp = some (.lst []) := by rw [upd_ne kdq]; exact hlp5
    generalize (upd H5 kd (dnO P w kd [])) = H6 at x6 h6 hlw6 hlp6 hkd6 ⊢
    refine ⟨_, rfl, p, aD, dx, _, rfl, h6, fy.cl, fy.n__known, by show 3 < 1000; decide, ?_⟩
    have x7 := X H6 _ (.ins aD dx (putF "_known" (.ref kd) (putF "_pairs" (.ref lp) (putF "_ways" (.ref lw) (putF "_places" (.int (n : Nat)) []))))) h6 fun ps z => nomatch z
    have h7 : (upd H6 p (.ins aD dx (putF "_known" (.ref kd) (putF "_pairs" (.ref lp) (putF "_ways" (.ref lw) (putF "_places" (.int (n : Nat)) [])))))) p = some (.ins aD dx (putF "_known" (.ref kd) (putF "_pairs" (.ref lp) (putF "_ways" (.ref lw) (putF "_places" (.int (n : Nat)) []))))) := upd_same
    have hlw7 : (upd H6 p (.ins aD dx (putF "_known" (.ref kd) (putF "_pairs" (.ref lp) (putF "_ways" (.ref lw) (putF "_places" (.int (n : Nat)) [])))))) lw = some (.lst []) := by rw [upd_ne lwp]; exact hlw6
    have hlp7 : (upd H6 p (.ins aD dx (putF "_known" (.ref kd) (putF "_pairs" (.ref lp) (putF "_ways" (.ref lw) (putF "_places" (.int (n : Nat)) [])))))) lp = some (.lst []) := by rw [upd_ne lpp]; exact hlp6
    have hkd7 : (upd H6 p (.ins aD dx (putF "_known" (.ref kd) (putF "_pairs" (.ref lp) (putF "_ways" (.ref lw) (putF "_places" (.int (n : Nat)) [])))))) kd = some (dnO P w kd []) := by rw [upd_ne kdp]; exact hkd6
    generalize (upd H6 p (.ins aD dx (putF "_known" (.ref kd) (putF "_pairs" (.ref lp) (putF "_ways" (.ref lw) (putF "_places" (.int (n : Nat)) [])))))) = H7 at x7 h7 hlw7 hlp7 hkd7 ⊢
    refine ⟨_, rfl, p, aD, dx, _, rfl, h7, fy.cl, fy.n__many, by show 4 < 1000; decide, ?_⟩
    have x8 := X H7 _ (.ins aD dx (putF "_many" (.int 0) (putF "_known" (.ref kd) (putF "_pairs" (.ref lp) (putF "_ways" (.ref lw) (putF "_places" (.int (n : Nat)) [])))))) h7 fun ps z => nomatch z
    have e2 := x1.trans x2
    have e4 := e2.trans (x3.trans x4)
    refine k ⟨p, lw, lp, kd⟩ _ rfl ⟨⟨dx, upd_same⟩, ⟨[], by show upd H7 p _ lw = _; rw [upd_ne lwp]; exact hlw7, rpl_nil⟩, ⟨[], by show upd H7 p _ lp = _; rw [upd_ne lpp]; exact hlp7, rpl_nil⟩, ⟨[], by show upd H7 p _ kd = _; rw [upd_ne kdp]; exact hkd7, (fun x hx => nomatch hx), Nat.le_refl _, fun p => .inl ⟨rfl, fun z => nomatch z⟩⟩, lpw⟩ ?_ ((e4.trans (x5.trans x6)).trans (x7.trans x8))
    rintro b ((z | z | z) | z)
    · exact .inl z
    · exact .inr (z ▸ x1.fr lw hlw)
    · exact .inr (z ▸ (e2.trans x3).fr lp hlp)
    · exact .inr (z ▸ (e4.trans x5).fr kd hkd)
theorem ok_Yard_task {f : Addr} {fd : FuncData} (F : Fun K "task" "Yard.task" sYard_task f fd) (m_tuple : mg "tuple" = none) (fy : YTx K aD) : FnOk P w K mg base CX0 1 f fd ["self"] (spYTask P w K T aD) := by
  refine F.ok scYard_task (fun vs H Q E h => ?_) (fun cdv A outer s H vs Q E hr h => ?_)
  · obtain ⟨a, S, rfl, Y, YO, k⟩ := h
    rfl
  · obtain ⟨a, S, rfl, Y, YO, k⟩ := h
    refine ⟨_, (pss_one (ps_ret (pe_tup (pa_cons (pe_tup (pa_cons (pe_fld (pv 0) rfl) (pa_cons (pe_callTy call_tuple_of (by rfl) m_tuple (by decide +kernel) (pa_cons (pe_fld (pv 0) rfl) pa_nil)) pa_nil))) (pa_cons (pe_callTy call_tuple_of (by rfl) m_tuple (by decide +kernel) (pa_cons (pe_fld (pv 0) rfl) pa_nil)) pa_nil))))), ?_⟩
    obtain ⟨dx, hob⟩ := Y.ob
    obtain ⟨us, h2, h3⟩ := Y.wy
    obtain ⟨vs, h4, h5⟩ := Y.pr
    have hul : us.length = S.ws.length := by rw [h3.len, List.length_map]
    have hvl : vs.length = S.ps.length := by rw [h5.len, List.length_map]
    have w24 := YO.w.ln
    have p6 := YO.p.ln
    refine ⟨_, rfl, a.y, aD, dx, _, _, rfl, hob, fy.cl, fy.n__places, rfl, _, rfl, a.y, aD, dx, _, _, rfl, hob, fy.cl, fy.n__ways, rfl, a.lw, _, rfl, .inl ⟨SqL.of h2, fun wt hwt => ?_⟩⟩
    have e1 : Ext T noM H (upd H wt (.tup us)) := Ext.new hwt
    have r1 : Rp (upd H wt (.tup us)) (.t (S.ws.map wayD)) (.ref wt) := rp_t upd_same (h3.x e1)
    generalize (upd H wt (.tup us)) = H1 at e1 r1 ⊢
    refine ⟨by show 2 ≤ sizeLine; decide, fun nt hnt => ?_⟩
    have e2 : Ext T noM H1 (upd H1 nt (.tup [.int (S.n : Nat), .ref wt])) := Ext.new hnt
    have r2 : Rp (upd H1 nt (.tup [.int (S.n : Nat), .ref wt])) (netD S.n S.ws) (.ref nt) := rp_t upd_same (rpl_cons (rp_i _) (rpl_cons (r1.x e2) rpl_nil))
    generalize (upd H1 nt (.tup [V.int (S.n : Nat), .ref wt])) = H2 at e2 r2 ⊢
    have e02 := e1.trans e2
    have hob2 := e02.kp _ _ (fun z => z) hob fun ps z => nomatch z
    have h42 := e02.lst (fun z => z) h4
    refine ⟨_, rfl, a.y, aD, dx, _, _, rfl, hob2, fy.cl, fy.n__pairs, rfl, a.lp, _, rfl, .inl ⟨SqL.of h42, fun pt hpt => ?_⟩⟩
    have e3 : Ext T noM H2 (upd H2 pt (.tup vs)) := Ext.new hpt
    have r3 : Rp (upd H2 pt (.tup vs)) (pairsD S.ps) (.ref pt) := rp_t upd_same (h5.x (e02.trans e3))
    generalize (upd H2 pt (.tup vs)) = H3 at e3 r3 ⊢
    refine ⟨by show 2 ≤ sizeLine; decide, fun rt hrt => ?_⟩
    have e4 : Ext T noM H3 (upd H3 rt (.tup [.ref nt, .ref pt])) := Ext.new hrt
    exact k _ _ (rp_t upd_same (rpl_cons ((r2.x e3).x e4) (rpl_cons (r3.x e4) rpl_nil))) ((e02.trans e3).trans e4)
theorem okX_Yard__check_way {f : Addr} {fd : FuncData} (F : Fun K "_check_way" "Yard._check_way" sYard__check_way f fd) (m_len : mg "len" = none) {aRefused : Addr} (gRefused : mg "Refused" = some (.ref aRefused)) {fRefused___init__ : Addr} {fdRefused___init__ : FuncData} (FRefused___init__ : Fun K "__init__" "Refused.__init__" sRefused___init__ fRefused___init__ fdRefused___init__) (GRefused___init__ : FnOk P w K mg base CX0 1 fRefused___init__ fdRefused___init__ ["self", "reason"] (GE.spXI K T aRefused "reason")) (bRefused___init__ : Binds K fdRefused___init__ ["self", "reason"] []) (XRefused : GE.Xc K aRefused fRefused___init__ "reason") (fy : YTx K aD) : FnOk P w K mg base (GE.CXn P w) 3 f fd ["self", "way"] (spYCheck P w K T aD aRefused) := by
  refine GE.funN F scYard__check_way (fun vs H Q E h => ?_) (fun cdv A outer s H vs Q E hr h => ?_)
  · obtain ⟨a, S, i, rfl, Y, k1, k2⟩ := h
    rfl
  · obtain ⟨a, S, i, rfl, Y, k1, k2⟩ := h
    refine ⟨_, (pss_one (ps_if (PW.pt (pw_or (pt_cmpR op_lt (pv 1) pe_int (nomark _)) (pw_or1 (pt_cmpR op_ge (pv 1) (pe_callB call_len_seq (by rfl) m_len PySem.boot_len (pa_cons (pe_fld (pv 0) rfl) pa_nil)) (nomark _))))) (pss_one (L2N.ps_raise rfl (L2N.takes_of rfl rfl rfl rfl) (GE.pmkN XRefused GRefused___init__ hr bRefused___init__ pass0 (by rfl) gRefused (pa_cons pe_str pa_nil)))) pss_nil)), ?_⟩
    obtain ⟨dx, hob⟩ := Y.ob
    obtain ⟨us, h2, h3⟩ := Y.wy
    have hul : us.length = S.ws.length := by rw [h3.len, List.length_map]
    refine ev_if (ev_or (a := false) (fun Q h => ⟨_, rfl, _, _, rfl, rfl, _, rfl, by rw [show decide ((i : Int) < 0) = false from decide_eq_false (by omega)]; exact h⟩) fun _ => fun Q h => ⟨_, rfl, _, rfl, a.y, aD, dx, _, _, rfl, hob, fy.cl, fy.n__ways, rfl, a.lw, us, rfl, .inl (SqL.of h2), _, _, rfl, rfl, _, rfl, h⟩) (fun c => ?_) (fun c => ?_)
    · have c : decide ((i : Int) ≥ ((us.length : Nat) : Int)) = true := c
      rw [decide_eq_true_eq] at c
      exact ⟨by show 1 ≤ 1000; decide, raised_mk (.s _ (by decide)) (k2 (by omega))⟩
    · have c : decide ((i : Int) ≥ ((us.length : Nat) : Int)) = false := c
      rw [decide_eq_false_iff_not] at c
      exact k1 (by omega)
theorem okX_Yard_build {f : Addr} {fd : FuncData} (F : Fun K "build" "Yard.build" sYard_build f fd) (m_len : mg "len" = none) {aRefused : Addr} (gRefused : mg "Refused" = some (.ref aRefused)) {fRefused___init__ : Addr} {fdRefused___init__ : FuncData} (FRefused___init__ : Fun K "__init__" "Refused.__init__" sRefused___init__ fRefused___init__ fdRefused___init__) (GRefused___init__ : FnOk P w K mg base CX0 1 fRefused___init__ fdRefused___init__ ["self", "reason"] (GE.spXI K T aRefused "reason")) (bRefused___init__ : Binds K fdRefused___init__ ["self", "reason"] []) (XRefused : GE.Xc K aRefused fRefused___init__ "reason") (fy : YTx K aD) (g_MOST_WAYS : ∃ tk, mg "MOST_WAYS" = some (.int 24 tk)) : FnOk P w K mg base (GE.CXn P w) 3 f fd ["self", "a", "b", "cost"] (spYEd P w K T aD aRefused isB) := by
  refine GE.funN F scYard_build (fun vs H Q E h => ?_) (fun cdv A outer s H vs Q E hr h => ?_)
  · obtain ⟨a, S, e, ⟨q, rfl⟩, rfl, Y, YO, EO, k1, k2⟩ := h
    rfl
  · obtain ⟨a, S, e, ⟨q, rfl⟩, rfl, Y, YO, EO, k1, k2⟩ := h
    refine ⟨_, (pss_cons (ps_if (pt_cmpR op_ge (pe_callB call_len_seq (by rfl) m_len PySem.boot_len (pa_cons (pe_fld (pv 0) rfl) pa_nil)) (GE.pe_globI (n := 24) (by rfl) g_MOST_WAYS) (nomark _)) (pss_one (L2N.ps_raise rfl (L2N.takes_of rfl rfl rfl rfl) (GE.pmkN XRefused GRefused___init__ hr bRefused___init__ pass0 (by rfl) gRefused (pa_cons pe_str pa_nil)))) pss_nil)
      (pss_one (ps_expr (pe_bm PySem.F.plainAttrs_list PySem.F.slot_list_append PySem.F.type_list_append mt_append (pe_fld (pv 0) rfl) (pa_cons (pe_tup (pa_cons (pv 1) (pa_cons (pv 2) (pa_cons (pv 3) pa_nil)))) pa_nil))))), ?_⟩
    obtain ⟨dx, hob⟩ := Y.ob
    obtain ⟨us, h2, h3⟩ := Y.wy
    obtain ⟨vs, h4, h5⟩ := Y.pr
    have hul : us.length = S.ws.length := by rw [h3.len, List.length_map]
    have hvl : vs.length = S.ps.length := by rw [h5.len, List.length_map]
    have w24 := YO.w.ln
    have p6 := YO.p.ln
    
    refine ev_if (fun Q h => ⟨_, rfl, a.y, aD, dx, _, _, rfl, hob, fy.cl, fy.n__ways, rfl, a.lw, us, rfl, .inl (SqL.of h2), _, _, rfl, rfl, _, rfl, h⟩) (fun c => ?_) (fun c => ?_)
    · have c : decide (((us.length : Nat) : Int) ≥ 24) = true := c
      rw [decide_eq_true_eq] at c
      have h24 : 24 ≤ S.ws.length := by omega
      have eT : edT (.build q) S.ws S.ps = (("full" : Str), S.ws, S.ps) := if_pos h24
      rw [eT] at k2
      exact ⟨by show 1 ≤ 1000; decide, raised_mk (.s _ (by decide)) (k2 (show ("full" : Str) ≠ "" from by decide))⟩
    · have c : decide (((us.length : Nat) : Int) ≥ 24) = false := c
      rw [decide_eq_false_iff_not] at c
      have h24 : ¬ 24 ≤ S.ws.length := by omega
      have eT : edT (.build q) S.ws S.ps = (("" : Str), S.ws ++ [q], S.ps) := if_neg h24
      rw [eT] at k1
      refine ⟨_, rfl, a.y, aD, dx, _, _, rfl, hob, fy.cl, fy.n__ways, rfl, .inl ⟨rfl, _, SqL.of h2⟩, _, rfl, _, rfl, _, rfl, by show 3 ≤ sizeLine; decide, fun t ht => ?_⟩
      have e1 : Ext T noM H (upd H t (.tup [.int (q.1 : Nat), .int (q.2.1 : Nat), .int (q.2.2 : Nat)])) := Ext.new ht
      have r1 : Rp (upd H t (.tup [.int (q.1 : Nat), .int (q.2.1 : Nat), .int (q.2.2 : Nat)])) (wayD q) (.ref t) := rp_t upd_same (rpl_cons (rp_i _) (rpl_cons (rp_i _) (rpl_cons (rp_i _) rpl_nil)))
      show _
      have Y1 := Y.x e1
      have h21 := e1.lst (fun z => z) h2
      obtain ⟨Y2, x2⟩ := Y1.ways (T := T) (us := us ++ [.ref t]) (ws' := S.ws ++ [q]) (by rw [List.map_append]; exact (h3.x e1).snoc r1)
      exact ⟨a.lw, us, _, rfl, rfl, h21, small1000 (by omega), k1 rfl _ Y2 (e1.weak.trans x2)⟩
theorem okX_Yard_cut {f : Addr} {fd : FuncData} (F : Fun K "cut" "Yard.cut" sYard_cut f fd) {fYard__check_way : Addr} {fdYard__check_way : FuncData} (FYard__check_way : Fun K "_check_way" "Yard._check_way" sYard__check_way fYard__check_way fdYard__check_way) (GYard__check_way : FnOk P w K mg base (GE.CXn P w) 3 fYard__check_way fdYard__check_way ["self", "way"] (spYCheck P w K T aD aRefused)) (bYard__check_way : Binds K fdYard__check_way ["self", "way"] []) (mmYard__check_way : Meth K aD "_check_way" fYard__check_way) (fy : YTx K aD) : FnOk P w K mg base (GE.CXn P w) 4 f fd ["self", "way"] (spYEd P w K T aD aRefused isCut) := by
  refine GE.funN F scYard_cut (fun vs H Q E h => ?_) (fun cdv A outer s H vs Q E hr h => ?_)
  · obtain ⟨a, S, e, ⟨i, rfl⟩, rfl, Y, YO, EO, k1, k2⟩ := h
    rfl
  · obtain ⟨a, S, e, ⟨i, rfl⟩, rfl, Y, YO, EO, k1, k2⟩ := h
    refine ⟨_, (pss_cons (ps_expr (GE.pe_methSS (pv 0) fy.cl mmYard__check_way GYard__check_way hr bYard__check_way (fun σ => L2N.passAt (L2N.takes_of rfl rfl rfl rfl) σ) (pa_cons (pv 1) pa_nil)))
      (pss_one (ps_delL (pe_fld (pv 0) rfl) (pv 1)))), ?_⟩
    obtain ⟨dx, hob⟩ := Y.ob
    obtain ⟨us, h2, h3⟩ := Y.wy
    obtain ⟨vs, h4, h5⟩ := Y.pr
    have hul : us.length = S.ws.length := by rw [h3.len, List.length_map]
    have hvl : vs.length = S.ps.length := by rw [h5.len, List.length_map]
    have w24 := YO.w.ln
    have p6 := YO.p.ln
    
    refine ⟨_, rfl, a.y, dx, _, rfl, hob, by rfl, _, rfl, a, S, i, rfl, Y, fun hi => ?_, fun hi => ?_⟩
    · have eT : edT (.cut i) S.ws S.ps = (("" : Str), S.ws.eraseIdx i, S.ps) := if_neg (by omega)
      rw [eT] at k1
      obtain ⟨Y2, x2⟩ := Y.ways (T := T) (us := us.eraseIdx i) (ws' := S.ws.eraseIdx i) (by rw [map_del]; exact rpl_del i h3)
      refine ⟨_, rfl, a.y, aD, dx, _, _, rfl, hob, fy.cl, fy.n__ways, rfl, _, rfl, a.lw, us, (i : Int), i, rfl, rfl, h2, by omega, by omega, seqIx (by omega), k1 rfl _ Y2 x2⟩
    · have eT : edT (.cut i) S.ws S.ps = (("way" : Str), S.ws, S.ps) := if_pos hi
      rw [eT] at k2
      exact k2 (show ("way" : Str) ≠ "" from by decide)
theorem okX_Yard_change {f : Addr} {fd : FuncData} (F : Fun K "change" "Yard.change" sYard_change f fd) {fYard__check_way : Addr} {fdYard__check_way : FuncData} (FYard__check_way : Fun K "_check_way" "Yard._check_way" sYard__check_way fYard__check_way fdYard__check_way) (GYard__check_way : FnOk P w K mg base (GE.CXn P w) 3 fYard__check_way fdYard__check_way ["self", "way"] (spYCheck P w K T aD aRefused)) (bYard__check_way : Binds K fdYard__check_way ["self", "way"] []) (mmYard__check_way : Meth K aD "_check_way" fYard__check_way) (fy : YTx K aD) : FnOk P w K mg base (GE.CXn P w) 4 f fd ["self", "way", "cost"] (spYEd P w K T aD aRefused isCh) := by
  refine GE.funN F scYard_change (fun vs H Q E h => ?_) (fun cdv A outer s H vs Q E hr h => ?_)
  · obtain ⟨a, S, e, ⟨i, c, rfl⟩, rfl, Y, YO, EO, k1, k2⟩ := h
    rfl
  · obtain ⟨a, S, e, ⟨i, c, rfl⟩, rfl, Y, YO, EO, k1, k2⟩ := h
    refine ⟨_, (pss_cons (ps_expr (GE.pe_methSS (pv 0) fy.cl mmYard__check_way GYard__check_way hr bYard__check_way (fun σ => L2N.passAt (L2N.takes_of rfl rfl rfl rfl) σ) (pa_cons (pv 1) pa_nil)))
      (pss_cons (ps_asg (pe_ix ix_list (pe_fld (pv 0) rfl) (pv 1) (fun _ _ => rfl)) (pg_tup (by rfl) (pgs_cons (pg_name (i := 3) scYard_change.nd rfl (Or.inl rfl)) (pgs_cons (pg_name (i := 4) scYard_change.nd rfl (Or.inl rfl)) (pgs_cons (pg_name (i := 5) scYard_change.nd rfl (Or.inl rfl)) pgs_nil)))))
      (pss_one (ps_asg (pe_tup (pa_cons (pv 3) (pa_cons (pv 4) (pa_cons (pv 2) pa_nil)))) (pg_sub (pe_fld (pv 0) rfl) (pv 1) set_list))))), ?_⟩
    obtain ⟨dx, hob⟩ := Y.ob
    obtain ⟨us, h2, h3⟩ := Y.wy
    obtain ⟨vs, h4, h5⟩ := Y.pr
    have hul : us.length = S.ws.length := by rw [h3.len, List.length_map]
    have hvl : vs.length = S.ps.length := by rw [h5.len, List.length_map]
    have w24 := YO.w.ln
    have p6 := YO.p.ln
    
    refine ⟨_, rfl, a.y, dx, _, rfl, hob, by rfl, _, rfl, a, S, i, rfl, Y, fun hi => ?_, fun hi => ?_⟩
    · have eT : edT (.change i c) S.ws S.ps = (("" : Str), S.ws.set i ((wyAt S.ws i).1, (wyAt S.ws i).2.1, c), S.ps) := if_neg (by omega)
      rw [eT] at k1
      obtain ⟨wa, hwa, hwt⟩ := way_get YO.w h3 hi
      refine ⟨_, rfl, a.y, aD, dx, _, _, rfl, hob, fy.cl, fy.n__ways, rfl, _, rfl, a.lw, _, _, _, rfl, rfl, SqL.of h2, at_of (j := i) rfl hwa, wa, _, rfl, SqT.of hwt, rfl, _, _, rfl, _, _, rfl, _, _, rfl, rfl, ?_⟩
      refine ⟨_, rfl, _, rfl, _, rfl, by show 3 ≤ sizeLine; decide, fun t ht => ?_⟩
      have e1 : Ext T noM H (upd H t (.tup [.int ((wyAt S.ws i).1 : Nat), .int ((wyAt S.ws i).2.1 : Nat), .int (c : Nat)])) := Ext.new ht
      have r1 : Rp (upd H t (.tup [.int ((wyAt S.ws i).1 : Nat), .int ((wyAt S.ws i).2.1 : Nat), .int (c : Nat)])) (wayD ((wyAt S.ws i).1, (wyAt S.ws i).2.1, c)) (.ref t) := rp_t upd_same (rpl_cons (rp_i _) (rpl_cons (rp_i _) (rpl_cons (rp_i _) rpl_nil)))
      have Y1 := Y.x e1
      have hob1 := e1.kp _ _ (fun z => z) hob fun ps z => nomatch z
      have h21 := e1.lst (fun z => z) h2
      obtain ⟨Y2, x2⟩ := Y1.ways (T := T) (us := us.set i (.ref t)) (ws' := S.ws.set i ((wyAt S.ws i).1, (wyAt S.ws i).2.1, c)) (by rw [List.map_set]; exact rpl_set (h3.x e1) r1)
      refine ⟨_, rfl, a.y, aD, dx, _, _, rfl, hob1, fy.cl, fy.n__ways, rfl, _, rfl, a.lw, us, _, i, rfl, rfl, h21, Evl.ixN_nat (by omega), k1 rfl _ Y2 (e1.weak.trans x2)⟩
    · have eT : edT (.change i c) S.ws S.ps = (("way" : Str), S.ws, S.ps) := if_pos hi
      rw [eT] at k2
      exact k2 (show ("way" : Str) ≠ "" from by decide)
theorem okX_Yard_want {f : Addr} {fd : FuncData} (F : Fun K "want" "Yard.want" sYard_want f fd) (m_len : mg "len" = none) {aRefused : Addr} (gRefused : mg "Refused" = some (.ref aRefused)) {fRefused___init__ : Addr} {fdRefused___init__ : FuncData} (FRefused___init__ : Fun K "__init__" "Refused.__init__" sRefused___init__ fRefused___init__ fdRefused___init__) (GRefused___init__ : FnOk P w K mg base CX0 1 fRefused___init__ fdRefused___init__ ["self", "reason"] (GE.spXI K T aRefused "reason")) (bRefused___init__ : Binds K fdRefused___init__ ["self", "reason"] []) (XRefused : GE.Xc K aRefused fRefused___init__ "reason") (fy : YTx K aD) (g_MOST_PAIRS : ∃ tk, mg "MOST_PAIRS" = some (.int 6 tk)) : FnOk P w K mg base (GE.CXn P w) 3 f fd ["self", "a", "b"] (spYEd P w K T aD aRefused isW) := by
  refine GE.funN F scYard_want (fun vs H Q E h => ?_) (fun cdv A outer s H vs Q E hr h => ?_)
  · obtain ⟨a, S, e, ⟨q, rfl⟩, rfl, Y, YO, EO, k1, k2⟩ := h
    rfl
  · obtain ⟨a, S, e, ⟨q, rfl⟩, rfl, Y, YO, EO, k1, k2⟩ := h
    refine ⟨_, (pss_cons (ps_if (pt_cmpR (op_inD (by have := hr.un; show (A.deeper _).units + 65 < _; omega)) (pe_tup (pa_cons (pv 1) (pa_cons (pv 2) pa_nil))) (pe_fld (pv 0) rfl) (by rfl)) (pss_one (L2N.ps_raise rfl (L2N.takes_of rfl rfl rfl rfl) (GE.pmkN XRefused GRefused___init__ hr bRefused___init__ pass0 (by rfl) gRefused (pa_cons pe_str pa_nil)))) pss_nil)
      (pss_cons (ps_if (pt_cmpR op_ge (pe_callB call_len_seq (by rfl) m_len PySem.boot_len (pa_cons (pe_fld (pv 0) rfl) pa_nil)) (GE.pe_globI (n := 6) (by rfl) g_MOST_PAIRS) (nomark _)) (pss_one (L2N.ps_raise rfl (L2N.takes_of rfl rfl rfl rfl) (GE.pmkN XRefused GRefused___init__ hr bRefused___init__ pass0 (by rfl) gRefused (pa_cons pe_str pa_nil)))) pss_nil)
      (pss_one (ps_expr (pe_bm PySem.F.plainAttrs_list PySem.F.slot_list_append PySem.F.type_list_append mt_append (pe_fld (pv 0) rfl) (pa_cons (pe_tup (pa_cons (pv 1) (pa_cons (pv 2) pa_nil))) pa_nil)))))), ?_⟩
    obtain ⟨dx, hob⟩ := Y.ob
    obtain ⟨us, h2, h3⟩ := Y.wy
    obtain ⟨vs, h4, h5⟩ := Y.pr
    have hul : us.length = S.ws.length := by rw [h3.len, List.length_map]
    have hvl : vs.length = S.ps.length := by rw [h5.len, List.length_map]
    have w24 := YO.w.ln
    have p6 := YO.p.ln
    
    refine ⟨_, rfl, _, rfl, by show 2 ≤ sizeLine; decide, fun pt hpt => ?_⟩
    have ht1 : Ext T noM H (upd H pt (.tup [.int (q.1 : Nat), .int (q.2 : Nat)])) := Ext.new hpt
    have r1 : Rp (upd H pt (.tup [.int (q.1 : Nat), .int (q.2 : Nat)])) (pairD q) (.ref pt) := rp_t upd_same (rpl_cons (rp_i _) (rpl_cons (rp_i _) rpl_nil))
    have hob1 := ht1.kp _ _ (fun z => z) hob fun ps z => nomatch z
    have h41 := ht1.lst (fun z => z) h4
    have r5 := h5.x ht1
    have Y1 := Y.x ht1
    generalize (upd H pt (.tup [V.int (q.1 : Nat), .int (q.2 : Nat)])) = H1 at ht1 r1 hob1 h41 r5 Y1 ⊢
    refine ⟨_, rfl, a.y, aD, dx, _, _, rfl, hob1, fy.cl, fy.n__pairs, rfl, prP q, S.ps.map prP, dp_pair r1, .lst (SqL.of h41) (dp_pairs r5), prP_shaped _, prPs_shaped _, _, rfl, ?_⟩
    rw [any_pr]
    refine ite2 (fun c => ?_) (fun c => ?_)
    · have hq : q ∈ S.ps := of_decide_eq_true c
      have eT : edT (.want q) S.ws S.ps = (("known" : Str), S.ws, S.ps) := if_pos hq
      rw [eT] at k2
      exact ⟨by show 1 ≤ 1000; decide, raised_mk (.s _ (by decide)) ((k2 (show ("known" : Str) ≠ "" from by decide)).after ht1)⟩
    have hq : q ∉ S.ps := fun z => c (decide_eq_true z)
    have eT0 : edT (.want q) S.ws S.ps = if 6 ≤ S.ps.length then (("full" : Str), S.ws, S.ps) else (("" : Str), S.ws, S.ps ++ [q]) := if_neg hq
    try unfold tNext
    try dsimp only
    try unfold tSeq
    refine ev_if (fun Q h => ⟨_, rfl, a.y, aD, dx, _, _, rfl, hob1, fy.cl, fy.n__pairs, rfl, a.lp, vs, rfl, .inl (SqL.of h41), _, _, rfl, rfl, _, rfl, h⟩) (fun c => ?_) (fun c => ?_)
    · have c : decide (((vs.length : Nat) : Int) ≥ 6) = true := c
      rw [decide_eq_true_eq] at c
      have h6 : 6 ≤ S.ps.length := by omega
      rw [eT0, if_pos h6] at k2
      exact ⟨by show 1 ≤ 1000; decide, raised_mk (.s _ (by decide)) ((k2 (show ("full" : Str) ≠ "" from by decide)).after ht1)⟩
    · have c : decide (((vs.length : Nat) : Int) ≥ 6) = false := c
      rw [decide_eq_false_iff_not] at c
      have h6 : ¬ 6 ≤ S.ps.length := by omega
      rw [eT0, if_neg h6] at k1
      refine ⟨_, rfl, a.y, aD, dx, _, _, rfl, hob1, fy.cl, fy.n__pairs, rfl, .inl ⟨rfl, _, SqL.of h41⟩, _, rfl, _, rfl, by show 2 ≤ sizeLine; decide, fun t ht => ?_⟩
      have e2 : Ext T noM H1 (upd H1 t (.tup [.int (q.1 : Nat), .int (q.2 : Nat)])) := Ext.new ht
      have r2 : Rp (upd H1 t (.tup [.int (q.1 : Nat), .int (q.2 : Nat)])) (pairD q) (.ref t) := rp_t upd_same (rpl_cons (rp_i _) (rpl_cons (rp_i _) rpl_nil))
      obtain ⟨Y2, x2⟩ := (Y1.x e2).prs (T := T) (us := vs ++ [.ref t]) (ps' := S.ps ++ [q]) (by rw [List.map_append]; exact (r5.x e2).snoc r2)
      exact ⟨a.lp, vs, _, rfl, rfl, e2.lst (fun z => z) h41, small1000 (by omega), k1 rfl _ Y2 ((ht1.trans e2).weak.trans x2)⟩
theorem okX_Yard_drop {f : Addr} {fd : FuncData} (F : Fun K "drop" "Yard.drop" sYard_drop f fd) {aRefused : Addr} (gRefused : mg "Refused" = some (.ref aRefused)) {fRefused___init__ : Addr} {fdRefused___init__ : FuncData} (FRefused___init__ : Fun K "__init__" "Refused.__init__" sRefused___init__ fRefused___init__ fdRefused___init__) (GRefused___init__ : FnOk P w K mg base CX0 1 fRefused___init__ fdRefused___init__ ["self", "reason"] (GE.spXI K T aRefused "reason")) (bRefused___init__ : Binds K fdRefused___init__ ["self", "reason"] []) (XRefused : GE.Xc K aRefused fRefused___init__ "reason") (fy : YTx K aD) : FnOk P w K mg base (GE.CXn P w) 3 f fd ["self", "a", "b"] (spYEd P w K T aD aRefused isD) := by
  refine GE.funN F scYard_drop (fun vs H Q E h => ?_) (fun cdv A outer s H vs Q E hr h => ?_)
  · obtain ⟨a, S, e, ⟨q, rfl⟩, rfl, Y, YO, EO, k1, k2⟩ := h
    rfl
  · obtain ⟨a, S, e, ⟨q, rfl⟩, rfl, Y, YO, EO, k1, k2⟩ := h
    refine ⟨_, (pss_cons (ps_if (pt_cmpR (op_notInD (by have := hr.un; show (A.deeper _).units + 65 < _; omega)) (pe_tup (pa_cons (pv 1) (pa_cons (pv 2) pa_nil))) (pe_fld (pv 0) rfl) (by rfl)) (pss_one (L2N.ps_raise rfl (L2N.takes_of rfl rfl rfl rfl) (GE.pmkN XRefused GRefused___init__ hr bRefused___init__ pass0 (by rfl) gRefused (pa_cons pe_str pa_nil)))) pss_nil)
      (pss_one (ps_expr (pe_bm PySem.F.plainAttrs_list PySem.F.slot_list_remove PySem.F.type_list_remove (GE.mt_removeN (by have := hr.un; show (A.deeper _).units + 20 < _; omega)) (pe_fld (pv 0) rfl) (pa_cons (pe_tup (pa_cons (pv 1) (pa_cons (pv 2) pa_nil))) pa_nil))))), ?_⟩
    obtain ⟨dx, hob⟩ := Y.ob
    obtain ⟨us, h2, h3⟩ := Y.wy
    obtain ⟨vs, h4, h5⟩ := Y.pr
    have hul : us.length = S.ws.length := by rw [h3.len, List.length_map]
    have hvl : vs.length = S.ps.length := by rw [h5.len, List.length_map]
    have w24 := YO.w.ln
    have p6 := YO.p.ln
    
    refine ⟨_, rfl, _, rfl, by show 2 ≤ sizeLine; decide, fun pt hpt => ?_⟩
    have ht1 : Ext T noM H (upd H pt (.tup [.int (q.1 : Nat), .int (q.2 : Nat)])) := Ext.new hpt
    have r1 : Rp (upd H pt (.tup [.int (q.1 : Nat), .int (q.2 : Nat)])) (pairD q) (.ref pt) := rp_t upd_same (rpl_cons (rp_i _) (rpl_cons (rp_i _) rpl_nil))
    have hob1 := ht1.kp _ _ (fun z => z) hob fun ps z => nomatch z
    have h41 := ht1.lst (fun z => z) h4
    have r5 := h5.x ht1
    have Y1 := Y.x ht1
    generalize (upd H pt (.tup [V.int (q.1 : Nat), .int (q.2 : Nat)])) = H1 at ht1 r1 hob1 h41 r5 Y1 ⊢
    refine ⟨_, rfl, a.y, aD, dx, _, _, rfl, hob1, fy.cl, fy.n__pairs, rfl, prP q, S.ps.map prP, dp_pair r1, .lst (SqL.of h41) (dp_pairs r5), prP_shaped _, prPs_shaped _, _, rfl, ?_⟩
    rw [any_pr]
    refine ite2 (fun c => ?_) (fun c => ?_)
    · have hq : q ∉ S.ps := fun z => by
        rw [decide_eq_true z] at c
        exact absurd c (by decide)
      have eT : edT (.drop q) S.ws S.ps = (("unknown" : Str), S.ws, S.ps) := if_neg hq
      rw [eT] at k2
      exact ⟨by show 1 ≤ 1000; decide, raised_mk (.s _ (by decide)) ((k2 (show ("unknown" : Str) ≠ "" from by decide)).after ht1)⟩
    have hq : q ∈ S.ps := Classical.byContradiction fun z => c (by rw [decide_eq_false z]; rfl)
    have eT : edT (.drop q) S.ws S.ps = (("" : Str), S.ws, S.ps.erase q) := if_pos hq
    rw [eT] at k1
    refine ⟨_, rfl, a.y, aD, dx, _, _, rfl, hob1, fy.cl, fy.n__pairs, rfl, .inl ⟨rfl, _, SqL.of h41⟩, _, rfl, _, rfl, by show 2 ≤ sizeLine; decide, fun t ht => ?_⟩
    have e2 : Ext T noM H1 (upd H1 t (.tup [.int (q.1 : Nat), .int (q.2 : Nat)])) := Ext.new ht
    have r2 : Rp (upd H1 t (.tup [.int (q.1 : Nat), .int (q.2 : Nat)])) (pairD q) (.ref t) := rp_t upd_same (rpl_cons (rp_i _) (rpl_cons (rp_i _) rpl_nil))
    obtain ⟨j, j1, j2, j3⟩ := rem_at hq
    obtain ⟨Y2, x2⟩ := (Y1.x e2).prs (T := T) (us := vs.eraseIdx j) (ps' := S.ps.erase q) (by rw [j2, map_del]; exact rpl_del j (r5.x e2))
    refine ⟨a.lp, t, vs, S.ps.map pairD, pairD q, j, rfl, rfl, e2.lst (fun z => z) h41, r5.x e2, r2, by show (NestedKey.tup [.num _, .num _]).depth ≤ 8; simp [NestedKey.depth, NestedKey.depthAll], fun d hd => ?_, by omega, by rw [List.length_map]; exact j1, j3, k1 rfl _ Y2 ((ht1.trans e2).weak.trans x2)⟩
    obtain ⟨p, _, rfl⟩ := List.mem_map.mp hd
    exact ⟨⟨_, rfl⟩, by show (NestedKey.tup [.num _, .num _]).depth ≤ 8; simp [NestedKey.depth, NestedKey.depthAll]⟩
end
end Mw

set_option Elab.async false
set_option linter.all false
set_option maxRecDepth 100000
set_option maxHeartbeats 2000000
namespace GE
open PySem PySem.Spec PyProof.Rows L2
/-! ### sum of a tuple of ints -/
section
variable {prog : Program} {w : World} {A : Around} {E : Value → Shared → Prop} {s : Shared} {l : Addr} {xs : Array (Int × Tok)}
theorem sum_intTupG {Q : Value → Shared → Prop} (hh : A.handled = none) (hl : s.heap.IsTuple l (intItems xs))
    (h : ∀ h' tk t', (∀ b o, s.heap.get? b = some o → h'.get? b = some o) → Q (.int (preSum (numAt xs) xs.size) t') { s with heap := h', toks := tk }) :
    wpAny (model prog w) A (call (.builtin "sum") [.ref l]) Q E s := by
  have hlt : l < s.heap.objs.size := by obtain ⟨_, e, _⟩ := hl; exact Heap.lt_size e
  refine PySem.call_sum_walkG (wpAny_pyIter_tuple hl ?_)
  refine ⟨_, _, _, _, _, _, numAt xs, rfl, Walks.tuple (A := A.in1) hh s.heap.objs.size l (Nat.ne_of_lt hlt) (intItems xs), ⟨⟨_, Heap.get?_push_size _ rfl, rfl, rfl⟩, hl.push _⟩, fun b hb => ?_, (fun _ _ => intItems_at), fun h' tk t' hk => ?_⟩
  · show b < (s.heap.push _).objs.size
    rw [Heap.size_push]
    rcases List.mem_cons.mp hb with rfl | hb
    · exact Nat.lt_succ_self _
    · rcases List.mem_cons.mp hb with rfl | hb
      · exact Nat.lt_succ_of_lt hlt
      · cases hb
  · have := h h' tk t' fun b o e => hk b o (fun hb => absurd (Heap.lt_size e) ((List.mem_singleton.mp hb) ▸ Nat.lt_irrefl _)) (Heap.get?_push_of_some _ e)
    simpa [intItems] using this
theorem sum_rawT {its : List Value} {ns : List Int} {Q : Value → Shared → Prop} (hh : A.handled = none) (hl : s.heap.IsTuple l its.toArray) (hi : IntsAre its ns)
    (h : ∀ h' tk t', (∀ b o, s.heap.get? b = some o → h'.get? b = some o) → Q (.int ns.sum t') { s with heap := h', toks := tk }) : wpAny (model prog w) A (call (.builtin "sum") [.ref l]) Q E s := by
  obtain ⟨xs, e⟩ := hi.allInts.items
  have hn : numsOf (intItems xs).toList = ns := by rw [← e]; exact hi.numsOf
  rw [nums_intItems] at hn
  rw [e] at hl
  refine sum_intTupG hh hl fun h' tk t' hk => ?_
  have := h h' tk t' hk
  rw [preSum_eq, List.take_of_length_le (by simp), hn]; exact this
end
def rSumT (K : PySem.W.Frag) : List V → Hp → VK → Prop := fun vs H Q => ∃ (a : Addr) (ns : List Int), vs = [V.ref a] ∧ SqT K H a (ns.map V.int) ∧ Q (.int ns.sum) H
theorem cr_sumT {X : Cx} (hc : X.calm = true) : CallR X (.builtin "sum") (rSumT X.K) := by
  intro pins s σ H vs us Q I r h
  obtain ⟨a, ns, rfl, hs, q⟩ := h
  obtain ⟨its, rv, hl, _⟩ := I.tuple hs
  rw [Vals.ref1 r]
  exact sum_rawT (I.ok.hd hc) (show s.heap.IsTuple a its.toArray from hl) rv.ints fun h' tk t' hk => ⟨.int _, H, I.kept hk, ⟨_, rfl⟩, q⟩
/-- a generator expression over a range -/
theorem turn_rangeI {lo : Int} {n : Nat} {g : TG} {tt : TT} {te : TE} {vs : List Nat} {σ : L2.St} {Yo : YO} {En : EN} {H : Hp} (Pv : Nat → List V → Hp → Prop) (h0 : Pv 0 [] H) (hd : ∀ ys H, Pv n ys H → En ys H)
    (hs : ∀ i ys H, i < n → Pv i ys H → ∀ N : List V → Hp → Prop, (∀ zs H', Pv (i + 1) zs H' → N zs H') → g (.int (lo + (i : Int))) (wipe σ vs) H fun σ2 H2 => wipe σ2 vs = wipe σ vs ∧ tt σ2 H2 fun b H3 =>
      if b = true then te σ2 H3 fun y H4 => ys.length < sizeLine ∧ Yo ys y H4 (N (ys ++ [y]) H4) else N ys H3) :
    ∃ W : Nat → Nat → List V → Hp → Prop, (∃ m, W 0 m [] H) ∧ turnX g tt te vs σ Yo En (Itr lo n) W := by
  refine turn_of n Pv h0 (fun ys H p => ⟨Nat.le_refl _, hd ys H p⟩) (fun i ys H h p => h) ?_
  rintro i x ys H H1 h p ⟨rfl, rfl⟩ N hN
  exact hs i ys _ h p N hN
end GE

set_option Elab.async false
set_option linter.all false
set_option maxRecDepth 100000
set_option maxHeartbeats 2000000
/-! sorted(d) of a dict whose keys are tuples of ints -/
namespace GE
open PySem PySem.Spec PyProof.Rows L2
/-- the whole numbers of a tuple -/
def keyH (H : Hp) : V → List Int
  | .ref a => match H a with
    | some (.tup xs) => xs.map iv
    | _ => []
  | _ => []
theorem keyH_at {H : Hp} {t : Addr} {ns : List Int} (h : H t = some (.tup (ns.map V.int))) : keyH H (.ref t) = ns := by
  show (match H t with | some (.tup xs) => xs.map iv | _ => []) = _
  rw [h]
  show (ns.map V.int).map iv = ns
  rw [List.map_map]
  exact List.map_id'' (fun _ => rfl) ns
def rSortDT : List V → Hp → VK → Prop := fun vs H Q => ∃ (d : Addr) (kvs : List (List L2.Key × V)), vs = [V.ref d] ∧ H d = some (.dT kvs) ∧ (∀ kv ∈ kvs, ∃ ns : List Int, kv.1 = ns.map Sum.inl ∧ ns ≠ []) ∧
  ∀ ys p bs, IsKeys H kvs bs → ys.Perm (bs.map V.ref) → SrtO.Srtd (fun x y => lexL (keyH H x) (keyH H y)) ys → H p = none → Q (.ref p) (upd H p (.lst ys))
theorem paired_mem {H : Hp} {kvs : List (List L2.Key × V)} {bs : List Addr} (h : IsKeys H kvs bs) : ∀ b ∈ bs, ∃ kv ∈ kvs, H b = some (.tup (kv.1.map kV)) := by
  unfold IsKeys at h
  induction h with
  | nil => intro b hb; cases hb
  | cons h t ih =>
    intro b hb
    rcases List.mem_cons.mp hb with e | e
    · subst e; exact ⟨_, List.mem_cons_self, h⟩
    · obtain ⟨kv, h1, h2⟩ := ih b e
      exact ⟨kv, List.mem_cons_of_mem _ h1, h2⟩
theorem op_catAK {X : Cx} {K : PySem.W.Frag} (h : X.K = K := by rfl) : OpR X (binaryOp .Add) (rCatA K) := h ▸ op_catA
theorem pi_tupK {X : Cx} {K : PySem.W.Frag} {tg e : Expr} {te : TE} (he : PE X e te) (h : X.K = K := by rfl) : PI X tg e (iTup K te) := h ▸ pi_tup he
theorem pi_listK {X : Cx} {K : PySem.W.Frag} {tg e : Expr} {te : TE} (he : PE X e te) (h : X.K = K := by rfl) : PI X tg e (iList K te) := h ▸ pi_list he
theorem cr_sortedDT {X : Cx} (hc : X.calm = true) : CallR X (.builtin "sorted") rSortDT := by
  intro pins s σ H xs us Q I r h
  obtain ⟨d, kvs, rfl, hd, hns, q⟩ := h
  obtain ⟨u, rfl, rx⟩ := r.one
  cases rx
  obtain ⟨z, hs, ks, pr, o, es, ep, ho, hx, hdt, he, hn⟩ := (show ObjOk X.prog X.w H s.heap d (.dT kvs) from I.hok d _ hd)
  have l1 : es.size = ks.length := size_of_entries he
  have l2 : kvs.length = ks.length := Paired.length pr
  have hkeys := isKeys_of pr
  refine Calls.call_function_entry kind_sorted plain_sorted entry_sorted (args_sorted1 _) ?_
  unfold Builtin.«sorted»
  refine wpAny_bind (m := checkCount "sorted" 1 1 _) (wpAny_pure ?_)
  refine wpAny_bind (PySem.W.kdu_collect (A := X.A.in1) (kdl_raw hs hx hdt) (I.ok.hd hc) ho (by omega) fun h' tk acc hk it => ?_)
  have ea : acc.toList = (ks.map fun x => x.2.1).map Value.ref := by
    have hl : acc.toList.length = ks.length := by rw [Array.length_toList, it.1]; exact l1
    rw [List.map_map]
    apply List.ext_getElem?
    intro j
    rw [List.getElem?_map]
    cases hj : acc.toList[j]? with
    | none =>
      have h1 := List.getElem?_eq_none_iff.mp hj
      rw [List.getElem?_eq_none (by omega)]
      all_goals rfl
    | some v =>
      obtain ⟨en, hen, hv⟩ := it.2 j v (by rw [← Array.getElem?_toList]; exact hj)
      have qe := entry_at he j
      rw [hen] at qe
      cases hb : ks[j]? with
      | none =>
        rw [hb] at qe
        exact nomatch (show some en = none from qe)
      | some b =>
        rw [hb] at qe
        have e2 : en = entryOfKey (tupleKind (mixKind X.prog X.w)) b := Option.some.inj qe
        rw [hv, e2]
        all_goals rfl
  rw [ea]
  generalize hbs : (ks.map fun x => x.2.1) = bs at hkeys ea
  have hbl : bs.length ≤ sizeLine := by rw [← hbs, List.length_map]; omega
  have hvl : (bs.map Value.ref).length ≤ sizeLine := by rw [List.length_map]; exact hbl
  have I1 : Inv X pins σ H { s with heap := h', toks := tk } := I.kept hk
  refine wpAny_bind (wpAny_newList ?_ hvl)
  have hoL : (h'.push (seqObj "list" (bs.map Value.ref).toArray 0)).get? h'.objs.size = some (seqObj "list" (bs.map Value.ref).toArray 0) := Heap.get?_push_size _ rfl
  show wpAny _ _ _ _ _ { s with heap := h'.push (seqObj "list" (bs.map Value.ref).toArray 0), toks := tk }
  have key : ∀ b ∈ bs, ∃ ns : List Int, H b = some (.tup (ns.map V.int)) ∧ ns ≠ [] ∧ keyH H (.ref b) = ns := fun b hb => by
    obtain ⟨kv, h1, h2⟩ := paired_mem hkeys b hb
    obtain ⟨ns, h3, h4⟩ := hns kv h1
    have e : kv.1.map kV = ns.map V.int := by rw [h3, List.map_map]; rfl
    rw [e] at h2
    exact ⟨ns, h2, h4, keyH_at h2⟩
  have hp : ∀ v ∈ bs.map Value.ref, TS.TupInts h' v (keyH H (backV v)) ∧ keyH H (backV v) ≠ [] := fun v hv => by
    obtain ⟨b, hb, rfl⟩ := List.mem_map.mp hv
    obtain ⟨ns, h1, h2, h3⟩ := key b hb
    have e : keyH H (backV (Value.ref b)) = ns := h3
    rw [e]
    exact ⟨tupI_raw I1 (SqT.of h1), h2⟩
  refine wpAny_bind (wpAny_holding (wpAny_call_entry slot_list_sort ⟨_, hoL, rfl⟩ entry_list_sort
    (SrtO.list_sort_ord (s := { s with heap := h'.push (seqObj "list" (bs.map Value.ref).toArray 0), toks := tk }) (lexL_swo fun v => keyH H (backV v)) hoL hvl
      (fun h2 => tups_sortable (s := { s with heap := h'.push (seqObj "list" (bs.map Value.ref).toArray 0), toks := tk }) h2 (fun v hm => ⟨(hp v hm).1.keeps fun c o e _ => Heap.get?_push_of_some _ e, (hp v hm).2⟩) fun o e => by
        have e' : some o = some (seqObj "list" (bs.map Value.ref).toArray 0) := e.symm.trans hoL
        cases e'
        intro c
        exact absurd (Value.type.inj c) (by decide)) fun out h1 h2 => ⟨_, rfl, ?_⟩) (args_list_sort _)))
  obtain ⟨ep', he'⟩ := PyProof.Rows.sortedHeap_at (vs := bs.map Value.ref) (out := out.toArray) hoL
  have h3 : ∀ u ∈ out, ∃ a, u = Value.ref a := fun u hu => by
    obtain ⟨b, _, e⟩ := List.mem_map.mp (h2.perm.mem_iff.mp hu)
    exact ⟨b, e.symm⟩
  have hperm : (out.map backV).Perm (bs.map V.ref) := by
    have := h2.perm.map backV
    rw [List.map_map] at this
    exact this
  have hlen : (out.map backV).length ≤ sizeLine := by rw [hperm.length_eq, List.length_map]; exact hbl
  refine wpAny_pure ⟨_, rfl, .ref h'.objs.size, upd H h'.objs.size (.lst (out.map backV)), I1.laid (t' := tk) (fun b u e => ?_) (Nat.le_refl _)
    (show ObjOk X.prog X.w _ _ _ (.lst (out.map backV)) from ⟨hlen, out, ep', vals_back h3, he'⟩), rfl, q _ _ bs hkeys hperm (SrtO.srtd_map h1) (I1.hok.fresh (Nat.le_refl _))⟩
  have hb : b < h'.objs.size := Heap.lt_size e
  rw [PyProof.Rows.sortedHeap_old (Nat.ne_of_lt hb) (by rw [size_push']; exact Nat.lt_succ_of_lt hb)]
  exact Heap.get?_push_of_some _ e
end GE

set_option Elab.async false
set_option linter.all false
set_option maxRecDepth 100000
set_option maxHeartbeats 2000000
namespace GE
open PySem PySem.Spec PyProof.Rows L2
/-! ### generator expressions over lists, by an invariant -/
section
variable {K : PySem.W.Frag} {a : Addr} {xs : List V} {g : TG} {tt : TT} {te : TE} {vs : List Nat} {σ : L2.St} {Yo : YO} {En : EN} {H : Hp}
theorem turn_listI (Pv : Nat → List V → Hp → Prop) (h0 : Pv 0 [] H) (hl : ∀ i ys H, i ≤ xs.length → Pv i ys H → SqL K H a xs) (hd : ∀ ys H, Pv xs.length ys H → En ys H)
    (hs : ∀ i x ys H, xs[i]? = some x → Pv i ys H → ∀ N : List V → Hp → Prop, (∀ zs H', Pv (i + 1) zs H' → N zs H') → g x (wipe σ vs) H fun σ2 H2 => wipe σ2 vs = wipe σ vs ∧ tt σ2 H2 fun b H3 =>
      if b = true then te σ2 H3 fun y H4 => ys.length < sizeLine ∧ Yo ys y H4 (N (ys ++ [y]) H4) else N ys H3) :
    ∃ W : Nat → Nat → List V → Hp → Prop, (∃ m, W 0 m [] H) ∧ turnX g tt te vs σ Yo En (Itl K a) W := by
  refine turn_of xs.length Pv h0 (fun ys H p => ⟨⟨xs, hl _ _ _ (Nat.le_refl _) p, Nat.le_refl _⟩, hd ys H p⟩) (fun i ys H h p => ⟨xs, xs[i], hl _ _ _ (Nat.le_of_lt h) p, List.getElem?_eq_getElem h⟩) ?_
  rintro i x ys H H1 h p ⟨rfl, hy⟩ N hN
  exact hs i x ys H1 (hy xs (hl _ _ _ (Nat.le_of_lt h) p)) p N hN
end
/-- what is a permutation of images is the image of a permutation -/
theorem perm_lift {α β : Type} (f : α → β) {l l2 : List β} (h : List.Perm l2 l) : ∀ m : List α, l2 = List.map f m → ∃ m' : List α, List.Perm m' m ∧ List.map f m' = l := by
  induction h with
  | nil => intro m e; exact ⟨m, List.Perm.refl _, e.symm⟩
  | cons x h ih =>
    intro m e
    cases m with
    | nil => cases e
    | cons a m =>
      rw [List.map_cons] at e
      injection e with e1 e2
      obtain ⟨m', h1, h2⟩ := ih m e2
      exact ⟨a :: m', h1.cons a, by rw [List.map_cons, h2, ← e1]⟩
  | swap x y l =>
    intro m e
    match m, e with
    | a :: b :: m, e =>
      rw [List.map_cons, List.map_cons] at e
      injection e with e1 e2
      injection e2 with e2 e3
      exact ⟨b :: a :: m, List.Perm.swap _ _ _, by rw [List.map_cons, List.map_cons, ← e1, ← e2, ← e3]⟩
  | trans h1 h2 ih1 ih2 =>
    intro m e
    obtain ⟨m1, p1, e1⟩ := ih1 m e
    obtain ⟨m2, p2, e2⟩ := ih2 m1 e1.symm
    exact ⟨m2, p2.trans p1, e2⟩
end GE

set_option Elab.async false
set_option linter.all false
set_option maxRecDepth 100000
set_option maxHeartbeats 4000000
namespace Mw
open PySem PySem.Spec PyProof.Rows L2 GE
def ownP (pl : List Nat) (ps : List Pr) : List Pr := ps.filter fun q => decide (q.1 ∈ pl)
def ixsP (ws : Wl) (pl : List Nat) : List Nat := (List.range ws.length).filter fun c => decide ((wyAt ws c).1 ∈ pl)
def partOf (ws : Wl) (ps : List Pr) (pl : List Nat) : Part := (pl, (ixsP ws pl).map (wyAt ws), ownP pl ps)
def ptsL (ws : Wl) (ps : List Pr) (G : List (List Nat)) : List (Part × List Nat) := G.filterMap fun pl => if ownP pl ps = [] then none else some (partOf ws ps pl, ixsP ws pl)
/-- the parts with a pair, with the indexes of their ways -/
def pts (n : Nat) (ws : Wl) (ps : List Pr) : List (Part × List Nat) := ptsL ws ps (grps (hom ws (List.range ws.length)) n)
theorem ptsL_snoc (ws : Wl) (ps : List Pr) (G : List (List Nat)) (pl : List Nat) : ptsL ws ps (G ++ [pl]) = ptsL ws ps G ++ if ownP pl ps = [] then [] else [(partOf ws ps pl, ixsP ws pl)] := by
  unfold ptsL
  rw [List.filterMap_append]
  congr 1
  by_cases h : ownP pl ps = []
  · simp [h]
  · simp [h]
theorem ptsL_len (ws : Wl) (ps : List Pr) (G : List (List Nat)) : (ptsL ws ps G).length ≤ G.length := List.length_filterMap_le ..
/-- a part in the list of parts: it and its indexes; the list of indexes lies where N says -/
def PtV (N : Addr → Prop) (H : Hp) (q : Part × List Nat) (v : V) : Prop := ∃ x pt il : Addr, v = .ref x ∧ H x = some (.tup [.ref pt, .ref il]) ∧ Rp H (partD q.1) (.ref pt) ∧ H il = some (.lst (natsV q.2)) ∧ N il
def PtsAt (N : Addr → Prop) (H : Hp) (l : Addr) (L : List (Part × List Nat)) : Prop := ∃ us, H l = some (.lst us) ∧ us.length = L.length ∧ ∀ (i : Nat) (q : Part × List Nat), L[i]? = some q → ∃ v : V, us[i]? = some v ∧ PtV N H q v
theorem PtV.ext {T : List Addr} {M N : Addr → Prop} {H H' : Hp} {q : Part × List Nat} {v : V} (h : PtV N H q v) (e : Ext T M H H') (hN : ∀ b, N b → ¬ M b) (hM : ∀ b vs, M b → H b ≠ some (.tup vs)) : PtV N H' q v := by
  obtain ⟨x, pt, il, rfl, h1, h2, h3, h4⟩ := h
  exact ⟨x, pt, il, rfl, e.tup (fun z => hM x _ z h1) h1, h2.ext e hM, e.lst (hN _ h4) h3, h4⟩
theorem PtsAt.ext {T : List Addr} {M N : Addr → Prop} {H H' : Hp} {l : Addr} {L : List (Part × List Nat)} (h : PtsAt N H l L) (e : Ext T M H H') (hl : ¬ M l) (hN : ∀ b, N b → ¬ M b) (hM : ∀ b vs, M b → H b ≠ some (.tup vs)) : PtsAt N H' l L := by
  obtain ⟨us, h1, h2, h3⟩ := h
  refine ⟨us, e.lst hl h1, h2, fun i q hq => ?_⟩
  obtain ⟨v, g1, g2⟩ := h3 i q hq
  exact ⟨v, g1, g2.ext e hN hM⟩
theorem PtsAt.x {T : List Addr} {N : Addr → Prop} {H H' : Hp} {l : Addr} {L : List (Part × List Nat)} (h : PtsAt N H l L) (e : Ext T noM H H') : PtsAt N H' l L := h.ext e (fun z => z) (fun _ _ z => z) fun _ _ z => z.elim
theorem PtsAt.add {T : List Addr} {N : Addr → Prop} {H : Hp} {l : Addr} {L : List (Part × List Nat)} {us : List V} {q : Part × List Nat} {v : V} (h : PtsAt N H l L) (hu : H l = some (.lst us)) (hN : ∀ b, N b → b ≠ l) (hq : PtV N H q v) : PtsAt N (upd H l (.lst (us ++ [v]))) l (L ++ [q]) := by
  obtain ⟨us', h1, h2, h3⟩ := h
  rw [hu] at h1
  cases h1
  have e : Ext T (fun b => b = l) H (upd H l (.lst (us ++ [v]))) := (Ext.refl T _ H).mut (.inr rfl) hu ltbl
  have hM : ∀ b vs, b = l → H b ≠ some (.tup vs) := fun b vs z y => by rw [z, hu] at y; cases y
  refine ⟨us ++ [v], upd_same, by rw [List.length_append, List.length_append, h2]; rfl, fun i p hp => ?_⟩
  by_cases hi : i < L.length
  · rw [List.getElem?_append_left hi] at hp
    obtain ⟨u, g1, g2⟩ := h3 i p hp
    exact ⟨u, by rw [List.getElem?_append_left (by omega)]; exact g1, g2.ext e hN hM⟩
  · have h4 := (List.getElem?_eq_some_iff.mp hp).1
    rw [List.length_append, List.length_singleton] at h4
    obtain rfl : i = L.length := by omega
    rw [List.getElem?_append_right (Nat.le_refl _), Nat.sub_self] at hp
    obtain rfl := Option.some.inj hp
    exact ⟨v, by rw [List.getElem?_append_right (by omega), h2, Nat.sub_self]; rfl, hq.ext e hN hM⟩
def spYParts (T : List Addr) : Sp := fun vs H Q _ => ∃ (net pz : V) (n : Nat) (ws : Wl) (ps : List Pr), vs = [net, pz] ∧ Wf n ws ∧ Rp H (netD n ws) net ∧ Rp H (pairsD ps) pz ∧ PsOk n ps ∧ Wd T H ∧
  ∀ l H', H l = none → PtsAt (fun b => H b = none) H' l (pts n ws ps) → Ext T noM H H' → Q (.ref l) H'
theorem ownP_snoc (pl : List Nat) (ps : List Pr) (q : Pr) : ownP pl (ps ++ [q]) = ownP pl ps ++ if q.1 ∈ pl then [q] else [] := by
  unfold ownP
  rw [List.filter_append]
  by_cases h : q.1 ∈ pl <;> simp [h]
section
variable {P : Program} {w : World} {K : PySem.W.Frag} {mg : Str → Option Value} {base : Heap} {T : List Addr} {aC aD aApart aRefused : Addr}
theorem ok__parts_with_pairs {f : Addr} {fd : FuncData} {c PT : Addr} (F : GE.FunC K "_parts_with_pairs" "_parts_with_pairs" s_parts_with_pairs f fd c) (TB : GxR.TabB base mg c PT) (hPT : PT ∈ T) (m_tuple : mg "tuple" = none) {fevery_way : Addr} {fdevery_way : FuncData} (Fevery_way : Fun K "every_way" "every_way" severy_way fevery_way fdevery_way) (Gevery_way : FnOk P w K mg base CX0 3 fevery_way fdevery_way ["net"] (spEvery T)) (bevery_way : Binds K fdevery_way ["net"] []) (gevery_way : mg "every_way" = some (.ref fevery_way)) {fgroups : Addr} {fdgroups : FuncData} (Fgroups : Fun K "groups" "groups" sgroups fgroups fdgroups) (Ggroups : FnOk P w K mg base CX0 3 fgroups fdgroups ["net", "choice"] (spGroups T)) (bgroups : Binds K fdgroups ["net", "choice"] []) (ggroups : mg "groups" = some (.ref fgroups)) : FnOk P w K mg base CX0 4 f fd ["net", "pairs"] (spYParts T) := by
  refine F.ok sc_parts_with_pairs (fun vs H Q E h => ?_) (fun A outer s H vs Q E hr h => ?_)
  · obtain ⟨net, pz, n, ws, ps, rfl, W, hnet, hps, ok, wd, k⟩ := h
    rfl
  · obtain ⟨net, pz, n, ws, ps, rfl, W, hnet, hps, ok, wd, k⟩ := h
    refine ⟨_, (pss_cons (ps_set (i := 2) sc_parts_with_pairs.nd rfl (Or.inl rfl) (pe_call Gevery_way hr (by rfl) gevery_way Fevery_way.kp bevery_way .nil pass0 (pa_cons (pv 0) pa_nil)))
      (pss_cons (ps_set (i := 3) sc_parts_with_pairs.nd rfl (Or.inl rfl) (pe_lst pa_nil))
      (pss_cons (ps_for PassesOwn.never rfl (pi_tup (pe_call Ggroups hr (by rfl) ggroups Fgroups.kp bgroups .nil pass0 (pa_cons (pv 0) (pa_cons (pv 2) pa_nil)))) (pg_name (i := 4) sc_parts_with_pairs.nd rfl (Or.inr rfl)) (pss_cons (ps_set (i := 5) sc_parts_with_pairs.nd rfl (Or.inl rfl) (GE.pe_tupG (own := [("pair", 6)]) (g := (gName 6)) (k := 1) hr (by rfl) m_tuple sc_parts_with_pairs.nd TB rfl (pi_tup (pv 1)) (GE.gblk_by (N := ["net", "pairs", "every", "found", "places", "own", "pair", "indexes", "way", "ways"]) (sc := defScope s_parts_with_pairs) (by decide +kernel)) (fun _ _ _ _ _ _ _ _ => (pg_name (i := 6) sc_parts_with_pairs.nd rfl (Or.inl rfl))) (fun _ _ _ _ _ _ _ _ hr' => (pts_one (pt_cmpR (GE.in_seqK (K := K)) (pe_ix (GE.ix_tupK (K := K)) (pv 6) pe_int (fun _ _ => rfl)) (pv 4) (by rfl)))) (fun _ _ _ _ _ _ _ _ hr' => (pv 6))))
      (pss_one (ps_if (pt_truth (pv 5) (by intro _; rfl)) (pss_cons (ps_setLc (i := 7) (own := [("way", 8)]) (g := (gName 8)) rfl sc_parts_with_pairs.nd rfl rfl (sw_true rfl rfl rfl (by decide +kernel)) (pi_tup (pv 2)) (blkOk_by (own := [("way", 8)]) (N := ["net", "pairs", "every", "found", "places", "own", "pair", "indexes", "way", "ways"]) (sc := defScope s_parts_with_pairs) (by decide +kernel)) (fun _ _ _ _ _ => (pg_name (i := 8) sc_parts_with_pairs.nd rfl (Or.inl rfl))) (fun _ _ _ _ _ => (pts_one (pt_cmpR (GE.in_seqK (K := K)) (pe_ix (GE.ix_tupK (K := K)) (pe_ix (GE.ix_tupK (K := K)) (pe_ix (GE.ix_tupK (K := K)) (pv 0) pe_int (fun _ _ => rfl)) (pv 8) (fun _ _ => rfl)) pe_int (fun _ _ => rfl)) (pv 4) (by rfl)))) (fun _ _ _ _ _ => (pv 8)))
      (pss_cons (ps_set (i := 9) sc_parts_with_pairs.nd rfl (Or.inl rfl) (GE.pe_tupG (own := [("way", 8)]) (g := (gName 8)) (k := 1) hr (by rfl) m_tuple sc_parts_with_pairs.nd TB rfl (pi_list (pv 7)) (GE.gblk_by (N := ["net", "pairs", "every", "found", "places", "own", "pair", "indexes", "way", "ways"]) (sc := defScope s_parts_with_pairs) (by decide +kernel)) (fun _ _ _ _ _ _ _ _ => (pg_name (i := 8) sc_parts_with_pairs.nd rfl (Or.inl rfl))) (fun _ _ _ _ _ _ _ _ hr' => pts_nil) (fun _ _ _ _ _ _ _ _ hr' => (pe_ix (GE.ix_tupK (K := K)) (pe_ix (GE.ix_tupK (K := K)) (pv 0) pe_int (fun _ _ => rfl)) (pv 8) (fun _ _ => rfl)))))
      (pss_one (ps_expr (pe_bm PySem.F.plainAttrs_list PySem.F.slot_list_append PySem.F.type_list_append mt_append (pv 3) (pa_cons (pe_tup (pa_cons (pe_tup (pa_cons (pv 4) (pa_cons (pv 9) (pa_cons (pv 5) pa_nil)))) (pa_cons (pv 7) pa_nil))) pa_nil)))))) pss_nil))))
      (pss_one (ps_ret (pv 3)))))), ?_⟩
    have n12 := W.n12
    have w24 := W.ln
    have p6 := ok.ln
    obtain ⟨na, nb, wus, rfl, hna, hnb, hwr⟩ := net_at hnet
    refine ⟨_, rfl, .ref na, n, ws, rfl, hnet, W.ln, fun ev H1 hev e1 => ?_⟩
    refine ⟨by show 0 ≤ sizeLine; decide, fun lf hlf => ?_⟩
    have e2 : Ext T noM H1 (upd H1 lf (.lst [])) := Ext.new hlf
    have hlf0 : H lf = none := e1.fr lf hlf
    have hl2 : (upd H1 lf (.lst [])) lf = some (.lst []) := upd_same
    generalize (upd H1 lf (.lst [])) = H2 at e2 hl2 ⊢
    have e02 := e1.trans e2
    refine ⟨_, rfl, _, rfl, .ref na, ev, n, ws, List.range ws.length, rfl, ⟨W, ch_range _, Rp.x e02 hnet, Rp.x e2 hev⟩, wd.ext e02, fun gv H3 hg e3 => ?_⟩
    obtain ⟨ga, gus, rfl, hga, hgr⟩ := hg.t
    have hl3 := e3.lst (fun z => z) hl2
    have e03 := e02.trans e3
    have hgl : gus.length = (grps (hom ws (List.range ws.length)) n).length := by rw [hgr.len, List.length_map]
    have hG12 : (grps (hom ws (List.range ws.length)) n).length ≤ 12 := by
      have := reps_len (hom ws (List.range ws.length)) n
      unfold grps; rw [List.length_map]; omega
    have hk := fun l H' a b c => k l H' a (show PtsAt (fun b => H b = none) H' l (ptsL ws ps (grps (hom ws (List.range ws.length)) n)) from b) c
    generalize grps (hom ws (List.range ws.length)) n = G at hgr hgl hG12 hk
    obtain ⟨pa, pus, rfl, hpa, hpr⟩ := hps.t
    have hpl : pus.length = ps.length := by rw [hpr.len, List.length_map]
    obtain ⟨ea, rfl, hea⟩ := ch_at hev
    refine ⟨ga, rfl, ⟨_, SqT.of hga⟩, for_tup (K := K) (a := ga) (xs := gus) (fun i σ' H' => ∃ y4 y5 y6 y7 y8 y9, σ' = [some (.ref na), some (.ref pa), some (.ref ea), some (.ref lf), y4, y5, y6, y7, y8, y9] ∧ PtsAt (fun b => H b = none ∧ b ≠ lf) H' lf (ptsL ws ps (G.take i)) ∧ Ext T noM H H' ∧ Ext T (fun b => b = lf) H3 H') ⟨_, _, _, _, _, _, rfl, ⟨[], hl3, rfl, fun i q hq => nomatch hq⟩, e03, Ext.refl _ _ _⟩ (fun i σ' H' _ ⟨_, _, _, _, _, _, _, _, _, e⟩ => SqT.of (e.tup (fun z => by rw [z, hl3] at hga; cases hga) hga)) ?_ ?_⟩
    · rintro i x σ' H4 hx ⟨y4, y5, y6, y7, y8, y9, rfl, PA, e4, e34⟩
      have hi : i < G.length := by have := (List.getElem?_eq_some_iff.mp hx).1; omega
      have hgi : G[i]? = some G[i] := List.getElem?_eq_getElem hi
      obtain ⟨x', hx', hr⟩ := hgr.get (i := i) (d := chD G[i]) (by rw [List.getElem?_map, hgi]; rfl)
      rw [hx] at hx'
      obtain rfl := Option.some.inj hx'
      have hr4 := hr.ext e34 (fun b vs z y => by rw [z, hl3] at y; cases y)
      have hts := take_succ' hgi
      generalize G[i] = pl at hr4 hts
      obtain ⟨xa, rfl, hxa⟩ := ch_at hr4
      have hxa : H4 xa = some (.tup (natsV pl)) := hxa
      refine ⟨_, rfl, pa, rfl, ⟨_, SqT.of (e4.tup (fun z => z) hpa)⟩, (wd.ext e4) PT hPT, fun H5 tb => ?_⟩
      have e45 : Ext T noM H4 H5 := Ext.tab ((wd.ext e4) PT hPT) tb
      refine turn_tupI (K := K) (a := pa) (xs := pus) (fun j ys H' => RpL H' ((ownP pl (ps.take j)).map pairD) ys ∧ Ext T noM H4 H') ⟨rpl_nil, e45⟩ (fun j ys H' _ p => SqT.of ((e4.trans p.2).tup (fun z => z) hpa)) ?_ ?_
      · rintro ys H6 ⟨ry, e6⟩ ot hot
        rw [hpl, List.take_length] at ry
        have e7 : Ext T noM H6 (upd H6 ot (.tup ys)) := Ext.new hot
        have ho7 : (upd H6 ot (.tup ys)) ot = some (.tup ys) := upd_same
        have ry7 := ry.x e7
        generalize (upd H6 ot (.tup ys)) = H7 at e7 ho7 ry7 ⊢
        have hyl : ys.length = (ownP pl ps).length := by rw [ry.len, List.length_map]
        have e47 := e6.trans e7
        dsimp only [gName]
        refine ev_if (b := decide (ownP pl ps ≠ [])) (fun Q h => ⟨_, rfl, ?_⟩) (fun c => ?_) (fun c => ?_)
        · refine ⟨_, .inr (.inl ⟨ys, SqT.of ho7, rfl⟩), ?_⟩
          rw [show (!ys.isEmpty) = decide (ownP pl ps ≠ []) by
            rw [Bool.eq_iff_iff, decide_eq_true_eq, Bool.not_eq_true', List.isEmpty_eq_false_iff, ← List.length_pos_iff, ← List.length_pos_iff, hyl]]
          exact h
        · have hne : ownP pl ps ≠ [] := of_decide_eq_true c
          have e07 := e4.trans e47
          have hna7 := e07.tup (fun z => z) hna
          have hnb7 := e07.tup (fun z => z) hnb
          have hwr7 := hwr.x e07
          have hea3 : H3 ea = some (.tup (natsV (List.range ws.length))) := (e2.trans e3).tup (fun z => z) hea
          have hea7 : H7 ea = some (.tup (natsV (List.range ws.length))) := e47.tup (fun z => z) (e34.tup (fun z => by rw [z, hl3] at hea3; cases hea3) hea3)
          have hxa7 := e47.tup (fun z => z) hxa
          have hrl : (natsV (List.range ws.length)).length = ws.length := by unfold natsV; rw [List.length_map, List.length_range]
          have hil7 : ∀ m, (List.filter (fun c => decide ((wyAt ws c).1 ∈ pl)) (List.range m)).length ≤ m := fun m => by
            have := List.length_filter_le (fun c => decide ((wyAt ws c).1 ∈ pl)) (List.range m)
            rw [List.length_range] at this; exact this
          refine ⟨_, rfl, ea, rfl, ⟨_, SqT.of hea7⟩, fun il hil => ?_⟩
          refine lc_tup (K := K) (a := ea) (xs := natsV (List.range ws.length)) (fun j H' => Ext T noM H7 H' ∧ H' il = some (.lst (natsV ((List.range j).filter fun c => decide ((wyAt ws c).1 ∈ pl))))) ⟨Ext.new hil, upd_same⟩ (fun j H' _ p => SqT.of (p.1.tup (fun z => z) hea7)) ?_ ?_
          · rintro j x H8 hx8 ⟨e8, hl8⟩
            have hj : j < ws.length := by have := (List.getElem?_eq_some_iff.mp hx8).1; omega
            obtain rfl : x = .int (j : Nat) := by
              unfold natsV at hx8
              rw [List.getElem?_map, List.getElem?_range hj] at hx8
              exact (Option.some.inj hx8).symm
            obtain ⟨wa, g1, g2⟩ := way_get W hwr7 hj
            have hsn := filter_range_succ (fun c => decide ((wyAt ws c).1 ∈ pl)) j
            refine ⟨rfl, _, rfl, na, _, _, _, rfl, rfl, SqT.of (e8.tup (fun z => z) hna7), at_of (j := 1) rfl rfl, _, rfl, nb, _, _, _, rfl, rfl, SqT.of (e8.tup (fun z => z) hnb7), at_of (j := j) rfl g1, wa, _, _, _, rfl, rfl, SqT.of (e8.tup (fun z => z) g2), at_of (j := 0) rfl rfl, _, rfl, xa, _, rfl, .inr (SqT.of (e8.tup (fun z => z) hxa7)), rfl, flat_nats _, _, rfl, ?_⟩
            rw [inV_nats, if_neg Bool.false_ne_true]
            refine ite2 (fun q => ?_) (fun q => ?_)
            · rw [q, if_pos rfl] at hsn
              refine ⟨_, rfl, _, hl8, ?_, e8.mut (.inl hil) hl8 ltbl, ?_⟩
              · have := hil7 j
                unfold natsV; rw [List.length_map]; exact small1000 (by omega)
              · rw [upd_same, hsn]; unfold natsV; rw [List.map_append]; rfl
            · rw [Bool.eq_false_iff.mpr q, if_neg Bool.false_ne_true, List.append_nil] at hsn
              exact ⟨e8, by rw [hsn]; exact hl8⟩
          rintro H8 ⟨e8, hl8⟩
          rw [hrl] at hl8
          have hl8 : H8 il = some (.lst (natsV (ixsP ws pl))) := hl8
          have e48 := e47.trans e8
          have e08 := e4.trans e48
          have hixl : (ixsP ws pl).length ≤ 24 := Nat.le_trans (hil7 ws.length) w24
          have hil0 : H il = none := (e4.trans e47).fr il hil
          refine ⟨_, rfl, il, rfl, ⟨_, SqL.of hl8⟩, (wd.ext e08) PT hPT, fun H9 tb9 => ?_⟩
          have e89 : Ext T noM H8 H9 := Ext.tab ((wd.ext e08) PT hPT) tb9
          refine turn_listI (K := K) (a := il) (xs := natsV (ixsP ws pl)) (fun j ys H' => RpL H' ((((ixsP ws pl).take j).map (wyAt ws)).map wayD) ys ∧ Ext T noM H8 H') ⟨rpl_nil, e89⟩ (fun j ys H' _ p => SqL.of (p.2.lst (fun z => z) hl8)) ?_ ?_
          · rintro vs H10 ⟨rv, e10⟩ wt hwt
            rw [show (natsV (ixsP ws pl)).length = (ixsP ws pl).length by unfold natsV; rw [List.length_map], List.take_length] at rv
            have e11 : Ext T noM H10 (upd H10 wt (.tup vs)) := Ext.new hwt
            have rw11 : Rp (upd H10 wt (.tup vs)) (.t (((ixsP ws pl).map (wyAt ws)).map wayD)) (.ref wt) := rp_t upd_same (rv.x e11)
            generalize (upd H10 wt (.tup vs)) = H11 at e11 rw11 ⊢
            dsimp only [gName]
            have e8B := e10.trans e11
            obtain ⟨us, p1, p2, p3⟩ := PA
            have hp4 : H11 lf = some (.lst us) := (e48.trans e8B).lst (fun z => z) p1
            refine ⟨_, rfl, .inl ⟨rfl, _, SqL.of hp4⟩, _, rfl, _, rfl, _, rfl, by show 3 ≤ sizeLine; decide, fun pt hpt => ?_⟩
            have e12 : Ext T noM H11 (upd H11 pt (.tup [.ref xa, .ref wt, .ref ot])) := Ext.new hpt
            have r12 : Rp (upd H11 pt (.tup [.ref xa, .ref wt, .ref ot])) (partD (partOf ws ps pl)) (.ref pt) := rp_t upd_same (rpl_cons (Rp.x e12 (Rp.x (e48.trans e8B) hr4)) (rpl_cons (rw11.x e12) (rpl_cons (Rp.x e12 (Rp.x (e8.trans e8B) (rp_t ho7 ry7))) rpl_nil)))
            generalize (upd H11 pt (.tup [V.ref xa, .ref wt, .ref ot])) = H12 at e12 r12 ⊢
            refine ⟨_, rfl, by show 2 ≤ sizeLine; decide, fun xt hxt => ?_⟩
            have e13 : Ext T noM H12 (upd H12 xt (.tup [.ref pt, .ref il])) := Ext.new hxt
            have h13 : (upd H12 xt (.tup [.ref pt, .ref il])) xt = some (.tup [.ref pt, .ref il]) := upd_same
            have r13 := r12.x e13
            generalize (upd H12 xt (.tup [V.ref pt, .ref il])) = H13 at e13 h13 r13 ⊢
            have e8D := (e8B.trans e12).trans e13
            have hp13 := (e12.trans e13).lst (fun z => z) hp4
            have hsn := ptsL_snoc ws ps (G.take i) pl
            rw [← hts, if_neg hne] at hsn
            have hne2 : il ≠ lf := fun z => by rw [z] at hil; rw [e47.lst (fun z => z) p1] at hil; cases hil
            have PA13 : PtsAt (fun b => H b = none ∧ b ≠ lf) H13 lf (ptsL ws ps (G.take i)) := PtsAt.x ⟨us, p1, p2, p3⟩ (e48.trans e8D)
            have PA14 := PA13.add (T := T) hp13 (fun b z => z.2) (q := (partOf ws ps pl, ixsP ws pl)) (v := .ref xt) ⟨xt, pt, il, rfl, h13, r13, e8D.lst (fun z => z) hl8, hil0, hne2⟩
            rw [← hsn] at PA14
            have e0D := e08.trans e8D
            refine ⟨lf, us, _, rfl, rfl, hp13, ?_, _, _, _, _, _, _, rfl, PA14, e0D.mut (.inl hlf0) hp13 ltbl, (e34.trans (e48.trans e8D).weak).mut (.inr rfl) hp13 ltbl⟩
            have := ptsL_len ws ps (G.take i)
            rw [List.length_take] at this
            exact small1000 (by omega)
          · rintro j x vs H10 hx10 ⟨rv, e10⟩ N hN
            obtain ⟨c, hc, rfl⟩ : ∃ c, (ixsP ws pl)[j]? = some c ∧ x = .int (c : Nat) := by
              unfold natsV at hx10
              rw [List.getElem?_map] at hx10
              cases e : (ixsP ws pl)[j]? with
              | none => rw [e] at hx10; cases hx10
              | some c => rw [e] at hx10; exact ⟨c, rfl, (Option.some.inj hx10).symm⟩
            have hcl : c < ws.length := by
              have := List.mem_of_getElem? hc
              exact List.mem_range.mp (List.mem_filter.mp this).1
            have hjl := (List.getElem?_eq_some_iff.mp hc).1
            obtain ⟨v, g1, g2⟩ := hwr7.get (i := c) (d := wayD (wyAt ws c)) (by
              rw [List.getElem?_map, List.getElem?_eq_getElem hcl]
              unfold wyAt
              rw [List.getD_eq_getElem?_getD, List.getElem?_eq_getElem hcl]; rfl)
            have e7A := e8.trans e10
            refine ⟨rfl, tYesI ?_⟩
            refine ⟨_, rfl, na, _, _, _, rfl, rfl, SqT.of (e7A.tup (fun z => z) hna7), at_of (j := 1) rfl rfl, _, rfl, nb, _, _, _, rfl, rfl, SqT.of (e7A.tup (fun z => z) hnb7), at_of (j := c) rfl g1, ?_, hN _ _ ⟨?_, e10⟩⟩
            · rw [rv.len, List.length_map, List.length_map, List.length_take]; exact small1000 (by omega)
            · rw [take_succ' hc, List.map_append, List.map_append]
              exact rv.snoc (g2.x e7A)
        · have hno : ownP pl ps = [] := Classical.byContradiction fun z => absurd (decide_eq_true z) (by rw [c]; decide)
          have hsn := ptsL_snoc ws ps (G.take i) pl
          rw [← hts, if_pos hno, List.append_nil] at hsn
          refine ⟨_, _, _, _, _, _, rfl, by rw [hsn]; exact PA.x e47, e4.trans e47, e34.trans e47.weak⟩
      · rintro j x ys H6 hx6 ⟨ry, e6⟩ N hN
        have hj : j < ps.length := by have := (List.getElem?_eq_some_iff.mp hx6).1; omega
        have hpj : ps[j]? = some ps[j] := List.getElem?_eq_getElem hj
        obtain ⟨x', hx', hr6⟩ := hpr.get (i := j) (d := pairD ps[j]) (by rw [List.getElem?_map, hpj]; rfl)
        rw [hx6] at hx'
        obtain rfl := Option.some.inj hx'
        have hr7 := hr6.x (e4.trans e6)
        have hsn := ownP_snoc pl (ps.take j) ps[j]
        rw [← take_succ' hpj] at hsn
        obtain ⟨qa, rfl, hqa⟩ := pair_at hr7
        have hol : (ownP pl (ps.take j)).length ≤ 6 := by
          have h1 := List.length_filter_le (fun q : Pr => decide (q.1 ∈ pl)) (ps.take j)
          rw [List.length_take] at h1
          unfold ownP; omega
        have hyl : ys.length = (ownP pl (ps.take j)).length := by rw [ry.len, List.length_map]
        refine ⟨rfl, ?_⟩
        refine ⟨_, rfl, qa, _, _, _, rfl, rfl, SqT.of hqa, at_of (j := 0) rfl rfl, _, rfl, xa, _, rfl, .inr (SqT.of (e6.tup (fun z => z) hxa)), rfl, flat_nats _, _, rfl, ?_⟩
        rw [inV_nats, if_neg Bool.false_ne_true]
        refine ite2 (fun q => ?_) (fun q => ?_)
        · rw [if_pos (of_decide_eq_true q)] at hsn
          refine ⟨_, rfl, small1000 (by omega), hN _ _ ⟨?_, e6⟩⟩
          rw [hsn, List.map_append]
          exact ry.snoc hr7
        · rw [if_neg (fun z => q (decide_eq_true z)), List.append_nil] at hsn
          exact hN _ _ ⟨by rw [hsn]; exact ry, e6⟩
    · rintro σ' H4 ⟨y4, y5, y6, y7, y8, y9, rfl, PA, e4, e34⟩
      rw [hgl, List.take_length] at PA
      obtain ⟨us, p1, p2, p3⟩ := PA
      refine ⟨_, rfl, hk lf H4 hlf0 ⟨us, p1, p2, fun i q hq => ?_⟩ e4⟩
      obtain ⟨v, g1, x, pt, il, g2, g3, g4, g5, g6⟩ := p3 i q hq
      exact ⟨v, g1, x, pt, il, g2, g3, g4, g5, g6.1⟩
end
end Mw

set_option Elab.async false
set_option linter.all false
set_option maxRecDepth 100000
set_option maxHeartbeats 4000000
namespace Mw
open PySem PySem.Spec PyProof.Rows L2 GE
/-- the first pair that is not joined -/
def First (ws : Wl) (ps : List Pr) (k : Nat) : Prop := ∃ q, ps[k]? = some q ∧ ¬ Cn (wedges ws) q.1 q.2 ∧ ∀ j q', j < k → ps[j]? = some q' → Cn (wedges ws) q'.1 q'.2
def spApart (T : List Addr) (C : Addr) : Sp := fun vs H _ E => ∃ (net pz : V) (n : Nat) (ws : Wl) (ps : List Pr) (k : Nat), vs = [net, pz] ∧ Wf n ws ∧ Rp H (netD n ws) net ∧ Rp H (pairsD ps) pz ∧ PsOk n ps ∧ First ws ps k ∧ Raised T noM C "index" (.int (k : Nat)) H E
section
variable {P : Program} {w : World} {K : PySem.W.Frag} {mg : Str → Option Value} {base : Heap} {T : List Addr} {aC aApart : Addr}
theorem ok_Apart___init__ {f : Addr} {fd : FuncData} (F : Fun K "__init__" "Apart.__init__" sApart___init__ f fd) {aMoatError : Addr} (gMoatError : mg "MoatError" = some (.ref aMoatError)) (BMoatError : GE.Xb K aMoatError) {fI : Addr} (XApart : GE.Xc K aApart fI "index") : FnOk P w K mg base CX0 1 f fd ["self", "index"] (GE.spXI K T aApart "index") := by
  refine F.ok scApart___init__ (fun vs H Q E h => ?_) (fun cdv A outer s H vs Q E hr h => ?_)
  · obtain ⟨a, v, rfl, ha, hv, k⟩ := h
    rfl
  · obtain ⟨a, v, rfl, ha, hv, k⟩ := h
    refine ⟨_, (pss_cons (ps_expr (GE.pe_binit BMoatError (by rfl) gMoatError (pa_cons (pv 0) (pa_cons (GE.pe_js (PJ.cons pe_str (PJ.cons (pe_fmt (pv 1)) PJ.nil))) pa_nil))))
      (pss_one (ps_ost (pv 0) (pv 1)))), ?_⟩
    refine ⟨_, rfl, _, rfl, (by simp only [ln_app']; exact sl_1000 (by decide)), ?_⟩
    refine fmt_rd hv (fun R r => ⟨_, rfl, r⟩) fun y hy => ?_
    refine ⟨_, rfl, (by simp only [ln_app']; refine sl_1000 ?_; have : ("no ways join the pair " : Str).length = 22 := rfl; have h0 : Str.empty.length = 0 := rfl; omega), ?_⟩
    refine ⟨a, aApart, _, rfl, by show 1 ≤ 1000; decide, XApart.ox, ha, ?_⟩
    show tOst K "index" (tVar 0) (tVar 1) _ _ _
    exact xi_store XApart ha (fun R r => ⟨_, rfl, r⟩) (fun R r => ⟨_, rfl, r⟩) k
theorem okX_check_joined {f : Addr} {fd : FuncData} (F : Fun K "check_joined" "check_joined" scheck_joined f fd) (m_enumerate : mg "enumerate" = none) {aApart : Addr} (gApart : mg "Apart" = some (.ref aApart)) {f_homes : Addr} {fd_homes : FuncData} (F_homes : Fun K "_homes" "_homes" s_homes f_homes fd_homes) (G_homes : FnOk P w K mg base CX0 2 f_homes fd_homes ["net", "choice"] (spHomes T)) (b_homes : Binds K fd_homes ["net", "choice"] []) (g_homes : mg "_homes" = some (.ref f_homes)) {fevery_way : Addr} {fdevery_way : FuncData} (Fevery_way : Fun K "every_way" "every_way" severy_way fevery_way fdevery_way) (Gevery_way : FnOk P w K mg base CX0 2 fevery_way fdevery_way ["net"] (spEvery T)) (bevery_way : Binds K fdevery_way ["net"] []) (gevery_way : mg "every_way" = some (.ref fevery_way)) {fApart___init__ : Addr} {fdApart___init__ : FuncData} (FApart___init__ : Fun K "__init__" "Apart.__init__" sApart___init__ fApart___init__ fdApart___init__) (GApart___init__ : FnOk P w K mg base CX0 1 fApart___init__ fdApart___init__ ["self", "index"] (GE.spXI K T aApart "index")) (bApart___init__ : Binds K fdApart___init__ ["self", "index"] []) (XApart : GE.Xc K aApart fApart___init__ "index") : FnOk P w K mg base (GE.CXn P w) 3 f fd ["net", "pairs"] (spApart T aApart) := by
  refine GE.funN F sccheck_joined (fun vs H Q E h => ?_) (fun cdv A outer s H vs Q E hr h => ?_)
  · obtain ⟨net, pz, n, ws, ps, k, rfl, W, hnet, hps, ok, ⟨q0, hk, nk, hb⟩, kr⟩ := h
    rfl
  · obtain ⟨net, pz, n, ws, ps, k, rfl, W, hnet, hps, ok, ⟨q0, hk, nk, hb⟩, kr⟩ := h
    refine ⟨_, (pss_cons (ps_set (i := 2) sccheck_joined.nd rfl (Or.inl rfl) (pe_call G_homes hr (by rfl) g_homes F_homes.kp b_homes .nil pass0 (pa_cons (pv 0) (pa_cons (pe_call Gevery_way hr (by rfl) gevery_way Fevery_way.kp bevery_way .nil pass0 (pa_cons (pv 0) pa_nil)) pa_nil))))
      (pss_one (ps_for (passes_of rfl) rfl (GE.pi_enumT (by rfl) m_enumerate (pa_cons (pv 1) pa_nil)) (pg_tup (by rfl) (pgs_cons (pg_name (i := 3) sccheck_joined.nd rfl (Or.inl rfl)) (pgs_cons (pg_tup (by rfl) (pgs_cons (pg_name (i := 4) sccheck_joined.nd rfl (Or.inl rfl)) (pgs_cons (pg_name (i := 5) sccheck_joined.nd rfl (Or.inl rfl)) pgs_nil))) pgs_nil))) (pss_one (ps_if (pt_cmpR op_ne (pe_ix ix_list (pv 2) (pv 4) (fun _ _ => rfl)) (pe_ix ix_list (pv 2) (pv 5) (fun _ _ => rfl)) (nomark _)) (pss_one (L2N.ps_raise rfl (L2N.takes_of rfl rfl rfl rfl) (GE.pmkN XApart GApart___init__ hr bApart___init__ pass0 (by rfl) gApart (pa_cons (pv 3) pa_nil)))) pss_nil))))), ?_⟩
    refine ⟨_, rfl, _, rfl, net, n, ws, rfl, hnet, W.ln, fun u H1 hu e1 => ?_⟩
    refine ⟨net, u, n, ws, List.range ws.length, rfl, ⟨W, ch_range _, Rp.x e1 hnet, hu⟩, fun l H2 hl hL e2 => ?_⟩
    have e12 := e1.trans e2
    obtain ⟨pa, pus, rfl, hpa, hpr⟩ := (Rp.x e12 hps).t
    have hlen : pus.length = ps.length := by rw [hpr.len, List.length_map]
    have hkl : k < ps.length := (List.getElem?_eq_some_iff.mp hk).1
    refine ⟨_, rfl, pa, pus, rfl, SqT.of hpa, ?_⟩
    refine for_it (n := pus.length) walk_enumT (fun i σ' H' => i ≤ k ∧ ∃ y3 y4 y5, σ' = [some net, some (.ref pa), some (.ref l), y3, y4, y5] ∧ Ext T noM H2 H') ⟨Nat.zero_le _, none, none, none, rfl, Ext.refl _ _ _⟩ (fun i σ' H' _ ⟨_, _, _, _, _, e⟩ => SqT.of (e.tup (fun z => z) hpa)) ?_ (fun σ' H' ⟨hle, _⟩ => absurd hkl (by omega))
    rintro i x σ' H1 H3 hi ⟨hik, y3, y4, y5, rfl, e⟩ ⟨Tq, x1, x2, rfl, hT, rfl, h1, h2⟩
    obtain rfl := Option.some.inj h1
    have h2 : pus[i]? = some x2 := h2
    have hi' : i < ps.length := by omega
    obtain ⟨x', hx', hr⟩ := hpr.get (i := i) (d := pairD ps[i]) (by rw [List.getElem?_map, List.getElem?_eq_getElem hi']; rfl)
    rw [hx'] at h2
    obtain rfl := Option.some.inj h2
    obtain ⟨xa, rfl, hxa⟩ := pair_at hr
    have e3 : Ext T noM H2 (upd H1 Tq (.tup [.int (i : Nat), .ref xa])) := e.trans (Ext.new hT)
    have g3 := e3.tup (fun z => z) hxa
    have hL3 := e3.lst (fun z => z) hL
    obtain ⟨o1, o2⟩ := ok.ok _ (List.getElem_mem hi')
    refine ⟨Tq, _, rfl, SqT.of upd_same, rfl, _, _, rfl, _, _, rfl, ⟨xa, _, rfl, SqT.of g3, rfl, _, _, rfl, _, _, rfl, rfl, rfl, ?_⟩⟩
    refine ⟨_, rfl, _, rfl, l, _, _, _, rfl, rfl, SqL.of hL3, at_of (j := ps[i].1) rfl (hV_get (by omega)), _, rfl, _, rfl, l, _, _, _, rfl, rfl, SqL.of hL3, at_of (j := ps[i].2) rfl (hV_get o2), rfl, _, rfl, ?_⟩
    rcases Nat.lt_or_eq_of_le hik with hlt | heq
    · have hj := (joined_iff W (show ps[i].1 < n by omega) o2).mpr (hb i _ hlt (List.getElem?_eq_getElem hi'))
      rw [hj]
      refine ite2 (fun q => ?_) (fun q => ⟨hlt, _, _, _, rfl, e3⟩)
      rw [decide_eq_true rfl] at q; cases q
    · subst heq
      have hq0 : ps[i] = q0 := by rw [List.getElem?_eq_getElem hi'] at hk; exact Option.some.inj hk
      have hj : ¬ hom ws (List.range ws.length) ps[i].1 = hom ws (List.range ws.length) ps[i].2 := fun z => nk (by
        rw [← hq0]; exact (joined_iff W (show ps[i].1 < n by omega) o2).mp z)
      refine ite2 (fun q => ?_) (fun q => absurd q (by
        intro q
        rw [decide_eq_false (fun z => hj (vint_inj.mp z))] at q
        exact q rfl))
      refine ⟨_, rfl, by show 1 ≤ 1000; decide, raised_mk (.i i ?_) (kr.after (e12.trans e3))⟩
      have := ok.ln; omega
theorem okX__grown {f : Addr} {fd : FuncData} (F : Fun K "_grown" "_grown" s_grown f fd) {fcheck_joined : Addr} {fdcheck_joined : FuncData} (Fcheck_joined : Fun K "check_joined" "check_joined" scheck_joined fcheck_joined fdcheck_joined) (Gcheck_joined : FnOk P w K mg base (GE.CXn P w) 3 fcheck_joined fdcheck_joined ["net", "pairs"] (spApart T aApart)) (bcheck_joined : Binds K fdcheck_joined ["net", "pairs"] []) (gcheck_joined : mg "check_joined" = some (.ref fcheck_joined)) : FnOk P w K mg base (GE.CXn P w) 4 f fd ["net", "pairs"] (spApart T aApart) := by
  refine GE.funN F sc_grown (fun vs H Q E h => ?_) (fun cdv A outer s H vs Q E hr h => ?_)
  · obtain ⟨net, pz, n, ws, ps, k, rfl, W, hnet, hps, ok, F1, kr⟩ := h
    rfl
  · obtain ⟨net, pz, n, ws, ps, k, rfl, W, hnet, hps, ok, F1, kr⟩ := h
    refine ⟨_, (pss_cons (ps_expr (pe_callS Gcheck_joined hr (by rfl) gcheck_joined Fcheck_joined.kp bcheck_joined (fun σ => L2N.passAt (L2N.takes_of rfl rfl rfl rfl) σ) (pa_cons (pv 0) (pa_cons (pv 1) pa_nil))))
      GE.pss_no), ?_⟩
    exact ⟨_, rfl, _, rfl, net, pz, n, ws, ps, k, rfl, W, hnet, hps, ok, F1, kr⟩
theorem okX_growth {f : Addr} {fd : FuncData} (F : Fun K "growth" "growth" sgrowth f fd) {f_grown : Addr} {fd_grown : FuncData} (F_grown : Fun K "_grown" "_grown" s_grown f_grown fd_grown) (G_grown : FnOk P w K mg base (GE.CXn P w) 4 f_grown fd_grown ["net", "pairs"] (spApart T aApart)) (b_grown : Binds K fd_grown ["net", "pairs"] []) (g_grown : mg "_grown" = some (.ref f_grown)) : FnOk P w K mg base (GE.CXn P w) 5 f fd ["net", "pairs"] (spApart T aApart) := by
  refine GE.funN F scgrowth (fun vs H Q E h => ?_) (fun cdv A outer s H vs Q E hr h => ?_)
  · obtain ⟨net, pz, n, ws, ps, k, rfl, W, hnet, hps, ok, F1, kr⟩ := h
    rfl
  · obtain ⟨net, pz, n, ws, ps, k, rfl, W, hnet, hps, ok, F1, kr⟩ := h
    refine ⟨_, (pss_cons (ps_asg (pe_callS G_grown hr (by rfl) g_grown F_grown.kp b_grown (fun σ => L2N.passAt (L2N.takes_of rfl rfl rfl rfl) σ) (pa_cons (pv 0) (pa_cons (pv 1) pa_nil))) (pg_tup (by rfl) (pgs_cons (pg_name (i := 2) scgrowth.nd rfl (Or.inl rfl)) (pgs_cons (pg_name (i := 3) scgrowth.nd rfl (Or.inl rfl)) pgs_nil))))
      GE.pss_no), ?_⟩
    exact ⟨_, rfl, _, rfl, net, pz, n, ws, ps, k, rfl, W, hnet, hps, ok, F1, kr⟩
theorem okX_told {f : Addr} {fd : FuncData} (F : Fun K "told" "told" stold f fd) {fgrowth : Addr} {fdgrowth : FuncData} (Fgrowth : Fun K "growth" "growth" sgrowth fgrowth fdgrowth) (Ggrowth : FnOk P w K mg base (GE.CXn P w) 5 fgrowth fdgrowth ["net", "pairs"] (spApart T aApart)) (bgrowth : Binds K fdgrowth ["net", "pairs"] []) (ggrowth : mg "growth" = some (.ref fgrowth)) : FnOk P w K mg base (GE.CXn P w) 6 f fd ["net", "pairs"] (spApart T aApart) := by
  refine GE.funN F sctold (fun vs H Q E h => ?_) (fun cdv A outer s H vs Q E hr h => ?_)
  · obtain ⟨net, pz, n, ws, ps, k, rfl, W, hnet, hps, ok, F1, kr⟩ := h
    rfl
  · obtain ⟨net, pz, n, ws, ps, k, rfl, W, hnet, hps, ok, F1, kr⟩ := h
    refine ⟨_, (pss_cons (ps_setLc (i := 2) (own := [("taken", 3)]) (g := (gName 3)) (tt := tYes) rfl sctold.nd rfl rfl (sw_true rfl rfl rfl (by decide +kernel)) (pi_tup (pe_callS Ggrowth hr (by rfl) ggrowth Fgrowth.kp bgrowth (fun σ => L2N.passAt (L2N.takes_of rfl rfl rfl rfl) σ) (pa_cons (pv 0) (pa_cons (pv 1) pa_nil)))) (blkOk_by (own := [("taken", 3)]) (N := ["net", "pairs", "order", "taken", "kept", "way", "rest"]) (sc := defScope stold) (by decide +kernel)) (fun _ _ _ _ _ => (pg_name (i := 3) sctold.nd rfl (Or.inl rfl))) (fun _ _ _ _ _ => pts_nil) (fun _ _ _ _ _ => (pe_ix (GE.ix_tupK (K := K)) (pv 3) pe_int (fun _ _ => rfl))))
      GE.pss_no), ?_⟩
    exact ⟨_, rfl, _, rfl, net, pz, n, ws, ps, k, rfl, W, hnet, hps, ok, F1, kr⟩
end
end Mw

set_option Elab.async false
set_option linter.all false
set_option maxRecDepth 100000
set_option maxHeartbeats 4000000
namespace Mw
open PySem PySem.Spec PyProof.Rows L2 GE
theorem first_or (ws : Wl) (ps : List Pr) : (∀ q ∈ ps, Cn (wedges ws) q.1 q.2) ∨ ∃ k, First ws ps k := by
  induction ps with
  | nil => exact .inl fun q h => nomatch h
  | cons p r ih =>
    by_cases h : Cn (wedges ws) p.1 p.2
    · rcases ih with h1 | ⟨k, q, h1, h2, h3⟩
      · exact .inl fun q hq => (List.mem_cons.mp hq).elim (fun e => by rw [e]; exact h) (h1 q)
      · refine .inr ⟨k + 1, q, h1, h2, fun j q' hj e => ?_⟩
        match j, e with
        | 0, e => rw [← Option.some.inj e]; exact h
        | j + 1, e => exact h3 j q' (by omega) e
    · exact .inr ⟨0, p, rfl, h, fun j q' hj => absurd hj (Nat.not_lt_zero _)⟩
theorem mem_ptsL {ws : Wl} {ps : List Pr} {G : List (List Nat)} {q : Part × List Nat} (h : q ∈ ptsL ws ps G) : ∃ pl ∈ G, ownP pl ps ≠ [] ∧ q = (partOf ws ps pl, ixsP ws pl) := by
  unfold ptsL at h
  obtain ⟨pl, h1, h2⟩ := List.mem_filterMap.mp h
  by_cases e : ownP pl ps = []
  · rw [if_pos e] at h2; cases h2
  · rw [if_neg e] at h2
    exact ⟨pl, h1, e, (Option.some.inj h2).symm⟩
theorem ixs_lt {ws : Wl} {pl : List Nat} {c : Nat} (h : c ∈ ixsP ws pl) : c < ws.length := List.mem_range.mp (List.mem_filter.mp h).1
theorem ixs_len (ws : Wl) (pl : List Nat) : (ixsP ws pl).length ≤ ws.length := by
  have := List.length_filter_le (fun c => decide ((wyAt ws c).1 ∈ pl)) (List.range ws.length)
  rw [List.length_range] at this; exact this
theorem part_wf {n : Nat} {ws : Wl} (W : Wf n ws) (pl : List Nat) : Wf n ((ixsP ws pl).map (wyAt ws)) := by
  refine ⟨W.n1, W.n12, ?_, fun w hw => ?_⟩
  · have h1 := ixs_len ws pl
    have h2 := W.ln
    rw [List.length_map]; omega
  · obtain ⟨c, hc, rfl⟩ := List.mem_map.mp hw
    exact (wy_ok W (ixs_lt hc)).2
theorem part_ps {n : Nat} {ps : List Pr} (ok : PsOk n ps) (pl : List Nat) : PsOk n (ownP pl ps) := by
  refine ⟨fun p hp => ok.ok p (List.mem_filter.mp hp).1, ?_⟩
  have := List.length_filter_le (fun q : Pr => decide (q.1 ∈ pl)) ps
  have := ok.ln
  unfold ownP; omega
theorem mem_wed {ws : Wl} {e : Nat × Nat} : e ∈ wedges ws ↔ ∃ c, c < ws.length ∧ e = ((wyAt ws c).1, (wyAt ws c).2.1) := by
  unfold wedges
  rw [List.mem_map]
  constructor
  · rintro ⟨c, h1, h2⟩
    exact ⟨c, List.mem_range.mp h1, h2.symm⟩
  · rintro ⟨c, h1, h2⟩
    exact ⟨c, List.mem_range.mpr h1, h2.symm⟩
theorem wed_part {ws : Wl} {pl : List Nat} {c : Nat} (hc : c < ws.length) (h : (wyAt ws c).1 ∈ pl) : ((wyAt ws c).1, (wyAt ws c).2.1) ∈ wedges ((ixsP ws pl).map (wyAt ws)) := by
  have hm : c ∈ ixsP ws pl := List.mem_filter.mpr ⟨List.mem_range.mpr hc, decide_eq_true h⟩
  obtain ⟨k, hk, e⟩ := List.getElem_of_mem hm
  refine mem_wed.mpr ⟨k, by rw [List.length_map]; exact hk, ?_⟩
  have : wyAt ((ixsP ws pl).map (wyAt ws)) k = wyAt ws c := by
    show ((ixsP ws pl).map (wyAt ws)).getD k (0, 0, 0) = _
    rw [List.getD_eq_getElem?_getD, List.getElem?_map, List.getElem?_eq_getElem hk, e]; rfl
  rw [this]
/-- what the ways of the net connect within a part, the part's ways connect -/
theorem part_cn {n : Nat} {ws : Wl} (W : Wf n ws) {r : Nat} (hr : r < n) {x y : Nat} (h : Cn (wedges ws) x y) (hx : x ∈ cls (hom ws (List.range ws.length)) n r) : Cn (wedges ((ixsP ws (cls (hom ws (List.range ws.length)) n r)).map (wyAt ws))) x y ∧ y ∈ cls (hom ws (List.range ws.length)) n r := by
  have cl : ∀ c, c < ws.length → ((wyAt ws c).1 ∈ cls (hom ws (List.range ws.length)) n r ↔ (wyAt ws c).2.1 ∈ cls (hom ws (List.range ws.length)) n r) := fun c hc => by
    obtain ⟨_, o1, o2, _⟩ := wy_ok W hc
    have e : hom ws (List.range ws.length) (wyAt ws c).1 = hom ws (List.range ws.length) (wyAt ws c).2.1 := (joined_iff W (by omega) o2).mpr (.fwd (.refl _) (mem_wed.mpr ⟨c, hc, rfl⟩))
    rw [mem_cls, mem_cls, e]
    exact ⟨fun z => ⟨o2, z.2⟩, fun z => ⟨by omega, z.2⟩⟩
  induction h with
  | refl => exact ⟨.refl _, hx⟩
  | fwd _ he ih =>
    obtain ⟨g1, g2⟩ := ih
    obtain ⟨c, hc, e⟩ := mem_wed.mp he
    cases e
    exact ⟨g1.fwd (wed_part hc g2), (cl c hc).mp g2⟩
  | bwd _ he ih =>
    obtain ⟨g1, g2⟩ := ih
    obtain ⟨c, hc, e⟩ := mem_wed.mp he
    cases e
    have g3 := (cl c hc).mpr g2
    exact ⟨g1.bwd (wed_part hc g3), g3⟩
theorem pts_ok {n : Nat} {ws : Wl} {ps : List Pr} (W : Wf n ws) (ok : PsOk n ps) (J : ∀ q ∈ ps, Cn (wedges ws) q.1 q.2) {q : Part × List Nat} (h : q ∈ pts n ws ps) :
    Wf n q.1.2.1 ∧ PsOk n q.1.2.2 ∧ (∀ p ∈ q.1.2.2, Cn (wedges q.1.2.1) p.1 p.2) ∧ q.2.length = q.1.2.1.length ∧ (∀ c ∈ q.2, c < ws.length) ∧ q.1.1.length ≤ 12 := by
  obtain ⟨pl, h1, _, rfl⟩ := mem_ptsL h
  unfold grps at h1
  obtain ⟨r, hr, rfl⟩ := List.mem_map.mp h1
  have hrn := (mem_reps'.mp hr).1
  refine ⟨part_wf W _, part_ps ok _, fun p hp => ?_, by show _ = (List.map _ _).length; rw [List.length_map], fun c hc => ixs_lt hc, ?_⟩
  · have hp := List.mem_filter.mp hp
    exact (part_cn W hrn (J p hp.1) (of_decide_eq_true hp.2)).1
  · have := cls_len (hom ws (List.range ws.length)) n r
    have := W.n12
    show (cls _ _ _).length ≤ 12
    omega
theorem pts_len {n : Nat} (h12 : n ≤ 12) (ws : Wl) (ps : List Pr) : (pts n ws ps).length ≤ 12 := by
  have h1 := ptsL_len ws ps (grps (hom ws (List.range ws.length)) n)
  have h2 := reps_len (hom ws (List.range ws.length)) n
  unfold grps at h1; rw [List.length_map] at h1
  unfold pts grps; omega
theorem key_map {α : Type} {f : α → D} (h : ∀ x y, keyK (f x) = keyK (f y) → x = y) : ∀ {l l' : List α}, keyKs (l.map f) = keyKs (l'.map f) → l = l'
  | [], [], _ => rfl
  | [], y :: l', e => by cases e
  | x :: l, [], e => by cases e
  | x :: l, y :: l', e => by
    have e : keyK (f x) :: keyKs (l.map f) = keyK (f y) :: keyKs (l'.map f) := e
    injection e with e1 e2
    rw [h x y e1, key_map h e2]
theorem key_nat {x y : Nat} (h : keyK (.i (x : Int)) = keyK (.i (y : Int))) : x = y := by
  have h : NestedKey.num (x : Int) = .num (y : Int) := h
  injection h with h
  omega
theorem key_way {p q : Wy} (h : keyK (wayD p) = keyK (wayD q)) : p = q := by
  have h : NestedKey.tup [.num (p.1 : Int), .num (p.2.1 : Int), .num (p.2.2 : Int)] = .tup [.num (q.1 : Int), .num (q.2.1 : Int), .num (q.2.2 : Int)] := h
  simp at h
  exact Prod.ext (by omega) (Prod.ext (by show p.2.1 = q.2.1; omega) (by show p.2.2 = q.2.2; omega))
theorem key_part {p q : Part} (h : keyK (partD p) = keyK (partD q)) : p = q := by
  have h : NestedKey.tup [.tup (keyKs (p.1.map fun (c : Nat) => D.i (c : Int))), .tup (keyKs (p.2.1.map wayD)), .tup (keyKs (p.2.2.map pairD))] = .tup [.tup (keyKs (q.1.map fun (c : Nat) => D.i (c : Int))), .tup (keyKs (q.2.1.map wayD)), .tup (keyKs (q.2.2.map pairD))] := h
  injection h with h
  injection h with h1 h
  injection h with h2 h
  injection h with h3 h
  injection h1 with h1
  injection h2 with h2
  injection h3 with h3
  exact Prod.ext (key_map (fun x y e => key_nat e) h1) (Prod.ext (key_map (fun x y e => key_way e) h2) (key_map (fun x y e => key_pr.mp e) h3))
theorem dep_map {α : Type} {f : α → D} {b : Nat} (h : ∀ x, (keyK (f x)).depth ≤ b) : ∀ l : List α, NestedKey.depthAll (keyKs (l.map f)) ≤ b
  | [] => Nat.zero_le _
  | x :: l => by
    show max (keyK (f x)).depth (NestedKey.depthAll (keyKs (l.map f))) ≤ b
    exact Nat.max_le.mpr ⟨h x, dep_map h l⟩
theorem dep_part (p : Part) : (keyK (partD p)).depth ≤ 8 := by
  have h1 := dep_map (f := fun (c : Nat) => D.i (c : Int)) (b := 3) (fun x => by show (NestedKey.num _).depth ≤ 3; simp [NestedKey.depth]) p.1
  have h2 := dep_map (f := wayD) (b := 3) (fun x => by show (NestedKey.tup [.num _, .num _, .num _]).depth ≤ 3; simp [NestedKey.depth, NestedKey.depthAll]) p.2.1
  have h3 := dep_map (f := pairD) (b := 3) (fun x => by show (NestedKey.tup [.num _, .num _]).depth ≤ 3; simp [NestedKey.depth, NestedKey.depthAll]) p.2.2
  show (NestedKey.tup [.tup (keyKs (p.1.map fun (c : Nat) => D.i (c : Int))), .tup (keyKs (p.2.1.map wayD)), .tup (keyKs (p.2.2.map pairD))]).depth ≤ 8
  simp only [NestedKey.depth, NestedKey.depthAll]
  omega
/-- another dict, another count -/
theorem YdAt.obj {P : Program} {w : World} {K : PySem.W.Frag} {aD : Addr} {T : List Addr} {H : Hp} {a : Yd} {S : Ys} {dx kd : Addr} {ks : List Part} {many : Nat} (h : YdAt P w K aD H a S) (hob : H a.y = some (.ins aD dx (yf S.n a.lw a.lp a.kd S.many))) (hk : KnAt P w H kd S.n ks) :
    YdAt P w K aD (upd H a.y (.ins aD dx (yf S.n a.lw a.lp kd many))) ⟨a.y, a.lw, a.lp, kd⟩ ⟨S.n, S.ws, S.ps, ks, many⟩ ∧ Ext T (fun b => b = a.y) H (upd H a.y (.ins aD dx (yf S.n a.lw a.lp kd many))) := by
  obtain ⟨d1, d2, d3, d4, d5⟩ := h.diff
  obtain ⟨_, ⟨us, h2, h3⟩, ⟨vs, h4, h5⟩, h6, h7⟩ := h
  have hM : ∀ b vs, b = a.y → H b ≠ some (.tup vs) := fun b vs z y => by rw [z, hob] at y; cases y
  have x : Ext T (fun b => b = a.y) H (upd H a.y (.ins aD dx (yf S.n a.lw a.lp kd many))) := (Ext.refl T _ H).mut (.inr rfl) hob fun ps z => nomatch z
  refine ⟨⟨⟨dx, upd_same⟩, ⟨us, by show upd H a.y _ a.lw = _; rw [upd_ne d1.symm]; exact h2, h3.ext x hM⟩, ⟨vs, by show upd H a.y _ a.lp = _; rw [upd_ne d2.symm]; exact h4, h5.ext x hM⟩, hk.ext x (fun z => ?_) hM, h7⟩, x⟩
  obtain ⟨xs, g1, _⟩ := hk
  rw [z, hob] at g1
  have y := Option.some.inj g1
  unfold dnO at y
  cases y
/-- a part's told ways, by their indexes in the net -/
def tlP (n : Nat) (q : Part × List Nat) : List Nat := (toldL n q.1.2.1 q.1.2.2).map fun k => q.2.getD k 0
/-- the told ways of all parts, one after another -/
def allT (n : Nat) (L : List (Part × List Nat)) : List Nat := L.flatMap (tlP n)
theorem told_lt {n : Nat} {ws : Wl} {ps : List Pr} {c : Nat} (h : c ∈ toldL n ws ps) : c < ws.length := by
  have h := (List.mem_filter.mp h).1
  exact List.mem_range.mp (List.mem_filter.mp h).1
theorem told_len (n : Nat) (ws : Wl) (ps : List Pr) : (toldL n ws ps).length ≤ ws.length := by
  have h1 := List.length_filter_le (need n ws ps) (tkS n ws ps)
  have h2 := List.length_filter_le (fun c => decide (c ∈ tkF n ws ps)) (List.range ws.length)
  rw [List.length_range] at h2
  exact Nat.le_trans h1 h2
theorem tlP_ok {n : Nat} {q : Part × List Nat} (hp : q.2.Pairwise (· < ·)) (hl : q.2.length = q.1.2.1.length) : (tlP n q).Pairwise (· < ·) ∧ ∀ c ∈ tlP n q, c ∈ q.2 := by
  have get : ∀ k, k < q.2.length → q.2[k]? = some (q.2.getD k 0) := fun k hk => by rw [List.getD_eq_getElem?_getD, List.getElem?_eq_getElem hk]; rfl
  constructor
  · unfold tlP
    rw [List.pairwise_map]
    refine List.Pairwise.imp_of_mem (fun {a b} ha hb hab => ?_) (toldL_pw n q.1.2.1 q.1.2.2)
    have h1 := told_lt ha
    have h2 := told_lt hb
    have h3 : a < q.2.length := by omega
    have h4 : b < q.2.length := by omega
    have := List.pairwise_iff_getElem.mp hp a b h3 h4 hab
    rw [List.getD_eq_getElem?_getD, List.getD_eq_getElem?_getD, List.getElem?_eq_getElem h3, List.getElem?_eq_getElem h4]
    exact this
  · intro c hc
    obtain ⟨k, hk, rfl⟩ := List.mem_map.mp hc
    exact List.mem_of_getElem? (get k (by rw [hl]; exact told_lt hk))
theorem ixs_pw (ws : Wl) (pl : List Nat) : (ixsP ws pl).Pairwise (· < ·) := (range_pw _).filter _
theorem pts_pw (n : Nat) (ws : Wl) (ps : List Pr) {q : Part × List Nat} (h : q ∈ pts n ws ps) : q.2.Pairwise (· < ·) ∧ q.2.length = q.1.2.1.length := by
  obtain ⟨pl, _, _, rfl⟩ := mem_ptsL h
  exact ⟨ixs_pw ws pl, by show _ = (List.map _ _).length; rw [List.length_map]⟩
theorem pts_apart {n : Nat} {ws : Wl} {ps : List Pr} : (pts n ws ps).Pairwise fun q q' => ∀ c ∈ q.2, c ∉ q'.2 := by
  unfold pts ptsL grps
  rw [List.pairwise_filterMap, List.pairwise_map]
  refine List.Pairwise.imp_of_mem (fun {a b} ha hb hab => ?_) (reps_nodup (hom ws (List.range ws.length)) n)
  intro q hq q' hq' c hc hc'
  have e1 := (mem_reps'.mp ha).2
  have e2 := (mem_reps'.mp hb).2
  by_cases h1 : ownP (cls (hom ws (List.range ws.length)) n a) ps = []
  · rw [if_pos h1] at hq; cases hq
  by_cases h2 : ownP (cls (hom ws (List.range ws.length)) n b) ps = []
  · rw [if_pos h2] at hq'; cases hq'
  rw [if_neg h1] at hq
  rw [if_neg h2] at hq'
  obtain rfl := Option.some.inj hq
  obtain rfl := Option.some.inj hq'
  have g1 := mem_cls.mp (of_decide_eq_true (List.mem_filter.mp hc).2)
  have g2 := mem_cls.mp (of_decide_eq_true (List.mem_filter.mp hc').2)
  exact hab (by rw [← e1, ← g1.2, g2.2, e2])
theorem allT_nodup {n : Nat} {ws : Wl} {ps : List Pr} : (allT n (pts n ws ps)).Nodup := by
  unfold allT
  refine List.pairwise_flatMap.mpr ⟨fun q hq => ?_, List.Pairwise.imp_of_mem (fun {q q'} hq hq' h => ?_) pts_apart⟩
  · obtain ⟨h1, h2⟩ := pts_pw n ws ps hq
    exact (tlP_ok h1 h2).1.imp fun h => Nat.ne_of_lt h
  · obtain ⟨h1, h2⟩ := pts_pw n ws ps hq
    obtain ⟨h3, h4⟩ := pts_pw n ws ps hq'
    intro x hx y hy e
    subst e
    exact h x ((tlP_ok h1 h2).2 x hx) ((tlP_ok h3 h4).2 x hy)
theorem allT_lt {n : Nat} {ws : Wl} {ps : List Pr} {c : Nat} (h : c ∈ allT n (pts n ws ps)) : c < ws.length := by
  unfold allT at h
  obtain ⟨q, hq, hc⟩ := List.mem_flatMap.mp h
  obtain ⟨h1, h2⟩ := pts_pw n ws ps hq
  have := (tlP_ok h1 h2).2 c hc
  obtain ⟨pl, _, _, rfl⟩ := mem_ptsL hq
  exact ixs_lt this
theorem allT_len (n : Nat) (ws : Wl) (ps : List Pr) (i : Nat) : (allT n ((pts n ws ps).take i)).length ≤ ws.length := by
  have h1 := nodup_le (allT_nodup (n := n) (ws := ws) (ps := ps)) fun x hx => allT_lt hx
  have h2 : allT n (pts n ws ps) = allT n ((pts n ws ps).take i) ++ allT n ((pts n ws ps).drop i) := by
    unfold allT
    rw [← List.flatMap_append, List.take_append_drop]
  rw [h2, List.length_append] at h1
  omega
theorem allT_snoc (n : Nat) (L : List (Part × List Nat)) (q : Part × List Nat) : allT n (L ++ [q]) = allT n L ++ tlP n q := by
  unfold allT
  rw [List.flatMap_append]
  simp
/-- the dict with one more part -/
theorem KnAt.put {P : Program} {w : World} {H : Hp} {kd pt c : Addr} {n : Nat} {ks : List Part} {xs : List NE} {p : Part} (h1 : H kd = some (dnO P w kd xs)) (h2 : KsOk H xs) (h3 : xs.length ≤ ks.length) (h4 : ∀ p : Part, (getN xs (keyK (partD p)) = none ∧ p ∉ ks) ∨ ∃ c, getN xs (keyK (partD p)) = some c ∧ p ∈ ks ∧ Rp H (chD (toldL n p.2.1 p.2.2)) (.ref c))
    (rp : Rp H (partD p) (.ref pt)) (rc : Rp H (chD (toldL n p.2.1 p.2.2)) (.ref c)) : KnAt P w (upd H kd (dnO P w kd (putN xs (keyK (partD p)) pt c))) kd n (ks ++ [p]) := by
  have e : Ext [] (fun b => b = kd) H (upd H kd (dnO P w kd (putN xs (keyK (partD p)) pt c))) := (Ext.refl _ _ H).mut (.inr rfl) h1 dnO_tbl
  have hM : ∀ b vs, b = kd → H b ≠ some (.tup vs) := fun b vs z y => by rw [z, h1] at y; exact dnO_tup (Option.some.inj y)
  refine ⟨_, upd_same, fun x hx => ?_, ?_, fun p' => ?_⟩
  · unfold putN at hx
    split at hx
    · obtain ⟨y, hy, rfl⟩ := List.mem_map.mp hx
      obtain ⟨d, g1, g2, g3⟩ := h2 y hy
      split
      · exact ⟨d, g1, g2.ext e hM, g3⟩
      · exact ⟨d, g1, g2.ext e hM, g3⟩
    · rcases List.mem_append.mp hx with hx | hx
      · obtain ⟨d, g1, g2, g3⟩ := h2 x hx
        exact ⟨d, g1, g2.ext e hM, g3⟩
      · rw [List.mem_singleton.mp hx]
        exact ⟨partD p, rfl, rp.ext e hM, dep_part p⟩
  · have := putN_len xs (keyK (partD p)) pt c
    rw [List.length_append, List.length_singleton]; omega
  · by_cases hp : p' = p
    · subst hp
      exact .inr ⟨c, getN_put_same, List.mem_append_right _ (List.mem_singleton.mpr rfl), rc.ext e hM⟩
    · rw [getN_put_ne fun z => hp (key_part z)]
      rcases h4 p' with ⟨g1, g2⟩ | ⟨u, g1, g2, g3⟩
      · exact .inl ⟨g1, fun z => (List.mem_append.mp z).elim g2 fun z => hp (List.mem_singleton.mp z)⟩
      · exact .inr ⟨u, g1, List.mem_append_left _ g2, g3.ext e hM⟩
/-- how many parts the dict lacks -/
def lackK (ks : List Part) (L : List (Part × List Nat)) : Nat := (L.filter fun q => decide (q.1 ∉ ks)).length
theorem lackK_snoc (ks : List Part) (L : List (Part × List Nat)) (q : Part × List Nat) : lackK ks (L ++ [q]) = lackK ks L + if q.1 ∈ ks then 0 else 1 := by
  unfold lackK
  rw [List.filter_append, List.length_append]
  congr 1
  by_cases h : q.1 ∈ ks <;> simp [h]
def spCk (T : List Addr) (C : Addr) : Sp := fun vs H Q E => ∃ (net pz : V) (n : Nat) (ws : Wl) (ps : List Pr), vs = [net, pz] ∧ Wf n ws ∧ Rp H (netD n ws) net ∧ Rp H (pairsD ps) pz ∧ PsOk n ps ∧
  ((∀ q ∈ ps, Cn (wedges ws) q.1 q.2) → ∀ H', Ext T noM H H' → Q .non H') ∧ ∀ k, First ws ps k → Raised T noM C "index" (.int (k : Nat)) H E
theorem ck_of {P : Program} {w : World} {K : PySem.W.Frag} {mg : Str → Option Value} {base : Heap} {T : List Addr} {C : Addr} {k : Nat} {f : Addr} {fd : FuncData} {pn : List Str} (a : FnOk P w K mg base CX0 k f fd pn (spCheck T)) (b : FnOk P w K mg base (CXn P w) k f fd pn (spApart T C)) : FnOk P w K mg base (CXn P w) k f fd pn (spCk T C) :=
  (okOr (okX0 a) b).imp fun vs H Q E ⟨net, pz, n, ws, ps, e, W, hn, hp, ok, k1, k2⟩ => by
  rcases first_or ws ps with J | ⟨k, J⟩
  · exact .inl ⟨net, pz, n, ws, ps, e, W, hn, hp, ok, J, k1 J⟩
  · exact .inr ⟨net, pz, n, ws, ps, k, e, W, hn, hp, ok, J, k2 k J⟩
def spYTold (P : Program) (w : World) (K : PySem.W.Frag) (T : List Addr) (aD C : Addr) : Sp := fun vs H Q E => ∃ (a : Yd) (S : Ys), vs = [.ref a.y] ∧ YdAt P w K aD H a S ∧ YsOk S ∧ Wd T H ∧
  ((∀ q ∈ S.ps, Cn (wedges S.ws) q.1 q.2) → ∀ (u : V) (kd : Addr) (l : List Nat) (H' : Hp), l.Perm (allT S.n (pts S.n S.ws S.ps)) → l.Pairwise (· ≤ ·) → Rp H' (chD l) u →
    YdAt P w K aD H' ⟨a.y, a.lw, a.lp, kd⟩ ⟨S.n, S.ws, S.ps, (pts S.n S.ws S.ps).map (·.1), S.many + lackK S.ks (pts S.n S.ws S.ps)⟩ → H kd = none → Ext T (fun b => b = a.y) H H' → Q u H') ∧ ∀ k, First S.ws S.ps k → Raised T noM C "index" (.int (k : Nat)) H E
theorem ext_mono {T : List Addr} {M M' : Addr → Prop} {H H' : Hp} (e : Ext T M H H') (h : ∀ b, M b → M' b) : Ext T M' H H' := ⟨fun x o m => e.kp x o fun z => m (h x z), e.tb, e.fr⟩
theorem ext_drop {T : List Addr} {M1 M2 : Addr → Prop} {H1 H2 H' : Hp} (a : Ext T M1 H1 H2) (b : Ext T M2 H2 H') (hM : ∀ b, M2 b → M1 b ∨ H1 b = none) : Ext T M1 H1 H' :=
  ⟨fun x o m e n => b.kp x o (fun z => (hM x z).elim m fun y => by rw [y] at e; cases e) (a.kp x o m e n) n, fun P hP h => b.tb P hP (a.tb P hP h), fun x h => a.fr x (b.fr x h)⟩
theorem YdAt.live {P : Program} {w : World} {K : PySem.W.Frag} {aD : Addr} {H : Hp} {a : Yd} {S : Ys} (h : YdAt P w K aD H a S) : ∀ b, YN a b → H b ≠ none := fun b e z => by
  obtain ⟨⟨dx, h1⟩, ⟨us, h2, h3⟩, ⟨vs, h4, h5⟩, ⟨xs, h6, _⟩, h7⟩ := h
  rcases e with (e | e | e) | e
  · rw [e, h1] at z; cases z
  · rw [e, h2] at z; cases z
  · rw [e, h4] at z; cases z
  · rw [e, h6] at z; cases z
def spYToldOf (P : Program) (w : World) (K : PySem.W.Frag) (T : List Addr) (aD : Addr) : Sp := fun vs H Q _ => ∃ (a : Yd) (S : Ys) (p : Part) (pv : Addr), vs = [.ref a.y, .ref pv] ∧ YdAt P w K aD H a S ∧ Rp H (partD p) (.ref pv) ∧ Wf S.n p.2.1 ∧ PsOk S.n p.2.2 ∧ (∀ q ∈ p.2.2, Cn (wedges p.2.1) q.1 q.2) ∧ Wd T H ∧
  ∀ u H', Rp H' (chD (toldL S.n p.2.1 p.2.2)) (.ref u) → YdAt P w K aD H' a { S with many := S.many + if p ∈ S.ks then 0 else 1 } → Ext T (fun b => b = a.y) H H' → Q (.ref u) H'
section
variable {P : Program} {w : World} {K : PySem.W.Frag} {mg : Str → Option Value} {base : Heap} {T : List Addr} {aC aD aApart aRefused : Addr}
theorem ok_Yard__told_of {f : Addr} {fd : FuncData} (F : Fun K "_told_of" "Yard._told_of" sYard__told_of f fd) {ftold : Addr} {fdtold : FuncData} (Ftold : Fun K "told" "told" stold ftold fdtold) (Gtold : FnOk P w K mg base CX0 10 ftold fdtold ["net", "pairs"] (spTold T)) (btold : Binds K fdtold ["net", "pairs"] []) (gtold_growths : mg "told_growths" = some (.ref ftold)) (fy : YTx K aD) : FnOk P w K mg base CX0 11 f fd ["self", "part"] (spYToldOf P w K T aD) := by
  refine F.ok scYard__told_of (fun vs H Q E h => ?_) (fun cdv A outer s H vs Q E hr h => ?_)
  · obtain ⟨a, S, p, qv, rfl, Y, rp, Wp, okp, J, wd, k⟩ := h
    rfl
  · obtain ⟨a, S, p, qv, rfl, Y, rp, Wp, okp, J, wd, k⟩ := h
    refine ⟨_, (pss_cons (ps_if (pt_cmpR (GE.op_notInP (P := P) (w := w) rfl rfl (by have := hr.un; show (A.deeper _).units + 16 < _; omega)) (pv 1) (pe_fld (pv 0) rfl) (by rfl)) (pss_cons (ps_fldaug (pv 0) pe_int in_add)
      (pss_one (ps_ret (pe_call Gtold hr (by rfl) gtold_growths Ftold.kp btold .nil pass0 (pa_cons (pe_tup (pa_cons (pe_fld (pv 0) rfl) (pa_cons (pe_ix ix_tup (pv 1) pe_int (fun _ _ => rfl)) pa_nil))) (pa_cons (pe_ix ix_tup (pv 1) pe_int (fun _ _ => rfl)) pa_nil)))))) pss_nil)
      (pss_one (ps_ret (pe_ix (GE.ix_dP (P := P) (w := w) rfl rfl (by have := hr.un; show (A.deeper _).units + 16 < _; omega)) (pe_fld (pv 0) rfl) (pv 1) (fun _ _ => rfl))))), ?_⟩
    obtain ⟨dx, hob⟩ := Y.ob
    obtain ⟨xs, x1, x2, x3, x4⟩ := Y.kn
    have hhas : hasN xs (keyK (partD p)) = decide (p ∈ S.ks) := by
      rw [hasN_get]
      rcases x4 p with ⟨g1, g2⟩ | ⟨c, g1, g2, g3⟩
      · rw [g1, decide_eq_false g2]; rfl
      · rw [g1, decide_eq_true g2]; rfl
    refine ev_if (fun Q h => ⟨_, rfl, _, rfl, a.y, aD, dx, _, _, rfl, hob, fy.cl, fy.n__known, rfl, partD p, qv, a.kd, xs, rfl, rfl, rp, dep_part p, x1, x2, _, rfl, h⟩) (fun c => ?_) (fun c => ?_)
    · rw [hhas] at c
      have hp : p ∉ S.ks := fun z => by
        rw [decide_eq_true z] at c
        exact absurd c (by decide)
      rw [if_neg hp] at k
      obtain ⟨Y1, e1⟩ := Y.obj (T := T) (many := S.many + 1) hob ⟨xs, x1, x2, x3, x4⟩
      refine ⟨_, rfl, a.y, aD, dx, _, _, rfl, hob, fy.cl, fy.n__many, rfl, _, _, rfl, rfl, dx, _, hob, by show 5 < 1000; decide, ?_⟩
      rw [show putF ("_many" : Str) (V.int ((S.many : Int) + 1)) (yf S.n a.lw a.lp a.kd S.many) = yf S.n a.lw a.lp a.kd (S.many + 1) from rfl]
      have hob1 : (upd H a.y (.ins aD dx (yf S.n a.lw a.lp a.kd (S.many + 1)))) a.y = some (.ins aD dx (yf S.n a.lw a.lp a.kd (S.many + 1))) := upd_same
      have hM : ∀ b vs, b = a.y → H b ≠ some (.tup vs) := fun b vs z y => by rw [z, hob] at y; cases y
      have rp1 := rp.ext e1 hM
      have wd1 := wd.ext e1
      generalize (upd H a.y (.ins aD dx (yf S.n a.lw a.lp a.kd (S.many + 1)))) = H1 at Y1 e1 hob1 rp1 wd1 ⊢
      obtain ⟨qa, qus, e, hq, hqr⟩ := rp1.t
      cases e
      obtain ⟨v1, r1, rfl, g1, hqr⟩ := hqr.cons
      obtain ⟨v2, r2, rfl, g2, hqr⟩ := hqr.cons
      obtain ⟨v3, r3, rfl, g3, hqr⟩ := hqr.cons
      refine ⟨_, rfl, a.y, aD, dx, _, _, rfl, hob1, fy.cl, fy.n__places, rfl, _, rfl, qv, _, _, _, rfl, rfl, SqT.of hq, at_of (j := 1) rfl rfl, by show 2 ≤ sizeLine; decide, fun nt hnt => ?_⟩
      have e2 : Ext T noM H1 (upd H1 nt (.tup [.int (S.n : Nat), v2])) := Ext.new hnt
      have g4 : Rp (upd H1 nt (.tup [.int (S.n : Nat), v2])) (netD S.n p.2.1) (.ref nt) := rp_t upd_same (rpl_cons (rp_i _) (rpl_cons (g2.x e2) rpl_nil))
      generalize (upd H1 nt (.tup [V.int (S.n : Nat), v2])) = H2 at e2 g4 ⊢
      refine ⟨_, rfl, qv, _, _, _, rfl, rfl, SqT.of (e2.tup (fun z => z) hq), at_of (j := 2) rfl rfl, _, _, S.n, p.2.1, p.2.2, rfl, Wp, g4, g3.x e2, okp, J, wd1.ext e2, fun u H3 hu e3 => ?_⟩
      obtain ⟨ua, rfl, _⟩ := ch_at hu
      exact k ua H3 hu (Y1.x (e2.trans e3)) (e1.trans (e2.trans e3).weak)
    · rw [hhas] at c
      have hp : p ∈ S.ks := Classical.byContradiction fun z => by
        rw [decide_eq_false z] at c
        exact absurd c (by decide)
      rw [if_pos hp] at k
      rcases x4 p with ⟨g1, g2⟩ | ⟨u, g1, g2, g3⟩
      · exact absurd hp g2
      exact ⟨_, rfl, a.y, aD, dx, _, _, rfl, hob, fy.cl, fy.n__known, rfl, _, rfl, partD p, qv, a.kd, u, xs, rfl, rfl, rp, dep_part p, x1, x2, g1, k u H g3 Y (Ext.refl _ _ _)⟩
theorem okX_Yard_told {f : Addr} {fd : FuncData} (F : Fun K "told" "Yard.told" sYard_told f fd) (m_tuple : mg "tuple" = none) (m_sorted : mg "sorted" = none) {fYard_task : Addr} {fdYard_task : FuncData} (FYard_task : Fun K "task" "Yard.task" sYard_task fYard_task fdYard_task) (GYard_task : FnOk P w K mg base CX0 11 fYard_task fdYard_task ["self"] (spYTask P w K T aD)) (bYard_task : Binds K fdYard_task ["self"] []) (mmYard_task : Meth K aD "task" fYard_task) {fcheck_joined : Addr} {fdcheck_joined : FuncData} (Fcheck_joined : Fun K "check_joined" "check_joined" scheck_joined fcheck_joined fdcheck_joined) (Gcheck_joined : FnOk P w K mg base (GE.CXn P w) 11 fcheck_joined fdcheck_joined ["net", "pairs"] (spCk T aApart)) (bcheck_joined : Binds K fdcheck_joined ["net", "pairs"] []) (gcheck_joined : mg "check_joined" = some (.ref fcheck_joined)) {f_parts_with_pairs : Addr} {fd_parts_with_pairs : FuncData} (F_parts_with_pairs : Fun K "_parts_with_pairs" "_parts_with_pairs" s_parts_with_pairs f_parts_with_pairs fd_parts_with_pairs) (G_parts_with_pairs : FnOk P w K mg base CX0 11 f_parts_with_pairs fd_parts_with_pairs ["net", "pairs"] (spYParts T)) (b_parts_with_pairs : Binds K fd_parts_with_pairs ["net", "pairs"] []) (g_parts_with_pairs : mg "_parts_with_pairs" = some (.ref f_parts_with_pairs)) {fYard__told_of : Addr} {fdYard__told_of : FuncData} (FYard__told_of : Fun K "_told_of" "Yard._told_of" sYard__told_of fYard__told_of fdYard__told_of) (GYard__told_of : FnOk P w K mg base CX0 11 fYard__told_of fdYard__told_of ["self", "part"] (spYToldOf P w K T aD)) (bYard__told_of : Binds K fdYard__told_of ["self", "part"] []) (mmYard__told_of : Meth K aD "_told_of" fYard__told_of) (fy : YTx K aD) : FnOk P w K mg base (GE.CXn P w) 12 f fd ["self"] (spYTold P w K T aD aApart) := by
  refine GE.funN F scYard_told (fun vs H Q E h => ?_) (fun cdv A outer s H vs Q E hr h => ?_)
  · obtain ⟨a, S, rfl, Y, YO, wd, k1, k2⟩ := h
    rfl
  · obtain ⟨a, S, rfl, Y, YO, wd, k1, k2⟩ := h
    refine ⟨_, (pss_cons (ps_asg (pe_meth0 (pv 0) fy.cl mmYard_task GYard_task hr bYard_task .nil pass0) (pg_tup (by rfl) (pgs_cons (pg_name (i := 1) scYard_told.nd rfl (Or.inl rfl)) (pgs_cons (pg_name (i := 2) scYard_told.nd rfl (Or.inl rfl)) pgs_nil))))
      (pss_cons (ps_expr (pe_callS Gcheck_joined hr (by rfl) gcheck_joined Fcheck_joined.kp bcheck_joined (fun σ => L2N.passAt (L2N.takes_of rfl rfl rfl rfl) σ) (pa_cons (pv 1) (pa_cons (pv 2) pa_nil))))
      (pss_cons (ps_set (i := 3) scYard_told.nd rfl (Or.inl rfl) (GE.pe_dnewP (P := P) (w := w) rfl rfl))
      (pss_cons (ps_set (i := 4) scYard_told.nd rfl (Or.inl rfl) (pe_lst pa_nil))
      (pss_cons (ps_for (passes_of rfl) rfl (pi_list (pe_call G_parts_with_pairs hr (by rfl) g_parts_with_pairs F_parts_with_pairs.kp b_parts_with_pairs .nil pass0 (pa_cons (pv 1) (pa_cons (pv 2) pa_nil)))) (pg_tup (by rfl) (pgs_cons (pg_name (i := 5) scYard_told.nd rfl (Or.inl rfl)) (pgs_cons (pg_name (i := 6) scYard_told.nd rfl (Or.inr rfl)) pgs_nil))) (pss_cons (ps_asg (pe_meth (pv 0) fy.cl mmYard__told_of GYard__told_of hr bYard__told_of .nil pass0 (pa_cons (pv 5) pa_nil)) (pg_sub (pv 3) (pv 5) (GE.set_dP (P := P) (w := w) rfl rfl (by have := hr.un; show (A.deeper _).units + 16 < _; omega))))
      (pss_one (ps_expr (pe_bm PySem.F.plainAttrs_list PySem.F.slot_list_extend PySem.F.type_list_extend mt_extend (pv 4) (pa_cons (pe_lc (own := [("way", 7)]) (g := (gName 7)) (tt := tYes) rfl scYard_told.nd (pi_tup (pe_ix (GE.ix_dP (P := P) (w := w) rfl rfl (by have := hr.un; show (A.deeper _).units + 16 < _; omega)) (pv 3) (pv 5) (fun _ _ => rfl))) (blkOk_by (own := [("way", 7)]) (N := ["self", "net", "pairs", "known", "choice", "part", "indexes", "way"]) (sc := defScope sYard_told) (by decide +kernel)) (fun _ _ _ _ _ => (pg_name (i := 7) scYard_told.nd rfl (Or.inl rfl))) (fun _ _ _ _ _ => pts_nil) (fun _ _ _ _ _ => (pe_ix (GE.ix_listK (K := K)) (pv 6) (pv 7) (fun _ _ => rfl)))) pa_nil))))))
      (pss_cons (ps_fld (pv 0) (pv 3) rfl)
      (pss_one (ps_ret (pe_callTy call_tuple_of (by rfl) m_tuple (by decide +kernel) (pa_cons (pe_callB cr_sorted (by rfl) m_sorted (by decide +kernel) (pa_cons (pv 4) pa_nil)) pa_nil)))))))))), ?_⟩
    obtain ⟨dx, hob⟩ := Y.ob
    refine ⟨_, rfl, a.y, dx, _, rfl, hob, by rfl, a, S, rfl, Y, YO, fun tv H1 ht e1 => ?_⟩
    obtain ⟨ta, tus, rfl, hta, htr⟩ := ht.t
    obtain ⟨net, r1, rfl, hnet, htr⟩ := htr.cons
    obtain ⟨pz, r2, rfl, hpz, htr⟩ := htr.cons
    obtain rfl := htr.nil
    refine ⟨ta, _, rfl, SqT.of hta, rfl, _, _, rfl, _, _, rfl, rfl, ?_⟩
    refine ⟨_, rfl, _, rfl, net, pz, S.n, S.ws, S.ps, rfl, YO.w, hnet, hpz, YO.p, fun J H2 e2 => ?_, fun kk F => (k2 kk F).after e1⟩
    have e02 := e1.trans e2
    have Y2 := Y.x e02
    have wd2 := wd.ext e02
    refine fun d hd => ?_
    have e3 : Ext T noM H2 (upd H2 d (dnO P w d [])) := Ext.new hd
    have hd3 : (upd H2 d (dnO P w d [])) d = some (dnO P w d []) := upd_same
    generalize (upd H2 d (dnO P w d [])) = H3 at e3 hd3 ⊢
    refine ⟨by show 0 ≤ sizeLine; decide, fun lc hlc => ?_⟩
    have e4 : Ext T noM H3 (upd H3 lc (.lst [])) := Ext.new hlc
    have hl4 : (upd H3 lc (.lst [])) lc = some (.lst []) := upd_same
    generalize (upd H3 lc (.lst [])) = H4 at e4 hl4 ⊢
    have e24 := e3.trans e4
    have hlc2 : H2 lc = none := e3.fr lc hlc
    have hd4 := e4.kp d _ (fun z => z) hd3 dnO_tbl
    have hYd : ∀ b, YN a b → b ≠ d ∧ b ≠ lc := fun b hb => ⟨fun z => Y2.live b hb (z ▸ hd), fun z => Y2.live b hb (z ▸ hlc2)⟩
    have hdl : d ≠ lc := fun z => by rw [z, hl4] at hd4; cases hd4
    refine ⟨_, rfl, _, rfl, net, pz, S.n, S.ws, S.ps, rfl, YO.w, hnet.x (e2.trans e24), hpz.x (e2.trans e24), YO.p, wd2.ext e24, fun lf H5 hlf PA e5 => ?_⟩
    obtain ⟨fus, f1, f2, f3⟩ := PA
    have Y4 := Y2.x e24
    have Y5 := Y4.x e5
    have hd5 := e5.kp d _ (fun z => z) hd4 dnO_tbl
    have hl5 := e5.lst (fun z => z) hl4
    obtain ⟨dx5, hob5⟩ := Y5.ob
    have wd5 := (wd2.ext e24).ext e5
    have hMt : ∀ b vs, (b = a.y ∨ b = d ∨ b = lc) → H5 b ≠ some (.tup vs) := fun b vs z y => by
      rcases z with z | z | z
      · rw [z, hob5] at y; cases y
      · rw [z, hd5] at y; exact dnO_tup (Option.some.inj y)
      · rw [z, hl5] at y; cases y
    have hMn : ∀ b, H4 b = none → ¬ (b = a.y ∨ b = d ∨ b = lc) := fun b hb z => by
      rcases z with z | z | z
      · exact Y4.live a.y (.inl (.inl rfl)) (z ▸ hb)
      · rw [z, hd4] at hb; cases hb
      · rw [z, hl4] at hb; cases hb
    have pl12 := pts_len YO.w.n12 S.ws S.ps
    have w24 := YO.w.ln
    have aln := allT_len S.n S.ws S.ps
    have natl : ∀ l : List Nat, (natsV l).length = l.length := fun l => by unfold natsV; rw [List.length_map]
    have KN0 : KnAt P w H5 d S.n (((pts S.n S.ws S.ps).take 0).map (·.1)) := ⟨[], hd5, (fun x hx => nomatch hx), Nat.zero_le _, fun p => .inl ⟨rfl, fun z => nomatch z⟩⟩
    refine ⟨lf, rfl, ⟨_, SqL.of f1⟩, for_list (K := K) (a := lf) (xs := fus) (fun i σ' H' => ∃ y5 y6 y7, σ' = [some (.ref a.y), some net, some pz, some (.ref d), some (.ref lc), y5, y6, y7] ∧ KnAt P w H' d S.n (((pts S.n S.ws S.ps).take i).map (·.1)) ∧ H' lc = some (.lst (natsV (allT S.n ((pts S.n S.ws S.ps).take i)))) ∧ YdAt P w K aD H' a { S with many := S.many + lackK S.ks ((pts S.n S.ws S.ps).take i) } ∧ Ext T (fun b => b = a.y ∨ b = d ∨ b = lc) H5 H') ⟨_, _, _, rfl, KN0, hl5, Y5, Ext.refl _ _ _⟩ (fun i σ' H' _ ⟨_, _, _, _, _, _, _, e⟩ => SqL.of (e.lst (hMn lf hlf) f1)) ?_ ?_⟩
    · rintro i x σ' H6 hx ⟨y5, y6, y7, rfl, KN, hl6, Y6, e6⟩
      have hi : i < (pts S.n S.ws S.ps).length := by have := (List.getElem?_eq_some_iff.mp hx).1; omega
      have hqi : (pts S.n S.ws S.ps)[i]? = some (pts S.n S.ws S.ps)[i] := List.getElem?_eq_getElem hi
      obtain ⟨v, g1, g2⟩ := f3 i _ hqi
      rw [hx] at g1
      obtain rfl := Option.some.inj g1
      obtain ⟨Wq, okq, Jq, lq, ltq, _⟩ := pts_ok YO.w YO.p J (List.getElem_mem hi)
      have aln1 := aln (i + 1)
      have hts := take_succ' hqi
      have hsn1 := allT_snoc S.n ((pts S.n S.ws S.ps).take i) (pts S.n S.ws S.ps)[i]
      have hsn2 := lackK_snoc S.ks ((pts S.n S.ws S.ps).take i) (pts S.n S.ws S.ps)[i]
      rw [← hts] at hsn1 hsn2
      have hks : ((pts S.n S.ws S.ps).take (i + 1)).map (·.1) = ((pts S.n S.ws S.ps).take i).map (·.1) ++ [(pts S.n S.ws S.ps)[i].1] := by rw [hts, List.map_append]; rfl
      have hkl : (((pts S.n S.ws S.ps).take i).map (·.1)).length ≤ 12 := by rw [List.length_map, List.length_take]; omega
      generalize (pts S.n S.ws S.ps)[i] = q at g2 Wq okq Jq lq ltq hsn1 hsn2 hks
      obtain ⟨xa, pt, il, rfl, q1, q2, q3, q4⟩ := g2.ext e6 hMn hMt
      refine ⟨xa, _, rfl, SqT.of q1, rfl, _, _, rfl, _, _, rfl, rfl, ?_⟩
      obtain ⟨dx6, hob6⟩ := Y6.ob
      refine ⟨_, rfl, a.y, dx6, _, rfl, hob6, by rfl, _, rfl, a, _, q.1, pt, rfl, Y6, q2, Wq, okq, Jq, wd5.ext e6, fun u H7 hu Y7 e7 => ?_⟩
      have hM6 : ∀ b vs, b = a.y → H6 b ≠ some (.tup vs) := fun b vs z y => by rw [z, hob6] at y; cases y
      have hdy : d ≠ a.y := fun z => (hYd a.y (.inl (.inl rfl))).1 z.symm
      have hly : lc ≠ a.y := fun z => (hYd a.y (.inl (.inl rfl))).2 z.symm
      obtain ⟨xs, x1, x2, x3, x4⟩ := KN.ext e7 hdy hM6
      have q27 := q2.ext e7 hM6
      have hl7 := e7.lst hly hl6
      have q37 := e7.lst (fun z => hMn il q4 (.inl z)) q3
      refine ⟨_, rfl, _, rfl, partD q.1, pt, d, u, xs, rfl, rfl, rfl, q27, dep_part q.1, x1, x2, by omega, ?_⟩
      have KN8 := KnAt.put x1 x2 x3 x4 q27 hu
      have e8 : Ext T (fun b => b = d) H7 (upd H7 d (dnO P w d (putN xs (keyK (partD q.1)) pt u))) := (Ext.refl _ _ H7).mut (.inr rfl) x1 dnO_tbl
      have hM7 : ∀ b vs, b = d → H7 b ≠ some (.tup vs) := fun b vs z y => by rw [z, x1] at y; exact dnO_tup (Option.some.inj y)
      have Y8 := Y7.ext e8 (fun b hb => (hYd b hb).1) hM7
      have hl8 := e8.lst (fun z => hdl z.symm) hl7
      have q28 := q27.ext e8 hM7
      have q38 := e8.lst (fun z => hMn il q4 (.inr (.inl z))) q37
      generalize (upd H7 d (dnO P w d (putN xs (keyK (partD q.1)) pt u))) = H8 at e8 KN8 Y8 hl8 q28 q38 ⊢
      obtain ⟨xs8, z1, z2, z3, z4⟩ := KN8
      obtain ⟨c, w1, w3⟩ : ∃ c, getN xs8 (keyK (partD q.1)) = some c ∧ Rp H8 (chD (toldL S.n q.1.2.1 q.1.2.2)) (.ref c) := by
        rcases z4 q.1 with ⟨_, n2⟩ | ⟨c, w1, w2, w3⟩
        · exact absurd (List.mem_append_right _ (List.mem_singleton.mpr rfl)) n2
        · exact ⟨c, w1, w3⟩
      have hc8 : H8 c = some (.tup (natsV (toldL S.n q.1.2.1 q.1.2.2))) := by
        obtain ⟨ca, e, h⟩ := ch_at w3
        cases e
        exact h
      have htl := told_len S.n q.1.2.1 q.1.2.2
      have hq24 := Wq.ln
      refine ⟨_, rfl, .inl ⟨rfl, _, SqL.of hl8⟩, _, rfl, _, rfl, partD q.1, pt, d, c, xs8, rfl, rfl, q28, dep_part q.1, z1, z2, w1, c, rfl, ⟨_, SqT.of hc8⟩, fun Dl hD => ?_⟩
      refine lc_tup (K := K) (a := c) (xs := natsV (toldL S.n q.1.2.1 q.1.2.2)) (fun j H' => Ext T noM H8 H' ∧ H' Dl = some (.lst (natsV (((toldL S.n q.1.2.1 q.1.2.2).take j).map fun k => q.2.getD k 0)))) ⟨Ext.new hD, upd_same⟩ (fun j H' _ p => SqT.of (p.1.tup (fun z => z) hc8)) ?_ ?_
      · rintro j x H9 hx9 ⟨e9, hD9⟩
        obtain ⟨k, hk, rfl⟩ : ∃ k, (toldL S.n q.1.2.1 q.1.2.2)[j]? = some k ∧ x = .int (k : Nat) := by
          unfold natsV at hx9
          rw [List.getElem?_map] at hx9
          cases e : (toldL S.n q.1.2.1 q.1.2.2)[j]? with
          | none => rw [e] at hx9; cases hx9
          | some k => rw [e] at hx9; exact ⟨k, rfl, (Option.some.inj hx9).symm⟩
        have hkl2 : k < q.2.length := by rw [lq]; exact told_lt (List.mem_of_getElem? hk)
        have hjl := (List.getElem?_eq_some_iff.mp hk).1
        have hgk : (natsV q.2)[k]? = some (.int (q.2.getD k 0 : Nat)) := by
          unfold natsV
          rw [List.getElem?_map, List.getD_eq_getElem?_getD, List.getElem?_eq_getElem hkl2]; rfl
        refine ⟨rfl, tYesI ?_⟩
        refine ⟨_, rfl, _, rfl, il, _, _, _, rfl, rfl, SqL.of (e9.lst (fun z => z) q38), at_of (j := k) rfl hgk, _, hD9, ?_, e9.mut (.inl hD) hD9 ltbl, ?_⟩
        · rw [natl, List.length_map, List.length_take]; exact small1000 (by omega)
        · rw [upd_same, take_succ' hk, List.map_append]; unfold natsV; rw [List.map_append]; rfl
      · rintro H9 ⟨e9, hD9⟩
        rw [natl, List.take_length] at hD9
        have hl9 := e9.lst (fun z => z) hl8
        have hn9 : natsV (allT S.n ((pts S.n S.ws S.ps).take i)) ++ natsV (tlP S.n q) = natsV (allT S.n ((pts S.n S.ws S.ps).take (i + 1))) := by
          rw [hsn1]; unfold natsV; rw [List.map_append]
        have x9 : Ext T (fun b => b = lc) H9 (upd H9 lc (.lst (natsV (allT S.n ((pts S.n S.ws S.ps).take i)) ++ natsV (tlP S.n q)))) := (Ext.refl _ _ H9).mut (.inr rfl) hl9 ltbl
        have hM9 : ∀ b vs, b = lc → H9 b ≠ some (.tup vs) := fun b vs z y => by rw [z, hl9] at y; cases y
        rw [hsn1, List.length_append] at aln1
        have KN9 : KnAt P w H9 d S.n (((pts S.n S.ws S.ps).take (i + 1)).map (·.1)) := by
          rw [hks]
          exact KnAt.ext ⟨xs8, z1, z2, z3, z4⟩ e9 (fun z => z) fun _ _ m => m.elim
        refine ⟨lc, Dl, _, _, rfl, rfl, hl9, hD9, ?_, _, _, _, rfl, KN9.ext x9 hdl hM9, by rw [upd_same]; exact congrArg _ (congrArg _ hn9), ?_, ?_⟩
        · rw [natl, natl, List.length_map]
          have : (tlP S.n q).length = (toldL S.n q.1.2.1 q.1.2.2).length := by unfold tlP; rw [List.length_map]
          exact Nat.le_of_lt (small1000 (by omega))
        · have Y9 := (Y8.x e9).ext x9 (fun b hb => (hYd b hb).2) hM9
          rw [hsn2, ← Nat.add_assoc]
          exact Y9
        · exact e6.trans (((ext_mono e7 fun b z => .inl z).trans (ext_mono e8 fun b z => .inr (.inl z))).trans (e9.weak.trans (ext_mono x9 fun b z => .inr (.inr z))))
    · rintro σ' H6 ⟨y5, y6, y7, rfl, KN, hl6, Y6, e6⟩
      have aln := aln (pts S.n S.ws S.ps).length
      rw [List.take_length] at aln
      rw [f2, List.take_length] at KN hl6 Y6
      obtain ⟨dx6, hob6⟩ := Y6.ob
      obtain ⟨Y7, x7⟩ := Y6.obj (T := T) (many := S.many + lackK S.ks (pts S.n S.ws S.ps)) hob6 KN
      refine ⟨_, rfl, _, rfl, a.y, aD, dx6, _, rfl, hob6, fy.cl, fy.n__known, by show 5 < 1000; decide, ?_⟩
      have hly : lc ≠ a.y := fun z => (hYd a.y (.inl (.inl rfl))).2 z.symm
      have hl7 := x7.lst hly hl6
      rw [show putF ("_known" : Str) (V.ref d) (yf S.n a.lw a.lp a.kd (S.many + lackK S.ks (pts S.n S.ws S.ps))) = yf S.n a.lw a.lp d (S.many + lackK S.ks (pts S.n S.ws S.ps)) from rfl]
      generalize (upd H6 a.y (.ins aD dx6 (yf S.n a.lw a.lp d (S.many + lackK S.ks (pts S.n S.ws S.ps))))) = H7 at Y7 x7 hl7 ⊢
      have efs : natsV (allT S.n (pts S.n S.ws S.ps)) = ((allT S.n (pts S.n S.ws S.ps)).map fun x : Nat => (x : Int)).map V.int := by unfold natsV; rw [List.map_map]; rfl
      rw [efs] at hl7
      refine ⟨_, rfl, lc, _, rfl, SqL.of hl7, by rw [List.length_map]; omega, fun ns lq hperm hsort hlq => ?_⟩
      obtain ⟨l, hpl, rfl⟩ := GE.perm_lift (fun x : Nat => (x : Int)) hperm.symm _ rfl
      have hpw : l.Pairwise (· ≤ ·) := by
        rw [List.pairwise_map] at hsort
        exact hsort.imp fun h => Int.ofNat_le.mp h
      have eS : (l.map fun x : Nat => (x : Int)).map V.int = natsV l := by unfold natsV; rw [List.map_map]; rfl
      rw [eS]
      have e8 : Ext T noM H7 (upd H7 lq (.lst (natsV l))) := Ext.new hlq
      have hq8 : (upd H7 lq (.lst (natsV l))) lq = some (.lst (natsV l)) := upd_same
      generalize (upd H7 lq (.lst (natsV l))) = H8 at e8 hq8 ⊢
      refine ⟨lq, _, rfl, .inl ⟨SqL.of hq8, fun tq htq => ?_⟩⟩
      have e9 : Ext T noM H8 (upd H8 tq (.tup (natsV l))) := Ext.new htq
      have hd0 : H d = none := e02.fr d hd
      have hlc0 : H lc = none := e02.fr lc hlc2
      refine k1 J (.ref tq) d l _ hpl hpw (rp_ch (cs := l) upd_same) (Y7.x (e8.trans e9)) hd0 ?_
      have ea : Ext T (fun b => b = a.y) H H6 := ext_drop ((e02.trans e24).trans e5).weak e6 fun b z => by
        rcases z with z | z | z
        · exact .inl z
        · exact .inr (z ▸ hd0)
        · exact .inr (z ▸ hlc0)
      exact (ea.trans x7).trans (e8.trans e9).weak
end
end Mw

set_option Elab.async false
set_option linter.all false
set_option maxRecDepth 100000
set_option maxHeartbeats 4000000
namespace Mw
open PySem PySem.Spec PyProof.Rows L2 GE
/-! ### what is told of a net is what is told of its parts -/
section
variable {n : Nat} {ws ws1 : Wl} {pl : List Nat} {f : Nat → Nat} {ps ps1 : List Pr}
/-- outside a closed set of places nothing hangs on a way within -/
theorem out_cn {cs : List Nat} {c : Nat} (hcl : ∀ x, x ∈ cs → ((wyAt ws x).1 ∈ pl ↔ (wyAt ws x).2.1 ∈ pl)) (hc : (wyAt ws c).1 ∈ pl) {a b : Nat} (ha : a ∉ pl) (h : Cn (edg ws cs) a b) : Cn (edg ws (outc c cs)) a b := by
  have := (h.inv (P := fun x => x ∉ pl ∧ Cn (edg ws (outc c cs)) a x) fun e he => by
    obtain ⟨x, hx, rfl⟩ := mem_edg.mp he
    by_cases z : (wyAt ws x).1 ∈ pl
    · exact ⟨fun y => absurd z y.1, fun y => absurd ((hcl x hx).mp z) y.1⟩
    · have z2 : (wyAt ws x).2.1 ∉ pl := fun y => z ((hcl x hx).mpr y)
      have hm : ((wyAt ws x).1, (wyAt ws x).2.1) ∈ edg ws (outc c cs) := mem_edg.mpr ⟨x, mem_outc.mpr ⟨hx, fun e => z (by rw [e]; exact hc)⟩, rfl⟩
      exact ⟨fun y => ⟨z2, y.2.fwd hm⟩, fun y => ⟨z, y.2.bwd hm⟩⟩).mp ⟨ha, .refl _⟩
  exact this.2
theorem Sub.told (M : Sub n ws ws1 pl f ps ps1) (W : Wf n ws) (ok : PsOk n ps) (J : ∀ q ∈ ps, Cn (wedges ws) q.1 q.2) (W1 : Wf n ws1) (ok1 : PsOk n ps1) (J1 : ∀ q ∈ ps1, Cn (wedges ws1) q.1 q.2) {i : Nat} (hi : i < ws1.length) : f i ∈ toldL n ws ps ↔ i ∈ toldL n ws1 ps1 := by
  obtain ⟨T0, j0, _⟩ := tkF_ok W ok J
  obtain ⟨T1, j1, _⟩ := tkF_ok W1 ok1 J1
  have tk : ∀ k, k < ws1.length → (f k ∈ tkF n ws ps ↔ k ∈ tkF n ws1 ps1) := (Up.final (wf_ok W) (wf_ok W1) M J J1).t
  have wa : ∀ k, k < ws1.length → wyAt ws (f k) = wyAt ws1 k := fun k hk => (M.a k hk).2
  have hcl : ∀ x, x < ws.length → ((wyAt ws x).1 ∈ pl ↔ (wyAt ws x).2.1 ∈ pl) := fun x hx => by
    rcases M.c x hx with ⟨k, hk, rfl⟩ | o
    · rw [wa k hk]
      exact ⟨fun _ => (M.i1 k hk).2, fun _ => (M.i1 k hk).1⟩
    · exact ⟨fun z => absurd z o.1, fun z => absurd z o.2⟩
  have l0 : ∀ x ∈ outc (f i) (tkF n ws ps), x < ws.length := fun x hx => T0.lt x (mem_outc.mp hx).1
  have l1 : ∀ x ∈ outc i (tkF n ws1 ps1), x < ws1.length := fun x hx => T1.lt x (mem_outc.mp hx).1
  have key : jn ws (outc (f i) (tkF n ws ps)) ps = true ↔ jn ws1 (outc i (tkF n ws1 ps1)) ps1 = true := by
    rw [jn_iff W ok l0, jn_iff W1 ok1 l1]
    have j0 := (jn_iff W ok T0.lt).mp j0
    constructor
    · intro h q hq
      obtain ⟨q1, q2⟩ := (M.p q).mp hq
      have := ((h q q1).inv (P := fun x => x ∈ pl ∧ Cn (edg ws1 (outc i (tkF n ws1 ps1))) q.1 x) fun e he => by
        obtain ⟨x, hx, rfl⟩ := mem_edg.mp he
        obtain ⟨x1, x2⟩ := mem_outc.mp hx
        rcases M.c x (T0.lt x x1) with ⟨k, hk, rfl⟩ | o
        · have hm : ((wyAt ws1 k).1, (wyAt ws1 k).2.1) ∈ edg ws1 (outc i (tkF n ws1 ps1)) := mem_edg.mpr ⟨k, mem_outc.mpr ⟨(tk k hk).mp x1, fun e => x2 (by rw [e])⟩, rfl⟩
          rw [wa k hk]
          exact ⟨fun y => ⟨(M.i1 k hk).2, y.2.fwd hm⟩, fun y => ⟨(M.i1 k hk).1, y.2.bwd hm⟩⟩
        · exact ⟨fun y => absurd y.1 o.1, fun y => absurd y.1 o.2⟩).mp ⟨q2, .refl _⟩
      exact this.2
    · intro h q hq
      by_cases z : q.1 ∈ pl
      · refine (h q ((M.p q).mpr ⟨hq, z⟩)).mono fun e he => ?_
        obtain ⟨k, hk, rfl⟩ := mem_edg.mp he
        obtain ⟨k1, k2⟩ := mem_outc.mp hk
        have hkl := T1.lt k k1
        exact mem_edg.mpr ⟨f k, mem_outc.mpr ⟨(tk k hkl).mpr k1, fun e => k2 (M.inj hkl hi e)⟩, by rw [wa k hkl]⟩
      · exact out_cn (fun x hx => hcl x (T0.lt x hx)) (by rw [wa i hi]; exact (M.i1 i hi).1) z (j0 q hq)
  rw [mem_told T0, mem_told T1, tk i hi]
  refine and_congr Iff.rfl ?_
  unfold need
  rw [Bool.not_eq_true', Bool.not_eq_true', ← Bool.not_eq_true, ← Bool.not_eq_true]
  exact not_congr key
/-- a told way lies in a part with a pair -/
theorem told_own (W : Wf n ws) (ok : PsOk n ps) (J : ∀ q ∈ ps, Cn (wedges ws) q.1 q.2) (hcl : ∀ x, x < ws.length → ((wyAt ws x).1 ∈ pl ↔ (wyAt ws x).2.1 ∈ pl)) {c : Nat} (hc : c ∈ toldL n ws ps) (hp : (wyAt ws c).1 ∈ pl) : ownP pl ps ≠ [] := fun z => by
  obtain ⟨T0, j0, _⟩ := tkF_ok W ok J
  obtain ⟨h1, h2⟩ := (mem_told T0).mp hc
  have j0 := (jn_iff W ok T0.lt).mp j0
  have : jn ws (outc c (tkF n ws ps)) ps = true := (jn_iff W ok fun x hx => T0.lt x (mem_outc.mp hx).1).mpr fun q hq => out_cn (fun x hx => hcl x (T0.lt x hx)) hp (fun y => by
    have hm : q ∈ ownP pl ps := List.mem_filter.mpr ⟨hq, decide_eq_true y⟩
    rw [z] at hm; cases hm) (j0 q hq)
  unfold need at h2
  rw [this] at h2
  cases h2
end
theorem cls_closed {n : Nat} {ws : Wl} (W : Wf n ws) (r : Nat) {c : Nat} (hc : c < ws.length) : (wyAt ws c).1 ∈ cls (hom ws (List.range ws.length)) n r ↔ (wyAt ws c).2.1 ∈ cls (hom ws (List.range ws.length)) n r := by
  obtain ⟨_, o1, o2, _⟩ := wy_ok W hc
  have e : hom ws (List.range ws.length) (wyAt ws c).1 = hom ws (List.range ws.length) (wyAt ws c).2.1 := (joined_iff W (by omega) o2).mpr (.fwd (.refl _) (mem_wed.mpr ⟨c, hc, rfl⟩))
  rw [mem_cls, mem_cls, e]
  exact ⟨fun z => ⟨o2, z.2⟩, fun z => ⟨by omega, z.2⟩⟩
theorem part_sub {n : Nat} {ws : Wl} {ps : List Pr} (W : Wf n ws) (ok : PsOk n ps) (J : ∀ q ∈ ps, Cn (wedges ws) q.1 q.2) (r : Nat) :
    Sub n ws ((ixsP ws (cls (hom ws (List.range ws.length)) n r)).map (wyAt ws)) (cls (hom ws (List.range ws.length)) n r) (fun k => (ixsP ws (cls (hom ws (List.range ws.length)) n r)).getD k 0) ps (ownP (cls (hom ws (List.range ws.length)) n r) ps) := by
  have cc := fun c (hc : c < ws.length) => cls_closed W r hc
  have pj : ∀ q ∈ ps, (q.1 ∈ cls (hom ws (List.range ws.length)) n r ↔ q.2 ∈ cls (hom ws (List.range ws.length)) n r) := fun q hq => by
    have hb := ok.ok q hq
    have e := (joined_iff W (show q.1 < n by omega) hb.2).mpr (J q hq)
    rw [mem_cls, mem_cls, e]
    exact ⟨fun z => ⟨hb.2, z.2⟩, fun z => ⟨by omega, z.2⟩⟩
  have hl : ∀ x ∈ cls (hom ws (List.range ws.length)) n r, x < n := fun x hx => (mem_cls.mp hx).1
  generalize cls (hom ws (List.range ws.length)) n r = pl at cc pj hl
  have lm : ((ixsP ws pl).map (wyAt ws)).length = (ixsP ws pl).length := List.length_map ..
  have get : ∀ k, k < (ixsP ws pl).length → (ixsP ws pl)[k]? = some ((ixsP ws pl).getD k 0) := fun k hk => by rw [List.getD_eq_getElem?_getD, List.getElem?_eq_getElem hk]; rfl
  have mem : ∀ k, k < (ixsP ws pl).length → (ixsP ws pl).getD k 0 ∈ ixsP ws pl := fun k hk => List.mem_of_getElem? (get k hk)
  have wy : ∀ k, k < (ixsP ws pl).length → way ((ixsP ws pl).map (wyAt ws)) k = wyAt ws ((ixsP ws pl).getD k 0) := fun k hk => by
    show ((ixsP ws pl).map (wyAt ws)).getD k (0, 0, 0) = _
    rw [List.getD_eq_getElem?_getD, List.getElem?_map, get k hk]; rfl
  have i1 : ∀ k, k < (ixsP ws pl).length → (wyAt ws ((ixsP ws pl).getD k 0)).1 ∈ pl := fun k hk => of_decide_eq_true (List.mem_filter.mp (mem k hk)).2
  refine ⟨fun k hk => ?_, fun k hk => ?_, fun i j hij hj => ?_, fun c hc => ?_, fun q => ?_, pj, hl, fun q hq => ?_⟩
  · rw [lm] at hk
    exact ⟨ixs_lt (mem k hk), (wy k hk).symm⟩
  · rw [lm] at hk
    rw [wy k hk]
    exact ⟨i1 k hk, (cc _ (ixs_lt (mem k hk))).mp (i1 k hk)⟩
  · rw [lm] at hj
    have hi : i < (ixsP ws pl).length := by omega
    have := List.pairwise_iff_getElem.mp (ixs_pw ws pl) i j hi hj hij
    show (ixsP ws pl).getD i 0 < (ixsP ws pl).getD j 0
    rw [List.getD_eq_getElem?_getD, List.getD_eq_getElem?_getD, List.getElem?_eq_getElem hi, List.getElem?_eq_getElem hj]
    exact this
  · by_cases z : (wyAt ws c).1 ∈ pl
    · have hm : c ∈ ixsP ws pl := List.mem_filter.mpr ⟨List.mem_range.mpr hc, decide_eq_true z⟩
      obtain ⟨k, hk, e⟩ := List.getElem_of_mem hm
      refine .inl ⟨k, by rw [lm]; exact hk, ?_⟩
      show c = (ixsP ws pl).getD k 0
      rw [List.getD_eq_getElem?_getD, List.getElem?_eq_getElem hk, e]; rfl
    · exact .inr ⟨z, fun y => z ((cc c hc).mpr y)⟩
  · unfold ownP
    rw [List.mem_filter, decide_eq_true_eq]
  · have := ok.ok q hq; omega
/-- what is told of the parts, one after another, is what is told of the net -/
theorem parts_told {n : Nat} {ws : Wl} {ps : List Pr} (W : Wf n ws) (ok : PsOk n ps) (J : ∀ q ∈ ps, Cn (wedges ws) q.1 q.2) (c : Nat) : c ∈ allT n (pts n ws ps) ↔ c ∈ toldL n ws ps := by
  constructor
  · intro h
    unfold allT at h
    obtain ⟨q, hq, hc⟩ := List.mem_flatMap.mp h
    obtain ⟨w1, w2, w3, _⟩ := pts_ok W ok J hq
    obtain ⟨pl, h1, _, rfl⟩ := mem_ptsL hq
    unfold grps at h1
    obtain ⟨r, hr, rfl⟩ := List.mem_map.mp h1
    obtain ⟨k, hk, rfl⟩ := List.mem_map.mp hc
    exact ((part_sub W ok J r).told W ok J w1 w2 w3 (told_lt hk)).mpr hk
  · intro h
    have hcl := told_lt h
    obtain ⟨_, o1, o2, _⟩ := wy_ok W hcl
    have HM := hom_ok W (List.range ws.length) fun c hc => List.mem_range.mp hc
    have hn : (wyAt ws c).1 < n := by omega
    have hin : (wyAt ws c).1 ∈ cls (hom ws (List.range ws.length)) n (hom ws (List.range ws.length) (wyAt ws c).1) := mem_cls.mpr ⟨hn, (HM.idem _ hn).symm⟩
    have hr : hom ws (List.range ws.length) (wyAt ws c).1 ∈ reps (hom ws (List.range ws.length)) n := mem_reps'.mpr ⟨by have := HM.le _ hn; omega, HM.idem _ hn⟩
    have hown := told_own (pl := cls (hom ws (List.range ws.length)) n (hom ws (List.range ws.length) (wyAt ws c).1)) W ok J (fun x hx => cls_closed W _ hx) h hin
    have hq : (partOf ws ps (cls (hom ws (List.range ws.length)) n (hom ws (List.range ws.length) (wyAt ws c).1)), ixsP ws (cls (hom ws (List.range ws.length)) n (hom ws (List.range ws.length) (wyAt ws c).1))) ∈ pts n ws ps := by
      unfold pts ptsL grps
      exact List.mem_filterMap.mpr ⟨_, List.mem_map.mpr ⟨_, hr, rfl⟩, if_neg hown⟩
    obtain ⟨w1, w2, w3, _⟩ := pts_ok W ok J hq
    have M := part_sub W ok J (hom ws (List.range ws.length) (wyAt ws c).1)
    unfold allT
    refine List.mem_flatMap.mpr ⟨_, hq, ?_⟩
    rcases M.c c hcl with ⟨k, hk, e⟩ | o
    · exact List.mem_map.mpr ⟨k, (M.told W ok J w1 w2 w3 hk).mp (e ▸ h), e.symm⟩
    · exact absurd hin o.1
theorem told_is {n : Nat} {ws : Wl} {ps : List Pr} {l : List Nat} (W : Wf n ws) (ok : PsOk n ps) (J : ∀ q ∈ ps, Cn (wedges ws) q.1 q.2) (hp : l.Perm (allT n (pts n ws ps))) (hs : l.Pairwise (· ≤ ·)) : l = toldL n ws ps := by
  have nd : l.Nodup := hp.nodup_iff.mpr allT_nodup
  have pw : l.Pairwise (· < ·) := (List.pairwise_and_iff.mpr ⟨hs, nd⟩).imp fun h => Nat.lt_of_le_of_ne h.1 h.2
  exact sorted_ext pw (toldL_pw n ws ps) fun x => hp.mem_iff.trans (parts_told W ok J x)
end Mw

set_option Elab.async false
set_option linter.all false
set_option maxRecDepth 100000
set_option maxHeartbeats 4000000
namespace Mw
open PySem PySem.Spec PyProof.Rows L2 GE
def spLGroups (T : List Addr) : Sp := fun vs H Q _ => ∃ (net ch : V) (n : Nat) (ws : List Wy) (cs : List Nat), vs = [net, ch] ∧ TaskL H n ws cs net ch ∧ ∀ v H', Rp H' (grpD (hom ws cs) n) v → Ext T noM H H' → Q v H'
/-- the parts with a pair, as the law finds them -/
def spLParts (T : List Addr) : Sp := fun vs H Q _ => ∃ (net pz : V) (n : Nat) (ws : Wl) (ps : List Pr), vs = [net, pz] ∧ Wf n ws ∧ Rp H (netD n ws) net ∧ Rp H (pairsD ps) pz ∧ PsOk n ps ∧
  ∀ (l : Addr) us H', H l = none → H' l = some (.lst us) → RpL H' ((pts n ws ps).map fun q => partD q.1) us → Ext T noM H H' → Q (.ref l) H'
/-- two ends, near or not -/
theorem ws_ix (ws : Wl) (pl : List Nat) : ws.filter (fun q => decide (q.1 ∈ pl)) = (ixsP ws pl).map (wyAt ws) := by
  have e : ws = (List.range ws.length).map (wyAt ws) := by
    refine List.ext_getElem? fun i => ?_
    rw [List.getElem?_map]
    by_cases h : i < ws.length
    · rw [List.getElem?_range h, List.getElem?_eq_getElem h]
      show _ = some (ws.getD i (0, 0, 0))
      rw [List.getD_eq_getElem?_getD, List.getElem?_eq_getElem h]; rfl
    · rw [List.getElem?_eq_none (by omega), List.getElem?_eq_none (by rw [List.length_range]; omega)]; rfl
  unfold ixsP
  conv => lhs; rw [e]
  rw [List.filter_map]; rfl
def spNear (T : List Addr) : Sp := fun vs H Q _ => ∃ (p s : Addr) (n : Nat), vs = [.ref p, .int (n : Nat)] ∧ PoolAt H p s ∧ 2 ≤ n ∧ n ≤ 1000 ∧ ∀ (t : Addr) (q : Pr) H', q.1 < q.2 → q.2 < n → H' t = some (.tup [.int (q.1 : Nat), .int (q.2 : Nat)]) → PoolAt H' p s → Ext T (atP p) H H' → Q (.ref t) H'
section
variable {P : Program} {w : World} {K : PySem.W.Frag} {mg : Str → Option Value} {base : Heap} {T : List Addr} {aC aD aApart aRefused : Addr}
theorem ok__law_groups {f : Addr} {fd : FuncData} (F : Fun K "_law_groups" "_law_groups" s_law_groups f fd) (m_range : mg "range" = none) (m_tuple : mg "tuple" = none) {f_law_group : Addr} {fd_law_group : FuncData} (F_law_group : Fun K "_law_group" "_law_group" s_law_group f_law_group fd_law_group) (G_law_group : FnOk P w K mg base CX0 1 f_law_group fd_law_group ["net", "choice", "place"] (spLGroup T)) (b_law_group : Binds K fd_law_group ["net", "choice", "place"] []) (g_law_group : mg "_law_group" = some (.ref f_law_group)) : FnOk P w K mg base CX0 2 f fd ["net", "choice"] (spLGroups T) := by
  refine F.ok sc_law_groups (fun vs H Q E h => ?_) (fun cdv A outer s H vs Q E hr h => ?_)
  · obtain ⟨net, ch, n, ws, cs, rfl, t, k⟩ := h
    rfl
  · obtain ⟨net, ch, n, ws, cs, rfl, t, k⟩ := h
    refine ⟨_, (pss_cons (ps_set (i := 2) sc_law_groups.nd rfl (Or.inl rfl) (pe_lst pa_nil))
      (pss_cons (ps_for PassesOwn.never rfl (pi_range1 (by rfl) m_range (pa_cons (pe_ix ix_tup (pv 0) pe_int (fun _ _ => rfl)) pa_nil)) (pg_name (i := 3) sc_law_groups.nd rfl (Or.inl rfl)) (pss_cons (ps_set (i := 4) sc_law_groups.nd rfl (Or.inl rfl) (pe_call G_law_group hr (by rfl) g_law_group F_law_group.kp b_law_group .nil pass0 (pa_cons (pv 0) (pa_cons (pv 1) (pa_cons (pv 3) pa_nil)))))
      (pss_one (ps_if (pt_cmpR op_eq (pe_ix ix_tup (pv 4) pe_int (fun _ _ => rfl)) (pv 3) (nomark _)) (pss_one (ps_expr (pe_bm PySem.F.plainAttrs_list PySem.F.slot_list_append PySem.F.type_list_append mt_append (pv 2) (pa_cons (pv 4) pa_nil)))) pss_nil))))
      (pss_one (ps_ret (pe_callTy call_tuple_of (by rfl) m_tuple (by decide +kernel) (pa_cons (pv 2) pa_nil)))))), ?_⟩
    obtain ⟨W, Clt, Cln, hnet, hch⟩ := _root_.id t
    have HM := hom_ok W cs Clt
    obtain ⟨na, nb, us, rfl, ha, hb, hus⟩ := net_at hnet
    have n12 := W.n12
    refine ⟨by show 0 ≤ sizeLine; decide, fun l hl => ?_⟩
    have e1 : Ext T noM H (upd H l (.lst [])) := Ext.new hl
    refine ⟨_, rfl, na, _, _, _, rfl, rfl, SqT.of (e1.tup (fun z => z) ha), at_of (j := 0) rfl rfl, n, rfl, by omega, by omega, ?_⟩
    refine for_range (lo := 0) (n := ((n : Int) - 0).toNat) (fun i σ' H' => ∃ vs y3 y4, σ' = [some (.ref na), some ch, some (.ref l), y3, y4] ∧ H' l = some (.lst vs) ∧ RpL H' ((reps (hom ws cs) i).map fun r => D.t ((cls (hom ws cs) n r).map fun (x : Nat) => .i (x : Int))) vs ∧ Ext T noM H H')
      ⟨[], none, none, rfl, upd_same, rpl_nil, e1⟩ ?_ ?_
    · rintro i σ' H2 hi ⟨vs, y3, y4, rfl, hl2, r, e2⟩
      have hi' : i < n := by omega
      have hlen := reps_len (hom ws cs) i
      refine ⟨_, rfl, _, rfl, _, rfl, .ref na, ch, n, ws, cs, i, by rw [Int.zero_add]; rfl, t.x e2, hi', fun a H3 hA e3 => ?_⟩
      have hl3 := e3.lst (fun z => z) hl2
      obtain ⟨rr, hr⟩ := cls_head HM hi'
      have hA' : H3 a = some (.tup (V.int (hom ws cs i : Nat) :: natsV rr)) := by rw [hA, hr]; rfl
      refine ⟨_, rfl, a, _, _, _, rfl, rfl, SqT.of hA', at_of (j := 0) rfl rfl, _, rfl, rfl, _, rfl, ?_⟩
      have hsn := reps_succ (hom ws cs) i
      have r3 := RpL.x e3 r
      refine ite2 (fun q => ?_) (fun q => ?_)
      · have q' := of_decide_eq_true q
        rw [Int.zero_add] at q'
        have q2 := vint_inj.mp q'
        rw [if_pos q2] at hsn
        refine ⟨_, rfl, .inl ⟨rfl, _, SqL.of hl3⟩, _, rfl, l, _, _, rfl, rfl, hl3, ?_, _, _, _, rfl, upd_same, ?_, (e2.trans e3).mut (.inl hl) hl3 ltbl⟩
        · rw [r3.len, List.length_map]; exact small1000 (by omega)
        · rw [hsn, List.map_append]
          refine rpl_upd (RpL.snoc r3 (rp_t hA ?_)) hl3
          have e2 := rpl_ints (H := H3) ((cls (hom ws cs) n i).map fun x : Nat => (x : Int))
          rw [List.map_map, List.map_map] at e2
          exact e2
      · have q2 : ¬ hom ws cs i = i := fun z => q (decide_eq_true (by rw [Int.zero_add]; exact vint_inj.mpr z))
        rw [if_neg q2, List.append_nil] at hsn
        exact ⟨_, _, _, rfl, hl3, by rw [hsn]; exact r3, e2.trans e3⟩
    · rintro σ' H2 ⟨vs, y3, y4, rfl, hl2, r, e2⟩
      have en : ((n : Int) - 0).toNat = n := by omega
      rw [en] at r
      refine ⟨_, rfl, l, vs, rfl, .inl ⟨SqL.of hl2, fun t ht => k _ _ (rp_t upd_same ?_) (e2.trans (Ext.new ht))⟩⟩
      unfold grps
      rw [List.map_map]
      exact RpL.x (Ext.new (T := T) ht) r
theorem ok__law_near {f : Addr} {fd : FuncData} (F : Fun K "_law_near" "_law_near" s_law_near f fd) (m_min : mg "min" = none) {f_law_draw : Addr} {fd_law_draw : FuncData} (F_law_draw : Fun K "_law_draw" "_law_draw" s_law_draw f_law_draw fd_law_draw) (G_law_draw : FnOk P w K mg base CX0 1 f_law_draw fd_law_draw ["pool", "many"] (spDraw T)) (b_law_draw : Binds K fd_law_draw ["pool", "many"] []) (g_law_draw : mg "_law_draw" = some (.ref f_law_draw)) : FnOk P w K mg base CX0 2 f fd ["pool", "places"] (spNear T) := by
  refine F.ok sc_law_near (fun vs H Q E h => ?_) (fun cdv A outer s H vs Q E hr h => ?_)
  · obtain ⟨p, s, n, rfl, hP, h2, h1000, k⟩ := h
    rfl
  · obtain ⟨p, s, n, rfl, hP, h2, h1000, k⟩ := h
    refine ⟨_, (pss_cons (ps_set (i := 2) sc_law_near.nd rfl (Or.inl rfl) (pe_call G_law_draw hr (by rfl) g_law_draw F_law_draw.kp b_law_draw .nil pass0 (pa_cons (pv 0) (pa_cons (pe_op op_sub (pv 1) pe_int) pa_nil))))
      (pss_cons (ps_if (pt_cmpR op_eq (pe_call G_law_draw hr (by rfl) g_law_draw F_law_draw.kp b_law_draw .nil pass0 (pa_cons (pv 0) (pa_cons pe_int pa_nil))) pe_int (nomark _)) (pss_one (ps_ret (pe_tup (pa_cons (pv 2) (pa_cons (pe_op op_add (pe_op op_add (pv 2) pe_int) (pe_call G_law_draw hr (by rfl) g_law_draw F_law_draw.kp b_law_draw .nil pass0 (pa_cons (pv 0) (pa_cons (pe_op op_sub (pe_op op_sub (pv 1) pe_int) (pv 2)) pa_nil)))) pa_nil))))) pss_nil)
      (pss_one (ps_ret (pe_tup (pa_cons (pv 2) (pa_cons (pe_callB (call_min2 rfl) (by rfl) m_min (by decide +kernel) (pa_cons (pe_op op_sub (pv 1) pe_int) (pa_cons (pe_op op_add (pe_op op_add (pv 2) pe_int) (pe_call G_law_draw hr (by rfl) g_law_draw F_law_draw.kp b_law_draw .nil pass0 (pa_cons (pv 0) (pa_cons pe_int pa_nil)))) pa_nil))) pa_nil))))))), ?_⟩
    refine ⟨_, rfl, _, rfl, _, _, rfl, rfl, p, s, _, rfl, hP, by omega, by omega, fun r H1 r0 r1 hP1 e1 => ?_⟩
    obtain ⟨a, rfl⟩ := nat_of r0
    dsimp only [gName]
    refine ⟨_, rfl, p, s, _, rfl, hP1, by decide, by decide, fun r2 H2 r20 r21 hP2 e2 => ⟨rfl, _, rfl, ?_⟩⟩
    have e02 := e1.trans e2
    refine ite2 (fun c => ?_) (fun c => ?_)
    · refine ⟨_, rfl, _, rfl, _, _, rfl, rfl, _, rfl, _, rfl, _, _, rfl, rfl, _, rfl, _, _, rfl, rfl, p, s, _, rfl, hP2, by omega, by omega, fun r3 H3 r30 r31 hP3 e3 => ?_⟩
      obtain ⟨b, rfl⟩ := nat_of r30
      refine ⟨_, _, rfl, rfl, by show 2 ≤ sizeLine; decide, fun t ht => ?_⟩
      refine k t (a, a + 1 + b) _ (by show a < a + 1 + b; omega) (by show a + 1 + b < n; omega) (by rw [upd_same]; push_cast; rfl) (hP3.keep (T := T) (Ext.new ht)) ((e02.trans e3).trans (Ext.new ht))
    · try unfold tNext
      try dsimp only
      try unfold tSeq
      refine ⟨_, rfl, _, rfl, _, _, rfl, rfl, _, rfl, _, _, rfl, rfl, _, rfl, p, s, _, rfl, hP2, by decide, by decide, fun r3 H3 r30 r31 hP3 e3 => ?_⟩
      obtain ⟨b, rfl⟩ := nat_of r30
      refine ⟨_, _, rfl, rfl, _, _, rfl, by show 2 ≤ sizeLine; decide, fun t ht => ?_⟩
      refine k t (a, min (n - 1) (a + 1 + b)) _ (by show a < min (n - 1) (a + 1 + b); omega) (by show min (n - 1) (a + 1 + b) < n; omega) ?_ (hP3.keep (T := T) (Ext.new ht)) ((e02.trans e3).trans (Ext.new ht))
      rw [upd_same]
      have : (if ((a : Int) + 1 + (b : Int)) < ((n : Int) - 1) then ((a : Int) + 1 + (b : Int)) else ((n : Int) - 1)) = ((min (n - 1) (a + 1 + b) : Nat) : Int) := by split <;> omega
      rw [← this]
theorem ok__law_parts {f : Addr} {fd : FuncData} (F : Fun K "_law_parts" "_law_parts" s_law_parts f fd) (m_tuple : mg "tuple" = none) (m_len : mg "len" = none) (m_range : mg "range" = none) {f_law_groups : Addr} {fd_law_groups : FuncData} (F_law_groups : Fun K "_law_groups" "_law_groups" s_law_groups f_law_groups fd_law_groups) (G_law_groups : FnOk P w K mg base CX0 2 f_law_groups fd_law_groups ["net", "choice"] (spLGroups T)) (b_law_groups : Binds K fd_law_groups ["net", "choice"] []) (g_law_groups : mg "_law_groups" = some (.ref f_law_groups)) : FnOk P w K mg base CX0 3 f fd ["net", "pairs"] (spLParts T) := by
  refine F.ok sc_law_parts (fun vs H Q E h => ?_) (fun cdv A outer s H vs Q E hr h => ?_)
  · obtain ⟨net, pz, n, ws, ps, rfl, W, hnet, hps, ok, k⟩ := h
    rfl
  · obtain ⟨net, pz, n, ws, ps, rfl, W, hnet, hps, ok, k⟩ := h
    refine ⟨_, (pss_cons (ps_set (i := 2) sc_law_parts.nd rfl (Or.inl rfl) (pe_lst pa_nil))
      (pss_cons (ps_for PassesOwn.never rfl (pi_tup (pe_call G_law_groups hr (by rfl) g_law_groups F_law_groups.kp b_law_groups .nil pass0 (pa_cons (pv 0) (pa_cons (pe_lc (own := [("k", 4)]) (g := (gName 4)) (tt := tYes) rfl sc_law_parts.nd (pi_range1 (by rfl) m_range (pa_cons (pe_callB call_len_seq (by rfl) m_len PySem.boot_len (pa_cons (pe_ix ix_tup (pv 0) pe_int (fun _ _ => rfl)) pa_nil)) pa_nil)) (blkOk_by (own := [("k", 4)]) (N := ["net", "pairs", "found", "part", "k", "own", "pair", "way"]) (sc := defScope s_law_parts) (by decide +kernel)) (fun _ _ _ _ _ => (pg_name (i := 4) sc_law_parts.nd rfl (Or.inl rfl))) (fun _ _ _ _ _ => pts_nil) (fun _ _ _ _ _ => (pv 4))) pa_nil)))) (pg_name (i := 3) sc_law_parts.nd rfl (Or.inr rfl)) (pss_cons (ps_set (i := 5) sc_law_parts.nd rfl (Or.inl rfl) (pe_callTy call_tuple_of (by rfl) m_tuple (by decide +kernel) (pa_cons (pe_lc (own := [("pair", 6)]) (g := (gName 6)) rfl sc_law_parts.nd (pi_tup (pv 1)) (blkOk_by (own := [("pair", 6)]) (N := ["net", "pairs", "found", "part", "k", "own", "pair", "way"]) (sc := defScope s_law_parts) (by decide +kernel)) (fun _ _ _ _ _ => (pg_name (i := 6) sc_law_parts.nd rfl (Or.inl rfl))) (fun _ _ _ _ _ => (pts_one (pt_cmpR (GE.in_seqK (K := K)) (pe_ix (GE.ix_tupK (K := K)) (pv 6) pe_int (fun _ _ => rfl)) (pv 3) (by rfl)))) (fun _ _ _ _ _ => (pv 6))) pa_nil)))
      (pss_one (ps_if (pt_cmpR op_gt (pe_callB call_len_seq (by rfl) m_len PySem.boot_len (pa_cons (pv 5) pa_nil)) pe_int (nomark _)) (pss_one (ps_expr (pe_bm PySem.F.plainAttrs_list PySem.F.slot_list_append PySem.F.type_list_append mt_append (pv 2) (pa_cons (pe_tup (pa_cons (pv 3) (pa_cons (pe_callTy call_tuple_of (by rfl) m_tuple (by decide +kernel) (pa_cons (pe_lc (own := [("way", 7)]) (g := (gName 7)) rfl sc_law_parts.nd (pi_tup (pe_ix ix_tup (pv 0) pe_int (fun _ _ => rfl))) (blkOk_by (own := [("way", 7)]) (N := ["net", "pairs", "found", "part", "k", "own", "pair", "way"]) (sc := defScope s_law_parts) (by decide +kernel)) (fun _ _ _ _ _ => (pg_name (i := 7) sc_law_parts.nd rfl (Or.inl rfl))) (fun _ _ _ _ _ => (pts_one (pt_cmpR (GE.in_seqK (K := K)) (pe_ix (GE.ix_tupK (K := K)) (pv 7) pe_int (fun _ _ => rfl)) (pv 3) (by rfl)))) (fun _ _ _ _ _ => (pv 7))) pa_nil)) (pa_cons (pv 5) pa_nil)))) pa_nil)))) pss_nil))))
      (pss_one (ps_ret (pv 2))))), ?_⟩
    have n12 := W.n12
    have w24 := W.ln
    have p6 := ok.ln
    obtain ⟨na, nb, wus, rfl, hna, hnb, hwr⟩ := net_at hnet
    obtain ⟨pa, pus, rfl, hpa, hpr⟩ := hps.t
    have hwl : wus.length = ws.length := by rw [hwr.len, List.length_map]
    have hpl : pus.length = ps.length := by rw [hpr.len, List.length_map]
    refine ⟨by show 0 ≤ sizeLine; decide, fun lf hlf => ?_⟩
    have e1 : Ext T noM H (upd H lf (.lst [])) := Ext.new hlf
    have hl1 : (upd H lf (.lst [])) lf = some (.lst []) := upd_same
    generalize (upd H lf (.lst [])) = H1 at e1 hl1 ⊢
    have hna1 := e1.tup (fun z => z) hna
    have hnb1 := e1.tup (fun z => z) hnb
    dsimp only [gName]
    refine ⟨_, rfl, _, rfl, na, _, _, _, rfl, rfl, SqT.of hna1, at_of (j := 1) rfl rfl, nb, _, rfl, .inr (SqT.of hnb1), _, rfl, by omega, by omega, fun lw hlw => ?_⟩
    refine lc_range (lo := 0) (n := ((wus.length : Nat) : Int).toNat) (fun j H' => Ext T noM H1 H' ∧ H' lw = some (.lst (natsV (List.range j)))) ⟨Ext.new hlw, upd_same⟩ ?_ ?_
    · rintro j H' hj ⟨e, hv⟩
      refine ⟨rfl, tYesI ⟨_, rfl, _, hv, small1000 (by unfold natsV; rw [List.length_map, List.length_range]; omega), e.mut (.inl hlw) hv ltbl, ?_⟩⟩
      rw [upd_same, List.range_succ, Int.zero_add]; unfold natsV; rw [List.map_append]; rfl
    rintro H2 ⟨e2, hw2⟩
    rw [show ((wus.length : Nat) : Int).toNat = ws.length by omega] at hw2
    have e02 := e1.trans e2
    refine ⟨.ref na, .ref lw, n, ws, List.range ws.length, rfl, ⟨W, fun c hc => List.mem_range.mp hc, by rw [List.length_range]; exact w24, Rp.x e02 hnet, ⟨lw, rfl, .inr hw2⟩⟩, fun gv H3 hg e3 => ?_⟩
    obtain ⟨ga, gus, rfl, hga, hgr⟩ := hg.t
    have hl3 := (e2.trans e3).lst (fun z => z) hl1
    have e03 := e02.trans e3
    have hgl : gus.length = (grps (hom ws (List.range ws.length)) n).length := by rw [hgr.len, List.length_map]
    have hG12 : (grps (hom ws (List.range ws.length)) n).length ≤ 12 := by
      have := reps_len (hom ws (List.range ws.length)) n
      unfold grps; rw [List.length_map]; omega
    have hk := fun l us H' a b (c : RpL H' ((ptsL ws ps (grps (hom ws (List.range ws.length)) n)).map fun q => partD q.1) us) d => k l us H' a b c d
    generalize grps (hom ws (List.range ws.length)) n = G at hgr hgl hG12 hk
    refine ⟨ga, rfl, ⟨_, SqT.of hga⟩, for_tup (K := K) (a := ga) (xs := gus) (fun i σ' H' => ∃ y3 y4 y5 y6 y7 us, σ' = [some (.ref na), some (.ref pa), some (.ref lf), y3, y4, y5, y6, y7] ∧ H' lf = some (.lst us) ∧ RpL H' ((ptsL ws ps (G.take i)).map fun q => partD q.1) us ∧ Ext T noM H H' ∧ Ext T (fun b => b = lf) H3 H') ⟨_, _, _, _, _, [], rfl, hl3, rpl_nil, e03, Ext.refl _ _ _⟩ (fun i σ' H' _ ⟨_, _, _, _, _, _, _, _, _, _, e⟩ => SqT.of (e.tup (fun z => by rw [z, hl3] at hga; cases hga) hga)) ?_ ?_⟩
    · rintro i x σ' H4 hx ⟨y3, y4, y5, y6, y7, us, rfl, hl4, ru, e4, e34⟩
      have hi : i < G.length := by have := (List.getElem?_eq_some_iff.mp hx).1; omega
      have hgi : G[i]? = some G[i] := List.getElem?_eq_getElem hi
      obtain ⟨x', hx', hr⟩ := hgr.get (i := i) (d := chD G[i]) (by rw [List.getElem?_map, hgi]; rfl)
      rw [hx] at hx'
      obtain rfl := Option.some.inj hx'
      have hr4 := hr.ext e34 (fun b vs z y => by rw [z, hl3] at y; cases y)
      have hts := take_succ' hgi
      generalize G[i] = pl at hr4 hts
      obtain ⟨xa, rfl, hxa⟩ := ch_at hr4
      have hxa : H4 xa = some (.tup (natsV pl)) := hxa
      have hpa4 := e4.tup (fun z => z) hpa
      have hpl2 := ptsL_len ws ps (G.take i)
      rw [List.length_take] at hpl2
      have hul : us.length = (ptsL ws ps (G.take i)).length := by rw [ru.len, List.length_map]
      refine ⟨_, rfl, pa, rfl, ⟨_, SqT.of hpa4⟩, fun Dl hD => ?_⟩
      refine lc_tup (K := K) (a := pa) (xs := pus) (fun j H' => ∃ ys, Ext T noM H4 H' ∧ H' Dl = some (.lst ys) ∧ RpL H' ((ownP pl (ps.take j)).map pairD) ys) ⟨[], Ext.new hD, upd_same, rpl_nil⟩ (fun j H' _ ⟨_, e, _⟩ => SqT.of (e.tup (fun z => z) hpa4)) ?_ ?_
      · rintro j x H6 hx6 ⟨ys, e6, hD6, ry⟩
        have hj : j < ps.length := by have := (List.getElem?_eq_some_iff.mp hx6).1; omega
        have hpj : ps[j]? = some ps[j] := List.getElem?_eq_getElem hj
        obtain ⟨x', hx', hr6⟩ := hpr.get (i := j) (d := pairD ps[j]) (by rw [List.getElem?_map, hpj]; rfl)
        rw [hx6] at hx'
        obtain rfl := Option.some.inj hx'
        have hr7 := hr6.x (e4.trans e6)
        have hsn := ownP_snoc pl (ps.take j) ps[j]
        rw [← take_succ' hpj] at hsn
        obtain ⟨qa, rfl, hqa⟩ := pair_at hr7
        have hol : (ownP pl (ps.take j)).length ≤ 6 := by
          have h1 := List.length_filter_le (fun q : Pr => decide (q.1 ∈ pl)) (ps.take j)
          rw [List.length_take] at h1
          unfold ownP; omega
        have hyl : ys.length = (ownP pl (ps.take j)).length := by rw [ry.len, List.length_map]
        refine ⟨rfl, _, rfl, qa, _, _, _, rfl, rfl, SqT.of hqa, at_of (j := 0) rfl rfl, _, rfl, xa, _, rfl, .inr (SqT.of (e6.tup (fun z => z) hxa)), rfl, flat_nats _, _, rfl, ?_⟩
        rw [inV_nats, if_neg Bool.false_ne_true]
        refine ite2 (fun q => ?_) (fun q => ?_)
        · rw [if_pos (of_decide_eq_true q)] at hsn
          refine ⟨_, rfl, ys, hD6, small1000 (by omega), _, e6.mut (.inl hD) hD6 ltbl, upd_same, ?_⟩
          rw [hsn, List.map_append]
          exact rpl_upd (ry.snoc hr7) hD6
        · rw [if_neg (fun z => q (decide_eq_true z)), List.append_nil] at hsn
          exact ⟨ys, e6, hD6, by rw [hsn]; exact ry⟩
      rintro H6 ⟨ys, e6, hD6, ry⟩
      rw [hpl, List.take_length] at ry
      refine ⟨Dl, _, rfl, .inl ⟨SqL.of hD6, fun ot hot => ?_⟩⟩
      have e7 : Ext T noM H6 (upd H6 ot (.tup ys)) := Ext.new hot
      have ho7 : (upd H6 ot (.tup ys)) ot = some (.tup ys) := upd_same
      have ry7 := ry.x e7
      generalize (upd H6 ot (.tup ys)) = H7 at e7 ho7 ry7 ⊢
      have hyl : ys.length = (ownP pl ps).length := by rw [ry.len, List.length_map]
      have e47 := e6.trans e7
      dsimp only [gName]
      have hsn := ptsL_snoc ws ps (G.take i) pl
      rw [← hts] at hsn
      refine ev_if (fun Q h => ⟨_, rfl, ot, _, rfl, .inr (SqT.of ho7), _, _, rfl, rfl, _, rfl, h⟩) (fun c => ?_) (fun c => ?_)
      · have c : decide ((0 : Int) < ((ys.length : Nat) : Int)) = true := c
        rw [decide_eq_true_eq] at c
        have hne : ownP pl ps ≠ [] := fun z => by rw [z] at hyl; have : ys.length = 0 := hyl; omega
        rw [if_neg hne] at hsn
        have e07 := e4.trans e47
        have hna7 := e07.tup (fun z => z) hna
        have hnb7 := e07.tup (fun z => z) hnb
        have hwr7 := hwr.x e07
        have hl7 := e47.lst (fun z => z) hl4
        have hxa7 := e47.tup (fun z => z) hxa
        refine ⟨_, rfl, .inl ⟨rfl, _, SqL.of hl7⟩, _, rfl, _, rfl, na, _, _, _, rfl, rfl, SqT.of hna7, at_of (j := 1) rfl rfl, nb, rfl, ⟨_, SqT.of hnb7⟩, fun Dw hDw => ?_⟩
        refine lc_tup (K := K) (a := nb) (xs := wus) (fun j H' => ∃ zs, Ext T noM H7 H' ∧ H' Dw = some (.lst zs) ∧ RpL H' (((ws.take j).filter fun q => decide (q.1 ∈ pl)).map wayD) zs) ⟨[], Ext.new hDw, upd_same, rpl_nil⟩ (fun j H' _ ⟨_, e, _⟩ => SqT.of (e.tup (fun z => z) hnb7)) ?_ ?_
        · rintro j x H8 hx8 ⟨zs, e8, hD8, rz⟩
          have hj : j < ws.length := by have := (List.getElem?_eq_some_iff.mp hx8).1; omega
          have hwj : ws[j]? = some ws[j] := List.getElem?_eq_getElem hj
          obtain ⟨x', hx', hr8⟩ := hwr7.get (i := j) (d := wayD ws[j]) (by rw [List.getElem?_map, hwj]; rfl)
          rw [hx8] at hx'
          obtain rfl := Option.some.inj hx'
          have hr9 := hr8.x e8
          obtain ⟨wa, rfl, hwa⟩ := way_at hr9
          have hzl : zs.length ≤ 24 := by
            rw [rz.len, List.length_map]
            refine Nat.le_trans (List.length_filter_le (fun q : Wy => decide (q.1 ∈ pl)) (ws.take j)) ?_
            rw [List.length_take]; omega
          refine ⟨rfl, _, rfl, wa, _, _, _, rfl, rfl, SqT.of hwa, at_of (j := 0) rfl rfl, _, rfl, xa, _, rfl, .inr (SqT.of (e8.tup (fun z => z) hxa7)), rfl, flat_nats _, _, rfl, ?_⟩
          rw [inV_nats, if_neg Bool.false_ne_true]
          refine ite2 (fun q => ?_) (fun q => ?_)
          · refine ⟨_, rfl, zs, hD8, small1000 (by omega), _, e8.mut (.inl hDw) hD8 ltbl, upd_same, ?_⟩
            rw [take_succ' hwj, List.filter_append, List.map_append, show [ws[j]].filter (fun q => decide (q.1 ∈ pl)) = [ws[j]] from by simp [of_decide_eq_true q]]
            exact rpl_upd (rz.snoc hr9) hD8
          · refine ⟨zs, e8, hD8, ?_⟩
            rw [take_succ' hwj, List.filter_append, List.map_append, show [ws[j]].filter (fun q => decide (q.1 ∈ pl)) = [] from by
              have : ws[j].1 ∉ pl := fun z => q (decide_eq_true z)
              simp [this]]
            rw [List.map_nil, List.append_nil]
            exact rz
        rintro H8 ⟨zs, e8, hD8, rz⟩
        rw [hwl, List.take_length, ws_ix] at rz
        refine ⟨Dw, _, rfl, .inl ⟨SqL.of hD8, fun wt hwt => ?_⟩⟩
        have e9 : Ext T noM H8 (upd H8 wt (.tup zs)) := Ext.new hwt
        have r9 : Rp (upd H8 wt (.tup zs)) (.t (((ixsP ws pl).map (wyAt ws)).map wayD)) (.ref wt) := rp_t upd_same (rz.x e9)
        generalize (upd H8 wt (.tup zs)) = H9 at e9 r9 ⊢
        have e79 := e8.trans e9
        refine ⟨_, rfl, by show 3 ≤ sizeLine; decide, fun pt hpt => ?_⟩
        have e10 : Ext T noM H9 (upd H9 pt (.tup [.ref xa, .ref wt, .ref ot])) := Ext.new hpt
        have r10 : Rp (upd H9 pt (.tup [.ref xa, .ref wt, .ref ot])) (partD (partOf ws ps pl)) (.ref pt) := rp_t upd_same (rpl_cons (Rp.x e10 (Rp.x (e47.trans e79) hr4)) (rpl_cons (r9.x e10) (rpl_cons (Rp.x e10 (Rp.x e79 (rp_t ho7 ry7))) rpl_nil)))
        generalize (upd H9 pt (.tup [V.ref xa, .ref wt, .ref ot])) = H10 at e10 r10 ⊢
        have e4A := e47.trans (e79.trans e10)
        have hl10 := e4A.lst (fun z => z) hl4
        refine ⟨lf, us, _, rfl, rfl, hl10, small1000 (by omega), _, _, _, _, _, _, rfl, upd_same, ?_, (e4.trans e4A).mut (.inl hlf) hl10 ltbl, (e34.trans e4A.weak).mut (.inr rfl) hl10 ltbl⟩
        rw [hsn, List.map_append]
        exact rpl_upd ((ru.x e4A).snoc r10) hl10
      · have c : decide ((0 : Int) < ((ys.length : Nat) : Int)) = false := c
        rw [decide_eq_false_iff_not] at c
        have hno : ownP pl ps = [] := List.eq_nil_of_length_eq_zero (by omega)
        rw [if_pos hno, List.append_nil] at hsn
        exact ⟨_, _, _, _, _, us, rfl, e47.lst (fun z => z) hl4, by rw [hsn]; exact ru.x e47, e4.trans e47, e34.trans e47.weak⟩
    · rintro σ' H4 ⟨y3, y4, y5, y6, y7, us, rfl, hl4, ru, e4, e34⟩
      rw [hgl, List.take_length] at ru
      exact ⟨_, rfl, hk lf us H4 hlf hl4 ru e4⟩
end
end Mw

set_option Elab.async false
set_option linter.all false
set_option maxRecDepth 100000
set_option maxHeartbeats 4000000
namespace Mw
open PySem PySem.Spec PyProof.Rows L2 GE
theorem str_ne {a b : Str} (h : a ≠ b) : decide (V.str a = V.str b) = false := decide_eq_false fun z => h (V.str.inj z)
theorem str_eq (a : Str) : decide (V.str a = V.str a) = true := decide_eq_true rfl
theorem str_neQ {Q : Bool → Hp → Prop} {H : Hp} {a b : Str} (h : a ≠ b) (q : Q false H) : Q (decide (V.str a = V.str b)) H := by rw [str_ne h]; exact q
theorem str_eqQ {Q : Bool → Hp → Prop} {H : Hp} (a : Str) (q : Q true H) : Q (decide (V.str a = V.str a)) H := by rw [str_eq]; exact q
theorem and_if {tA tB : TT} {σ : L2.St} {H : Hp} {Q : Bool → Hp → Prop} {b : Bool} (h : Ev tA σ H b) (h1 : b = true → tB σ H Q) (h2 : b = false → Q false H) : tAnd tA tB σ H Q := h _ (by
  cases b with
  | true => exact h1 rfl
  | false => exact h2 rfl)
theorem sm_ch {cs : List Nat} (h : cs.length ≤ 1000) (k : Nat) : Sm (k + 2) (chD cs) := ⟨by rw [List.length_map]; exact h, fun d hd => by
  obtain ⟨x, _, rfl⟩ := List.mem_map.mp hd
  exact True.intro⟩
def spHotI : Sp := fun vs H Q _ => ∃ (x y : Int), vs = [.int x, .int y] ∧ Q (.bl (decide (V.int x = V.int y))) H
def spYWorked (P : Program) (w : World) (K : PySem.W.Frag) (aD : Addr) : Sp := fun vs H Q _ => ∃ (a : Yd) (S : Ys), vs = [.ref a.y] ∧ YdAt P w K aD H a S ∧ Q (.int (S.many : Nat)) H
def spAns (P : Program) (w : World) (K : PySem.W.Frag) (T : List Addr) (aD : Addr) : Sp := fun vs H Q _ => ∃ (a : Yd) (S : Ys) (due : V), vs = [.ref a.y, due] ∧ YdAt P w K aD H a S ∧ YsOk S ∧ Wd T H ∧
  ((∀ q ∈ S.ps, Cn (wedges S.ws) q.1 q.2) → Rp H (chD (toldL S.n S.ws S.ps)) due ∧ ∀ (kd : Addr) H', YdAt P w K aD H' ⟨a.y, a.lw, a.lp, kd⟩ ⟨S.n, S.ws, S.ps, (pts S.n S.ws S.ps).map (·.1), S.many + lackK S.ks (pts S.n S.ws S.ps)⟩ → H kd = none → Ext T (fun b => b = a.y) H H' → Q (.bl true) H') ∧
  ∀ k : Nat, First S.ws S.ps k → due = .int (k : Nat) ∧ ∀ H', Ext T noM H H' → Q (.bl true) H'
section
variable {P : Program} {w : World} {K : PySem.W.Frag} {mg : Str → Option Value} {base : Heap} {T : List Addr} {aC aD aApart aRefused : Addr}
theorem ok_Yard_worked {f : Addr} {fd : FuncData} (F : Fun K "worked" "Yard.worked" sYard_worked f fd) (fy : YTx K aD) : FnOk P w K mg base CX0 1 f fd ["self"] (spYWorked P w K aD) := by
  refine F.ok scYard_worked (fun vs H Q E h => ?_) (fun cdv A outer s H vs Q E hr h => ?_)
  · obtain ⟨a, S, rfl, Y, k⟩ := h
    rfl
  · obtain ⟨a, S, rfl, Y, k⟩ := h
    refine ⟨_, (pss_one (ps_ret (pe_fld (pv 0) rfl))), ?_⟩
    obtain ⟨dx, hob⟩ := Y.ob
    exact ⟨_, rfl, a.y, aD, dx, _, _, rfl, hob, fy.cl, fy.n__many, rfl, k⟩
theorem okH__law_same {f : Addr} {fd : FuncData} (F : Fun K "_law_same" "_law_same" s_law_same f fd) (m_isinstance : mg "isinstance" = none) (m_tuple : mg "tuple" = none) (m_str : mg "str" = none) (m_int : mg "int" = none) (m_len : mg "len" = none) (m_bool : mg "bool" = none) (m_range : mg "range" = none) : L2H.FnH P w K mg base CX0 1 f fd ["actual", "due"] (spHotI) := by
  refine GE.funH F sc_law_same (fun vs H Q E h => ?_) (fun cdv A outer s H vs Q E p hot hr h => ?_)
  · obtain ⟨x, y, rfl, k⟩ := h
    rfl
  · obtain ⟨x, y, rfl, k⟩ := h
    refine ⟨_, (pss_cons (ps_if (pt_val (pe_callB call_isi (by rfl) m_isinstance (by decide +kernel) (pa_cons (pv 1) (pa_cons (pe_bltn (u := .type "tuple") (v := .ty "tuple") (by rfl) m_tuple (by decide +kernel) rfl) pa_nil)))) GE.pss_no pss_nil)
      (pss_cons (ps_if (pt_cmpR op_isN (pv 1) pe_non (nomark _)) (pss_one (ps_ret (pe_cmpR op_isN (pv 0) pe_non (nomark _)))) pss_nil)
      (pss_cons (ps_if (pt_val (pe_callB call_isi (by rfl) m_isinstance (by decide +kernel) (pa_cons (pv 1) (pa_cons (pe_bltn (u := .type "str") (v := .ty "str") (by rfl) m_str (by decide +kernel) rfl) pa_nil)))) (pss_one (ps_ret (pe_and (pe_callB call_isi (by rfl) m_isinstance (by decide +kernel) (pa_cons (pv 0) (pa_cons (pe_bltn (u := .type "str") (v := .ty "str") (by rfl) m_str (by decide +kernel) rfl) pa_nil))) (pe_one (pe_cmpR op_eq (pv 0) (pv 1) (nomark _)))))) pss_nil)
      (pss_one (ps_ret (pe_and (pe_callB call_isi (by rfl) m_isinstance (by decide +kernel) (pa_cons (pv 0) (pa_cons (pe_bltn (u := .type "int") (v := .ty "int") (by rfl) m_int (by decide +kernel) rfl) pa_nil))) (pe_and (pe_not (pe_callB call_isi (by rfl) m_isinstance (by decide +kernel) (pa_cons (pv 0) (pa_cons (pe_bltn (u := .type "bool") (v := .ty "bool") (by rfl) m_bool (by decide +kernel) rfl) pa_nil)))) (pe_one (pe_cmpR op_eq (pv 0) (pv 1) (nomark _)))))))))), ?_⟩
    refine ⟨_, rfl, _, _, _, _, false, rfl, .ty _, .base (.int _), kit_ty (by decide +kernel), ⟨_, rfl, iteF ?_⟩⟩
    refine ⟨_, rfl, rfl, _, rfl, iteF ?_⟩
    refine ⟨_, rfl, _, _, _, _, false, rfl, .ty _, .base (.int _), kit_ty (by decide +kernel), ⟨_, rfl, iteF ?_⟩⟩
    refine ⟨_, rfl, _, _, _, _, true, rfl, .ty _, .base (.int _), kit_ty (by decide +kernel), ⟨_, rfl, iteT ?_⟩⟩
    refine ⟨_, rfl, _, _, _, _, false, rfl, .ty _, .base (.int _), kit_ty (by decide +kernel), ⟨_, rfl, ⟨_, rfl, iteT ?_⟩⟩⟩
    exact ⟨_, rfl, _, rfl, rfl, k⟩
theorem ok__law_answer {f : Addr} {fd : FuncData} (F : Fun K "_law_answer" "_law_answer" s_law_answer f fd) {fYard_told : Addr} {fdYard_told : FuncData} (FYard_told : Fun K "told" "Yard.told" sYard_told fYard_told fdYard_told) (GYard_told : FnOk P w K mg base (GE.CXn P w) 12 fYard_told fdYard_told ["self"] (spYTold P w K T aD aApart)) (bYard_told : Binds K fdYard_told ["self"] []) (mmYard_told : Meth K aD "told" fYard_told) {f_law_same : Addr} {fd_law_same : FuncData} (F_law_same : Fun K "_law_same" "_law_same" s_law_same f_law_same fd_law_same) (GH_law_same : L2H.FnH P w K mg base CX0 12 f_law_same fd_law_same ["actual", "due"] (spHotI)) (b_law_same : Binds K fd_law_same ["actual", "due"] []) (g_law_same : mg "_law_same" = some (.ref f_law_same)) (fy : YTx K aD) {fAp : Addr} (G_law_same : FnOk P w K mg base CX0 12 f_law_same fd_law_same ["actual", "due"] (spSame K 5 T)) (XApart : GE.Xc K aApart fAp "index") (gApart : mg "Apart" = some (.ref aApart)) (emA : PySem.W.exmOne K (.ref aApart) (.ref aApart) = some true) : FnOk P w K mg base CX0 13 f fd ["yard", "due"] (spAns P w K T aD) := by
  refine F.ok sc_law_answer (fun vs H Q E h => ?_) (fun cdv A outer s H vs Q E hr h => ?_)
  · obtain ⟨a, S, due, rfl, Y, YO, wd, k1, k2⟩ := h
    rfl
  · obtain ⟨a, S, due, rfl, Y, YO, wd, k1, k2⟩ := h
    refine ⟨_, (pss_cons (L2N.ps_try_as (i := 3) rfl rfl sc_law_answer.nd rfl rfl ⟨by rfl, by decide, Or.inl gApart⟩ GE.takesN0 (fun W pn xe tk po => (pss_one (ps_set (i := 2) sc_law_answer.nd rfl (Or.inl rfl) (GE.pe_methSS0 (pv 0) fy.cl mmYard_told GYard_told hr bYard_told (fun σ => L2N.passAt tk σ))))) (fun a oe cls d pn hz hf => (pss_one (ps_ret (L2H.pe_callH (E := fun _ _ _ _ => False) GH_law_same (L2H.roomH_mark hr _) (GE.hot_suite hz hf) (by rfl) g_law_same F_law_same.kp b_law_same (fun _ _ _ _ _ _ _ z => z.elim) (pa_cons (pe_xf XApart.xf XApart.no hz.zc hf (pv 3)) (pa_cons (pv 1) pa_nil)))))))
      (pss_one (ps_ret (pe_call G_law_same hr (by rfl) g_law_same F_law_same.kp b_law_same .nil pass0 (pa_cons (pv 2) (pa_cons (pv 1) pa_nil)))))), ?_⟩
    obtain ⟨dx, hob⟩ := Y.ob
    refine ⟨_, rfl, a.y, dx, _, rfl, hob, by rfl, a, S, rfl, Y, YO, wd, fun J u kd l H1 hp hs hu Y1 hk e1 => ?_, fun kk F1 d fs H1 nd hd1 hl e1 => ⟨true, emA, fun _ b nb => ?_, fun z => nomatch z⟩⟩
    · obtain rfl := told_is YO.w YO.p J hp hs
      have hM : ∀ b vs, b = a.y → H b ≠ some (.tup vs) := fun b vs z => Y.not b vs (.inl z)
      obtain ⟨g1, g2⟩ := k1 J
      have htl := told_len S.n S.ws S.ps
      have w24 := YO.w.ln
      exact ⟨_, rfl, _, rfl, u, due, chD (toldL S.n S.ws S.ps), rfl, rpk_of hu, rpk_of (g1.ext e1 hM), sm_ch (by omega) 3, fun H2 e2 => g2 kd H2 (Y1.x e2) hk (e1.trans e2.weak)⟩
    · obtain ⟨rfl, g2⟩ := k2 kk F1
      refine ⟨_, rfl, rfl, rfl, d, fs, _, rfl, hd1, hl, _, rfl, kk, kk, rfl, ?_⟩
      rw [decide_eq_true rfl]
      exact g2 H1 e1
end
end Mw

set_option Elab.async false
set_option linter.all false
set_option maxRecDepth 100000
set_option maxHeartbeats 4000000
namespace Mw
open PySem PySem.Spec PyProof.Rows L2 GE
theorem PoolAt.out {T : List Addr} {M : Addr → Prop} {H H' : Hp} {p s : Addr} (h : PoolAt H p s) (e : Ext T M H H') (h1 : ¬ M p) (h2 : ¬ M s) : PoolAt H' p s := by
  obtain ⟨ns, i1, i2, i3, i4, hp, hs, r⟩ := h
  exact ⟨ns, i1, i2, i3, i4, e.lst h1 hp, e.lst h2 hs, r⟩
theorem edT_ok {n : Nat} {ws : Wl} {ps : List Pr} {e : Ed} (W : Wf n ws) (ok : PsOk n ps) (EO : EdOk n e) : Wf n (edT e ws ps).2.1 ∧ PsOk n (edT e ws ps).2.2 := by
  cases e with
  | build q =>
    by_cases h : 24 ≤ ws.length
    · rw [show edT (.build q) ws ps = (("full" : Str), ws, ps) from if_pos h]; exact ⟨W, ok⟩
    · rw [show edT (.build q) ws ps = (("" : Str), ws ++ [q], ps) from if_neg h]
      refine ⟨⟨W.n1, W.n12, ?_, fun w hw => ?_⟩, ok⟩
      · show (ws ++ [q]).length ≤ 24
        rw [List.length_append, List.length_singleton]; omega
      · have hw : w ∈ ws ++ [q] := hw
        rcases List.mem_append.mp hw with z | z
        · exact W.ok w z
        · rw [List.mem_singleton.mp z]; exact EO
  | change i c =>
    by_cases h : ws.length ≤ i
    · rw [show edT (.change i c) ws ps = (("way" : Str), ws, ps) from if_pos h]; exact ⟨W, ok⟩
    · rw [show edT (.change i c) ws ps = (("" : Str), ws.set i ((wyAt ws i).1, (wyAt ws i).2.1, c), ps) from if_neg h]
      refine ⟨⟨W.n1, W.n12, ?_, fun w hw => ?_⟩, ok⟩
      · show (ws.set i _).length ≤ 24
        rw [List.length_set]; exact W.ln
      · have hw : w ∈ ws.set i ((wyAt ws i).1, (wyAt ws i).2.1, c) := hw
        rcases List.mem_or_eq_of_mem_set hw with z | z
        · exact W.ok w z
        · obtain ⟨_, o1, o2, _⟩ := wy_ok W (show i < ws.length by omega)
          rw [z]
          exact ⟨o1, o2, EO.2.1, EO.2.2⟩
  | cut i =>
    by_cases h : ws.length ≤ i
    · rw [show edT (.cut i) ws ps = (("way" : Str), ws, ps) from if_pos h]; exact ⟨W, ok⟩
    · rw [show edT (.cut i) ws ps = (("" : Str), ws.eraseIdx i, ps) from if_neg h]
      refine ⟨⟨W.n1, W.n12, ?_, fun w hw => W.ok w (List.mem_of_mem_eraseIdx (show w ∈ ws.eraseIdx i from hw))⟩, ok⟩
      exact Nat.le_trans (List.length_eraseIdx_le ws i) W.ln
  | want q =>
    by_cases h : q ∈ ps
    · rw [show edT (.want q) ws ps = (("known" : Str), ws, ps) from if_pos h]; exact ⟨W, ok⟩
    · by_cases h6 : 6 ≤ ps.length
      · rw [show edT (.want q) ws ps = (("full" : Str), ws, ps) from (if_neg h).trans (if_pos h6)]; exact ⟨W, ok⟩
      · rw [show edT (.want q) ws ps = (("" : Str), ws, ps ++ [q]) from (if_neg h).trans (if_neg h6)]
        refine ⟨W, fun p hp => ?_, ?_⟩
        · have hp : p ∈ ps ++ [q] := hp
          rcases List.mem_append.mp hp with z | z
          · exact ok.ok p z
          · rw [List.mem_singleton.mp z]; exact EO
        · show (ps ++ [q]).length ≤ 6
          rw [List.length_append, List.length_singleton]; omega
  | drop q =>
    by_cases h : q ∈ ps
    · rw [show edT (.drop q) ws ps = (("" : Str), ws, ps.erase q) from if_pos h]
      exact ⟨W, fun p hp => ok.ok p (List.mem_of_mem_erase (show p ∈ ps.erase q from hp)), Nat.le_trans List.length_erase_le ok.ln⟩
    · rw [show edT (.drop q) ws ps = (("unknown" : Str), ws, ps) from if_neg h]; exact ⟨W, ok⟩
/-- an edit that must be refused, is -/
def spRefd (P : Program) (w : World) (K : PySem.W.Frag) (T : List Addr) (aD : Addr) : Sp := fun vs H Q _ => ∃ (p s : Addr) (a : Yd) (S : Ys), vs = [.ref p, .ref a.y] ∧ PoolAt H p s ∧ YdAt P w K aD H a S ∧ YsOk S ∧ (∀ c, YN a c → c ≠ p) ∧ 2 ≤ S.n ∧ ∀ H', PoolAt H' p s → Ext T (atP p) H H' → Q (.bl true) H'
section
variable {P : Program} {w : World} {K : PySem.W.Frag} {mg : Str → Option Value} {base : Heap} {T : List Addr} {aC aD aApart aRefused : Addr}
theorem ok__law_is_refused {f : Addr} {fd : FuncData} (F : Fun K "_law_is_refused" "_law_is_refused" s_law_is_refused f fd) (m_len : mg "len" = none) {aRefused : Addr} (gRefused : mg "Refused" = some (.ref aRefused)) {fYard_task : Addr} {fdYard_task : FuncData} (FYard_task : Fun K "task" "Yard.task" sYard_task fYard_task fdYard_task) (GYard_task : FnOk P w K mg base CX0 4 fYard_task fdYard_task ["self"] (spYTask P w K T aD)) (bYard_task : Binds K fdYard_task ["self"] []) (mmYard_task : Meth K aD "task" fYard_task) {f_law_draw : Addr} {fd_law_draw : FuncData} (F_law_draw : Fun K "_law_draw" "_law_draw" s_law_draw f_law_draw fd_law_draw) (G_law_draw : FnOk P w K mg base CX0 4 f_law_draw fd_law_draw ["pool", "many"] (spDraw T)) (b_law_draw : Binds K fd_law_draw ["pool", "many"] []) (g_law_draw : mg "_law_draw" = some (.ref f_law_draw)) {fYard_change : Addr} {fdYard_change : FuncData} (FYard_change : Fun K "change" "Yard.change" sYard_change fYard_change fdYard_change) (GYard_change : FnOk P w K mg base (GE.CXn P w) 4 fYard_change fdYard_change ["self", "way", "cost"] (spYEd P w K T aD aRefused isCh)) (bYard_change : Binds K fdYard_change ["self", "way", "cost"] []) (mmYard_change : Meth K aD "change" fYard_change) {fYard_cut : Addr} {fdYard_cut : FuncData} (FYard_cut : Fun K "cut" "Yard.cut" sYard_cut fYard_cut fdYard_cut) (GYard_cut : FnOk P w K mg base (GE.CXn P w) 4 fYard_cut fdYard_cut ["self", "way"] (spYEd P w K T aD aRefused isCut)) (bYard_cut : Binds K fdYard_cut ["self", "way"] []) (mmYard_cut : Meth K aD "cut" fYard_cut) {fYard_want : Addr} {fdYard_want : FuncData} (FYard_want : Fun K "want" "Yard.want" sYard_want fYard_want fdYard_want) (GYard_want : FnOk P w K mg base (GE.CXn P w) 4 fYard_want fdYard_want ["self", "a", "b"] (spYEd P w K T aD aRefused isW)) (bYard_want : Binds K fdYard_want ["self", "a", "b"] []) (mmYard_want : Meth K aD "want" fYard_want) {fYard_drop : Addr} {fdYard_drop : FuncData} (FYard_drop : Fun K "drop" "Yard.drop" sYard_drop fYard_drop fdYard_drop) (GYard_drop : FnOk P w K mg base (GE.CXn P w) 4 fYard_drop fdYard_drop ["self", "a", "b"] (spYEd P w K T aD aRefused isD)) (bYard_drop : Binds K fdYard_drop ["self", "a", "b"] []) (mmYard_drop : Meth K aD "drop" fYard_drop) (fy : YTx K aD) (gRefused : mg "Refused" = some (.ref aRefused)) (emR : PySem.W.exmOne K (.ref aRefused) (.ref aRefused) = some true) : FnOk P w K mg base CX0 5 f fd ["pool", "yard"] (spRefd P w K T aD) := by
  refine F.ok sc_law_is_refused (fun vs H Q E h => ?_) (fun cdv A outer s H vs Q E hr h => ?_)
  · obtain ⟨p, s1, a, S, rfl, hP, Y, YO, sep, n2, k⟩ := h
    rfl
  · obtain ⟨p, s1, a, S, rfl, hP, Y, YO, sep, n2, k⟩ := h
    refine ⟨_, (pss_cons (ps_asg (pe_meth0 (pv 1) fy.cl mmYard_task GYard_task hr bYard_task .nil pass0) (pg_tup (by rfl) (pgs_cons (pg_name (i := 2) sc_law_is_refused.nd rfl (Or.inl rfl)) (pgs_cons (pg_name (i := 3) sc_law_is_refused.nd rfl (Or.inl rfl)) pgs_nil))))
      (pss_cons (ps_set (i := 4) sc_law_is_refused.nd rfl (Or.inl rfl) (pe_call G_law_draw hr (by rfl) g_law_draw F_law_draw.kp b_law_draw .nil pass0 (pa_cons (pv 0) (pa_cons pe_int pa_nil))))
      (pss_cons (L2N.ps_try_many rfl rfl GE.takesN0 (fun W pn xe tk po => (pss_one (ps_if (pt_cmpR op_eq (pv 4) pe_int (nomark _)) (pss_one (ps_expr (GE.pe_methSS (pv 1) fy.cl mmYard_change GYard_change hr bYard_change (fun σ => L2N.passAt tk σ) (pa_cons (pe_op op_add (pe_callB (GE.call_len_seqK (K := K)) (by rfl) m_len PySem.boot_len (pa_cons (pe_ix (GE.ix_tupK (K := K)) (pv 2) pe_int (fun _ _ => rfl)) pa_nil)) (pe_call G_law_draw hr (by rfl) g_law_draw F_law_draw.kp b_law_draw .nil pass0 (pa_cons (pv 0) (pa_cons pe_int pa_nil)))) (pa_cons pe_int pa_nil))))) (pss_one (ps_if (pt_cmpR op_eq (pv 4) pe_int (nomark _)) (pss_one (ps_expr (GE.pe_methSS (pv 1) fy.cl mmYard_cut GYard_cut hr bYard_cut (fun σ => L2N.passAt tk σ) (pa_cons (pe_op op_add (pe_callB (GE.call_len_seqK (K := K)) (by rfl) m_len PySem.boot_len (pa_cons (pe_ix (GE.ix_tupK (K := K)) (pv 2) pe_int (fun _ _ => rfl)) pa_nil)) (pe_call G_law_draw hr (by rfl) g_law_draw F_law_draw.kp b_law_draw .nil pass0 (pa_cons (pv 0) (pa_cons pe_int pa_nil)))) pa_nil)))) (pss_one (ps_if (pt_cmpR op_gt (pe_callB (GE.call_len_seqK (K := K)) (by rfl) m_len PySem.boot_len (pa_cons (pv 3) pa_nil)) pe_int (nomark _)) (pss_one (ps_expr (GE.pe_methSS (pv 1) fy.cl mmYard_want GYard_want hr bYard_want (fun σ => L2N.passAt tk σ) (pa_cons (pe_ix (GE.ix_tupK (K := K)) (pe_ix (GE.ix_tupK (K := K)) (pv 3) pe_int (fun _ _ => rfl)) pe_int (fun _ _ => rfl)) (pa_cons (pe_ix (GE.ix_tupK (K := K)) (pe_ix (GE.ix_tupK (K := K)) (pv 3) pe_int (fun _ _ => rfl)) pe_int (fun _ _ => rfl)) pa_nil))))) (pss_one (ps_expr (GE.pe_methSS (pv 1) fy.cl mmYard_drop GYard_drop hr bYard_drop (fun σ => L2N.passAt tk σ) (pa_cons pe_int (pa_cons pe_int pa_nil)))))))))))) (.cons ⟨by rfl, by decide, Or.inl gRefused⟩ (fun a oe cls d pn hz hf => (pss_one (ps_ret pe_bl))) .nil))
      (pss_one (ps_ret pe_bl))))), ?_⟩
    have w24 := YO.w.ln
    obtain ⟨dx, hob⟩ := Y.ob
    refine ⟨_, rfl, a.y, dx, _, rfl, hob, by rfl, a, S, rfl, Y, YO, fun tv H1 ht e1 => ?_⟩
    obtain ⟨ta, tus, rfl, hta, htr⟩ := ht.t
    obtain ⟨net, r1, rfl, hnet, htr⟩ := htr.cons
    obtain ⟨pz, r2, rfl, hpz, htr⟩ := htr.cons
    obtain rfl := htr.nil
    refine ⟨ta, _, rfl, SqT.of hta, rfl, _, _, rfl, _, _, rfl, rfl, ?_⟩
    have hP1 := hP.keep e1
    refine ⟨_, rfl, p, s1, _, rfl, hP1, by decide, by decide, fun r H2 r0 r1 hP2 e2 => ?_⟩
    have e02 := e1.weak.trans e2
    have Y2 := (Y.x e1).ext e2 sep hP1.tup
    obtain ⟨na, nb, wus, rfl, hna, hnb, hwr⟩ := net_at (Rp.p hnet hP1 e2)
    obtain ⟨pa, pus, rfl, hpa, hpr⟩ := (Rp.p hpz hP1 e2).t
    have hwl : wus.length = S.ws.length := by rw [hwr.len, List.length_map]
    have hpl : pus.length = S.ps.length := by rw [hpr.len, List.length_map]
    obtain ⟨dx2, hob2⟩ := Y2.ob
    dsimp only [gName]
    refine ev_if (fun Q h => ⟨_, rfl, rfl, _, rfl, h⟩) (fun c => ?_) (fun c => ?_)
    · refine ⟨_, rfl, a.y, dx2, _, rfl, hob2, by rfl, _, rfl, na, _, _, _, rfl, rfl, SqT.of hna, at_of (j := 1) rfl rfl, nb, wus, rfl, .inr (SqT.of hnb), _, rfl, p, s1, _, rfl, hP2, by decide, by decide, fun r3 H3 r30 r31 hP3 e3 => ?_⟩
      obtain ⟨j, rfl⟩ := nat_of r30
      have e03 := e02.trans e3
      have eT : edT (.change (S.ws.length + j) 5) S.ws S.ps = (("way" : Str), S.ws, S.ps) := if_pos (by omega)
      refine ⟨_, _, rfl, rfl, a, S, .change (S.ws.length + j) 5, ⟨_, _, rfl⟩, by rw [← hwl]; rfl, Y2.ext e3 sep hP2.tup, YO, ⟨by omega, by decide, by decide⟩, fun hok => ?_, fun hno d fs H4 nd hd hl e4 => ⟨true, emR, fun _ b nb => k H4 (hP3.keep e4) (e03.trans e4.weak), fun z => nomatch z⟩⟩
      rw [eT] at hok
      exact absurd hok (show ("way" : Str) ≠ "" by decide)
    refine ev_if (fun Q h => ⟨_, rfl, rfl, _, rfl, h⟩) (fun c => ?_) (fun c => ?_)
    · refine ⟨_, rfl, a.y, dx2, _, rfl, hob2, by rfl, _, rfl, na, _, _, _, rfl, rfl, SqT.of hna, at_of (j := 1) rfl rfl, nb, wus, rfl, .inr (SqT.of hnb), _, rfl, p, s1, _, rfl, hP2, by decide, by decide, fun r3 H3 r30 r31 hP3 e3 => ?_⟩
      obtain ⟨j, rfl⟩ := nat_of r30
      have e03 := e02.trans e3
      have eT : edT (.cut (S.ws.length + j)) S.ws S.ps = (("way" : Str), S.ws, S.ps) := if_pos (by omega)
      refine ⟨_, _, rfl, rfl, a, S, .cut (S.ws.length + j), ⟨_, rfl⟩, by rw [← hwl]; rfl, Y2.ext e3 sep hP2.tup, YO, (show S.ws.length + j ≤ 100000000 by omega), fun hok => ?_, fun hno d fs H4 nd hd hl e4 => ⟨true, emR, fun _ b nb => k H4 (hP3.keep e4) (e03.trans e4.weak), fun z => nomatch z⟩⟩
      rw [eT] at hok
      exact absurd hok (show ("way" : Str) ≠ "" by decide)
    have hP3 := hP2
    have e03 := e02
    refine ev_if (fun Q h => ⟨_, rfl, pa, pus, rfl, .inr (SqT.of hpa), _, _, rfl, rfl, _, rfl, h⟩) (fun c => ?_) (fun c => ?_)
    · have c : decide ((0 : Int) < ((pus.length : Nat) : Int)) = true := c
      rw [decide_eq_true_eq] at c
      have h0 : 0 < S.ps.length := by omega
      obtain ⟨v, g1, g2⟩ := hpr.get (i := 0) (d := pairD S.ps[0]) (by rw [List.getElem?_map, List.getElem?_eq_getElem h0]; rfl)
      obtain ⟨qa, rfl, hqa⟩ := pair_at g2
      obtain ⟨o1, o2⟩ := YO.p.ok _ (List.getElem_mem h0)
      have eT : edT (.want S.ps[0]) S.ws S.ps = (("known" : Str), S.ws, S.ps) := if_pos (List.getElem_mem h0)
      refine ⟨_, rfl, a.y, dx2, _, rfl, hob2, by rfl, _, rfl, pa, _, _, _, rfl, rfl, SqT.of hpa, at_of (j := 0) rfl g1, qa, _, _, _, rfl, rfl, SqT.of hqa, at_of (j := 0) rfl rfl, _, rfl, pa, _, _, _, rfl, rfl, SqT.of hpa, at_of (j := 0) rfl g1, qa, _, _, _, rfl, rfl, SqT.of hqa, at_of (j := 1) rfl rfl, a, S, .want S.ps[0], ⟨_, rfl⟩, rfl, Y2, YO, ⟨o1, o2⟩, fun hok => ?_, fun hno d fs H4 nd hd hl e4 => ⟨true, emR, fun _ b nb => k H4 (hP3.keep e4) (e03.trans e4.weak), fun z => nomatch z⟩⟩
      rw [eT] at hok
      exact absurd hok (show ("known" : Str) ≠ "" by decide)
    · have c : decide ((0 : Int) < ((pus.length : Nat) : Int)) = false := c
      rw [decide_eq_false_iff_not] at c
      have h0 : S.ps = [] := List.eq_nil_of_length_eq_zero (by omega)
      have eT : edT (.drop (0, 1)) S.ws S.ps = (("unknown" : Str), S.ws, S.ps) := if_neg (by rw [h0]; exact fun z => nomatch z)
      refine ⟨_, rfl, a.y, dx2, _, rfl, hob2, by rfl, a, S, .drop (0, 1), ⟨_, rfl⟩, rfl, Y2, YO, ⟨by decide, by show 1 < S.n; omega⟩, fun hok => ?_, fun hno d fs H4 nd hd hl e4 => ⟨true, emR, fun _ b nb => k H4 (hP3.keep e4) (e03.trans e4.weak), fun z => nomatch z⟩⟩
      rw [eT] at hok
      exact absurd hok (show ("unknown" : Str) ≠ "" by decide)
end
end Mw

set_option Elab.async false
set_option linter.all false
set_option maxRecDepth 100000
set_option maxHeartbeats 4000000
namespace Mw
open PySem PySem.Spec PyProof.Rows L2 GE
def PYM (p : Addr) (a : Yd) : Addr → Prop := fun b => b = p ∨ YM a b
theorem prPs_shapedT (ps : List Pr) : SeqAt.shaped (.tuple (ps.map prP)) = true := prPs_shaped ps
/-- an edit that is not refused, or none -/
def spEdits (P : Program) (w : World) (K : PySem.W.Frag) (T : List Addr) (aD : Addr) : Sp := fun vs H Q _ => ∃ (p s : Addr) (a : Yd) (S : Ys), vs = [.ref p, .ref a.y, .int (S.n : Nat)] ∧ PoolAt H p s ∧ YdAt P w K aD H a S ∧ YsOk S ∧ (∀ c, YN a c → c ≠ p ∧ c ≠ s) ∧ 2 ≤ S.n ∧
  ∀ ws ps H', Wf S.n ws → PsOk S.n ps → YdAt P w K aD H' a { S with ws := ws, ps := ps } → PoolAt H' p s → Ext T (PYM p a) H H' → Q .non H'
section
variable {P : Program} {w : World} {K : PySem.W.Frag} {mg : Str → Option Value} {base : Heap} {T : List Addr} {aC aD aApart aRefused : Addr}
theorem ok__law_edits {f : Addr} {fd : FuncData} (F : Fun K "_law_edits" "_law_edits" s_law_edits f fd) (m_len : mg "len" = none) {fYard_task : Addr} {fdYard_task : FuncData} (FYard_task : Fun K "task" "Yard.task" sYard_task fYard_task fdYard_task) (GYard_task : FnOk P w K mg base CX0 4 fYard_task fdYard_task ["self"] (spYTask P w K T aD)) (bYard_task : Binds K fdYard_task ["self"] []) (mmYard_task : Meth K aD "task" fYard_task) {f_law_draw : Addr} {fd_law_draw : FuncData} (F_law_draw : Fun K "_law_draw" "_law_draw" s_law_draw f_law_draw fd_law_draw) (G_law_draw : FnOk P w K mg base CX0 4 f_law_draw fd_law_draw ["pool", "many"] (spDraw T)) (b_law_draw : Binds K fd_law_draw ["pool", "many"] []) (g_law_draw : mg "_law_draw" = some (.ref f_law_draw)) {f_law_near : Addr} {fd_law_near : FuncData} (F_law_near : Fun K "_law_near" "_law_near" s_law_near f_law_near fd_law_near) (G_law_near : FnOk P w K mg base CX0 4 f_law_near fd_law_near ["pool", "places"] (spNear T)) (b_law_near : Binds K fd_law_near ["pool", "places"] []) (g_law_near : mg "_law_near" = some (.ref f_law_near)) {f_law_cost : Addr} {fd_law_cost : FuncData} (F_law_cost : Fun K "_law_cost" "_law_cost" s_law_cost f_law_cost fd_law_cost) (G_law_cost : FnOk P w K mg base CX0 4 f_law_cost fd_law_cost ["pool"] (spCost T)) (b_law_cost : Binds K fd_law_cost ["pool"] []) (g_law_cost : mg "_law_cost" = some (.ref f_law_cost)) {fYard_build : Addr} {fdYard_build : FuncData} (FYard_build : Fun K "build" "Yard.build" sYard_build fYard_build fdYard_build) (GYard_build : FnOk P w K mg base (GE.CXn P w) 4 fYard_build fdYard_build ["self", "a", "b", "cost"] (spYEd P w K T aD aRefused isB)) (bYard_build : Binds K fdYard_build ["self", "a", "b", "cost"] []) (mmYard_build : Meth K aD "build" fYard_build) {fYard_cut : Addr} {fdYard_cut : FuncData} (FYard_cut : Fun K "cut" "Yard.cut" sYard_cut fYard_cut fdYard_cut) (GYard_cut : FnOk P w K mg base (GE.CXn P w) 4 fYard_cut fdYard_cut ["self", "way"] (spYEd P w K T aD aRefused isCut)) (bYard_cut : Binds K fdYard_cut ["self", "way"] []) (mmYard_cut : Meth K aD "cut" fYard_cut) {fYard_change : Addr} {fdYard_change : FuncData} (FYard_change : Fun K "change" "Yard.change" sYard_change fYard_change fdYard_change) (GYard_change : FnOk P w K mg base (GE.CXn P w) 4 fYard_change fdYard_change ["self", "way", "cost"] (spYEd P w K T aD aRefused isCh)) (bYard_change : Binds K fdYard_change ["self", "way", "cost"] []) (mmYard_change : Meth K aD "change" fYard_change) {fYard_drop : Addr} {fdYard_drop : FuncData} (FYard_drop : Fun K "drop" "Yard.drop" sYard_drop fYard_drop fdYard_drop) (GYard_drop : FnOk P w K mg base (GE.CXn P w) 4 fYard_drop fdYard_drop ["self", "a", "b"] (spYEd P w K T aD aRefused isD)) (bYard_drop : Binds K fdYard_drop ["self", "a", "b"] []) (mmYard_drop : Meth K aD "drop" fYard_drop) {fYard_want : Addr} {fdYard_want : FuncData} (FYard_want : Fun K "want" "Yard.want" sYard_want fYard_want fdYard_want) (GYard_want : FnOk P w K mg base (GE.CXn P w) 4 fYard_want fdYard_want ["self", "a", "b"] (spYEd P w K T aD aRefused isW)) (bYard_want : Binds K fdYard_want ["self", "a", "b"] []) (mmYard_want : Meth K aD "want" fYard_want) (fy : YTx K aD) : FnOk P w K mg base CX0 5 f fd ["pool", "yard", "places"] (spEdits P w K T aD) := by
  refine F.ok sc_law_edits (fun vs H Q E h => ?_) (fun cdv A outer s H vs Q E hr h => ?_)
  · obtain ⟨p, s1, a, S, rfl, hP, Y, YO, sep, n2, k⟩ := h
    rfl
  · obtain ⟨p, s1, a, S, rfl, hP, Y, YO, sep, n2, k⟩ := h
    refine ⟨_, (pss_cons (ps_asg (pe_meth0 (pv 1) fy.cl mmYard_task GYard_task hr bYard_task .nil pass0) (pg_tup (by rfl) (pgs_cons (pg_name (i := 3) sc_law_edits.nd rfl (Or.inl rfl)) (pgs_cons (pg_name (i := 4) sc_law_edits.nd rfl (Or.inl rfl)) pgs_nil))))
      (pss_cons (ps_set (i := 5) sc_law_edits.nd rfl (Or.inl rfl) (pe_call G_law_draw hr (by rfl) g_law_draw F_law_draw.kp b_law_draw .nil pass0 (pa_cons (pv 0) (pa_cons pe_int pa_nil))))
      (pss_one (ps_if (PW.pt (pw_and (pt_cmpR op_lt (pv 5) pe_int (nomark _)) (pw_and1 (pt_cmpR op_lt (pe_callB call_len_seq (by rfl) m_len PySem.boot_len (pa_cons (pe_ix ix_tup (pv 3) pe_int (fun _ _ => rfl)) pa_nil)) pe_int (nomark _))))) (pss_cons (ps_asg (pe_call G_law_near hr (by rfl) g_law_near F_law_near.kp b_law_near .nil pass0 (pa_cons (pv 0) (pa_cons (pv 2) pa_nil))) (pg_tup (by rfl) (pgs_cons (pg_name (i := 6) sc_law_edits.nd rfl (Or.inl rfl)) (pgs_cons (pg_name (i := 7) sc_law_edits.nd rfl (Or.inl rfl)) pgs_nil))))
      (pss_one (ps_expr (GE.pe_methSS (pv 1) fy.cl mmYard_build GYard_build hr bYard_build (fun σ => L2N.passAt GE.takesN0 σ) (pa_cons (pv 6) (pa_cons (pv 7) (pa_cons (pe_call G_law_cost hr (by rfl) g_law_cost F_law_cost.kp b_law_cost .nil pass0 (pa_cons (pv 0) pa_nil)) pa_nil))))))) (pss_one (ps_if (PW.pt (pw_and (pt_cmpR op_eq (pv 5) pe_int (nomark _)) (pw_and1 (pt_cmpR op_gt (pe_callB call_len_seq (by rfl) m_len PySem.boot_len (pa_cons (pe_ix ix_tup (pv 3) pe_int (fun _ _ => rfl)) pa_nil)) pe_int (nomark _))))) (pss_cons (ps_set (i := 8) sc_law_edits.nd rfl (Or.inl rfl) (pe_call G_law_draw hr (by rfl) g_law_draw F_law_draw.kp b_law_draw .nil pass0 (pa_cons (pv 0) (pa_cons (pe_callB call_len_seq (by rfl) m_len PySem.boot_len (pa_cons (pe_ix ix_tup (pv 3) pe_int (fun _ _ => rfl)) pa_nil)) pa_nil))))
      (pss_cons (ps_set (i := 9) sc_law_edits.nd rfl (Or.inl rfl) (pe_ix ix_tup (pe_ix ix_tup (pe_ix ix_tup (pv 3) pe_int (fun _ _ => rfl)) (pv 8) (fun _ _ => rfl)) pe_int (fun _ _ => rfl)))
      (pss_cons (ps_expr (GE.pe_methSS (pv 1) fy.cl mmYard_cut GYard_cut hr bYard_cut (fun σ => L2N.passAt GE.takesN0 σ) (pa_cons (pv 8) pa_nil)))
      (pss_one (ps_if (pt_cmpR op_eq (pe_call G_law_draw hr (by rfl) g_law_draw F_law_draw.kp b_law_draw .nil pass0 (pa_cons (pv 0) (pa_cons pe_int pa_nil))) pe_int (nomark _)) (pss_cons (ps_asg (pe_call G_law_near hr (by rfl) g_law_near F_law_near.kp b_law_near .nil pass0 (pa_cons (pv 0) (pa_cons (pv 2) pa_nil))) (pg_tup (by rfl) (pgs_cons (pg_name (i := 6) sc_law_edits.nd rfl (Or.inl rfl)) (pgs_cons (pg_name (i := 7) sc_law_edits.nd rfl (Or.inl rfl)) pgs_nil))))
      (pss_one (ps_expr (GE.pe_methSS (pv 1) fy.cl mmYard_build GYard_build hr bYard_build (fun σ => L2N.passAt GE.takesN0 σ) (pa_cons (pv 6) (pa_cons (pv 7) (pa_cons (pv 9) pa_nil))))))) pss_nil))))) (pss_one (ps_if (PW.pt (pw_and (pt_cmpR op_eq (pv 5) pe_int (nomark _)) (pw_and1 (pt_cmpR op_gt (pe_callB call_len_seq (by rfl) m_len PySem.boot_len (pa_cons (pe_ix ix_tup (pv 3) pe_int (fun _ _ => rfl)) pa_nil)) pe_int (nomark _))))) (pss_one (ps_expr (GE.pe_methSS (pv 1) fy.cl mmYard_change GYard_change hr bYard_change (fun σ => L2N.passAt GE.takesN0 σ) (pa_cons (pe_call G_law_draw hr (by rfl) g_law_draw F_law_draw.kp b_law_draw .nil pass0 (pa_cons (pv 0) (pa_cons (pe_callB call_len_seq (by rfl) m_len PySem.boot_len (pa_cons (pe_ix ix_tup (pv 3) pe_int (fun _ _ => rfl)) pa_nil)) pa_nil))) (pa_cons (pe_call G_law_cost hr (by rfl) g_law_cost F_law_cost.kp b_law_cost .nil pass0 (pa_cons (pv 0) pa_nil)) pa_nil))))) (pss_cons (ps_set (i := 10) sc_law_edits.nd rfl (Or.inl rfl) (pe_call G_law_near hr (by rfl) g_law_near F_law_near.kp b_law_near .nil pass0 (pa_cons (pv 0) (pa_cons (pv 2) pa_nil))))
      (pss_one (ps_if (pt_cmpR (op_inDTK (K := K) (by have := hr.un; show (A.deeper _).units + 65 < _; omega)) (pv 10) (pv 4) (by rfl)) (pss_one (ps_expr (GE.pe_methSS (pv 1) fy.cl mmYard_drop GYard_drop hr bYard_drop (fun σ => L2N.passAt GE.takesN0 σ) (pa_cons (pe_ix ix_tup (pv 10) pe_int (fun _ _ => rfl)) (pa_cons (pe_ix ix_tup (pv 10) pe_int (fun _ _ => rfl)) pa_nil))))) (pss_one (ps_if (pt_cmpR op_lt (pe_callB call_len_seq (by rfl) m_len PySem.boot_len (pa_cons (pv 4) pa_nil)) pe_int (nomark _)) (pss_one (ps_expr (GE.pe_methSS (pv 1) fy.cl mmYard_want GYard_want hr bYard_want (fun σ => L2N.passAt GE.takesN0 σ) (pa_cons (pe_ix ix_tup (pv 10) pe_int (fun _ _ => rfl)) (pa_cons (pe_ix ix_tup (pv 10) pe_int (fun _ _ => rfl)) pa_nil))))) pss_nil))))))))))))), ?_⟩
    have w24 := YO.w.ln
    have n12 := YO.w.n12
    have sp1 : ∀ c, YN a c → ¬ atP p c := fun c hc => (sep c hc).1
    obtain ⟨dx, hob⟩ := Y.ob
    refine ⟨_, rfl, a.y, dx, _, rfl, hob, by rfl, a, S, rfl, Y, YO, fun tv H1 ht e1 => ?_⟩
    obtain ⟨ta, tus, rfl, hta, htr⟩ := ht.t
    obtain ⟨net, r1, rfl, hnet, htr⟩ := htr.cons
    obtain ⟨pz, r2, rfl, hpz, htr⟩ := htr.cons
    obtain rfl := htr.nil
    refine ⟨ta, _, rfl, SqT.of hta, rfl, _, _, rfl, _, _, rfl, rfl, ?_⟩
    have hP1 := hP.keep e1
    refine ⟨_, rfl, p, s1, _, rfl, hP1, by decide, by decide, fun r H2 r0 r1 hP2 e2 => ?_⟩
    have e02 : Ext T (PYM p a) H H2 := ext_mono (e1.weak.trans e2) fun b z => .inl z
    have Y2 := (Y.x e1).ext e2 sp1 hP1.tup
    obtain ⟨na, nb, wus, rfl, hna, hnb, hwr⟩ := net_at (Rp.p hnet hP1 e2)
    obtain ⟨pa, pus, rfl, hpa, hpr⟩ := (Rp.p hpz hP1 e2).t
    have hwl : wus.length = S.ws.length := by rw [hwr.len, List.length_map]
    have hpl : pus.length = S.ps.length := by rw [hpr.len, List.length_map]
    have lenW : ∀ {Q : V → Hp → Prop}, Q (.int ((wus.length : Nat) : Int)) H2 → ∃ q ys, [V.ref nb] = [V.ref q] ∧ (SqL K H2 q ys ∨ SqT K H2 q ys) ∧ Q (.int (ys.length : Nat)) H2 := fun h => ⟨nb, _, rfl, .inr (SqT.of hnb), h⟩
    -- an edit at the heap Hx
    have fin : ∀ (e : Ed) (Hx : Hp) (S' : Ys), YdAt P w K aD Hx a S' → S'.n = S.n → S'.ks = S.ks → S'.many = S.many → Wf S.n S'.ws → PsOk S.n S'.ps → PoolAt Hx p s1 → Ext T (PYM p a) H Hx → EdOk S.n e → (edT e S'.ws S'.ps).1 = "" → YRes P w K T aD aRefused a S' (edT e S'.ws S'.ps) Hx Q (fun _ _ _ => False) := fun e Hx S' Yx en ek em Wx ox hPx ex eo hr => by
      obtain ⟨n', ws', ps', ks', many'⟩ := S'
      have en : n' = S.n := en
      have ek : ks' = S.ks := ek
      have em : many' = S.many := em
      subst en ek em
      refine ⟨fun _ H' Y' e' => ?_, fun h => absurd hr h⟩
      obtain ⟨g1, g2⟩ := edT_ok Wx ox eo
      exact k _ _ H' g1 g2 Y' (hPx.out e' (fun z => (sep p (.inl z)).1 rfl) (fun z => (sep s1 (.inl z)).2 rfl)) (ex.trans (ext_mono e' fun b z => .inr z))
    dsimp only [gName]
    obtain ⟨pk, rfl⟩ := nat_of r0
    refine ev_if (ev_and (fun Q h => ⟨_, rfl, _, _, rfl, rfl, _, rfl, h⟩) fun _ => fun Q h => ⟨_, rfl, na, _, _, _, rfl, rfl, SqT.of hna, at_of (j := 1) rfl rfl, nb, wus, rfl, .inr (SqT.of hnb), _, _, rfl, rfl, _, rfl, h⟩) (fun c => ?_) (fun c => ?_)
    · rw [Bool.and_eq_true, decide_eq_true_eq, decide_eq_true_eq] at c
      have h24 : S.ws.length < 24 := by have := c.2; omega
      refine ⟨_, rfl, _, rfl, p, s1, S.n, rfl, hP2, n2, by omega, fun nt q H3 q1 q2 hnt hP3 e3 => ?_⟩
      have Y3 := Y2.ext e3 sp1 hP2.tup
      refine ⟨nt, _, rfl, SqT.of hnt, rfl, _, _, rfl, _, _, rfl, rfl, ?_⟩
      obtain ⟨dx3, hob3⟩ := Y3.ob
      refine ⟨_, rfl, a.y, dx3, _, rfl, hob3, by rfl, _, rfl, _, rfl, _, rfl, p, s1, rfl, hP3, fun cc H4 c0 c1 hP4 e4 => ?_⟩
      obtain ⟨cn, rfl⟩ := nat_of (show 0 ≤ cc by omega)
      have Y4 := Y3.ext e4 sp1 hP3.tup
      have eo : EdOk S.n (.build (q.1, q.2, cn)) := ⟨q1, q2, by show 1 ≤ cn; omega, by show cn ≤ 10000; omega⟩
      exact ⟨a, S, .build (q.1, q.2, cn), ⟨_, rfl⟩, rfl, Y4, YO, eo, fin (.build (q.1, q.2, cn)) H4 S Y4 rfl rfl rfl YO.w YO.p hP4 ((e02.trans (ext_mono e3 fun b z => .inl z)).trans (ext_mono e4 fun b z => .inl z)) eo (by rw [show edT (.build (q.1, q.2, cn)) S.ws S.ps = (("" : Str), S.ws ++ [(q.1, q.2, cn)], S.ps) from if_neg (by omega)])⟩
    refine ev_if (ev_and (fun Q h => ⟨_, rfl, rfl, _, rfl, h⟩) fun _ => fun Q h => ⟨_, rfl, na, _, _, _, rfl, rfl, SqT.of hna, at_of (j := 1) rfl rfl, nb, wus, rfl, .inr (SqT.of hnb), _, _, rfl, rfl, _, rfl, h⟩) (fun c => ?_) (fun c => ?_)
    · rw [Bool.and_eq_true, decide_eq_true_eq, decide_eq_true_eq] at c
      have h0 : 0 < S.ws.length := by have := c.2; omega
      refine ⟨_, rfl, _, rfl, na, _, _, _, rfl, rfl, SqT.of hna, at_of (j := 1) rfl rfl, nb, wus, rfl, .inr (SqT.of hnb), p, s1, _, rfl, hP2, by omega, by omega, fun r3 H3 r30 r31 hP3 e3 => ?_⟩
      obtain ⟨i, rfl⟩ := nat_of r30
      have hi : i < S.ws.length := by omega
      have Y3 := Y2.ext e3 sp1 hP2.tup
      have e03 : Ext T (PYM p a) H H3 := e02.trans (ext_mono e3 fun b z => .inl z)
      obtain ⟨wa, hwa, hwt⟩ := way_get YO.w hwr hi
      have hwt3 := e3.tup (fun z => hP2.tup wa _ z hwt) hwt
      have hna3 := e3.tup (fun z => hP2.tup na _ z hna) hna
      have hnb3 := e3.tup (fun z => hP2.tup nb _ z hnb) hnb
      dsimp only [gName]
      refine ⟨_, rfl, na, _, _, _, rfl, rfl, SqT.of hna3, at_of (j := 1) rfl rfl, _, rfl, nb, _, _, _, rfl, rfl, SqT.of hnb3, at_of (j := i) rfl hwa, wa, _, _, _, rfl, rfl, SqT.of hwt3, at_of (j := 2) rfl rfl, ?_⟩
      dsimp only [gName]
      obtain ⟨dx3, hob3⟩ := Y3.ob
      have eT : edT (.cut i) S.ws S.ps = (("" : Str), S.ws.eraseIdx i, S.ps) := if_neg (by omega)
      have w25 := YO.w.ln
      refine ⟨_, rfl, a.y, dx3, _, rfl, hob3, by rfl, _, rfl, a, S, .cut i, ⟨_, rfl⟩, rfl, Y3, YO, (show i ≤ 100000000 by omega), ⟨fun _ H4 Y4 e4 => ?_, fun h => absurd (by rw [eT]) h⟩⟩
      rw [eT] at Y4
      have hP4 := hP3.out e4 (fun z => (sep p (.inl z)).1 rfl) (fun z => (sep s1 (.inl z)).2 rfl)
      have e04 := e03.trans (ext_mono e4 fun b z => .inr z)
      have W4 : Wf S.n (S.ws.eraseIdx i) := by
        have := (edT_ok (e := .cut i) YO.w YO.p (show i ≤ 100000000 by omega)).1
        rw [eT] at this; exact this
      have ok3 := (wy_ok YO.w hi).2
      refine ⟨_, rfl, p, s1, _, rfl, hP4, by decide, by decide, fun r5 H5 r50 r51 hP5 e5 => ⟨rfl, _, rfl, ?_⟩⟩
      have Y5 := Y4.ext e5 sp1 hP4.tup
      have e05 := e04.trans (ext_mono e5 fun b z => .inl z)
      refine ite2 (fun c => ?_) (fun c => k _ _ H5 W4 YO.p Y5 hP5 e05)
      refine ⟨_, rfl, _, rfl, p, s1, S.n, rfl, hP5, n2, by omega, fun nt q H6 q1 q2 hnt hP6 e6 => ?_⟩
      have Y6 := Y5.ext e6 sp1 hP5.tup
      refine ⟨nt, _, rfl, SqT.of hnt, rfl, _, _, rfl, _, _, rfl, rfl, ?_⟩
      obtain ⟨dx6, hob6⟩ := Y6.ob
      have eo : EdOk S.n (.build (q.1, q.2, (wyAt S.ws i).2.2)) := ⟨q1, q2, ok3.2.2.1, ok3.2.2.2⟩
      have hl5 : (S.ws.eraseIdx i).length < 24 := by
        rw [List.length_eraseIdx, if_pos hi]; omega
      exact ⟨_, rfl, a.y, dx6, _, rfl, hob6, by rfl, _, rfl, _, rfl, _, rfl, a, _, .build (q.1, q.2, (wyAt S.ws i).2.2), ⟨_, rfl⟩, rfl, Y6, ⟨W4, YO.p⟩, eo, fin (.build (q.1, q.2, (wyAt S.ws i).2.2)) H6 _ Y6 rfl rfl rfl W4 YO.p hP6 (e05.trans (ext_mono e6 fun b z => .inl z)) eo (by rw [show edT (.build (q.1, q.2, (wyAt S.ws i).2.2)) (S.ws.eraseIdx i) S.ps = (("" : Str), S.ws.eraseIdx i ++ [(q.1, q.2, (wyAt S.ws i).2.2)], S.ps) from if_neg (by omega)])⟩
    refine ev_if (ev_and (fun Q h => ⟨_, rfl, rfl, _, rfl, h⟩) fun _ => fun Q h => ⟨_, rfl, na, _, _, _, rfl, rfl, SqT.of hna, at_of (j := 1) rfl rfl, nb, wus, rfl, .inr (SqT.of hnb), _, _, rfl, rfl, _, rfl, h⟩) (fun c => ?_) (fun c => ?_)
    · rw [Bool.and_eq_true, decide_eq_true_eq, decide_eq_true_eq] at c
      have h0 : 0 < S.ws.length := by have := c.2; omega
      obtain ⟨dx2, hob2⟩ := Y2.ob
      refine ⟨_, rfl, a.y, dx2, _, rfl, hob2, by rfl, _, rfl, _, rfl, na, _, _, _, rfl, rfl, SqT.of hna, at_of (j := 1) rfl rfl, nb, wus, rfl, .inr (SqT.of hnb), p, s1, _, rfl, hP2, by omega, by omega, fun r3 H3 r30 r31 hP3 e3 => ?_⟩
      obtain ⟨i, rfl⟩ := nat_of r30
      have hi : i < S.ws.length := by omega
      have Y3 := Y2.ext e3 sp1 hP2.tup
      refine ⟨_, rfl, p, s1, rfl, hP3, fun cc H4 c0 c1 hP4 e4 => ?_⟩
      obtain ⟨cn, rfl⟩ := nat_of (show 0 ≤ cc by omega)
      have Y4 := Y3.ext e4 sp1 hP3.tup
      have eo : EdOk S.n (.change i cn) := ⟨by omega, by omega, by omega⟩
      exact ⟨a, S, .change i cn, ⟨_, _, rfl⟩, rfl, Y4, YO, eo, fin (.change i cn) H4 S Y4 rfl rfl rfl YO.w YO.p hP4 ((e02.trans (ext_mono e3 fun b z => .inl z)).trans (ext_mono e4 fun b z => .inl z)) eo (by rw [show edT (.change i cn) S.ws S.ps = (("" : Str), S.ws.set i ((wyAt S.ws i).1, (wyAt S.ws i).2.1, cn), S.ps) from if_neg (by omega)])⟩
    refine ⟨_, rfl, _, rfl, p, s1, S.n, rfl, hP2, n2, by omega, fun nt q H3 q1 q2 hnt hP3 e3 => ?_⟩
    have Y3 := Y2.ext e3 sp1 hP2.tup
    have e03 := e02.trans (ext_mono e3 fun b z => .inl z)
    have hpa3 := e3.tup (fun z => hP2.tup pa _ z hpa) hpa
    have hpr3 := hpr.ext e3 hP2.tup
    have rq : Rp H3 (pairD q) (.ref nt) := rp_t hnt (rpl_cons (rp_i _) (rpl_cons (rp_i _) rpl_nil))
    obtain ⟨dx3, hob3⟩ := Y3.ob
    dsimp only [gName]
    refine ⟨_, rfl, _, rfl, prP q, S.ps.map prP, dp_pair rq, .tup (SqT.of hpa3) (dp_pairs hpr3), prP_shaped _, prPs_shapedT _, _, rfl, ?_⟩
    rw [any_pr, if_neg Bool.false_ne_true]
    refine ite2 (fun c => ?_) (fun c => ?_)
    · have hq : q ∈ S.ps := of_decide_eq_true c
      exact ⟨_, rfl, a.y, dx3, _, rfl, hob3, by rfl, _, rfl, nt, _, _, _, rfl, rfl, SqT.of hnt, at_of (j := 0) rfl rfl, _, rfl, nt, _, _, _, rfl, rfl, SqT.of hnt, at_of (j := 1) rfl rfl, a, S, .drop q, ⟨_, rfl⟩, rfl, Y3, YO, ⟨q1, q2⟩, fin (.drop q) H3 S Y3 rfl rfl rfl YO.w YO.p hP3 e03 ⟨q1, q2⟩ (by rw [show edT (.drop q) S.ws S.ps = (("" : Str), S.ws, S.ps.erase q) from if_pos hq])⟩
    have hq : q ∉ S.ps := fun z => c (decide_eq_true z)
    refine ev_if (fun Q h => ⟨_, rfl, pa, pus, rfl, .inr (SqT.of hpa3), _, _, rfl, rfl, _, rfl, h⟩) (fun c => ?_) (fun c => ?_)
    · have c : decide (((pus.length : Nat) : Int) < 6) = true := c
      rw [decide_eq_true_eq] at c
      exact ⟨_, rfl, a.y, dx3, _, rfl, hob3, by rfl, _, rfl, nt, _, _, _, rfl, rfl, SqT.of hnt, at_of (j := 0) rfl rfl, _, rfl, nt, _, _, _, rfl, rfl, SqT.of hnt, at_of (j := 1) rfl rfl, a, S, .want q, ⟨_, rfl⟩, rfl, Y3, YO, ⟨q1, q2⟩, fin (.want q) H3 S Y3 rfl rfl rfl YO.w YO.p hP3 e03 ⟨q1, q2⟩ (by rw [show edT (.want q) S.ws S.ps = (("" : Str), S.ws, S.ps ++ [q]) from (if_neg hq).trans (if_neg (by omega))])⟩
    · exact k _ _ H3 YO.w YO.p Y3 hP3 e03
end
end Mw

set_option Elab.async false
set_option linter.all false
set_option maxRecDepth 100000
set_option maxHeartbeats 4000000
namespace Mw
open PySem PySem.Spec PyProof.Rows L2 GE
/-! ### parts as data -/
def wyP (q : Wy) : PyData := .tuple [.int (q.1 : Nat), .int (q.2.1 : Nat), .int (q.2.2 : Nat)]
def partP (p : Part) : PyData := .tuple [natD p.1, .tuple (p.2.1.map wyP), .tuple (p.2.2.map prP)]
theorem eqv_wy (p q : Wy) : PyData.eqv (wyP p) (wyP q) = decide (p = q) := by
  obtain ⟨a, b, c⟩ := p
  obtain ⟨d, e, f⟩ := q
  by_cases h1 : a = d <;> by_cases h2 : b = e <;> by_cases h3 : c = f <;> simp [wyP, PyData.eqv, PyData.eqvAll, h1, h2, h3] <;> omega
theorem eqv_map {α : Type} [DecidableEq α] {f : α → PyData} (h : ∀ x y, PyData.eqv (f x) (f y) = decide (x = y)) : ∀ l m : List α, PyData.eqvAll (l.map f) (m.map f) = decide (l = m)
  | [], [] => by simp [PyData.eqvAll]
  | [], y :: m => by simp [PyData.eqvAll]
  | x :: l, [] => by simp [PyData.eqvAll]
  | x :: l, y :: m => by
    have ih := eqv_map h l m
    simp only [List.map_cons, PyData.eqvAll, h x y, ih]
    by_cases h1 : x = y <;> by_cases h2 : l = m <;> simp [h1, h2]
theorem eqv_part (p q : Part) : PyData.eqv (partP p) (partP q) = decide (p = q) := by
  obtain ⟨a, b, c⟩ := p
  obtain ⟨d, e, f⟩ := q
  have h1 := eqv_nat a d
  have h2 := eqv_map eqv_wy b e
  have h3 := eqv_map eqv_pr c f
  unfold partP natD
  simp only [PyData.eqv, PyData.eqvAll, h1, h2, h3]
  by_cases g1 : a = d <;> by_cases g2 : b = e <;> by_cases g3 : c = f <;> simp [g1, g2, g3]
theorem any_part (q : Part) (ks : List Part) : ((ks.map partP).any fun z => PyData.eqv z (partP q)) = decide (q ∈ ks) := by
  rw [Bool.eq_iff_iff, List.any_eq_true, decide_eq_true_eq]
  constructor
  · rintro ⟨z, hz, e⟩
    obtain ⟨p, hp, rfl⟩ := List.mem_map.mp hz
    rw [eqv_part, decide_eq_true_eq] at e
    rw [← e]; exact hp
  · intro h
    exact ⟨partP q, List.mem_map.mpr ⟨q, h, rfl⟩, by rw [eqv_part, decide_eq_true rfl]⟩
theorem all_map {α : Type} {f : α → PyData} {b : Nat} (h : ∀ x, (f x).canLay0 = true ∧ (f x).depth ≤ b) : ∀ l : List α, PyData.canLayAll0 (l.map f) = true ∧ PyData.depthAll (l.map f) ≤ b
  | [] => ⟨rfl, Nat.zero_le _⟩
  | x :: l => by
    obtain ⟨h1, h2⟩ := all_map h l
    obtain ⟨g1, g2⟩ := h x
    exact ⟨by simp [PyData.canLayAll0, g1, h1], by simp only [List.map_cons, PyData.depthAll]; omega⟩
theorem part_lay (p : Part) : (partP p).canLay0 = true ∧ (partP p).depth ≤ 8 := by
  obtain ⟨a1, a2⟩ := all_map (f := fun x : Nat => PyData.int (x : Int)) (b := 1) (fun x => ⟨rfl, by simp [PyData.depth]⟩) p.1
  obtain ⟨b1, b2⟩ := all_map (f := wyP) (b := 3) (fun x => ⟨by simp [wyP, PyData.canLay0, PyData.canLayAll0], by simp [wyP, PyData.depth, PyData.depthAll]⟩) p.2.1
  obtain ⟨c1, c2⟩ := all_map (f := prP) (b := 3) (fun x => ⟨by simp [prP, PyData.canLay0, PyData.canLayAll0], by simp [prP, PyData.depth, PyData.depthAll]⟩) p.2.2
  unfold partP natD
  refine ⟨by simp only [PyData.canLay0, PyData.canLayAll0, a1, b1, c1, Bool.and_self], ?_⟩
  simp only [PyData.depth, PyData.depthAll]
  omega
theorem part_shaped (p : Part) : SeqAt.shaped (partP p) = true := by
  obtain ⟨h1, h2⟩ := part_lay p
  show (_ && _) = true
  rw [Bool.and_eq_true]
  exact ⟨h1, decide_eq_true (by omega)⟩
theorem parts_shaped (ks : List Part) : SeqAt.shaped (.list (ks.map partP)) = true := by
  obtain ⟨h1, h2⟩ := all_map (f := partP) (b := 8) part_lay ks
  show (PyData.canLayAll0 (ks.map partP) && decide (PyData.depthAll (ks.map partP) + 1 ≤ 64)) = true
  rw [h1, Bool.true_and, decide_eq_true_eq]
  omega
theorem dp_natR {K : PySem.W.Frag} {H : Hp} : ∀ {l : List Nat} {vs : List V}, RpL H (l.map fun (c : Nat) => D.i (c : Int)) vs → DpAll K H vs (l.map fun x : Nat => .int (x : Int))
  | [], vs, h => by rw [h.nil]; exact .nil
  | x :: l, vs, h => by
    obtain ⟨v, r, rfl, h1, h2⟩ := h.cons
    rw [h1.i]
    exact .cons (.int _) (dp_natR h2)
theorem dp_wys {K : PySem.W.Frag} {H : Hp} : ∀ {ws : Wl} {vs : List V}, RpL H (ws.map wayD) vs → DpAll K H vs (ws.map wyP)
  | [], vs, h => by rw [h.nil]; exact .nil
  | x :: l, vs, h => by
    obtain ⟨v, r, rfl, h1, h2⟩ := h.cons
    obtain ⟨a, rfl, ha⟩ := way_at h1
    exact .cons (.tup (SqT.of ha) (.cons (.int _) (.cons (.int _) (.cons (.int _) .nil)))) (dp_wys h2)
theorem dp_part {K : PySem.W.Frag} {H : Hp} {p : Part} {v : V} (h : Rp H (partD p) v) : Dp K H v (partP p) := by
  obtain ⟨a, vs, rfl, h1, h2⟩ := h.t
  obtain ⟨v1, r1, rfl, g1, h2⟩ := h2.cons
  obtain ⟨v2, r2, rfl, g2, h2⟩ := h2.cons
  obtain ⟨v3, r3, rfl, g3, h2⟩ := h2.cons
  obtain rfl := h2.nil
  obtain ⟨a1, u1, rfl, k1, l1⟩ := g1.t
  obtain ⟨a2, u2, rfl, k2, l2⟩ := g2.t
  obtain ⟨a3, u3, rfl, k3, l3⟩ := g3.t
  exact .tup (SqT.of h1) (.cons (.tup (SqT.of k1) (dp_natR l1)) (.cons (.tup (SqT.of k2) (dp_wys l2)) (.cons (.tup (SqT.of k3) (dp_pairs l3)) .nil)))
theorem dp_parts {K : PySem.W.Frag} {H : Hp} : ∀ {ks : List Part} {vs : List V}, RpL H (ks.map partD) vs → DpAll K H vs (ks.map partP)
  | [], vs, h => by rw [h.nil]; exact .nil
  | x :: l, vs, h => by
    obtain ⟨v, r, rfl, h1, h2⟩ := h.cons
    exact .cons (dp_part h1) (dp_parts h2)
end Mw

set_option Elab.async false
set_option linter.all false
set_option maxRecDepth 100000
set_option maxHeartbeats 4000000
namespace Mw
open PySem PySem.Spec PyProof.Rows L2 GE
/-- all that the law of answers holds: the pool, the yard, the list of known parts -/
structure B23 (P : Program) (w : World) (K : PySem.W.Frag) (aD : Addr) (T : List Addr) (H : Hp) (p s lk : Addr) (a : Yd) (S : Ys) : Prop where
  pool : PoolAt H p s
  y : YdAt P w K aD H a S
  yo : YsOk S
  sep : ∀ c, YN a c → c ≠ p ∧ c ≠ s
  n2 : 2 ≤ S.n
  kn : ∃ us, H lk = some (.lst us) ∧ RpL H (S.ks.map partD) us
  kp : lk ≠ p
  ky : ¬ YM a lk
  wd : Wd T H
section
variable {P : Program} {w : World} {K : PySem.W.Frag} {aD : Addr} {T : List Addr} {H H' : Hp} {p s lk : Addr} {a : Yd} {S : Ys}
theorem B23.x (h : B23 P w K aD T H p s lk a S) (e : Ext T noM H H') : B23 P w K aD T H' p s lk a S := by
  obtain ⟨h1, h2, h3, h4, h5, ⟨us, h6, h7⟩, h8, h9, h10⟩ := h
  exact ⟨h1.keep e, h2.x e, h3, h4, h5, ⟨us, e.lst (fun z => z) h6, h7.x e⟩, h8, h9, h10.ext e⟩
theorem B23.dr (h : B23 P w K aD T H p s lk a S) (e : Ext T (atP p) H H') (hP : PoolAt H' p s) : B23 P w K aD T H' p s lk a S := by
  obtain ⟨h1, h2, h3, h4, h5, ⟨us, h6, h7⟩, h8, h9, h10⟩ := h
  exact ⟨hP, h2.ext e (fun c hc => (h4 c hc).1) h1.tup, h3, h4, h5, ⟨us, e.lst (fun z => h8 z) h6, h7.ext e h1.tup⟩, h8, h9, h10.ext e⟩
theorem B23.ed {ws : Wl} {ps : List Pr} (h : B23 P w K aD T H p s lk a S) (W : Wf S.n ws) (ok : PsOk S.n ps) (Y : YdAt P w K aD H' a { S with ws := ws, ps := ps }) (hP : PoolAt H' p s) (e : Ext T (PYM p a) H H') : B23 P w K aD T H' p s lk a { S with ws := ws, ps := ps } := by
  obtain ⟨h1, h2, h3, h4, h5, ⟨us, h6, h7⟩, h8, h9, h10⟩ := h
  have hM : ∀ b vs, PYM p a b → H b ≠ some (.tup vs) := fun b vs z => z.elim (fun z => h1.tup b vs z) fun z => h2.not b vs z
  exact ⟨hP, Y, ⟨W, ok⟩, h4, h5, ⟨us, e.lst (fun z => z.elim h8 h9) h6, h7.ext e hM⟩, h8, h9, h10.ext e⟩
/-- after an answer; l is the law's new list of parts -/
theorem B23.tl {kd l : Addr} {ks : List Part} {many : Nat} {us : List V} (h : B23 P w K aD T H p s lk a S) (Y : YdAt P w K aD H' ⟨a.y, a.lw, a.lp, kd⟩ ⟨S.n, S.ws, S.ps, ks, many⟩) (hk : H kd = none) (e : Ext T (fun b => b = a.y) H H') (hl : H l = some (.lst us)) (hr : RpL H (ks.map partD) us) (lp : l ≠ p) (ly : ¬ YM a l) : B23 P w K aD T H' p s l ⟨a.y, a.lw, a.lp, kd⟩ ⟨S.n, S.ws, S.ps, ks, many⟩ := by
  obtain ⟨h1, h2, h3, h4, h5, _, _, _, h10⟩ := h
  have hM : ∀ b vs, b = a.y → H b ≠ some (.tup vs) := fun b vs z => h2.not b vs (.inl z)
  have hy := h4 a.y (.inl (.inl rfl))
  refine ⟨h1.out e (fun z => hy.1 z.symm) (fun z => hy.2 z.symm), Y, ⟨h3.w, h3.p⟩, fun c hc => ?_, h5, ⟨us, e.lst (fun z => ly (.inl z)) hl, hr.ext e hM⟩, lp, ly, h10.ext e⟩
  rcases hc with hc | hc
  · exact h4 c (.inl hc)
  · have hc : c = kd := hc
    rw [← hc] at hk
    exact h1.ne hk
end
end Mw

set_option Elab.async false
set_option linter.all false
set_option maxRecDepth 100000
set_option maxHeartbeats 2000000
/-! sets of tuples of ints, made by a comprehension -/
namespace GE
open PySem PySem.Spec PyProof.Rows L2
section
variable {X : Cx}
theorem setTO_at {pins : List (Addr × Obj)} {σ : L2.St} {H : Hp} {s : Shared} {D : Addr} {L : List (Addr × List Int)} (I : Inv X pins σ H s) (h : H D = some (SetTO X.prog X.w D L)) : SetT0 X.prog X.w s.heap D L := (I.hok D _ h).1
/-- D.add(x), x a tuple of ints -/
theorem addT {pins : List (Addr × Obj)} {σ : L2.St} {H : Hp} {s : Shared} {E : Value → Shared → Prop} {D x : Addr} {k : List Int} {L : List (Addr × List Int)} {Q : Value → Shared → Prop} (I : Inv X pins σ H s) (hD : H D = some (SetTO X.prog X.w D L))
    (hL : ∀ p ∈ L, SqT X.K H p.1 (p.2.map V.int)) (hx : SqT X.K H x (k.map V.int)) (hu : X.A.units + 3 < cLine) (few : L.length + 1 < 64)
    (h : ∀ L' s', (k ∈ L.map (·.2) → L' = L) → (k ∉ L.map (·.2) → L'.Perm ((x, k) :: L)) → Inv X pins σ (upd H D (SetTO X.prog X.w D L')) s' → Q .none s') :
    wpAny (model X.prog X.w) X.A (call (.builtin "set.add") [.ref D, .ref x]) Q E s := by
  obtain ⟨es, ep, t, R⟩ := (setTO_at I hD).full fun p hp => I.isT (hL p hp)
  have hxk := I.isT hx
  obtain ⟨o, ho, hex, hd⟩ := R.ob
  have hT : s.TypeIs (.ref D) "set" := ⟨o, ho, hex.1⟩
  refine wpAny_call_entry F.slot_set_add hT F.entry_set_add ?_ (F.args_set_add_2 _ _)
  unfold Builtin.«set.add» Builtin.Frozenset.oneOther
  simp only [List.isEmpty_nil, bind_assoc]
  unfold Builtin.Frozenset.addrOf setAdd
  refine wpAny_bind (wpAny_pure ?_)
  try dsimp only
  refine wpAny_bind (wpAny_pure ?_)
  try dsimp only
  refine wpAny_bind (wpAny_holding (wpAny_bind (wpAny_pyHash_tuple (by first | exact (by omega : X.A.units < cLine) | (simp; omega)) hxk ?_)))
  refine add_at (s := { s with toks := s.toks + (k.length + 1) }) R hxk (by first | exact (by omega : X.A.units < cLine) | (simp; omega)) few fun b h' L' es' ep' t' hsb hS2 c1 c2 => ?_
  show wpAny _ _ (ret Value.none) _ _ _
  obtain ⟨o', ho', _⟩ := hS2.ob
  exact wpAny_pure ⟨_, rfl, h L' _ c1 c2 (I.write (e := D) (t' := s.toks + (k.length + 1)) (by rw [hD]; trivial) (.inl rfl) (fun b u hb hu => (hsb.2 b hb).trans hu) ⟨o', ho'⟩ (setTO_new hS2.t0))⟩
/-- len of a set of tuples -/
def rLenT (K : PySem.W.Frag) (P : Program) (w : World) : List V → Hp → VK → Prop := fun xs H Q => ∃ (D : Addr) (L : List (Addr × List Int)), xs = [V.ref D] ∧ H D = some (SetTO P w D L) ∧ (∀ p ∈ L, SqT K H p.1 (p.2.map V.int)) ∧ Q (.int L.length) H
theorem cr_lenT : CallR X (.builtin "len") (rLenT X.K X.prog X.w) := by
  intro pins s σ H xs us Q I r h
  obtain ⟨D, L, rfl, hD, hL, q⟩ := h
  rw [Vals.ref1 r]
  obtain ⟨es, ep, t, R⟩ := (setTO_at I hD).full fun p hp => I.isT (hL p hp)
  obtain ⟨o, ho, hex, hd⟩ := R.ob
  have hz := R.size
  have hf := R.few
  exact call_len_set ho hex hd R.fits (by omega) ⟨.int L.length, H, I.tok _, ⟨_, by rw [hz]⟩, q⟩
end
section
variable {X : Cx}
/-- one turn of {elt for target in iter if ..}: what is added is a tuple of ints -/
def addStep (K : PySem.W.Frag) (P : Program) (w : World) (D : Addr) (y : V) (H4 : Hp) (Nx : Hp → Prop) : Prop :=
  ∃ (x : Addr) (k : List Int) (L : List (Addr × List Int)), y = .ref x ∧ SqT K H4 x (k.map V.int) ∧ H4 D = some (SetTO P w D L) ∧ (∀ p ∈ L, SqT K H4 p.1 (p.2.map V.int)) ∧ L.length + 1 < 64 ∧
    ∀ L', (k ∈ L.map (·.2) → L' = L) → (k ∉ L.map (·.2) → L'.Perm ((x, k) :: L)) → Nx (upd H4 D (SetTO P w D L'))
def turnT (K : PySem.W.Frag) (P : Program) (w : World) (g : TG) (tt : TT) (te : TE) (vs : List Nat) (σ : L2.St) (D : Addr) (Fin : Hp → Prop) (J : It) (W : Nat → Nat → Hp → Prop) : Prop := ∀ i m H, W i m H →
  (J.stop i H ∧ Fin H) ∨ (J.go i H ∧ ∃ Nx : Hp → Prop, (∀ H', Nx H' → ∃ m', m' < m ∧ W (i + 1) m' H') ∧ ∀ x H', J.yld i H x H' → g x (wipe σ vs) H' fun σ2 H2 => wipe σ2 vs = wipe σ vs ∧ tt σ2 H2 fun b H3 =>
    if b = true then te σ2 H3 fun y H4 => addStep K P w D y H4 Nx else Nx H3)
def tScT (K : PySem.W.Frag) (P : Program) (w : World) (wi : TI) (g : TG) (tt : TT) (te : TE) (vs : List Nat) : TE := fun σ H Q => wi σ H fun J H1 => ∀ D, H1 D = none → ∃ W : Nat → Nat → Hp → Prop, (∃ m, W 0 m (upd H1 D (SetTO P w D []))) ∧
  turnT K P w g tt te vs σ D (fun H' => Q (.ref D) H') J W
abbrev newSetObj (X : Cx) : Obj := { cls := .type "set", dict := none, data := .set #[] 0 (.fresh 0 0 (!X.w.params.followText "set-order")) }
end
end GE

set_option Elab.async false
set_option linter.all false
set_option maxRecDepth 100000
set_option maxHeartbeats 4000000
namespace GE
open PySem PySem.Spec PyProof.Rows L2
section
variable {X : Cx}
/-- the block's context: after s3, H3, with the walk's own objects fp -/
abbrev blkOf (X : Cx) (scope : Scope) (fp : List Addr) (r : Shared) (K : Hp) : Cx := X.blk r K scope (compEnvC scope (cellsFrom (r.heap.objs.size + 1) scope.names (cloFrom X.env.cells scope.names [])) r.heap.objs.size X.env) fp
theorem scT_run {pins : List (Addr × Obj)} {s : Shared} {σ : L2.St} {H : Hp} {Q : VK} {elt tg iter : Expr} {ifs : List Expr} {scope : Scope} {own : List (PySem.Str × Nat)} {pos : Pos} {wi : TI} {g : TG} {tt : TT} {te : TE}
    (hc : X.calm = true) (hN : X.N.Nodup) (hu : X.A.units + 3 < cLine) (I : Inv X pins σ H s) (hi : PI X tg iter wi) (ok : BlkOk X.N X.env.scope scope own)
    (hg : ∀ r K C cl fp, PG (X.blk r K scope (compEnvC scope cl C X.env) fp) tg g) (ht : ∀ r K C cl fp, PTs (X.blk r K scope (compEnvC scope cl C X.env) fp) ifs tt) (he : ∀ r K C cl fp, PE (X.blk r K scope (compEnvC scope cl C X.env) fp) elt te)
    (hs : ∀ x, foldedSetIterable iter X.env x = pure x) (h : tScT X.K X.prog X.w wi g tt te (own.map (·.2)) σ H Q) :
    wpAny (model X.prog X.w) X.A (eval (.SetComp elt [⟨tg, iter, ifs, 0⟩] scope pos) X.env) (fun v s' => ∃ u H', Inv X pins σ H' s' ∧ RelV u v ∧ Q u H') X.xe s := by
  rw [PpSet.eval_SetComp]
  have clos : ∀ y ∈ scope.names, y.2 = .free → ∃ c, X.env.cells.lookup y.1 = some c := fun y hy e => (ok.free y hy e).elim (fun k => I.ok.has _ (.inl k)) (fun k => I.ok.has _ (.inr k))
  refine wpAny_comprehension_free (use := none) rfl hs (closure_ok clos) ok.kind (fun y hy e => by rw [ok.uniq y hy, e]) (thn (hi.run pins s σ H _ I h) fun v0 r0 q0 => thn q0 fun v1 r1 q1 => ?_)
  obtain ⟨it, fp, tn, J, HA, rfl, IA, T, stA, fA, q⟩ := q1
  refine PpSet.newSet_ok (newEnv_comp ?_)
  obtain ⟨W, ⟨m0, w0⟩, turn⟩ := q r1.heap.objs.size (IA.hok.fresh (Nat.le_refl _))
  have below : ∀ b ∈ fp, b < r1.heap.objs.size := fun b hb => by
    obtain ⟨o, e, _⟩ := T.obj _ _ stA b hb
    exact Heap.lt_size e
  generalize hD : r1.heap.objs.size = D at w0 turn below ⊢
  generalize hr2 : ({ r1 with heap := r1.heap.push (newSetObj X) } : Shared) = r2
  have hh2 : r2.heap = r1.heap.push (newSetObj X) := by rw [← hr2]
  have sz2 : r2.heap.objs.size = D + 1 := by rw [hh2, Heap.size_push, hD]
  have IB : Inv X pins σ (upd HA D (SetTO X.prog X.w D [])) r2 := by
    rw [← hr2]
    refine IA.laid (t' := r1.toks) (fun b o e => Heap.get?_push_of_some _ e) (Nat.le_of_eq hD) (setTO_new ?_)
    exact (setTR_fresh (P := X.prog) (w := X.w) (by rw [← hD]; exact Heap.get?_push_size _ rfl)).t0
  have fB : ∀ b ∈ fp, FpOk X pins (upd HA D (SetTO X.prog X.w D [])) b ∧ b < r2.heap.objs.size := fun b hb => by
    have hlt := below b hb
    exact ⟨⟨(upd_ne (Nat.ne_of_lt hlt)).trans (fA b hb).1, (fA b hb).2⟩, by rw [sz2]; exact Nat.lt_succ_of_lt hlt⟩
  have IC := block_start IB ok hN fB
  have pg := hg r2 (upd HA D (SetTO X.prog X.w D [])) r2.heap.objs.size (cellsFrom (r2.heap.objs.size + 1) scope.names (cloFrom X.env.cells scope.names [])) fp
  have pt := ht r2 (upd HA D (SetTO X.prog X.w D [])) r2.heap.objs.size (cellsFrom (r2.heap.objs.size + 1) scope.names (cloFrom X.env.cells scope.names [])) fp
  have pe := he r2 (upd HA D (SetTO X.prog X.w D [])) r2.heap.objs.size (cellsFrom (r2.heap.objs.size + 1) scope.names (cloFrom X.env.cells scope.names [])) fp
  generalize hHB : upd HA D (SetTO X.prog X.w D []) = HB at IB fB IC pg pt pe w0
  have free0 : ∀ b ∈ fp, HB b = none := fun b hb => (fB b hb).1.1
  generalize hce : compEnvC scope (cellsFrom (r2.heap.objs.size + 1) scope.names (cloFrom X.env.cells scope.names [])) r2.heap.objs.size X.env = ce at IC pg pt pe
  have cl : ce.locals = r2.heap.objs.size := by rw [← hce]; rfl
  generalize hr3 : ({ r2 with heap := pushCells (r2.heap.push { cls := .type "dict", data := .dict #[] }) scope.names } : Shared) = r3 at IC
  have st3 : tn 0 r3.heap := T.keep _ _ _ stA fun b _ o e => by
    rw [← hr3]
    refine pushCells_keeps _ _ _ _ (Heap.get?_push_of_some _ ?_)
    rw [hh2]; exact Heap.get?_push_of_some _ e
  have hold : ∀ {τ : L2.St} {K : Hp} {r : Shared}, Inv (X.blk r2 HB scope ce fp) [] τ K r → (∀ b ∈ fp, K b = none) → ∀ b ∈ fp, FpOk (X.blk r2 HB scope ce fp) [] K b := fun {τ K r} IK n b hb =>
    ⟨n b hb, (IK.ok.exf b hb).1, IK.ok.exfs b hb, .inl hb, fun x c e => (IK.ok.exf b hb).2 x c e, fun p hp => absurd (show p ∈ ([] : List (Addr × Obj)) ++ [] from hp) (by simp)⟩
  -- what stands at the head of each turn
  let Hd : Nat → Shared → Prop := fun m r => ∃ i K, Inv (X.blk r2 HB scope ce fp) [] (wipe σ (own.map (·.2))) K r ∧ tn i r.heap ∧ (∀ b ∈ fp, K b = none) ∧ W i m K
  have loop : codeAny (model X.prog X.w) X.A (.compLoop (.SetComp elt [⟨tg, iter, ifs, 0⟩] scope pos) 0 (.ref it) (.ref D) ce) (compPost (model X.prog X.w) X.A X.xe none (fun v s' => ∃ u H', Inv X pins σ H' s' ∧ RelV u v ∧ Q u H') (.ref D) r2.heap.objs.size) r3 := by
    refine PpSet.compLoopS_any Hd (fun m r hm => ?_) m0 ⟨0, HB, IC, st3, free0, w0⟩
    obtain ⟨i, K, IK, stK, nK, wK⟩ := hm
    rcases turn i m K wK with ⟨stop, qq⟩ | ⟨go, Nx, hNx, step⟩
    · refine thnF (T.done (X.blk r2 HB scope ce fp) rfl rfl rfl hc i [] r _ K (fun _ _ => False) IK (hold IK nK) stK stop) fun z r' ⟨hz, IL⟩ => ?_
      subst hz
      have back : Inv X pins σ K r' := IB.call' (ch := fp) IL.os IL.base IL.hok IL.bare fun b hb => by
        obtain ⟨_, f1, f2, f3, f4, f5⟩ := (fB b hb).1
        exact ⟨f3, f1, f4, f5⟩
      have hnone : K r2.heap.objs.size = none := by rw [← cl]; exact IL.free
      obtain ⟨m', hns, _⟩ := IL.loc
      have hns : r'.heap.Ns ce.locals m' := hns
      rw [cl] at hns
      obtain ⟨_, f1, f2, f3, f4, f5⟩ := IB.fpOk (Nat.le_refl _) hnone
      exact ⟨m', hns, fun h'' sb => ⟨.ref D, K, back.turned (t' := r'.toks) (fun b o hb e => (sb.2 b hb).trans e) hnone f1 f3 f4 f5, rfl, qq⟩⟩
    · refine thnF (T.item (X.blk r2 HB scope ce fp) rfl rfl rfl hc i [] r _ K (fun _ _ => False) IK (hold IK nK) stK go) fun z r' ⟨u, hz, q6⟩ => ?_
      subst hz
      refine thnF q6 fun _ r4 ⟨x, K4, I4, rel4, y4, st4, n4⟩ => ?_
      have P4 := I4.pinned (hold I4 n4) (T.obj _ _ st4)
      -- the turn's end, whatever came of it
      have fin : ∀ {τ : L2.St} {r' : Shared} {K' : Hp}, wipe τ (own.map (·.2)) = wipe (wipe σ (own.map (·.2))) (own.map (·.2)) ∨ wipe τ (own.map (·.2)) = wipe σ (own.map (·.2)) → Inv (X.blk r2 HB scope ce fp) ([] ++ pinsAt fp r4.heap) τ K' r' → Nx K' → wipe τ (own.map (·.2)) = wipe σ (own.map (·.2)) → ∃ m', m' < m ∧ Hd m' r' := fun {τ r' K'} _ I' nx hw => by
        obtain ⟨m', lt, w'⟩ := hNx K' nx
        have still : ∀ b ∈ fp, ∀ o, r4.heap.get? b = some o → r'.heap.get? b = some o ∧ K' b = none := fun b hb o e =>
          have z := I'.pin (b, o) (List.mem_append_right _ (List.mem_append_right _ (mem_pinsAt hb e)))
          ⟨z.1, z.2.1⟩
        refine ⟨m', lt, i + 1, K', (I'.unpinned (pins := [])).weak (by rw [← hw, wipe_length]) (fun j v e => ?_), T.keep _ _ _ st4 fun b hb o e => (still b hb o e).1, fun b hb => ?_, w'⟩
        · rw [← hw] at e
          exact (wipe_some e).1
        · obtain ⟨o, e, _⟩ := T.obj _ _ st4 b hb
          exact (still b hb o e).2
      refine thnF (pg.run _ r4 _ K4 x u _ P4 rel4 (step x K4 y4)) fun _ r5 ⟨τ, K5, I5, hw5, q5⟩ => ?_
      refine thnF (pt.run _ r5 τ K5 _ I5 q5) fun b r6 ⟨K6, I6, q6⟩ => ?_
      rcases Bool.eq_false_or_eq_true b with rfl | rfl
      · simp only [if_true] at q6 ⊢
        refine thnF (pe.run _ r6 τ K6 _ I6 q6) fun z r7 ⟨yv, K7, I7, rel7, a, k, L, ey, hk, hD7, hL7, few, nx⟩ => ?_
        subst ey
        cases (show z = Value.ref a from rel7)
        exact addT (X := X.blk r2 HB scope ce fp) I7 hD7 hL7 hk hu few fun L' r8 c1 c2 I8 => fin (.inr hw5) I8 (nx L' c1 c2) hw5
      · simp only [Bool.false_eq_true, if_false] at q6 ⊢
        exact fin (.inr hw5) I6 q6 hw5
  have goal : codeAny (model X.prog X.w) X.A (.compStart (.SetComp elt [⟨tg, iter, ifs, 0⟩] scope pos) 0 (.ref it) (.ref D) ce) (compPost (model X.prog X.w) X.A X.xe none (fun v s' => ∃ u H', Inv X pins σ H' s' ∧ RelV u v ∧ Q u H') (.ref D) r2.heap.objs.size) r3 :=
    PpSet.codeAny_compStart_set loop (T.self X.A 0 _ _ _ st3 loop)
  subst hce
  subst hr3
  show codeAny _ _ (.compStart _ 0 (.ref it) (.ref D) (compEnvC scope _ r2.heap.objs.size X.env)) _ _
  exact goal
theorem pe_scT {elt tg iter : Expr} {ifs : List Expr} {scope : Scope} {own : List (PySem.Str × Nat)} {pos : Pos} {wi : TI} {g : TG} {tt : TT} {te : TE} (hu : X.A.units + 3 < cLine) (hc : X.calm = true) (hN : X.N.Nodup) (hi : PI X tg iter wi) (ok : BlkOk X.N X.env.scope scope own)
    (hg : ∀ r K C cl fp, PG (X.blk r K scope (compEnvC scope cl C X.env) fp) tg g) (ht : ∀ r K C cl fp, PTs (X.blk r K scope (compEnvC scope cl C X.env) fp) ifs tt) (he : ∀ r K C cl fp, PE (X.blk r K scope (compEnvC scope cl C X.env) fp) elt te)
    (hs : ∀ x, foldedSetIterable iter X.env x = pure x := by intro _; rfl) : PE X (.SetComp elt [⟨tg, iter, ifs, 0⟩] scope pos) (tScT X.K X.prog X.w wi g tt te (own.map (·.2))) :=
  ⟨fun pins s σ H Q I h => thn (scT_run hc hN hu I hi ok hg ht he hs h) fun v s' ⟨u, H', I', r, q⟩ => ⟨u, H', I', r, q⟩⟩
/-- over a list or a tuple that the block leaves as it is -/
theorem scT_seq {K : PySem.W.Frag} {P : Program} {w : World} {J : It} {n : Nat} {at_ : Nat → V → Prop} {g : TG} {tt : TT} {te : TE} {vs : List Nat} {σ : L2.St} {H1 : Hp} {D : Addr} {Fin : Hp → Prop} (Pv : Nat → Hp → Prop) (h0 : Pv 0 (upd H1 D (SetTO P w D [])))
    (hJ : ∀ i H, i < n → Pv i H → J.go i H ∧ ∀ x H', J.yld i H x H' → at_ i x ∧ H' = H) (hE : ∀ H, Pv n H → J.stop n H ∧ Fin H)
    (hs : ∀ i x H, i < n → at_ i x → Pv i H → g x (wipe σ vs) H fun σ2 H2 => wipe σ2 vs = wipe σ vs ∧ tt σ2 H2 fun b H3 => if b = true then te σ2 H3 fun y H4 => addStep K P w D y H4 (Pv (i + 1)) else Pv (i + 1) H3) :
    ∃ W : Nat → Nat → Hp → Prop, (∃ m, W 0 m (upd H1 D (SetTO P w D []))) ∧ turnT K P w g tt te vs σ D Fin J W := by
  refine ⟨fun i m H => m = n - i ∧ i ≤ n ∧ Pv i H, ⟨n, by simp, Nat.zero_le _, h0⟩, fun i m H ⟨hm, hi, p⟩ => ?_⟩
  subst hm
  by_cases lt : i < n
  · obtain ⟨go, yl⟩ := hJ i H lt p
    refine .inr ⟨go, Pv (i + 1), fun H' p' => ⟨n - (i + 1), by omega, rfl, lt, p'⟩, fun x H' y => ?_⟩
    obtain ⟨a, rfl⟩ := yl x H' y
    exact hs i x _ lt a p
  · have e : i = n := by omega
    subst e
    exact .inl (hE H p)
theorem scT_tup {K : PySem.W.Frag} {P : Program} {w : World} {a : Addr} {xs : List V} {g : TG} {tt : TT} {te : TE} {vs : List Nat} {σ : L2.St} {H1 : Hp} {D : Addr} {Fin : Hp → Prop} (Pv : Nat → Hp → Prop) (h0 : Pv 0 (upd H1 D (SetTO P w D []))) (hl : ∀ i H, i ≤ xs.length → Pv i H → SqT K H a xs)
    (hs : ∀ i x H, xs[i]? = some x → Pv i H → g x (wipe σ vs) H fun σ2 H2 => wipe σ2 vs = wipe σ vs ∧ tt σ2 H2 fun b H3 => if b = true then te σ2 H3 fun y H4 => addStep K P w D y H4 (Pv (i + 1)) else Pv (i + 1) H3) (hE : ∀ H, Pv xs.length H → Fin H) :
    ∃ W : Nat → Nat → Hp → Prop, (∃ m, W 0 m (upd H1 D (SetTO P w D []))) ∧ turnT K P w g tt te vs σ D Fin (Itt K a) W :=
  scT_seq (n := xs.length) (at_ := fun i x => xs[i]? = some x) Pv h0 (fun i H lt p => ⟨⟨xs, xs[i], hl i H (Nat.le_of_lt lt) p, List.getElem?_eq_getElem lt⟩, fun x H' y => by
    obtain ⟨e, y⟩ := y
    exact ⟨y xs (hl i H (Nat.le_of_lt lt) p), e⟩⟩) (fun H p => ⟨⟨xs, hl _ H (Nat.le_refl _) p, Nat.le_refl _⟩, hE H p⟩) fun i x H lt e p => hs i x H e p
end
end GE

set_option Elab.async false
set_option linter.all false
set_option maxRecDepth 100000
set_option maxHeartbeats 2000000
/-! x is True, x is not True, of truth values -/
namespace GE
open PySem PySem.Spec PyProof.Rows L2
section
variable {X : Cx}
def rBlIs (neg : Bool) : R2 := fun x y H Q => ∃ a b : Bool, x = .bl a ∧ y = .bl b ∧ Q (.bl (if neg then !decide (a = b) else decide (a = b))) H
theorem bl_beq (a b : Bool) : (Value.bool a == Value.bool b) = decide (a = b) := by
  by_cases e : a = b
  · subst e
    exact (beq_self_eq_true (Value.bool a)).trans (decide_eq_true (p := a = a) rfl).symm
  · exact (beq_eq_false_iff_ne.mpr fun z => e (Value.bool.inj z)).trans (decide_eq_false e).symm
theorem op_isBl : OpR X (compareOp .Is) (rBlIs false) := by
  intro pins s σ H x y v u Q I rx ry h
  obtain ⟨a, b, rfl, rfl, q⟩ := h
  cases (show v = Value.bool a from rx)
  cases (show u = Value.bool b from ry)
  exact wpAny_is_plain rfl (fin_bl I q (bl_beq a b).symm)
theorem op_notBl : OpR X (compareOp .IsNot) (rBlIs true) := by
  intro pins s σ H x y v u Q I rx ry h
  obtain ⟨a, b, rfl, rfl, q⟩ := h
  cases (show v = Value.bool a from rx)
  cases (show u = Value.bool b from ry)
  exact wpAny_isNot_plain rfl (fin_bl I q (congrArg not (bl_beq a b).symm))
end
end GE

set_option Elab.async false
set_option linter.all false
set_option maxRecDepth 100000
set_option maxHeartbeats 2000000
/-! t[::-1] of a tuple -/
namespace GE
open PySem PySem.Spec PyProof.Rows L2 HT
section
variable {prog : Program} {w : World} {A : Around} {E : Value → Shared → Prop} {s : Shared}
theorem adjust_rev (n : Nat) : Builtin.Slice.sliceAdjust none none (-1) (n : Int) = ((n : Int) - 1, -1) := by
  unfold Builtin.Slice.sliceAdjust
  have h1 : ((-1 : Int) < 0) := by omega
  simp only [h1, if_true]
theorem places_rev (n : Nat) : Builtin.Slice.slicePlaces ((n : Int) - 1) (-1) (-1) = n := by
  unfold Builtin.Slice.slicePlaces
  have h1 : ¬ ((-1 : Int) > 0) := by omega
  simp only [h1, if_false]
  split
  · have e : ((n : Int) - 1 - -1 - 1) / - -1 + 1 = n := by
      rw [show (- -1 : Int) = 1 from rfl, Int.ediv_one]; omega
    first
      | omega
      | (rw [e]; omega)
      | simp
  · omega
theorem pick_rev (xs : Array Value) : ((List.range xs.size).filterMap fun (m : Nat) => xs[(((xs.size : Int) - 1) + (m : Int) * (-1)).toNat]?).toArray = xs.toList.reverse.toArray := by
  congr 1
  apply List.ext_getElem?
  intro i
  have key : ∀ k, k ≤ xs.size → (List.range k).filterMap (fun (m : Nat) => xs[(((xs.size : Int) - 1) + (m : Int) * (-1)).toNat]?) = xs.toList.reverse.take k := by
    intro k
    induction k with
    | zero => intro _; rfl
    | succ k ih =>
      intro hk
      rw [List.range_succ, List.filterMap_append, ih (by omega), List.take_add_one]
      congr 1
      have e1 : (((xs.size : Int) - 1) + (k : Int) * (-1)).toNat = xs.size - 1 - k := by omega
      have e2 : xs.toList.reverse[k]? = xs[xs.size - 1 - k]? := by
        rw [List.getElem?_reverse (by rw [Array.length_toList]; omega), Array.length_toList, Array.getElem?_toList]
      rw [e2]
      have hx : xs[xs.size - 1 - k]? = some (xs[xs.size - 1 - k]'(by omega)) := Array.getElem?_eq_getElem _
      simp only [List.filterMap_cons, List.filterMap_nil, e1, hx]
      rfl
  rw [key xs.size (Nat.le_refl _), List.take_of_length_le (by rw [List.length_reverse, Array.length_toList]; exact Nat.le_refl _)]
theorem sliceApplied_rev {sl : Addr} {vs : Value} {n : Nat} {Q : Int × Int × Nat → Shared → Prop} (hs : s.heap.IsSliceOf sl .none .none vs) (ps : IsPart vs (some (-1)))
    (h : Q ((n : Int) - 1, -1, n) s) : wpAny (model prog w) A (Builtin.Slice.sliceApplied (.ref sl) (pure (n : Int))) Q E s := by
  obtain ⟨os, hos, hcs, hds⟩ := id hs
  unfold Builtin.Slice.sliceApplied Builtin.Slice.sliceFields
  refine wpAny_bind (wpAny_bind (wpAny_field hos hds (x := .none) rfl (wpAny_bind (wpAny_field hos hds (x := .none) rfl (wpAny_bind (wpAny_field hos hds (x := vs) rfl (wpAny_pure ?_)))))))
  refine wpAny_bind (slicePart_ ps ?_)
  show wpAny _ _ (if ((-1 : Int) == 0) = true then _ else _) _ _ s
  rw [if_neg (by decide)]
  refine wpAny_bind (slicePart_none (wpAny_bind (slicePart_none (wpAny_bind (wpAny_pure ?_)))))
  show wpAny _ _ (match Builtin.Slice.sliceAdjust none none (-1) (n : Int) with | (lo, hi) => pure (lo, (-1 : Int), Builtin.Slice.slicePlaces lo hi (-1))) _ _ s
  rw [adjust_rev n]
  show wpAny _ _ (pure ((n : Int) - 1, (-1 : Int), Builtin.Slice.slicePlaces ((n : Int) - 1) (-1) (-1))) _ _ s
  rw [places_rev]
  exact wpAny_pure h
theorem getItem_tuple_rev {t sl : Addr} {items : Array Value} {vs : Value} {Q : Value → Shared → Prop} (ht : IsTup s.heap t items) (hs : s.heap.IsSliceOf sl .none .none vs) (ps : IsPart vs (some (-1)))
    (h : Q (.ref s.heap.objs.size) { s with heap := s.heap.push { cls := .type "tuple", data := .seq items.toList.reverse.toArray } })
    (hsz : items.size ≤ sizeLine) : wpAny (model prog w) A (getItem (.ref t) (.ref sl)) Q E s := by
  have hfit : sizeOk (.seq items.toList.reverse.toArray) := by
    show items.toList.reverse.toArray.size ≤ sizeLine
    rw [List.size_toArray, List.length_reverse, Array.length_toList]
    exact hsz
  obtain ⟨os, hos, hcs, hds⟩ := id hs
  have hTs : s.TypeIs (.ref sl) "slice" := ⟨os, hos, hcs⟩
  unfold getItem
  try with_reducible refine wpAny_holding ?_
  first | refine wpAny_bind (wpAny_pure ?_) | skip
  refine wpAny_bind (wpAny_sequenceKey ht.typeIs (by decide) ?_)
  refine wpAny_bind (wpAny_callSpecial?_slot (name := Str.ofString "__getitem__") ht.typeIs PyProof.Rows.slot_tuple_getitem
    (wpAny_call_entry PyProof.Rows.slot_tuple_getitem ht.typeIs entry_tuple_getitem ?_ (args_tuple_getitem _ _)))
  show wpAny _ _ (Builtin.Tuple.tupleItemsOf (.ref t) >>= _) _ _ s
  refine wpAny_bind (tupleItemsOf_ ht ?_)
  refine wpAny_bind (wpAny_typeOf hTs ?_)
  rw [if_pos (by decide)]
  refine wpAny_bind (sliceApplied_rev hs ps ?_)
  have hno : ¬ ((((items.size : Int) - 1) == 0 && (-1 : Int) == 1 && items.size == items.size) = true) := by
    intro q
    rw [Bool.and_eq_true, Bool.and_eq_true] at q
    exact absurd (eq_of_beq q.1.2) (by decide)
  show wpAny _ _ (if (((items.size : Int) - 1) == 0 && (-1 : Int) == 1 && items.size == items.size) = true then _ else _) _ _ s
  rw [if_neg hno, pick_rev]
  first
    | exact wpAny_bind (m := Builtin.Tuple.tupleExact _) (wpAny_newObj_type (wpAny_pure ⟨_, rfl, wpAny_pure h⟩) hfit)
    | exact wpAny_bind (m := Builtin.Tuple.tupleExact _) (wpAny_newObj_type (wpAny_bind (wpAny_pure (wpAny_pure ⟨_, rfl, wpAny_pure h⟩))) hfit)
    | exact wpAny_bind (wpAny_bind (m := Builtin.Tuple.tupleExact _) (wpAny_newObj_type (wpAny_pure (wpAny_pure ⟨_, rfl, wpAny_pure h⟩)) hfit))
    | exact wpAny_bind (wpAny_bind (m := Builtin.Tuple.tupleExact _) (wpAny_newObj_type (wpAny_pure ⟨_, rfl, wpAny_pure h⟩) hfit))
end
section
variable {X : Cx}
def tRevT (K : PySem.W.Frag) (te : TE) : TE := fun σ H Q => te σ H fun x H1 => ∃ a xs, x = .ref a ∧ SqT K H1 a xs ∧ ∀ p, H1 p = none → Q (.ref p) (upd H1 p (.tup xs.reverse))
theorem pe_revT {e : Expr} {te : TE} {k : Nat} {p1 p2 p3 pos : Pos} (he : PE X e te) : PE X (.Subscript e (.Slice none none (some (.UnaryOp .USub (.Constant (.int 1) k p1) p2)) p3) pos) (tRevT X.K te) := by
  refine ⟨fun pins s σ H Q I h => ?_⟩
  refine Subscript_ (thn (he.run pins s σ H _ I h) fun v s1 ⟨x, H1, I1, r1, q1⟩ => ?_)
  obtain ⟨a, xs, rfl, hx, q⟩ := q1
  cases r1
  have third : PO X (some (.UnaryOp .USub (.Constant (.int 1) k p1) p2)) (tPart (tUn (rU fun i => .int (-i)) (tC (.int 1)))) := po_some (pe_un un_neg pe_int)
  refine wpAny_Slice (thn (po_none.run pins s1 σ H1 (fun o H2 => o = none ∧ H2 = H1) I1 ⟨rfl, rfl⟩) fun vl s2 ⟨l, H2, I2, pl, el, e2⟩ => ?_)
  subst el e2
  refine thn (po_none.run pins s2 σ H2 (fun o H3 => o = none ∧ H3 = H2) I2 ⟨rfl, rfl⟩) fun vu s3 ⟨u, H3, I3, pu, eu, e3⟩ => ?_
  subst eu e3
  refine thn (third.run pins s3 σ H3 (fun o H4 => o = some (-1) ∧ H4 = H3) I3 ⟨1, rfl, -1, rfl, rfl, rfl⟩) fun vs s4 ⟨o, H4, I4, ps, eo, e4⟩ => ?_
  subst eo e4
  cases pl
  cases pu
  have I5 : Inv X pins σ H4 { s4 with heap := s4.heap.push { cls := .type "slice", data := .fields #[.none, .none, vs] } } := I4.kept (t' := s4.toks) fun b ob q => Heap.get?_push_of_some _ q
  obtain ⟨its, r, ht, hz⟩ := I5.tuple hx
  have hlen := r.length
  show wpAny (model X.prog X.w) X.A (subscriptTail e (.Slice none none (some (.UnaryOp .USub (.Constant (.int 1) k p1) p2)) p3) (.ref a) (.ref s4.heap.objs.size)) (EP X pins σ Q) X.xe { s4 with heap := s4.heap.push { cls := .type "slice", data := .fields #[.none, .none, vs] } }
  refine tail_any (ops := [.ref a, .ref s4.heap.objs.size]) ht.typeIs (PyProof.Rows.slot_tuple_getitem.lookup) ?_ (by with_unfolding_all rfl)
  refine getItem_tuple_rev ht (Heap.IsSliceOf.new ..) ps ?_ (by rw [List.size_toArray, ← hlen]; exact hz)
  refine ⟨.ref _, _, I5.laid (t' := s4.toks) (o := .tup xs.reverse) (fun b ob q => Heap.get?_push_of_some _ q) (Nat.le_refl _) ?_, rfl, q _ (I5.hok.fresh (Nat.le_refl _))⟩
  exact ⟨by rw [List.length_reverse]; exact hz, _, r.reverse, IsTup.new _ _⟩
end
end GE
namespace GE
open PySem PySem.Spec PyProof.Rows L2
/-! parts and sums of tuples, whichever object they are -/
theorem cutV_whole {xs : List V} {lo hi : Option Int} (h : HT.sIx xs.length 0 lo = 0 ∧ HT.sIx xs.length xs.length hi = xs.length) : cutV xs lo hi = xs := by
  unfold cutV
  rw [h.1, h.2, List.drop_zero, Nat.sub_zero, List.take_length]
def rSlX (K : PySem.W.Frag) : V → Option Int → Option Int → Hp → VK → Prop := fun x lo hi H Q => ∃ a xs, x = .ref a ∧ SqT K H a xs ∧ ∀ p H', SqT K H' p (cutV xs lo hi) → (∀ T, Ext T noM H H') → Q (.ref p) H'
def rCatX (K : PySem.W.Frag) : R2 := fun x y H Q => ∃ a b xs ys, x = .ref a ∧ y = .ref b ∧ SqT K H a xs ∧ SqT K H b ys ∧ xs.length + ys.length ≤ sizeLine ∧ ∀ p H', SqT K H' p (xs ++ ys) → (∀ T, Ext T noM H H') → Q (.ref p) H'
section
variable {X : Cx}
theorem sl_tupX : SlR X (rSlX X.K) := by
  intro pins s σ H x v vl vu lo hi sl Q I rx hs pl pu h
  obtain ⟨a, xs, rfl, hx, q⟩ := h
  refine sl_tupA pins s σ H _ v vl vu lo hi sl Q I rx hs pl pu ⟨a, xs, rfl, hx, fun hw => ?_, fun hw p hp => ?_⟩
  · exact q a H (by rw [cutV_whole hw]; exact hx) fun T => Ext.refl _ _ _
  · exact q p _ (SqT.of upd_same) fun T => Ext.new hp
theorem op_catX : OpR X (binaryOp .Add) (rCatX X.K) := by
  intro pins s σ H x y v u Q I rx ry h
  obtain ⟨a, b, xs, ys, rfl, rfl, ha, hb, hz, q⟩ := h
  refine op_catA pins s σ H _ _ v u Q I rx ry ⟨a, b, xs, ys, rfl, rfl, ha, hb, hz, fun e => ?_, fun _ e => ?_, fun _ _ p hp => ?_⟩
  · exact q b H (by rw [e]; exact hb) fun T => Ext.refl _ _ _
  · exact q a H (by rw [e, List.append_nil]; exact ha) fun T => Ext.refl _ _ _
  · exact q p _ (SqT.of upd_same) fun T => Ext.new hp
end
end GE

set_option linter.all false
set_option maxRecDepth 100000
set_option maxHeartbeats 4000000
namespace GE
open PySem PySem.Spec PyProof.Rows L2
/-! parts and sums of tuples that stand, whichever object they are -/
def rSlR : V → Option Int → Option Int → Hp → VK → Prop := fun x lo hi H Q => ∃ a xs, x = .ref a ∧ H a = some (.tup xs) ∧ ∀ p H', H' p = some (.tup (cutV xs lo hi)) → (∀ T, Ext T noM H H') → Q (.ref p) H'
def rCatR : R2 := fun x y H Q => ∃ a b xs ys, x = .ref a ∧ y = .ref b ∧ H a = some (.tup xs) ∧ H b = some (.tup ys) ∧ xs.length + ys.length ≤ sizeLine ∧ ∀ p H', H' p = some (.tup (xs ++ ys)) → (∀ T, Ext T noM H H') → Q (.ref p) H'
section
variable {X : Cx}
theorem sl_tupR : SlR X rSlR := by
  intro pins s σ H x v vl vu lo hi sl Q I rx hs pl pu h
  obtain ⟨a, xs, rfl, hx, q⟩ := h
  refine sl_tupA pins s σ H _ v vl vu lo hi sl Q I rx hs pl pu ⟨a, xs, rfl, SqT.of hx, fun hw => ?_, fun hw p hp => ?_⟩
  · exact q a H (by rw [cutV_whole hw]; exact hx) fun T => Ext.refl _ _ _
  · exact q p _ upd_same fun T => Ext.new hp
theorem op_catR : OpR X (binaryOp .Add) rCatR := by
  intro pins s σ H x y v u Q I rx ry h
  obtain ⟨a, b, xs, ys, rfl, rfl, ha, hb, hz, q⟩ := h
  refine op_catA pins s σ H _ _ v u Q I rx ry ⟨a, b, xs, ys, rfl, rfl, SqT.of ha, SqT.of hb, hz, fun e => ?_, fun _ e => ?_, fun _ _ p hp => ?_⟩
  · exact q b H (by rw [e]; exact hb) fun T => Ext.refl _ _ _
  · exact q a H (by rw [e, List.append_nil]; exact ha) fun T => Ext.refl _ _ _
  · exact q p _ upd_same fun T => Ext.new hp
end
end GE

set_option Elab.async false
set_option linter.all false
set_option maxRecDepth 100000
set_option maxHeartbeats 4000000
namespace Mw
open PySem PySem.Spec PyProof.Rows L2 GE
theorem op_notInDK {X : Cx} {K : PySem.W.Frag} (hu : X.A.units + 65 < cLine) (h : X.K = K := by rfl) : OpR X (compareOp .NotIn) (rNotInD K) := h ▸ op_notInD hu
theorem cut_one {xs : List V} {k : Nat} {x : V} (h : xs[k]? = some x) : cutV xs (some (k : Int)) (some ((k : Int) + 1)) = [x] := by
  have hk := (List.getElem?_eq_some_iff.mp h).1
  have s1 : HT.sIx xs.length 0 (some (k : Int)) = k := by rw [HT.sIx_nat]; omega
  have s2 : HT.sIx xs.length xs.length (some ((k : Int) + 1)) = k + 1 := by rw [show ((k : Int) + 1) = ((k + 1 : Nat) : Int) by omega, HT.sIx_nat]; omega
  unfold cutV
  rw [s1, s2, Nat.add_sub_cancel_left]
  rw [List.drop_eq_getElem_cons hk]
  show [xs[k]] = [x]
  rw [List.getElem?_eq_getElem hk] at h
  rw [Option.some.inj h]
def badI (ws : Wl) (ps : List Pr) (i : Nat) : Bool := match ps[i]? with
  | some q => !jn1 ws (List.range ws.length) q
  | none => false
def bads (ws : Wl) (ps : List Pr) (j : Nat) : List Nat := (List.range j).filter (badI ws ps)
theorem bads_succ (ws : Wl) (ps : List Pr) (j : Nat) : bads ws ps (j + 1) = bads ws ps j ++ if badI ws ps j = true then [j] else [] := by
  unfold bads
  rw [List.range_succ, List.filter_append]
  by_cases z : badI ws ps j = true <;> simp [z]
theorem bads_len (ws : Wl) (ps : List Pr) (j : Nat) : (bads ws ps j).length ≤ j := Nat.le_trans (List.length_filter_le _ _) (by rw [List.length_range]; exact Nat.le_refl _)
theorem jn1_iff {n : Nat} {ws : Wl} {ps : List Pr} (W : Wf n ws) (ok : PsOk n ps) {q : Pr} (h : q ∈ ps) : jn1 ws (List.range ws.length) q = true ↔ Cn (wedges ws) q.1 q.2 := by
  obtain ⟨o1, o2⟩ := ok.ok q h
  unfold jn1
  rw [decide_eq_true_eq]
  exact joined_iff W (show q.1 < n by omega) o2
theorem filter_head {p : Nat → Bool} : ∀ (l : List Nat) (k : Nat) (r : List Nat), l.Pairwise (· < ·) → l.filter p = k :: r → p k = true ∧ k ∈ l ∧ ∀ j ∈ l, j < k → p j = false
  | [], k, r, _, h => by cases h
  | x :: l, k, r, hp, h => by
    obtain ⟨h1, h2⟩ := List.pairwise_cons.mp hp
    by_cases z : p x = true
    · rw [List.filter_cons_of_pos z] at h
      obtain ⟨rfl, _⟩ := List.cons.inj h
      exact ⟨z, List.mem_cons_self, fun j hj hlt => (List.mem_cons.mp hj).elim (fun e => by omega) fun hj => by have := h1 j hj; omega⟩
    · rw [List.filter_cons_of_neg z] at h
      obtain ⟨g1, g2, g3⟩ := filter_head l k r h2 h
      refine ⟨g1, List.mem_cons_of_mem _ g2, fun j hj hlt => (List.mem_cons.mp hj).elim (fun e => ?_) fun hj => g3 j hj hlt⟩
      rw [e]; exact Bool.eq_false_iff.mpr z
theorem bads_first {n : Nat} {ws : Wl} {ps : List Pr} (W : Wf n ws) (ok : PsOk n ps) {k : Nat} {r : List Nat} (h : bads ws ps ps.length = k :: r) : First ws ps k := by
  obtain ⟨h1, h2, h3⟩ := filter_head _ _ _ List.pairwise_lt_range h
  have hk := List.mem_range.mp h2
  have at_ : ∀ j (hj : j < ps.length), badI ws ps j = !jn1 ws (List.range ws.length) ps[j] := fun j hj => by unfold badI; rw [List.getElem?_eq_getElem hj]
  rw [at_ k hk, Bool.not_eq_true'] at h1
  refine ⟨ps[k], List.getElem?_eq_getElem hk, fun c => ?_, fun j q hj hq => ?_⟩
  · rw [(jn1_iff W ok (List.getElem_mem hk)).mpr c] at h1; cases h1
  · have hl := (List.getElem?_eq_some_iff.mp hq).1
    have := h3 j (List.mem_range.mpr hl) hj
    rw [at_ j hl, Bool.not_eq_false'] at this
    rw [List.getElem?_eq_getElem hl] at hq
    rw [← Option.some.inj hq]
    exact (jn1_iff W ok (List.getElem_mem hl)).mp this
theorem bads_none {n : Nat} {ws : Wl} {ps : List Pr} (W : Wf n ws) (ok : PsOk n ps) (h : bads ws ps ps.length = []) : ∀ q ∈ ps, Cn (wedges ws) q.1 q.2 := fun q hq => by
  obtain ⟨i, hi⟩ := List.mem_iff_getElem?.mp hq
  have hl := (List.getElem?_eq_some_iff.mp hi).1
  have := List.filter_eq_nil_iff.mp h i (List.mem_range.mpr hl)
  unfold badI at this
  rw [hi] at this
  refine (jn1_iff W ok hq).mp ?_
  cases e : jn1 ws (List.range ws.length) q with
  | true => rfl
  | false => exact absurd (by show (!jn1 ws (List.range ws.length) q) = true; rw [e]; rfl) this
theorem First.uniq {ws : Wl} {ps : List Pr} {j k : Nat} (a : First ws ps j) (b : First ws ps k) : j = k := by
  obtain ⟨q1, a1, b1, c1⟩ := a
  obtain ⟨q2, a2, b2, c2⟩ := b
  rcases Nat.lt_trichotomy j k with h | h | h
  · exact absurd (c2 j q1 h a1) b1
  · exact h
  · exact absurd (c1 k q2 h a2) b2
section
variable {P : Program} {w : World} {K : PySem.W.Frag} {mg : Str → Option Value} {base : Heap} {T : List Addr} {aC aD aApart aRefused : Addr}
theorem ok_law {f : Addr} {fd : FuncData} (F : Fun K "law" "law" slaw f fd) (m_range : mg "range" = none) (m_len : mg "len" = none) {f_law_pool : Addr} {fd_law_pool : FuncData} (F_law_pool : Fun K "_law_pool" "_law_pool" s_law_pool f_law_pool fd_law_pool) (G_law_pool : FnOk P w K mg base CX0 13 f_law_pool fd_law_pool ["script"] (spPool K T)) (b_law_pool : Binds K fd_law_pool ["script"] []) (g_law_pool : mg "_law_pool" = some (.ref f_law_pool)) {f_law_draw : Addr} {fd_law_draw : FuncData} (F_law_draw : Fun K "_law_draw" "_law_draw" s_law_draw f_law_draw fd_law_draw) (G_law_draw : FnOk P w K mg base CX0 13 f_law_draw fd_law_draw ["pool", "many"] (spDraw T)) (b_law_draw : Binds K fd_law_draw ["pool", "many"] []) (g_law_draw : mg "_law_draw" = some (.ref f_law_draw)) {f_law_pick : Addr} {fd_law_pick : FuncData} (F_law_pick : Fun K "_law_pick" "_law_pick" s_law_pick f_law_pick fd_law_pick) (G_law_pick : FnOk P w K mg base CX0 13 f_law_pick fd_law_pick ["pool", "rows"] (spPick T)) (b_law_pick : Binds K fd_law_pick ["pool", "rows"] []) (g_law_pick : mg "_law_pick" = some (.ref f_law_pick)) {fYard___init__ : Addr} {fdYard___init__ : FuncData} (FYard___init__ : Fun K "__init__" "Yard.__init__" sYard___init__ fYard___init__ fdYard___init__) (GYard___init__ : FnOk P w K mg base CX0 12 fYard___init__ fdYard___init__ ["self", "places"] (spYInit P w K T aD)) (bYard___init__ : Binds K fdYard___init__ ["self", "places"] []) (MYard : Mk K aD fYard___init__) {f_law_near : Addr} {fd_law_near : FuncData} (F_law_near : Fun K "_law_near" "_law_near" s_law_near f_law_near fd_law_near) (G_law_near : FnOk P w K mg base CX0 13 f_law_near fd_law_near ["pool", "places"] (spNear T)) (b_law_near : Binds K fd_law_near ["pool", "places"] []) (g_law_near : mg "_law_near" = some (.ref f_law_near)) {f_law_cost : Addr} {fd_law_cost : FuncData} (F_law_cost : Fun K "_law_cost" "_law_cost" s_law_cost f_law_cost fd_law_cost) (G_law_cost : FnOk P w K mg base CX0 13 f_law_cost fd_law_cost ["pool"] (spCost T)) (b_law_cost : Binds K fd_law_cost ["pool"] []) (g_law_cost : mg "_law_cost" = some (.ref f_law_cost)) {fYard_build : Addr} {fdYard_build : FuncData} (FYard_build : Fun K "build" "Yard.build" sYard_build fYard_build fdYard_build) (GYard_build : FnOk P w K mg base (GE.CXn P w) 13 fYard_build fdYard_build ["self", "a", "b", "cost"] (spYEd P w K T aD aRefused isB)) (bYard_build : Binds K fdYard_build ["self", "a", "b", "cost"] []) (mmYard_build : Meth K aD "build" fYard_build) {f_law_edits : Addr} {fd_law_edits : FuncData} (F_law_edits : Fun K "_law_edits" "_law_edits" s_law_edits f_law_edits fd_law_edits) (G_law_edits : FnOk P w K mg base CX0 13 f_law_edits fd_law_edits ["pool", "yard", "places"] (spEdits P w K T aD)) (b_law_edits : Binds K fd_law_edits ["pool", "yard", "places"] []) (g_law_edits : mg "_law_edits" = some (.ref f_law_edits)) {f_law_is_refused : Addr} {fd_law_is_refused : FuncData} (F_law_is_refused : Fun K "_law_is_refused" "_law_is_refused" s_law_is_refused f_law_is_refused fd_law_is_refused) (G_law_is_refused : FnOk P w K mg base CX0 13 f_law_is_refused fd_law_is_refused ["pool", "yard"] (spRefd P w K T aD)) (b_law_is_refused : Binds K fd_law_is_refused ["pool", "yard"] []) (g_law_is_refused : mg "_law_is_refused" = some (.ref f_law_is_refused)) {fYard_task : Addr} {fdYard_task : FuncData} (FYard_task : Fun K "task" "Yard.task" sYard_task fYard_task fdYard_task) (GYard_task : FnOk P w K mg base CX0 13 fYard_task fdYard_task ["self"] (spYTask P w K T aD)) (bYard_task : Binds K fdYard_task ["self"] []) (mmYard_task : Meth K aD "task" fYard_task) {f_law_joins : Addr} {fd_law_joins : FuncData} (F_law_joins : Fun K "_law_joins" "_law_joins" s_law_joins f_law_joins fd_law_joins) (G_law_joins : FnOk P w K mg base CX0 13 f_law_joins fd_law_joins ["net", "pairs", "choice"] (spLJoins T)) (b_law_joins : Binds K fd_law_joins ["net", "pairs", "choice"] []) (g_law_joins : mg "_law_joins" = some (.ref f_law_joins)) {ftold : Addr} {fdtold : FuncData} (Ftold : Fun K "told" "told" stold ftold fdtold) (Gtold : FnOk P w K mg base CX0 13 ftold fdtold ["net", "pairs"] (spTold T)) (btold : Binds K fdtold ["net", "pairs"] []) (gtold_growths : mg "told_growths" = some (.ref ftold)) {f_law_parts : Addr} {fd_law_parts : FuncData} (F_law_parts : Fun K "_law_parts" "_law_parts" s_law_parts f_law_parts fd_law_parts) (G_law_parts : FnOk P w K mg base CX0 13 f_law_parts fd_law_parts ["net", "pairs"] (spLParts T)) (b_law_parts : Binds K fd_law_parts ["net", "pairs"] []) (g_law_parts : mg "_law_parts" = some (.ref f_law_parts)) {f_law_answer : Addr} {fd_law_answer : FuncData} (F_law_answer : Fun K "_law_answer" "_law_answer" s_law_answer f_law_answer fd_law_answer) (G_law_answer : FnOk P w K mg base CX0 13 f_law_answer fd_law_answer ["yard", "due"] (spAns P w K T aD)) (b_law_answer : Binds K fd_law_answer ["yard", "due"] []) (g_law_answer : mg "_law_answer" = some (.ref f_law_answer)) {fYard_worked : Addr} {fdYard_worked : FuncData} (FYard_worked : Fun K "worked" "Yard.worked" sYard_worked fYard_worked fdYard_worked) (GYard_worked : FnOk P w K mg base CX0 13 fYard_worked fdYard_worked ["self"] (spYWorked P w K aD)) (bYard_worked : Binds K fdYard_worked ["self"] []) (mmYard_worked : Meth K aD "worked" fYard_worked) {f_law_same : Addr} {fd_law_same : FuncData} (F_law_same : Fun K "_law_same" "_law_same" s_law_same f_law_same fd_law_same) (G_law_same : FnOk P w K mg base CX0 13 f_law_same fd_law_same ["actual", "due"] (spSame K 5 T)) (b_law_same : Binds K fd_law_same ["actual", "due"] []) (g_law_same : mg "_law_same" = some (.ref f_law_same)) (fy : YTx K aD) (gYard : mg "Yard" = some (.ref aD)) : FnOk P w K mg base CX0 14 f fd ["script"] (spLaw K T) := by
  refine F.ok sclaw (fun vs H Q E h => ?_) (fun cdv A outer s H vs Q E hr h => ?_)
  · obtain ⟨a0, ns, rfl, hS, hlen, wd, k⟩ := h
    rfl
  · obtain ⟨a0, ns, rfl, hS, hlen, wd, k⟩ := h
    refine ⟨_, (pss_cons (ps_set (i := 1) sclaw.nd rfl (Or.inl rfl) (pe_call G_law_pool hr (by rfl) g_law_pool F_law_pool.kp b_law_pool .nil pass0 (pa_cons (pv 0) pa_nil)))
      (pss_cons (ps_set (i := 2) sclaw.nd rfl (Or.inl rfl) (pe_op op_add pe_int (pe_call G_law_draw hr (by rfl) g_law_draw F_law_draw.kp b_law_draw .nil pass0 (pa_cons (pv 1) (pa_cons (pe_call G_law_pick hr (by rfl) g_law_pick F_law_pick.kp b_law_pick .nil pass0 (pa_cons (pv 1) (pa_cons (pe_lst (pa_cons pe_int (pa_cons pe_int (pa_cons pe_int pa_nil)))) pa_nil))) pa_nil)))))
      (pss_cons (ps_set (i := 3) sclaw.nd rfl (Or.inl rfl) (pe_make MYard GYard___init__ hr (by rfl) gYard bYard___init__ .nil pass0 (pa_cons (pv 2) pa_nil)))
      (pss_cons (ps_set (i := 4) sclaw.nd rfl (Or.inr rfl) (pe_lst pa_nil))
      (pss_cons (ps_set (i := 5) sclaw.nd rfl (Or.inl rfl) pe_int)
      (pss_cons (ps_for PassesOwn.never rfl (pi_range1 (by rfl) m_range (pa_cons (pe_call G_law_draw hr (by rfl) g_law_draw F_law_draw.kp b_law_draw .nil pass0 (pa_cons (pv 1) (pa_cons (pe_call G_law_pick hr (by rfl) g_law_pick F_law_pick.kp b_law_pick .nil pass0 (pa_cons (pv 1) (pa_cons (pe_lst (pa_cons pe_int (pa_cons pe_int (pa_cons pe_int pa_nil)))) pa_nil))) pa_nil))) pa_nil)) (pg_name (i := 6) sclaw.nd rfl (Or.inl rfl)) (pss_cons (ps_asg (pe_call G_law_near hr (by rfl) g_law_near F_law_near.kp b_law_near .nil pass0 (pa_cons (pv 1) (pa_cons (pv 2) pa_nil))) (pg_tup (by rfl) (pgs_cons (pg_name (i := 7) sclaw.nd rfl (Or.inl rfl)) (pgs_cons (pg_name (i := 8) sclaw.nd rfl (Or.inl rfl)) pgs_nil))))
      (pss_one (ps_expr (GE.pe_methSS (pv 3) fy.cl mmYard_build GYard_build hr bYard_build (fun σ => L2N.passAt GE.takesN0 σ) (pa_cons (pv 7) (pa_cons (pv 8) (pa_cons (pe_call G_law_cost hr (by rfl) g_law_cost F_law_cost.kp b_law_cost .nil pass0 (pa_cons (pv 1) pa_nil)) pa_nil))))))))
      (pss_cons (ps_for PassesOwn.never rfl (pi_range1 (by rfl) m_range (pa_cons (pe_call G_law_draw hr (by rfl) g_law_draw F_law_draw.kp b_law_draw .nil pass0 (pa_cons (pv 1) (pa_cons pe_int pa_nil))) pa_nil)) (pg_name (i := 6) sclaw.nd rfl (Or.inl rfl)) (pss_cons (ps_expr (pe_call G_law_edits hr (by rfl) g_law_edits F_law_edits.kp b_law_edits .nil pass0 (pa_cons (pv 1) (pa_cons (pv 3) (pa_cons (pv 2) pa_nil)))))
      (Evl.pss_cut (ps_if (PW.pt (pw_and (pt_cmpR op_eq (pe_call G_law_draw hr (by rfl) g_law_draw F_law_draw.kp b_law_draw .nil pass0 (pa_cons (pv 1) (pa_cons pe_int pa_nil))) pe_int (nomark _)) (pw_and1 (pt_not (pt_val (pe_call G_law_is_refused hr (by rfl) g_law_is_refused F_law_is_refused.kp b_law_is_refused .nil pass0 (pa_cons (pv 1) (pa_cons (pv 3) pa_nil)))))))) (pss_one (ps_ret pe_bl)) pss_nil)
      (pss_cons (ps_for PassesOwn.never rfl (pi_range1 (by rfl) m_range (pa_cons (pe_call G_law_draw hr (by rfl) g_law_draw F_law_draw.kp b_law_draw .nil pass0 (pa_cons (pv 1) (pa_cons pe_int pa_nil))) pa_nil)) (pg_name (i := 9) sclaw.nd rfl (Or.inl rfl)) (pss_cons (ps_asg (pe_meth0 (pv 3) fy.cl mmYard_task GYard_task hr bYard_task .nil pass0) (pg_tup (by rfl) (pgs_cons (pg_name (i := 10) sclaw.nd rfl (Or.inr rfl)) (pgs_cons (pg_name (i := 11) sclaw.nd rfl (Or.inr rfl)) pgs_nil))))
      (pss_cons (ps_set (i := 12) sclaw.nd rfl (Or.inr rfl) (pe_lc (own := [("k", 6)]) (g := (gName 6)) (tt := tYes) rfl sclaw.nd (pi_range1 (by rfl) m_range (pa_cons (pe_callB call_len_seq (by rfl) m_len PySem.boot_len (pa_cons (pe_ix ix_tup (pv 10) pe_int (fun _ _ => rfl)) pa_nil)) pa_nil)) (blkOk_by (own := [("k", 6)]) (N := ["script", "pool", "places", "yard", "known", "many", "k", "a", "b", "turn", "net", "pairs", "whole", "wrong", "due", "parts", "part"]) (sc := defScope slaw) (by decide +kernel)) (fun _ _ _ _ _ => (pg_name (i := 6) sclaw.nd rfl (Or.inl rfl))) (fun _ _ _ _ _ => pts_nil) (fun _ _ _ _ _ => (pv 6))))
      (pss_cons (ps_setLc (i := 13) (own := [("k", 6)]) (g := (gName 6)) rfl sclaw.nd rfl rfl (sw_true rfl rfl rfl (by decide +kernel)) (pi_range1 (by rfl) m_range (pa_cons (pe_callB call_len_seq (by rfl) m_len PySem.boot_len (pa_cons (pv 11) pa_nil)) pa_nil)) (blkOk_by (own := [("k", 6)]) (N := ["script", "pool", "places", "yard", "known", "many", "k", "a", "b", "turn", "net", "pairs", "whole", "wrong", "due", "parts", "part"]) (sc := defScope slaw) (by decide +kernel)) (fun _ _ _ _ _ => (pg_name (i := 6) sclaw.nd rfl (Or.inl rfl))) (fun _ _ _ _ _ => (pts_one (pt_not (pt_val (pe_call G_law_joins hr (by rfl) g_law_joins F_law_joins.kp b_law_joins .nil pass0 (pa_cons (pv 10) (pa_cons (pe_slice GE.sl_tupR (pv 11) (po_some (pv 6)) (po_some (pe_op op_add (pv 6) pe_int))) (pa_cons (pv 12) pa_nil)))))))) (fun _ _ _ _ _ => (pv 6)))
      (Evl.pss_cut (ps_if (pt_cmpR op_gt (pe_callB call_len_seq (by rfl) m_len PySem.boot_len (pa_cons (pv 13) pa_nil)) pe_int (nomark _)) (pss_one (ps_set (i := 14) sclaw.nd rfl (Or.inl rfl) (pe_ix ix_list (pv 13) pe_int (fun _ _ => rfl)))) (pss_cons (ps_set (i := 14) sclaw.nd rfl (Or.inl rfl) (pe_call Gtold hr (by rfl) gtold_growths Ftold.kp btold .nil pass0 (pa_cons (pv 10) (pa_cons (pv 11) pa_nil))))
      (pss_cons (ps_set (i := 15) sclaw.nd rfl (Or.inl rfl) (pe_call G_law_parts hr (by rfl) g_law_parts F_law_parts.kp b_law_parts .nil pass0 (pa_cons (pv 10) (pa_cons (pv 11) pa_nil))))
      (pss_cons (ps_set (i := 5) sclaw.nd rfl (Or.inl rfl) (pe_op op_add (pv 5) (pe_callB call_len_seq (by rfl) m_len PySem.boot_len (pa_cons (pe_lc (own := [("part", 16)]) (g := (gName 16)) rfl sclaw.nd (pi_list (pv 15)) (blkOk_by (own := [("part", 16)]) (N := ["script", "pool", "places", "yard", "known", "many", "k", "a", "b", "turn", "net", "pairs", "whole", "wrong", "due", "parts", "part"]) (sc := defScope slaw) (by decide +kernel)) (fun _ _ _ _ _ => (pg_name (i := 16) sclaw.nd rfl (Or.inl rfl))) (fun _ _ _ _ _ => (pts_one (pt_cmpR (op_notInDK (K := K) (by have := hr.un; show (A.deeper _).units + 65 < _; omega)) (pv 16) (pv 4) (by rfl)))) (fun _ _ _ _ _ => (pv 16))) pa_nil))))
      (pss_one (ps_set (i := 4) sclaw.nd rfl (Or.inr rfl) (pv 15)))))))
      (pss_one (ps_if (pt_not (pt_val (pe_call G_law_answer hr (by rfl) g_law_answer F_law_answer.kp b_law_answer .nil pass0 (pa_cons (pv 3) (pa_cons (pv 14) pa_nil))))) (pss_one (ps_ret pe_bl)) pss_nil)))))))
      (pss_one (ps_if (pt_not (pt_val (pe_call G_law_same hr (by rfl) g_law_same F_law_same.kp b_law_same .nil pass0 (pa_cons (pe_meth0 (pv 3) fy.cl mmYard_worked GYard_worked hr bYard_worked .nil pass0) (pa_cons (pv 5) pa_nil))))) (pss_one (ps_ret pe_bl)) pss_nil))))))
      (pss_one (ps_ret pe_bl))))))))), ?_⟩
    refine ⟨_, rfl, a0, ns, rfl, hS, hlen, fun p s1 H1 hp hs hP1 e1 => ?_⟩
    have wd1 := wd.ext e1
    refine ⟨_, rfl, _, rfl, by show 3 ≤ sizeLine; decide, fun l1 hl1 => ?_⟩
    have x1 : Ext T noM H1 (upd H1 l1 (.lst [.int 5, .int 8, .int 11])) := Ext.new hl1
    refine ⟨p, s1, l1, _, rfl, hP1.keep (T := T) x1, upd_same, (hP1.ne hl1).1, by decide, by decide, fun v1 H2 hv1 hP2 e2 => ?_⟩
    obtain ⟨m1, rfl, m10, m11⟩ : ∃ m : Int, v1 = .int m ∧ 1 ≤ m ∧ m ≤ 11 := by
      simp only [List.mem_cons, List.not_mem_nil, or_false] at hv1
      rcases hv1 with h | h | h
      · exact ⟨5, h, by decide, by decide⟩
      · exact ⟨8, h, by decide, by decide⟩
      · exact ⟨11, h, by decide, by decide⟩
    refine ⟨p, s1, m1, rfl, hP2, by omega, by omega, fun r H3 r0 r1 hP3 e3 => ⟨_, _, rfl, rfl, ?_⟩⟩
    obtain ⟨r, rfl⟩ := nat_of r0
    have wd3 := ((wd1.ext x1).ext e2).ext e3
    dsimp only [gName]
    rw [show (2 : Int) + (r : Int) = ((2 + r : Nat) : Int) by omega]
    have hn : 2 ≤ 2 + r ∧ 2 + r ≤ 12 := ⟨by omega, by omega⟩
    generalize 2 + r = n at hn ⊢
    refine ⟨_, rfl, fun x dx nx ndx nex => ⟨x, dx, n, rfl, upd_same, fun a H4 ha Y4 hY e4 => ⟨rfl, ?_⟩⟩⟩
    have nxd : (upd H3 dx (.own x)) x = none := by rw [upd_ne (fun z => nex z.symm)]; exact nx
    have e3a : Ext T noM H3 (upd (upd H3 dx (.own x)) x (.ins aD dx [])) := (Ext.new ndx).trans (Ext.new nxd)
    have e34 : Ext T noM H3 H4 := e3a.drop e4 fun b hb => by rw [hb]; exact nx
    obtain ⟨x', lw, lp, kd⟩ := a
    have ha : x = x' := Eq.symm ha
    subst ha
    have hA0 : ∀ c, YN ⟨x, lw, lp, kd⟩ c → H3 c = none := fun c hc => (hY c hc).elim (fun z => by rw [z]; exact nx) fun z => e3a.fr c z
    have hP4 := hP3.keep e34
    dsimp only [gName]
    refine ⟨by show 0 ≤ sizeLine; decide, fun lk hlk => ?_⟩
    have e5 : Ext T noM H4 (upd H4 lk (.lst [])) := Ext.new hlk
    have hk5 : (upd H4 lk (.lst [])) lk = some (.lst []) := upd_same
    generalize (upd H4 lk (.lst [])) = H5 at e5 hk5 ⊢
    have B5 : B23 P w K aD T H5 p s1 lk ⟨x, lw, lp, kd⟩ ⟨n, [], [], [], 0⟩ := ⟨hP4.keep e5, Y4.x e5, ⟨⟨by show 1 ≤ n; omega, hn.2, Nat.zero_le _, fun w h => nomatch h⟩, ⟨(fun q h => nomatch h), Nat.zero_le _⟩⟩, fun c hc => hP3.ne (hA0 c hc), hn.1, ⟨[], hk5, rpl_nil⟩, (hP4.ne hlk).1, fun z => Y4.live lk (.inl z) hlk, (wd3.ext e34).ext e5⟩
    clear Y4 hA0 hY e4 nxd e3a
    dsimp only [gName]
    refine ⟨_, rfl, _, rfl, by show 3 ≤ sizeLine; decide, fun l2 hl2 => ?_⟩
    have x2 : Ext T noM H5 (upd H5 l2 (.lst [.int 1, .int 1, .int 24])) := Ext.new hl2
    refine ⟨p, s1, l2, _, rfl, (B5.x x2).pool, upd_same, (B5.pool.ne hl2).1, by decide, by decide, fun v2 H6 hv2 hP6 e6 => ?_⟩
    obtain ⟨m2, rfl, m20, m21⟩ : ∃ m : Int, v2 = .int m ∧ 1 ≤ m ∧ m ≤ 24 := by
      simp only [List.mem_cons, List.not_mem_nil, or_false] at hv2
      rcases hv2 with h | h | h
      · exact ⟨1, h, by decide, by decide⟩
      · exact ⟨1, h, by decide, by decide⟩
      · exact ⟨24, h, by decide, by decide⟩
    refine ⟨p, s1, m2, rfl, hP6, by omega, by omega, fun r7 H7 r70 r71 hP7 e7 => ⟨r7, rfl, by omega, by omega, ?_⟩⟩
    have B7 := ((B5.x x2).dr e6 hP6).dr e7 hP7
    refine for_range (lo := 0) (n := r7.toNat) (fun i σ' H' => ∃ y6 y7 y8 ws, σ' = [some (.ref a0), some (.ref p), some (.int (n : Nat)), some (.ref x), some (.ref lk), some (.int 0), y6, y7, y8, none, none, none, none, none, none, none, none] ∧ B23 P w K aD T H' p s1 lk ⟨x, lw, lp, kd⟩ ⟨n, ws, [], [], 0⟩ ∧ ws.length ≤ i) ⟨none, none, none, [], rfl, B7, Nat.le_refl _⟩ ?_ ?_
    · rintro i σ' H8 hi ⟨y6, y7, y8, ws, rfl, B, hwi⟩
      refine ⟨_, rfl, _, rfl, p, s1, n, rfl, B.pool, hn.1, by omega, fun nt q H9 q1 q2 hnt hP9 e9 => ?_⟩
      have B9 := B.dr e9 hP9
      refine ⟨nt, _, rfl, SqT.of hnt, rfl, _, _, rfl, _, _, rfl, rfl, ?_⟩
      obtain ⟨dx9, hob9⟩ := B9.y.ob
      refine ⟨_, rfl, x, dx9, _, rfl, hob9, by rfl, _, rfl, _, rfl, _, rfl, p, s1, rfl, hP9, fun cc H10 c0 c1 hP10 e10 => ?_⟩
      obtain ⟨cn, rfl⟩ := nat_of (show 0 ≤ cc by omega)
      have B10 := B9.dr e10 hP10
      have eo : EdOk n (.build (q.1, q.2, cn)) := ⟨q1, q2, by show 1 ≤ cn; omega, by show cn ≤ 10000; omega⟩
      have eT : edT (.build (q.1, q.2, cn)) ws [] = (("" : Str), ws ++ [(q.1, q.2, cn)], []) := if_neg (by omega)
      have g := edT_ok B10.yo.w B10.yo.p eo
      refine ⟨⟨x, lw, lp, kd⟩, _, .build (q.1, q.2, cn), ⟨_, rfl⟩, rfl, B10.y, B10.yo, eo, fun _ H11 Y11 e11 => ?_, fun h => absurd (by rw [eT]) h⟩
      rw [eT] at Y11 g
      exact ⟨_, _, _, _, rfl, B10.ed g.1 g.2 Y11 (hP10.out e11 (fun z => (B10.sep p (.inl z)).1 rfl) (fun z => (B10.sep s1 (.inl z)).2 rfl)) (ext_mono e11 fun b z => .inr z), by rw [List.length_append, List.length_singleton]; omega⟩
    rintro σ' H8 ⟨y6, y7, y8, ws, rfl, B8, hwi⟩
    clear B5 B7
    refine ⟨_, rfl, p, s1, _, rfl, B8.pool, by decide, by decide, fun r9 H9 r90 r91 hP9 e9 => ⟨r9, rfl, by omega, by omega, ?_⟩⟩
    refine for_range (lo := 0) (n := r9.toNat) (fun i σ' H' => ∃ (kd lk : Addr) (S : Ys) (y6 y7 y8 y9 y10 y11 y12 y13 y14 y15 y16 : Option V), S.n = n ∧ σ' = [some (.ref a0), some (.ref p), some (.int (n : Nat)), some (.ref x), some (.ref lk), some (.int (S.many : Nat)), y6, y7, y8, y9, y10, y11, y12, y13, y14, y15, y16] ∧ B23 P w K aD T H' p s1 lk ⟨x, lw, lp, kd⟩ S) ⟨kd, lk, ⟨n, ws, [], [], 0⟩, _, _, _, _, _, _, _, _, _, _, _, rfl, rfl, B8.dr e9 hP9⟩ ?_ (fun σ' H' _ => k _)
    rintro i σ' H10 hi ⟨kd, lk, S, y6, y7, y8, y9, y10, y11, y12, y13, y14, y15, y16, hSn, rfl, B⟩
    refine ⟨_, rfl, _, rfl, _, rfl, p, s1, ⟨x, lw, lp, kd⟩, S, by rw [hSn]; rfl, B.pool, B.y, B.yo, B.sep, B.n2, fun ws ps H11 W11 ok11 Y11 hP11 e11 => ?_⟩
    replace B := B.ed W11 ok11 Y11 hP11 e11
    have hSn : S.n = n := hSn
    dsimp only [gName]
    generalize hS2 : ({ S with ws := ws, ps := ps } : Ys) = S2 at B
    have hSn : S2.n = n := by rw [← hS2]; exact hSn
    have hSm : S2.many = S.many := by rw [← hS2]
    rw [← hSm]
    clear hS2 hSm Y11 W11 ok11
    refine ⟨fun σ' H' => σ' = [some (.ref a0), some (.ref p), some (.int (n : Nat)), some (.ref x), some (.ref lk), some (.int (S2.many : Nat)), some (.int ((0 : Int) + (i : Int))), y7, y8, y9, y10, y11, y12, y13, y14, y15, y16] ∧ B23 P w K aD T H' p s1 lk ⟨x, lw, lp, kd⟩ S2, ?_, ?_⟩
    · refine ⟨_, rfl, p, s1, _, rfl, hP11, by decide, by decide, fun r12 H12 r120 r121 hP12 e12 => ⟨rfl, _, rfl, ?_⟩⟩
      have B12 := B.dr e12 hP12
      refine ite2 (fun c => ?_) (fun c => ⟨rfl, B12⟩)
      exact ⟨_, rfl, _, rfl, p, s1, ⟨x, lw, lp, kd⟩, S2, rfl, B12.pool, B12.y, B12.yo, (fun c hc => (B12.sep c hc).1), B12.n2, fun H13 hP13 e13 => ⟨_, rfl, iteF ⟨rfl, B12.dr e13 hP13⟩⟩⟩
    rintro σ' H12 ⟨rfl, B⟩
    refine ⟨_, rfl, p, s1, _, rfl, B.pool, by decide, by decide, fun r13 H13 r130 r131 hP13 e13 => ⟨r13, rfl, by omega, by omega, ?_⟩⟩
    replace B := B.dr e13 hP13
    refine for_range (lo := 0) (n := r13.toNat) (fun i σ' H' => ∃ (kd lk : Addr) (S : Ys) (y6 y7 y8 y9 y10 y11 y12 y13 y14 y15 y16 : Option V), S.n = n ∧ σ' = [some (.ref a0), some (.ref p), some (.int (n : Nat)), some (.ref x), some (.ref lk), some (.int (S.many : Nat)), y6, y7, y8, y9, y10, y11, y12, y13, y14, y15, y16] ∧ B23 P w K aD T H' p s1 lk ⟨x, lw, lp, kd⟩ S) ⟨kd, lk, S2, _, _, _, _, _, _, _, _, _, _, _, hSn, rfl, B⟩ ?_ ?_
    · clear B hSn
      rintro i2 σ' H14 hi2 ⟨kd, lk, S, y6, y7, y8, y9, y10, y11, y12, y13, y14, y15, y16, hSn, rfl, B⟩
      obtain ⟨dxy, hob⟩ := B.y.ob
      dsimp only [gName]
      refine ⟨_, rfl, x, dxy, _, rfl, hob, by rfl, ⟨x, lw, lp, kd⟩, S, rfl, B.y, B.yo, fun tv H15 ht e15 => ?_⟩
      replace B := B.x e15
      obtain ⟨ta, tus, rfl, hta, htr⟩ := ht.t
      obtain ⟨net, r1, rfl, hnet, htr⟩ := htr.cons
      obtain ⟨pz, r2, rfl, hpz, htr⟩ := htr.cons
      obtain rfl := htr.nil
      obtain ⟨na, nb, wus, rfl, hna, hnb, hwr⟩ := net_at hnet
      have hwl : wus.length = S.ws.length := by rw [hwr.len, List.length_map]
      have w24 := B.yo.w.ln
      have p6 := B.yo.p.ln
      refine ⟨ta, _, rfl, SqT.of hta, rfl, _, _, rfl, _, _, rfl, rfl, ?_⟩
      refine ⟨_, rfl, na, _, _, _, rfl, rfl, SqT.of hna, at_of (j := 1) rfl rfl, nb, _, rfl, .inr (SqT.of hnb), _, rfl, by omega, by omega, fun lq hlq => ?_⟩
      refine lc_range (lo := 0) (n := ((wus.length : Nat) : Int).toNat) (fun j H' => Ext T noM H15 H' ∧ H' lq = some (.lst (natsV (List.range j)))) ⟨Ext.new hlq, upd_same⟩ ?_ ?_
      · rintro j H' hj ⟨e, hv⟩
        refine ⟨rfl, tYesI ⟨_, rfl, _, hv, small1000 (by unfold natsV; rw [List.length_map, List.length_range]; omega), e.mut (.inl hlq) hv ltbl, ?_⟩⟩
        rw [upd_same, List.range_succ, Int.zero_add]; unfold natsV; rw [List.map_append]; rfl
      rintro H16 ⟨e16, hq16⟩
      rw [show ((wus.length : Nat) : Int).toNat = S.ws.length by omega] at hq16
      have hpz16 := Rp.x e16 hpz
      obtain ⟨pa, pus, rfl, hpa, hpr⟩ := hpz16.t
      have hpl : pus.length = S.ps.length := by rw [hpr.len, List.length_map]
      have hnet16 := Rp.x e16 hnet
      dsimp only [gName]
      refine ⟨_, rfl, pa, _, rfl, .inr (SqT.of hpa), _, rfl, by omega, by omega, fun Dl hD => ?_⟩
      refine lc_range (lo := 0) (n := ((pus.length : Nat) : Int).toNat) (fun j H' => Ext T noM H16 H' ∧ H' Dl = some (.lst (natsV (bads S.ws S.ps j)))) ⟨Ext.new hD, upd_same⟩ ?_ ?_
      · rintro j H7 hj ⟨e7, hD7⟩
        have hj' : j < S.ps.length := by omega
        obtain ⟨z, hx, hr⟩ := hpr.get (i := j) (d := pairD S.ps[j]) (by rw [List.getElem?_map, List.getElem?_eq_getElem hj']; rfl)
        have okj := B.yo.p.ok _ (List.getElem_mem hj')
        have hz : (0 : Int) + (j : Int) = (j : Int) := Int.zero_add _
        rw [hz]
        refine ⟨rfl, _, rfl, _, rfl, _, rfl, _, rfl, _, rfl, _, _, rfl, rfl, _, rfl, pa, pus, rfl, e7.tup (fun z => z) hpa, fun t H8 ht ex => ?_⟩
        have e8 := ex T
        rw [cut_one hx] at ht
        have e68 := e7.trans e8
        refine ⟨_, rfl, .ref na, .ref t, .ref lq, S.n, S.ws, List.range S.ws.length, [S.ps[j]], rfl, ⟨B.yo.w, fun c hc => List.mem_range.mp hc, by rw [List.length_range]; exact w24, Rp.x e68 hnet16, ⟨lq, rfl, .inr (e68.lst (fun z => z) hq16)⟩⟩, rp_t ht (rpl_cons (Rp.x e68 hr) rpl_nil), ⟨fun q hq => by rw [List.mem_singleton.mp hq]; exact okj, by show 1 ≤ 6; decide⟩, fun H9 e9 => ⟨_, rfl, ?_⟩⟩
        have hD9 := e9.lst (fun z => z) (e8.lst (fun z => z) hD7)
        have e69 := e68.trans e9
        have ejn : (!jn S.ws (List.range S.ws.length) [S.ps[j]]) = badI S.ws S.ps j := by unfold jn badI; rw [List.getElem?_eq_getElem hj']; simp
        dsimp only
        rw [ejn]
        have hsn := bads_succ S.ws S.ps j
        have hbl := bads_len S.ws S.ps j
        refine ite2 (fun q => ?_) (fun q => ?_)
        · rw [if_pos q] at hsn
          refine ⟨_, rfl, _, hD9, ?_, e69.mut (.inl hD) hD9 ltbl, ?_⟩
          · unfold natsV; rw [List.length_map]; exact small1000 (by omega)
          · rw [upd_same, hsn]; unfold natsV; rw [List.map_append]; rfl
        · rw [if_neg q, List.append_nil] at hsn
          exact ⟨e69, by rw [hsn]; exact hD9⟩
      rintro H17 ⟨e17, hD17⟩
      rw [show (((pus.length : Nat) : Int)).toNat = S.ps.length by omega] at hD17
      have hbl := bads_len S.ws S.ps S.ps.length
      have hnet17 := Rp.x e17 hnet16
      have hpz17 : Rp H17 (pairsD S.ps) (.ref pa) := Rp.x (e16.trans e17) hpz
      replace B := (B.x e16).x e17
      dsimp only [gName]
      refine ⟨fun σ' H' => ∃ (lk' : Addr) (many' : Nat) (due : V) (y6 y7 y8 y9 y10 y11 y12 y13 y15 y16 : Option V), σ' = [some (.ref a0), some (.ref p), some (.int (n : Nat)), some (.ref x), some (.ref lk'), some (.int (many' : Nat)), y6, y7, y8, y9, y10, y11, y12, y13, some due, y15, y16] ∧ B23 P w K aD T H' p s1 lk ⟨x, lw, lp, kd⟩ S ∧
        ((∃ k, First S.ws S.ps k ∧ due = .int (k : Nat) ∧ lk' = lk ∧ many' = S.many) ∨ ((∀ q ∈ S.ps, Cn (wedges S.ws) q.1 q.2) ∧ Rp H' (chD (toldL S.n S.ws S.ps)) due ∧ many' = S.many + lackK S.ks (pts S.n S.ws S.ps) ∧ lk' ≠ p ∧ ¬ YM ⟨x, lw, lp, kd⟩ lk' ∧ ∃ us, H' lk' = some (.lst us) ∧ RpL H' (((pts S.n S.ws S.ps).map (·.1)).map partD) us)), ?_, ?_⟩
      · refine ev_if (b := decide ((((natsV (bads S.ws S.ps S.ps.length)).length : Nat) : Int) > 0)) (fun Q h => ⟨_, rfl, Dl, _, rfl, .inl (SqL.of hD17), _, _, rfl, rfl, _, rfl, h⟩) (fun c => ?_) (fun c => ?_)
        · cases hb : bads S.ws S.ps S.ps.length with
          | nil => rw [hb] at c; cases c
          | cons k0 r0 =>
            refine ⟨_, rfl, Dl, _, _, _, rfl, rfl, SqL.of hD17, at_of (j := 0) rfl (by rw [hb]; rfl), ?_⟩
            exact ⟨lk, S.many, .int (k0 : Nat), _, _, _, _, _, _, _, _, _, _, rfl, B, .inl ⟨k0, bads_first B.yo.w B.yo.p hb, rfl, rfl, rfl⟩⟩
        · have hb : bads S.ws S.ps S.ps.length = [] := by
            cases hb : bads S.ws S.ps S.ps.length with
            | nil => rfl
            | cons k0 r0 =>
              rw [hb] at c
              have := of_decide_eq_false c
              exact absurd (show ((natsV (k0 :: r0)).length : Int) > 0 by show (((r0.map _).length + 1 : Nat) : Int) > 0; omega) this
          have J := bads_none B.yo.w B.yo.p hb
          refine ⟨_, rfl, _, rfl, .ref na, .ref pa, S.n, S.ws, S.ps, rfl, B.yo.w, hnet17, hpz17, B.yo.p, J, B.wd, fun u H18 hu e18 => ?_⟩
          dsimp only [gName]
          refine ⟨_, rfl, _, rfl, .ref na, .ref pa, S.n, S.ws, S.ps, rfl, B.yo.w, Rp.x e18 hnet17, Rp.x e18 hpz17, B.yo.p, fun l us H19 hl0 hl hr e19 => ?_⟩
          have B18 := B.x e18
          have B19 := B18.x e19
          obtain ⟨kus, hkn, hkr⟩ := B19.kn
          have hlen19 : us.length = (pts S.n S.ws S.ps).length := by rw [hr.len, List.length_map]
          have pl12 := pts_len B.yo.w.n12 S.ws S.ps
          dsimp only [gName]
          refine ⟨_, rfl, _, rfl, l, rfl, ⟨_, SqL.of hl⟩, fun Dm hDm => ?_⟩
          refine lc_list (K := K) (a := l) (xs := us) (fun j H' => ∃ acc, Ext T noM H19 H' ∧ H' Dm = some (.lst acc) ∧ acc.length = lackK S.ks ((pts S.n S.ws S.ps).take j)) ⟨[], Ext.new hDm, upd_same, rfl⟩ (fun j H' _ ⟨_, e, _⟩ => SqL.of (e.lst (fun z => z) hl)) ?_ ?_
          · rintro j z H20 hz ⟨acc, e20, hD20, hal⟩
            have hj : j < (pts S.n S.ws S.ps).length := by have := (List.getElem?_eq_some_iff.mp hz).1; omega
            have hqj : (pts S.n S.ws S.ps)[j]? = some (pts S.n S.ws S.ps)[j] := List.getElem?_eq_getElem hj
            obtain ⟨z', hz', hrz⟩ := hr.get (i := j) (d := partD (pts S.n S.ws S.ps)[j].1) (by rw [List.getElem?_map, hqj]; rfl)
            rw [hz] at hz'
            obtain rfl := Option.some.inj hz'
            have hsn := lackK_snoc S.ks ((pts S.n S.ws S.ps).take j) (pts S.n S.ws S.ps)[j]
            rw [← take_succ' hqj] at hsn
            have hll : lackK S.ks ((pts S.n S.ws S.ps).take j) ≤ 12 := by
              unfold lackK
              refine Nat.le_trans (List.length_filter_le _ _) ?_
              rw [List.length_take]; omega
            refine ⟨rfl, _, rfl, _, rfl, partP (pts S.n S.ws S.ps)[j].1, S.ks.map partP, dp_part (Rp.x e20 hrz), .lst (SqL.of (e20.lst (fun z => z) hkn)) (dp_parts (hkr.x e20)), part_shaped _, parts_shaped _, ?_⟩
            refine ⟨_, rfl, ?_⟩
            rw [any_part]
            refine ite2 (fun q => ?_) (fun q => ?_)
            · have hq : (pts S.n S.ws S.ps)[j].1 ∉ S.ks := fun y => by
                rw [decide_eq_true y] at q
                exact absurd q (by decide)
              rw [if_neg hq] at hsn
              exact ⟨_, rfl, acc, hD20, small1000 (by omega), acc ++ [z], e20.mut (.inl hDm) hD20 ltbl, upd_same, by rw [List.length_append, List.length_singleton, hal, hsn]⟩
            · have hq : (pts S.n S.ws S.ps)[j].1 ∈ S.ks := Classical.byContradiction fun y => q (by rw [decide_eq_false y]; rfl)
              rw [if_pos hq] at hsn
              exact ⟨acc, e20, hD20, by rw [hsn, hal]; rfl⟩
          rintro H20 ⟨acc, e20, hD20, hal⟩
          rw [hlen19, List.take_length] at hal
          refine ⟨Dm, acc, rfl, .inl (SqL.of hD20), _, _, rfl, rfl, _, rfl, ?_⟩
          rw [hal]
          exact ⟨l, S.many + lackK S.ks (pts S.n S.ws S.ps), u, _, _, _, _, _, _, _, _, _, _, rfl, B19.x e20, .inr ⟨J, Rp.x e20 (Rp.x e19 hu), rfl, (B18.pool.ne hl0).1, fun z => B18.y.live l (.inl z) hl0, us, e20.lst (fun z => z) hl, by rw [List.map_map]; exact hr.x e20⟩⟩
      rintro σ' H18 ⟨lk', many', due, y6, y7, y8, y9, y10, y11, y12, y13, y15, y16, rfl, B, hd⟩
      refine ⟨_, rfl, _, rfl, ⟨x, lw, lp, kd⟩, S, due, rfl, B.y, B.yo, B.wd, fun J => ?_, fun kk F => ?_⟩
      · rcases hd with ⟨k2, F, _⟩ | ⟨_, h1, h2, h3, h4, us, h5, h6⟩
        · obtain ⟨q, a, b, _⟩ := F
          exact absurd (J q (List.mem_of_getElem? a)) b
        · obtain rfl := h2
          exact ⟨h1, fun kd' H' Y' hk e' => ⟨_, rfl, iteF ⟨kd', lk', ⟨S.n, S.ws, S.ps, (pts S.n S.ws S.ps).map (·.1), S.many + lackK S.ks (pts S.n S.ws S.ps)⟩, _, _, _, _, _, _, _, _, _, _, _, hSn, rfl, B.tl Y' hk e' h5 h6 h3 h4⟩⟩⟩
      · rcases hd with ⟨k2, F2, rfl, rfl, rfl⟩ | ⟨J, _⟩
        · obtain rfl := First.uniq F F2
          exact ⟨rfl, fun H' e' => ⟨_, rfl, iteF ⟨kd, lk', S, _, _, _, _, _, _, _, _, _, _, _, hSn, rfl, B.x e'⟩⟩⟩
        · obtain ⟨q, a, b, _⟩ := F
          exact absurd (J q (List.mem_of_getElem? a)) b
    rintro σ' H14 ⟨kd, lk, S, y6, y7, y8, y9, y10, y11, y12, y13, y14, y15, y16, hSn, rfl, B⟩
    obtain ⟨dxy, hob⟩ := B.y.ob
    refine ⟨_, rfl, x, dxy, _, rfl, hob, by rfl, ⟨x, lw, lp, kd⟩, S, rfl, B.y, _, rfl, ?_⟩
    refine ⟨_, _, .i (S.many : Nat), rfl, rpk_of (rp_i _), rpk_of (rp_i _), True.intro, fun H15 e15 => ⟨_, rfl, iteF ?_⟩⟩
    exact ⟨_, _, _, _, _, _, _, _, _, _, _, _, _, _, hSn, rfl, B.x e15⟩
end
end Mw

set_option Elab.async false
set_option linter.all false
set_option maxRecDepth 100000
set_option maxHeartbeats 4000000
namespace Mw
open PySem PySem.Spec PyProof.Rows L2 GE
/-! ### the dict of groups while it is filled -/
def kvsOf (l : List Nat) (A : Nat → Addr) : List (Key × V) := l.map fun (r : Nat) => ((Sum.inl (r : Int) : Key), V.ref (A r))
theorem val_in {A : Nat → Addr} {r : Nat} : ∀ {l : List Nat}, r ∈ l → valV (kvsOf l A) (.inl (r : Int)) = some (.ref (A r))
  | x :: l, h => by
    show valV (((Sum.inl (x : Int) : Key), V.ref (A x)) :: kvsOf l A) _ = _
    by_cases e : x = r
    · subst e; exact valV_pos rfl
    · rw [valV_neg (fun z => e (by have := Sum.inl.inj z; omega))]
      rcases List.mem_cons.mp h with h | h
      · exact absurd h.symm e
      · exact val_in h
theorem val_out {A : Nat → Addr} {r : Nat} : ∀ {l : List Nat}, r ∉ l → valV (kvsOf l A) (.inl (r : Int)) = none
  | [], _ => rfl
  | x :: l, h => by
    show valV (((Sum.inl (x : Int) : Key), V.ref (A x)) :: kvsOf l A) _ = _
    rw [valV_neg (fun z => h (by have := Sum.inl.inj z; rw [show r = x by omega]; exact List.mem_cons_self))]
    exact val_out fun z => h (List.mem_cons_of_mem _ z)
theorem put_out {A : Nat → Addr} {r : Nat} {l : List Nat} {v : V} (h : r ∉ l) : putK (kvsOf l A) (.inl (r : Int)) v = kvsOf l A ++ [(.inl (r : Int), v)] := by
  unfold putK; rw [valV_any, val_out h]; rfl
theorem mem_reps {h : Nat → Nat} {n r : Nat} : r ∈ reps h n ↔ r < n ∧ h r = r := by
  unfold reps; rw [List.mem_filter, List.mem_range]; simp
theorem cls_succ (h : Nat → Nat) (i r : Nat) : cls h (i + 1) r = cls h i r ++ if h i = h r then [i] else [] := by
  have := filter_range_succ (fun x => h x == h r) i
  unfold cls; rw [this]; by_cases e : h i = h r <;> simp [e]
structure GInv (T : List Addr) (h : Nat → Nat) (H0 H' : Hp) (d l : Addr) (n i : Nat) (A : Nat → Addr) : Prop where
  dk : H' d = some (.dK (kvsOf (reps h i) A))
  al : ∀ r ∈ reps h i, H' (A r) = some (.lst (natsV (cls h i r)))
  fr : ∀ r ∈ reps h i, H0 (A r) = none
  inj : ∀ r ∈ reps h i, ∀ q ∈ reps h i, A r = A q → r = q
  nl : ∀ r ∈ reps h i, A r ≠ l
  hl : H' l = some (.lst (hV n h))
  hd : H0 d = none
  e : Ext T noM H0 H'
section
variable {T : List Addr} {h : Nat → Nat} {H0 H' : Hp} {d l : Addr} {n i : Nat} {A : Nat → Addr}
theorem GInv.x {H1 : Hp} (I : GInv T h H0 H' d l n i A) (e : Ext T noM H' H1) : GInv T h H0 H1 d l n i A :=
  ⟨e.kp _ _ (fun z => z) I.dk (fun ps z => nomatch z), fun r hr => e.lst (fun z => z) (I.al r hr), I.fr, I.inj, I.nl, e.lst (fun z => z) I.hl, I.hd, I.e.trans e⟩
/-- a place whose group is there -/
theorem GInv.old (I : GInv T h H0 H' d l n i A) (hi : h i ∈ reps h i) : GInv T h H0 (upd H' (A (h i)) (.lst (natsV (cls h i (h i)) ++ [V.int (i : Nat)]))) d l n (i + 1) A := by
  have hne : h i ≠ i := fun z => by have := (mem_reps.mp hi).1; omega
  have hre : reps h (i + 1) = reps h i := by rw [reps_succ, if_neg hne, List.append_nil]
  have hdA : d ≠ A (h i) := fun z => by have h1 := I.dk; rw [z, I.al _ hi] at h1; cases h1
  refine ⟨by rw [upd_ne hdA, hre]; exact I.dk, fun r hr => ?_, by rw [hre]; exact I.fr, by rw [hre]; exact I.inj, by rw [hre]; exact I.nl, by rw [upd_ne (fun z => I.nl _ hi z.symm)]; exact I.hl, I.hd, I.e.mut (.inl (I.fr _ hi)) (I.al _ hi) ltbl⟩
  rw [hre] at hr
  have hrr := (mem_reps.mp hr).2
  have hhh := (mem_reps.mp hi).2
  rw [cls_succ]
  by_cases e : r = h i
  · subst e
    rw [upd_same, if_pos hhh.symm]
    unfold natsV; rw [List.map_append]; rfl
  · rw [upd_ne (fun z => e (I.inj _ hr _ hi z)), if_neg (fun z => e (by rw [← hrr]; exact z.symm)), List.append_nil]
    exact I.al r hr
/-- a place whose group is new -/
theorem GInv.new {p : Addr} (I : GInv T h H0 H' d l n i A) (hi : h i = i) (hp : H' p = none) (hle : ∀ x, x < i → h x ≤ x) :
    GInv T h H0 (upd (upd (upd H' p (.lst [])) d (.dK (kvsOf (reps h i) A ++ [(.inl (i : Int), .ref p)]))) p (.lst [V.int (i : Nat)])) d l n (i + 1) fun r => if r = i then p else A r := by
  have hre : reps h (i + 1) = reps h i ++ [i] := by rw [reps_succ, if_pos hi]
  have hlt : ∀ r ∈ reps h i, r < i := fun r hr => (mem_reps.mp hr).1
  have hne : ∀ r ∈ reps h i, r ≠ i := fun r hr => Nat.ne_of_lt (hlt r hr)
  have hdp : d ≠ p := fun z => by have h1 := I.dk; rw [z, hp] at h1; cases h1
  have hlp : l ≠ p := fun z => by have h1 := I.hl; rw [z, hp] at h1; cases h1
  have hld : l ≠ d := fun z => by have h1 := I.hl; rw [z, I.dk] at h1; cases h1
  have hAd : ∀ r ∈ reps h i, A r ≠ d := fun r hr z => by have h1 := I.al r hr; rw [z, I.dk] at h1; cases h1
  have hAp : ∀ r ∈ reps h i, A r ≠ p := fun r hr z => by have h1 := I.al r hr; rw [z, hp] at h1; cases h1
  have h0p : H0 p = none := I.e.fr p hp
  have ea : Ext T noM H0 (upd H' p (.lst [])) := I.e.trans (Ext.new hp)
  have eb := ea.mut (p := d) (o := .dK (kvsOf (reps h i) A ++ [(.inl (i : Int), .ref p)])) (.inl I.hd) (by rw [upd_ne hdp]; exact I.dk) fun ps z => by cases z
  have ec := eb.mut (p := p) (o := .lst [V.int (i : Nat)]) (.inl h0p) (by rw [upd_ne (fun z => hdp z.symm), upd_same]) ltbl
  refine ⟨?_, fun r hr => ?_, fun r hr => ?_, fun r hr q hq => ?_, fun r hr => ?_, ?_, I.hd, ec⟩
  · rw [upd_ne hdp, upd_same, hre]
    unfold kvsOf
    rw [List.map_append]
    congr 3
    · exact List.map_congr_left fun r hr => by dsimp only; rw [if_neg (hne r hr)]
    · show _ = [((Sum.inl (i : Int) : Key), V.ref (if i = i then p else A i))]
      rw [if_pos rfl]
  · rw [hre] at hr
    rcases List.mem_append.mp hr with hr | hr
    · rw [if_neg (hne r hr), upd_ne (hAp r hr), upd_ne (hAd r hr), upd_ne (hAp r hr), I.al r hr, cls_succ, if_neg (fun z => hne r hr (by rw [← (mem_reps.mp hr).2, ← z, hi])), List.append_nil]
    · obtain rfl := List.mem_singleton.mp hr
      rw [if_pos rfl, upd_same, cls_succ, if_pos rfl]
      have e : cls h r r = [] := List.filter_eq_nil_iff.mpr fun x hx => by
        have hx' := List.mem_range.mp hx
        have := hle x hx'
        simp only [beq_iff_eq]; omega
      rw [e]; rfl
  · rw [hre] at hr
    rcases List.mem_append.mp hr with hr | hr
    · rw [if_neg (hne r hr)]; exact I.fr r hr
    · rw [if_pos (List.mem_singleton.mp hr)]; exact h0p
  · rw [hre] at hr hq
    rcases List.mem_append.mp hr with hr | hr <;> rcases List.mem_append.mp hq with hq | hq
    · rw [if_neg (hne r hr), if_neg (hne q hq)]; exact I.inj r hr q hq
    · rw [if_neg (hne r hr), if_pos (List.mem_singleton.mp hq)]; exact fun z => absurd z (hAp r hr)
    · rw [if_neg (hne q hq), if_pos (List.mem_singleton.mp hr)]; exact fun z => absurd z.symm (hAp q hq)
    · exact fun _ => by rw [List.mem_singleton.mp hr, List.mem_singleton.mp hq]
  · rw [hre] at hr
    rcases List.mem_append.mp hr with hr | hr
    · rw [if_neg (hne r hr)]; exact I.nl r hr
    · rw [if_pos (List.mem_singleton.mp hr)]; exact fun z => hlp z.symm
  · rw [upd_ne hlp, upd_ne hld, upd_ne hlp]; exact I.hl
end
section
variable {P : Program} {w : World} {K : PySem.W.Frag} {mg : Str → Option Value} {base : Heap} {T : List Addr}
theorem ok_groups {f : Addr} {fd : FuncData} {c PT : Addr} (F : GE.FunC K "groups" "groups" sgroups f fd c) (TB : GxR.TabB base mg c PT) (hPT : PT ∈ T) (m_enumerate : mg "enumerate" = none) (m_tuple : mg "tuple" = none) {f_homes : Addr} {fd_homes : FuncData} (F_homes : Fun K "_homes" "_homes" s_homes f_homes fd_homes) (G_homes : FnOk P w K mg base CX0 2 f_homes fd_homes ["net", "choice"] (spHomes T)) (b_homes : Binds K fd_homes ["net", "choice"] []) (g_homes : mg "_homes" = some (.ref f_homes)) : FnOk P w K mg base CX0 3 f fd ["net", "choice"] (spGroups T) := by
  refine F.ok scgroups (fun vs H Q E h => ?_) (fun A outer s H vs Q E hr h => ?_)
  · obtain ⟨net, ch, n, ws, cs, rfl, t, wd, k⟩ := h
    rfl
  · obtain ⟨net, ch, n, ws, cs, rfl, t, wd, k⟩ := h
    refine ⟨_, (pss_cons (ps_set (i := 2) scgroups.nd rfl (Or.inl rfl) pe_dnewK)
      (pss_cons (ps_for PassesOwn.never rfl (pi_enum (by rfl) m_enumerate (pa_cons (pe_call G_homes hr (by rfl) g_homes F_homes.kp b_homes .nil pass0 (pa_cons (pv 0) (pa_cons (pv 1) pa_nil))) pa_nil)) (pg_tup (by rfl) (pgs_cons (pg_name (i := 3) scgroups.nd rfl (Or.inl rfl)) (pgs_cons (pg_name (i := 4) scgroups.nd rfl (Or.inl rfl)) pgs_nil))) (pss_one (ps_expr (pe_bm PySem.F.plainAttrs_list PySem.F.slot_list_append PySem.F.type_list_append mt_append (pe_dsetd (pv 2) (pv 4) (pe_lst pa_nil) ⟨rfl, rfl, rfl, rfl⟩) (pa_cons (pv 3) pa_nil)))))
      (pss_one (ps_ret (pe_lock (GE.pe_tupG (own := [("group", 5)]) (g := (gName 5)) (k := 0) hr (by rfl) m_tuple scgroups.nd TB rfl (pi_values (pv 2)) (GE.gblk_by (N := ["net", "choice", "found", "place", "home", "group"]) (sc := defScope sgroups) (by decide +kernel)) (fun _ _ _ _ _ _ _ _ => (pg_name (i := 5) scgroups.nd rfl (Or.inl rfl))) (fun _ _ _ _ _ _ _ _ hr' => pts_nil) (fun _ _ _ _ _ _ _ _ hr' => (pe_callTy (GE.call_tuple_ofK (K := K)) (by rfl) m_tuple (by decide +kernel) (pa_cons (pv 5) pa_nil))))))))), ?_⟩
    have HM := hom_ok t.W cs t.C.lt
    refine fun d hd => ?_
    have e1 : Ext T noM H (upd H d (.dK [])) := Ext.new hd
    have hd1 : (upd H d (.dK [])) d = some (.dK []) := upd_same
    have n12 := t.W.n12
    refine ⟨_, rfl, _, rfl, net, ch, n, ws, cs, rfl, t.x e1, fun l H2 hl hL e2 => ?_⟩
    have I0 : GInv T (hom ws cs) H H2 d l n 0 fun _ => 0 := ⟨e2.kp _ _ (fun z => z) hd1 (fun ps z => nomatch z), fun r hr => (by cases hr), fun r hr => (by cases hr), fun r hr => (by cases hr), fun r hr => (by cases hr), hL, hd, e1.trans e2⟩
    refine ⟨l, _, rfl, SqL.of hL, for_it walk_enum (fun i σ' H' => ∃ A y3 y4, σ' = [some net, some ch, some (.ref d), y3, y4, none] ∧ GInv T (hom ws cs) H H' d l n i A) ⟨_, none, none, rfl, I0⟩ (fun i σ' H' _ ⟨_, _, _, _, I⟩ => SqL.of I.hl) ?_ ?_⟩
    · rintro i x σ' H3 H4 hi ⟨Ad, y3, y4, rfl, I⟩ ⟨Tp, x1, x2, rfl, hT, rfl, h1, h2⟩
      rw [hV_len] at hi
      obtain rfl := Option.some.inj h1
      have h2 : (hV n (hom ws cs))[i]? = some x2 := h2
      rw [hV_get hi] at h2
      obtain rfl := Option.some.inj h2
      refine ⟨Tp, _, rfl, SqT.of upd_same, rfl, _, _, rfl, _, _, rfl, rfl, ?_⟩
      have I4 := I.x (Ext.new (o := .tup [.int (i : Nat), .int (hom ws cs i : Nat)]) hT)
      have hlen := reps_len (hom ws cs) i
      have hkl : (kvsOf (reps (hom ws cs) i) Ad).length < sizeLine := by
        unfold kvsOf; rw [List.length_map]; exact small1000 (by omega)
      refine ⟨_, rfl, d, rfl, .inl ⟨_, .inl I4.dk⟩, _, rfl, ?_⟩
      refine ⟨by show 0 ≤ sizeLine; decide, fun p hp => ?_⟩
      have I5 := I4.x (Ext.new (o := .lst []) hp)
      refine ⟨_, .inl (hom ws cs i : Nat), I5.dk, rfl, hkl, ?_, ?_⟩
      · intro v hv
        have hin : hom ws cs i ∈ reps (hom ws cs) i := Classical.byContradiction fun z => by rw [val_out z] at hv; cases hv
        rw [val_in hin] at hv
        obtain rfl := Option.some.inj hv
        have ha := I5.al _ hin
        refine ⟨.inl ⟨rfl, _, SqL.of ha⟩, _, rfl, _, _, _, rfl, rfl, ha, ?_, Ad, _, _, rfl, I5.old hin⟩
        unfold natsV; rw [List.length_map]
        have := cls_len (hom ws cs) i (hom ws cs i)
        exact small1000 (by omega)
      · intro hv
        have hle := HM.le i hi
        have hii : hom ws cs i = i := by
          rcases Nat.lt_or_eq_of_le hle with h | h
          · have hin : hom ws cs i ∈ reps (hom ws cs) i := mem_reps.mpr ⟨h, HM.idem i hi⟩
            rw [val_in hin] at hv; cases hv
          · exact h
        have hnin : hom ws cs i ∉ reps (hom ws cs) i := fun z => by have := (mem_reps.mp z).1; omega
        have hn := I4.new hii hp fun x hx => HM.le x (by omega)
        rw [put_out hnin]
        have hdp : d ≠ p := fun z => by have h1 := I4.dk; rw [z, hp] at h1; cases h1
        have hpp : upd (upd (upd H3 Tp (.tup [.int (i : Nat), .int (hom ws cs i : Nat)])) p (.lst [])) d (.dK (kvsOf (reps (hom ws cs) i) Ad ++ [(.inl (hom ws cs i : Nat), .ref p)])) p = some (.lst []) := by rw [upd_ne (fun z => hdp z.symm), upd_same]
        refine ⟨.inl ⟨rfl, _, SqL.of hpp⟩, _, rfl, _, _, _, rfl, rfl, hpp, by decide, (fun r => if r = i then p else Ad r), _, _, rfl, ?_⟩
        rw [hii]
        rw [hii] at hn
        exact hn
    · rintro σ' H3 ⟨Ad, y3, y4, rfl, I⟩
      rw [hV_len] at I
      have hnk : ∀ ps, HO.dK (kvsOf (reps (hom ws cs) n) Ad) ≠ .tbl ps := fun ps z => nomatch z
      have hlen := reps_len (hom ws cs) n
      have hkl : (kvsOf (reps (hom ws cs) n) Ad).length = (reps (hom ws cs) n).length := by unfold kvsOf; rw [List.length_map]
      refine ⟨d, _, I.dk, True.intro, fun od => ?_⟩
      have ef : Ext T noM H (upd H3 d (.frz od (.dK (kvsOf (reps (hom ws cs) n) Ad)))) := I.e.mut (.inl hd) I.dk hnk
      have hal : ∀ r ∈ reps (hom ws cs) n, (upd H3 d (.frz od (.dK (kvsOf (reps (hom ws cs) n) Ad)))) (Ad r) = some (.lst (natsV (cls (hom ws cs) n r))) := fun r hr => by
        rw [upd_ne (fun z => by have h1 := I.al r hr; rw [z, I.dk] at h1; cases h1)]; exact I.al r hr
      have hfz : (upd H3 d (.frz od (.dK (kvsOf (reps (hom ws cs) n) Ad)))) d = some (.frz od (.dK (kvsOf (reps (hom ws cs) n) Ad))) := upd_same
      generalize (upd H3 d (.frz od (.dK (kvsOf (reps (hom ws cs) n) Ad)))) = Hf at ef hal hfz ⊢
      have wf := wd.ext ef
      refine ⟨_, rfl, d, od, _, rfl, hfz, wf PT hPT, fun H4 tb => ?_⟩
      have et : Ext T noM Hf H4 := Ext.tab (wf PT hPT) tb
      refine turn_valsI (fun i ys H' => RpL H' (((reps (hom ws cs) n).take i).map fun r => D.t ((cls (hom ws cs) n r).map fun (x : Nat) => .i (x : Int))) ys ∧ Ext T noM Hf H') ⟨rpl_nil, et⟩ (fun i ys H' _ p => p.2.kp _ _ (fun z => z) hfz (fun ps z => nomatch z)) ?_ ?_
      · rintro ys H' ⟨r, e⟩ q hq
        rw [hkl, List.take_length] at r
        have hfz' := e.kp _ _ (fun z => z) hfz (fun ps z => nomatch z)
        have hdq := ne_of_none hfz' hq
        have hd2 : (upd H' q (.tup ys)) d = some (.frz od (.dK (kvsOf (reps (hom ws cs) n) Ad))) := by rw [upd_ne hdq]; exact hfz'
        refine ⟨hd2, k _ _ ?_ (((ef.trans e).trans (Ext.new hq)).mut (.inl hd) hd2 fun ps z => nomatch z)⟩
        have rr : Rp (upd H' q (.tup ys)) (grpD (hom ws cs) n) (.ref q) := by
          refine rp_t upd_same ?_
          unfold grps
          rw [List.map_map]
          exact RpL.x (Ext.new (T := T) hq) r
        exact Rp.ext (T := T) (M := fun b => b = d) ((Ext.refl T _ _).mut (.inr rfl) hd2 fun ps z => nomatch z) (fun b vs hb z => by rw [hb, hd2] at z; cases z) rr
      · rintro i kk x ys H' hx ⟨r, e⟩ N hN
        obtain ⟨q, hq, rfl⟩ : ∃ q, (reps (hom ws cs) n)[i]? = some q ∧ x = V.ref (Ad q) := by
          unfold kvsOf at hx
          rw [List.getElem?_map] at hx
          cases e : (reps (hom ws cs) n)[i]? with
          | none => rw [e] at hx; cases hx
          | some q => rw [e] at hx; exact ⟨q, rfl, (congrArg Prod.snd (Option.some.inj hx)).symm⟩
        have ha := e.lst (fun z => z) (hal q (List.mem_of_getElem? hq))
        refine ⟨rfl, tYesI ?_⟩
        refine ⟨_, rfl, _, _, rfl, .inl ⟨SqL.of ha, fun t ht => ⟨?_, hN _ _ ⟨?_, e.trans (Ext.new ht)⟩⟩⟩⟩
        · rw [r.len, List.length_map, List.length_take]; exact small1000 (by omega)
        · rw [take_succ' hq, List.map_append]
          refine RpL.snoc (RpL.x (Ext.new (T := T) ht) r) (rp_t upd_same ?_)
          have e2 := rpl_ints (H := upd H' t (.tup (natsV (cls (hom ws cs) n q)))) ((cls (hom ws cs) n q).map fun x : Nat => (x : Int))
          rw [List.map_map, List.map_map] at e2
          exact e2
end
end Mw

set_option Elab.async false
set_option linter.all false
set_option maxRecDepth 100000
set_option maxHeartbeats 2000000
namespace GE
open PySem PySem.Spec PyProof.Rows L2
/-! ### the facts of the head, by names -/
section
variable {K : PySem.W.Frag} {x qual : Str} {st : Stmt} {fd : FuncData}
theorem fun_of {f : Addr} (F : FunD K x qual (defArgs st) (defBody st) (defScope st) [] [] f fd) : Fun K x qual st f fd := by
  obtain ⟨oc, od, dV, kV, doc, pm, an, cdv, ct, osl, h1, h2, h3, h4, h5⟩ := F.ex
  rcases h4 with ⟨_, h4⟩ | ⟨h4, _⟩
  · subst h4
    exact ⟨⟨oc, od, kV, doc, pm, an, cdv, ct, osl, h1, h2, h3⟩, F.kp⟩
  · exact absurd rfl h4
theorem funC_of {p : He.Defn} (F : FunD K x qual (defArgs st) (defBody st) (defScope st) [] [] (He.fAd K p) fd) : FunC K x qual st (He.fAd K p) fd (He.codeOf K p) := by
  obtain ⟨oc, od, dV, kV, doc, pm, an, cdv, ct, osl, h1, h2, h3, h4, h5⟩ := F.ex
  rcases h4 with ⟨_, h4⟩ | ⟨h4, _⟩
  · subst h4
    obtain ⟨c, hc⟩ := He.codeIn_ref h3
    subst hc
    have e : He.codeOf K p = c := He.codeOf_eq h2 (by rw [h1])
    rw [e]
    exact ⟨⟨oc, od, kV, doc, pm, an, ct, osl, h1, h2, h3⟩, F.kp⟩
  · exact absurd rfl h4
theorem glo_eq {h : Heap} {mg : Str → Option Value} (X : K.In h) (G : h.Ns mainGlobals mg) {y : Str} {v : Value} (e : He.eqO (PySem.W.nsIn K mainGlobals y) (some (some v)) = true) : mg y = some v := PySem.W.mg_of X G (He.eqO_ok e)
end
end GE

set_option Elab.async false
set_option linter.all false
set_option maxRecDepth 100000
set_option maxHeartbeats 4000000
/-! the facts of a head where also the interpreter's own table of statics is read (attributes of a class) -/
namespace GE
open PySem He
/-- the written part: what is reached in n steps, and that table -/
def wrt (g : Addr → Option Obj) (n : Nat) : W.Frag := frT g (asD g n ++ [cStatics])
def obsS (n : Nat) (fa : List Fa) (fn : List DefD) (ts : List Tab) (tf : List Defn) (ex : W.Frag → Bool) (g : Addr → Option Obj) : AlX :=
  (obsT fa fn ts (wrt g n), ex (wrt g n) && tabsB g tf (wrt g n))
theorem says_tab {g : Addr → Option Obj} {tf : List Defn} {K : W.Frag} (h : tabsB g tf K = true) {p : Defn} (hp : p ∈ tf) : W.codeHdIn K (cT K p).1 (cT K p).2 = true ∧ ∃ o, g (cT K p).2 = some o ∧ emptyTab o = true := by
  obtain ⟨a, b⟩ := ba (List.all_eq_true.mp h p hp)
  refine ⟨a, ?_⟩
  revert b
  cases g (cT K p).2 with
  | none => exact fun z => nomatch z
  | some o => exact fun z => ⟨o, rfl, z⟩
def hookS (n : Nat) (fa : List Fa) (fn : List DefD) (ts : List Tab) (tf : List Defn) (ex : W.Frag → Bool) : W.Hook where
  α := AlX
  val := valX fn ts
  obs := fun s => obsS n fa fn ts tf ex s.heap.get?
  says := fun w h => ∃ K, W.Frag.In K h ∧ SaysX fa fn ts tf ex w h K
  of := fun w st e => by
    have e1 : obsT fa fn ts (wrt st.heap.get? n) = valT fn ts w := congrArg Prod.fst e
    obtain ⟨e2, e3⟩ := ba (show (ex (wrt st.heap.get? n) && tabsB st.heap.get? tf (wrt st.heap.get? n)) = true from congrArg Prod.snd e)
    refine ⟨wrt st.heap.get? n, frT_in, e1, e2, fun p hp => (says_tab e3 hp).1, fun p hp => ?_, fun p hp => ?_⟩
    · obtain ⟨_, o, q, z⟩ := says_tab e3 hp
      exact frT_none q z
    · obtain ⟨_, o, q, z⟩ := says_tab e3 hp
      rw [q, emptyTab_eq z]
  keeps := fun _ _ _ ⟨K, a, c⟩ k => ⟨K, W.Frag.In.keeps a k, c.t, c.more, c.hd, c.out, fun p hp => k _ _ (c.empty p hp)⟩
end GE

set_option Elab.async false
set_option linter.all false
set_option maxRecDepth 100000
set_option maxHeartbeats 4000000
namespace Mw
open PySem PySem.Spec PyProof.Rows L2 GE
def Das : List He.DefD := [⟨("Apart", some "__init__"), "__init__", "Apart.__init__", defArgs sApart___init__, defBody sApart___init__, defScope sApart___init__, [], []⟩,
  ⟨("Refused", some "__init__"), "__init__", "Refused.__init__", defArgs sRefused___init__, defBody sRefused___init__, defScope sRefused___init__, [], []⟩,
  ⟨("_law_pool", none), "_law_pool", "_law_pool", defArgs s_law_pool, defBody s_law_pool, defScope s_law_pool, [], []⟩,
  ⟨("_law_draw", none), "_law_draw", "_law_draw", defArgs s_law_draw, defBody s_law_draw, defScope s_law_draw, [], []⟩,
  ⟨("_law_pick", none), "_law_pick", "_law_pick", defArgs s_law_pick, defBody s_law_pick, defScope s_law_pick, [], []⟩,
  ⟨("_law_cost", none), "_law_cost", "_law_cost", defArgs s_law_cost, defBody s_law_cost, defScope s_law_cost, [], []⟩,
  ⟨("ratio", none), "ratio", "ratio", defArgs sratio, defBody sratio, defScope sratio, [], []⟩,
  ⟨("plus", none), "plus", "plus", defArgs splus, defBody splus, defScope splus, [], []⟩,
  ⟨("minus", none), "minus", "minus", defArgs sminus, defBody sminus, defScope sminus, [], []⟩,
  ⟨("less", none), "less", "less", defArgs sless, defBody sless, defScope sless, [], []⟩,
  ⟨("Field", some "_slack"), "_slack", "Field._slack", defArgs sField__slack, defBody sField__slack, defScope sField__slack, [], []⟩,
  ⟨("Field", some "_first_full_way"), "_first_full_way", "Field._first_full_way", defArgs sField__first_full_way, defBody sField__first_full_way, defScope sField__first_full_way, [], []⟩,
  ⟨("Field", some "_take"), "_take", "Field._take", defArgs sField__take, defBody sField__take, defScope sField__take, [], []⟩,
  ⟨("Field", some "take_full_ways"), "take_full_ways", "Field.take_full_ways", defArgs sField_take_full_ways, defBody sField_take_full_ways, defScope sField_take_full_ways, [], []⟩,
  ⟨("Field", some "_ways_between"), "_ways_between", "Field._ways_between", defArgs sField__ways_between, defBody sField__ways_between, defScope sField__ways_between, [], []⟩,
  ⟨("Field", some "span_until_full"), "span_until_full", "Field.span_until_full", defArgs sField_span_until_full, defBody sField_span_until_full, defScope sField_span_until_full, [], []⟩,
  ⟨("Field", some "grow"), "grow", "Field.grow", defArgs sField_grow, defBody sField_grow, defScope sField_grow, [], []⟩,
  ⟨("Field", some "groups_now"), "groups_now", "Field.groups_now", defArgs sField_groups_now, defBody sField_groups_now, defScope sField_groups_now, [], []⟩,
  ⟨("Field", some "__init__"), "__init__", "Field.__init__", defArgs sField___init__, defBody sField___init__, defScope sField___init__, [], []⟩,
  ⟨("_homes", none), "_homes", "_homes", defArgs s_homes, defBody s_homes, defScope s_homes, [], []⟩,
  ⟨("every_way", none), "every_way", "every_way", defArgs severy_way, defBody severy_way, defScope severy_way, [], []⟩,
  ⟨("check_joined", none), "check_joined", "check_joined", defArgs scheck_joined, defBody scheck_joined, defScope scheck_joined, [], []⟩,
  ⟨("parts_pair", none), "parts_pair", "parts_pair", defArgs sparts_pair, defBody sparts_pair, defScope sparts_pair, [], []⟩,
  ⟨("_open_groups", none), "_open_groups", "_open_groups", defArgs s_open_groups, defBody s_open_groups, defScope s_open_groups, [], []⟩,
  ⟨("_grown", none), "_grown", "_grown", defArgs s_grown, defBody s_grown, defScope s_grown, [], []⟩,
  ⟨("growth", none), "growth", "growth", defArgs sgrowth, defBody sgrowth, defScope sgrowth, [], []⟩,
  ⟨("joins", none), "joins", "joins", defArgs sjoins, defBody sjoins, defScope sjoins, [], []⟩,
  ⟨("without", none), "without", "without", defArgs swithout, defBody swithout, defScope swithout, [], []⟩,
  ⟨("told", none), "told", "told", defArgs stold, defBody stold, defScope stold, [], []⟩,
  ⟨("groups", none), "groups", "groups", defArgs sgroups, defBody sgroups, defScope sgroups, [], []⟩,
  ⟨("_parts_with_pairs", none), "_parts_with_pairs", "_parts_with_pairs", defArgs s_parts_with_pairs, defBody s_parts_with_pairs, defScope s_parts_with_pairs, [], []⟩,
  ⟨("Yard", some "__init__"), "__init__", "Yard.__init__", defArgs sYard___init__, defBody sYard___init__, defScope sYard___init__, [], []⟩,
  ⟨("Yard", some "task"), "task", "Yard.task", defArgs sYard_task, defBody sYard_task, defScope sYard_task, [], []⟩,
  ⟨("Yard", some "_check_way"), "_check_way", "Yard._check_way", defArgs sYard__check_way, defBody sYard__check_way, defScope sYard__check_way, [], []⟩,
  ⟨("Yard", some "build"), "build", "Yard.build", defArgs sYard_build, defBody sYard_build, defScope sYard_build, [], []⟩,
  ⟨("Yard", some "change"), "change", "Yard.change", defArgs sYard_change, defBody sYard_change, defScope sYard_change, [], []⟩,
  ⟨("Yard", some "cut"), "cut", "Yard.cut", defArgs sYard_cut, defBody sYard_cut, defScope sYard_cut, [], []⟩,
  ⟨("Yard", some "want"), "want", "Yard.want", defArgs sYard_want, defBody sYard_want, defScope sYard_want, [], []⟩,
  ⟨("Yard", some "drop"), "drop", "Yard.drop", defArgs sYard_drop, defBody sYard_drop, defScope sYard_drop, [], []⟩,
  ⟨("Yard", some "_told_of"), "_told_of", "Yard._told_of", defArgs sYard__told_of, defBody sYard__told_of, defScope sYard__told_of, [], []⟩,
  ⟨("Yard", some "told"), "told", "Yard.told", defArgs sYard_told, defBody sYard_told, defScope sYard_told, [], []⟩,
  ⟨("Yard", some "worked"), "worked", "Yard.worked", defArgs sYard_worked, defBody sYard_worked, defScope sYard_worked, [], []⟩,
  ⟨("_law_same", none), "_law_same", "_law_same", defArgs s_law_same, defBody s_law_same, defScope s_law_same, [], []⟩,
  ⟨("_law_group", none), "_law_group", "_law_group", defArgs s_law_group, defBody s_law_group, defScope s_law_group, [], []⟩,
  ⟨("_law_groups", none), "_law_groups", "_law_groups", defArgs s_law_groups, defBody s_law_groups, defScope s_law_groups, [], []⟩,
  ⟨("_law_joins", none), "_law_joins", "_law_joins", defArgs s_law_joins, defBody s_law_joins, defScope s_law_joins, [], []⟩,
  ⟨("_law_near", none), "_law_near", "_law_near", defArgs s_law_near, defBody s_law_near, defScope s_law_near, [], []⟩,
  ⟨("_law_parts", none), "_law_parts", "_law_parts", defArgs s_law_parts, defBody s_law_parts, defScope s_law_parts, [], []⟩,
  ⟨("_law_is_refused", none), "_law_is_refused", "_law_is_refused", defArgs s_law_is_refused, defBody s_law_is_refused, defScope s_law_is_refused, [], []⟩,
  ⟨("_law_edits", none), "_law_edits", "_law_edits", defArgs s_law_edits, defBody s_law_edits, defScope s_law_edits, [], []⟩,
  ⟨("_law_answer", none), "_law_answer", "_law_answer", defArgs s_law_answer, defBody s_law_answer, defScope s_law_answer, [], []⟩,
  ⟨("law", none), "law", "law", defArgs slaw, defBody slaw, defScope slaw, [], []⟩]
def Tfs : List He.Defn := [("Field", some "groups_now"), ("parts_pair", none), ("_open_groups", none), ("joins", none), ("without", none), ("groups", none), ("_parts_with_pairs", none)]
def exB (K : PySem.W.Frag) : Bool := He.tupB K "ZERO" [.int 0, .int 1] && He.eqO (PySem.W.nsIn K mainGlobals "gcd") (some (some (.builtin "math.gcd"))) && GE.xcB K (He.ga K "Apart") (He.ma K (He.ga K "Apart") "__init__") "index" && GE.xcB K (He.ga K "Refused") (He.ma K (He.ga K "Refused") "__init__") "reason" && GE.xbB K (He.ga K "MoatError") && decide (PySem.W.exmOne K (.ref (He.ga K "Apart")) (.ref (He.ga K "Apart")) = some true) && decide (PySem.W.exmOne K (.ref (He.ga K "Refused")) (.ref (He.ga K "Refused")) = some true) && decide (He.ga K "told_growths" = He.ga K "told")
def Fas : List He.Fa := [.glo "law", .glo "_law_pool", .glo "_law_draw", .glo "_law_pick", .glo "_law_cost", .glo "ratio", .glo "plus", .glo "minus", .glo "less", .meth "Field" "_slack", .meth "Field" "_first_full_way", .meth "Field" "_take", .meth "Field" "take_full_ways", .meth "Field" "_ways_between", .meth "Field" "span_until_full", .meth "Field" "grow", .meth "Field" "groups_now", .mkr "Field", .glo "_homes", .glo "every_way", .glo "check_joined", .glo "parts_pair", .glo "_open_groups", .glo "_grown", .glo "growth", .glo "joins", .glo "without", .glo "told", .glo "groups", .glo "_parts_with_pairs", .mkr "Yard", .meth "Yard" "task", .meth "Yard" "_check_way", .meth "Yard" "build", .meth "Yard" "change", .meth "Yard" "cut", .meth "Yard" "want", .meth "Yard" "drop", .meth "Yard" "_told_of", .meth "Yard" "told", .meth "Yard" "worked", .glo "_law_same", .glo "_law_group", .glo "_law_groups", .glo "_law_joins", .glo "_law_near", .glo "_law_parts", .glo "_law_is_refused", .glo "_law_edits", .glo "_law_answer", .free "list", .free "abs", .free "int", .free "len", .free "enumerate", .free "tuple", .free "sorted", .free "range", .free "min", .free "max", .free "any", .free "all", .free "reversed", .free "isinstance", .free "str", .free "bool", .int "MOST_WAYS" 24, .int "MOST_PAIRS" 6, .glo "Apart", .glo "Refused", .glo "MoatError", .glo "ZERO", .glo "told_growths", .glo "Field", .cls "Field", .noat "Field" "time", .noat "Field" "taken", .noat "Field" "widths", .noat "Field" "_ways", .noat "Field" "_homes", .noat "Field" "_depths", .glo "Yard", .cls "Yard", .noat "Yard" "_places", .noat "Yard" "_ways", .noat "Yard" "_pairs", .noat "Yard" "_known", .noat "Yard" "_many"]
theorem all_mk {l : PySem.W.OpenLaw} {w : World} {K : PySem.W.Frag} {h : Heap} {mg : Str → Option Value} {fa : Addr} (KX : K.In h) (G : h.Ns mainGlobals mg) (hfa : mg "law" = some (.ref fa)) (c : He.SaysX Fas Das [] Tfs exB w h K) : LamX.LawAtS l w K CX0 14 63 "script" mg fa h := by
  have D := c.t.d
  have e := hfa.symm.trans (He.glo_ok KX G (D.fact 0 (f := .glo "law") rfl))
  cases e
  have hex := c.more
  unfold exB at hex
  simp only [Bool.and_eq_true] at hex
  have hzero := He.tupB_ok hex.1.1.1.1.1.1.1 (fun _ => none)
  have m_gcd := GE.glo_eq KX G hex.1.1.1.1.1.1.2
  have hxA := hex.1.1.1.1.1.2
  have hxR := hex.1.1.1.1.2
  have hxM := hex.1.1.1.2
  have hemA := of_decide_eq_true hex.1.1.2
  have hemR := of_decide_eq_true hex.1.2
  have hal := of_decide_eq_true hex.2
  obtain ⟨fd1, D1⟩ := D.def_ 0 rfl
  have F1 := GE.fun_of (st := sApart___init__) D1
  have b1 := F1.binds (ps := ["self", "index"]) fun _ _ _ _ _ _ us hl => match us, hl with | [_, _], _ => rfl
  obtain ⟨fd2, D2⟩ := D.def_ 1 rfl
  have F2 := GE.fun_of (st := sRefused___init__) D2
  have b2 := F2.binds (ps := ["self", "reason"]) fun _ _ _ _ _ _ us hl => match us, hl with | [_, _], _ => rfl
  obtain ⟨fd3, D3⟩ := D.def_ 2 rfl
  have F3 := GE.fun_of (st := s_law_pool) D3
  have b3 := F3.binds (ps := ["script"]) fun _ _ _ _ _ _ us hl => match us, hl with | [_], _ => rfl
  have g3 := He.glo_ok KX G (D.fact 1 (f := .glo "_law_pool") rfl)
  obtain ⟨fd4, D4⟩ := D.def_ 3 rfl
  have F4 := GE.fun_of (st := s_law_draw) D4
  have b4 := F4.binds (ps := ["pool", "many"]) fun _ _ _ _ _ _ us hl => match us, hl with | [_, _], _ => rfl
  have g4 := He.glo_ok KX G (D.fact 2 (f := .glo "_law_draw") rfl)
  obtain ⟨fd5, D5⟩ := D.def_ 4 rfl
  have F5 := GE.fun_of (st := s_law_pick) D5
  have b5 := F5.binds (ps := ["pool", "rows"]) fun _ _ _ _ _ _ us hl => match us, hl with | [_, _], _ => rfl
  have g5 := He.glo_ok KX G (D.fact 3 (f := .glo "_law_pick") rfl)
  obtain ⟨fd6, D6⟩ := D.def_ 5 rfl
  have F6 := GE.fun_of (st := s_law_cost) D6
  have b6 := F6.binds (ps := ["pool"]) fun _ _ _ _ _ _ us hl => match us, hl with | [_], _ => rfl
  have g6 := He.glo_ok KX G (D.fact 4 (f := .glo "_law_cost") rfl)
  obtain ⟨fd7, D7⟩ := D.def_ 6 rfl
  have F7 := GE.fun_of (st := sratio) D7
  have b7 := F7.binds (ps := ["top", "bottom"]) fun _ _ _ _ _ _ us hl => match us, hl with | [_, _], _ => rfl
  have g7 := He.glo_ok KX G (D.fact 5 (f := .glo "ratio") rfl)
  obtain ⟨fd8, D8⟩ := D.def_ 7 rfl
  have F8 := GE.fun_of (st := splus) D8
  have b8 := F8.binds (ps := ["first", "second"]) fun _ _ _ _ _ _ us hl => match us, hl with | [_, _], _ => rfl
  have g8 := He.glo_ok KX G (D.fact 6 (f := .glo "plus") rfl)
  obtain ⟨fd9, D9⟩ := D.def_ 8 rfl
  have F9 := GE.fun_of (st := sminus) D9
  have b9 := F9.binds (ps := ["first", "second"]) fun _ _ _ _ _ _ us hl => match us, hl with | [_, _], _ => rfl
  have g9 := He.glo_ok KX G (D.fact 7 (f := .glo "minus") rfl)
  obtain ⟨fd10, D10⟩ := D.def_ 9 rfl
  have F10 := GE.fun_of (st := sless) D10
  have b10 := F10.binds (ps := ["first", "second"]) fun _ _ _ _ _ _ us hl => match us, hl with | [_, _], _ => rfl
  have g10 := He.glo_ok KX G (D.fact 8 (f := .glo "less") rfl)
  obtain ⟨fd11, D11⟩ := D.def_ 10 rfl
  have F11 := GE.fun_of (st := sField__slack) D11
  have b11 := F11.binds (ps := ["self", "a", "b", "cost"]) fun _ _ _ _ _ _ us hl => match us, hl with | [_, _, _, _], _ => rfl
  have mm11 := He.meth_ok (D.fact 9 (f := .meth "Field" "_slack") rfl)
  obtain ⟨fd12, D12⟩ := D.def_ 11 rfl
  have F12 := GE.fun_of (st := sField__first_full_way) D12
  have b12 := F12.binds (ps := ["self"]) fun _ _ _ _ _ _ us hl => match us, hl with | [_], _ => rfl
  have mm12 := He.meth_ok (D.fact 10 (f := .meth "Field" "_first_full_way") rfl)
  obtain ⟨fd13, D13⟩ := D.def_ 12 rfl
  have F13 := GE.fun_of (st := sField__take) D13
  have b13 := F13.binds (ps := ["self", "way"]) fun _ _ _ _ _ _ us hl => match us, hl with | [_, _], _ => rfl
  have mm13 := He.meth_ok (D.fact 11 (f := .meth "Field" "_take") rfl)
  obtain ⟨fd14, D14⟩ := D.def_ 13 rfl
  have F14 := GE.fun_of (st := sField_take_full_ways) D14
  have b14 := F14.binds (ps := ["self"]) fun _ _ _ _ _ _ us hl => match us, hl with | [_], _ => rfl
  have mm14 := He.meth_ok (D.fact 12 (f := .meth "Field" "take_full_ways") rfl)
  obtain ⟨fd15, D15⟩ := D.def_ 14 rfl
  have F15 := GE.fun_of (st := sField__ways_between) D15
  have b15 := F15.binds (ps := ["self"]) fun _ _ _ _ _ _ us hl => match us, hl with | [_], _ => rfl
  have mm15 := He.meth_ok (D.fact 13 (f := .meth "Field" "_ways_between") rfl)
  obtain ⟨fd16, D16⟩ := D.def_ 15 rfl
  have F16 := GE.fun_of (st := sField_span_until_full) D16
  have b16 := F16.binds (ps := ["self", "rising"]) fun _ _ _ _ _ _ us hl => match us, hl with | [_, _], _ => rfl
  have mm16 := He.meth_ok (D.fact 14 (f := .meth "Field" "span_until_full") rfl)
  obtain ⟨fd17, D17⟩ := D.def_ 16 rfl
  have F17 := GE.fun_of (st := sField_grow) D17
  have b17 := F17.binds (ps := ["self", "rising", "span"]) fun _ _ _ _ _ _ us hl => match us, hl with | [_, _, _], _ => rfl
  have mm17 := He.meth_ok (D.fact 15 (f := .meth "Field" "grow") rfl)
  obtain ⟨fd18, D18⟩ := D.def_ 17 rfl
  have F18 := GE.funC_of (p := ("Field", some "groups_now")) (st := sField_groups_now) D18
  have b18 := F18.fun.binds (ps := ["self"]) fun _ _ _ _ _ _ us hl => match us, hl with | [_], _ => rfl
  have mm18 := He.meth_ok (D.fact 16 (f := .meth "Field" "groups_now") rfl)
  obtain ⟨fd19, D19⟩ := D.def_ 18 rfl
  have F19 := GE.fun_of (st := sField___init__) D19
  have b19 := F19.binds (ps := ["self", "net"]) fun _ _ _ _ _ _ us hl => match us, hl with | [_, _], _ => rfl
  have M19 := He.mkr_ok (D.fact 17 (f := .mkr "Field") rfl)
  obtain ⟨fd20, D20⟩ := D.def_ 19 rfl
  have F20 := GE.fun_of (st := s_homes) D20
  have b20 := F20.binds (ps := ["net", "choice"]) fun _ _ _ _ _ _ us hl => match us, hl with | [_, _], _ => rfl
  have g20 := He.glo_ok KX G (D.fact 18 (f := .glo "_homes") rfl)
  obtain ⟨fd21, D21⟩ := D.def_ 20 rfl
  have F21 := GE.fun_of (st := severy_way) D21
  have b21 := F21.binds (ps := ["net"]) fun _ _ _ _ _ _ us hl => match us, hl with | [_], _ => rfl
  have g21 := He.glo_ok KX G (D.fact 19 (f := .glo "every_way") rfl)
  obtain ⟨fd22, D22⟩ := D.def_ 21 rfl
  have F22 := GE.fun_of (st := scheck_joined) D22
  have b22 := F22.binds (ps := ["net", "pairs"]) fun _ _ _ _ _ _ us hl => match us, hl with | [_, _], _ => rfl
  have g22 := He.glo_ok KX G (D.fact 20 (f := .glo "check_joined") rfl)
  obtain ⟨fd23, D23⟩ := D.def_ 22 rfl
  have F23 := GE.funC_of (p := ("parts_pair", none)) (st := sparts_pair) D23
  have b23 := F23.fun.binds (ps := ["places", "pairs"]) fun _ _ _ _ _ _ us hl => match us, hl with | [_, _], _ => rfl
  have g23 := He.glo_ok KX G (D.fact 21 (f := .glo "parts_pair") rfl)
  obtain ⟨fd24, D24⟩ := D.def_ 23 rfl
  have F24 := GE.funC_of (p := ("_open_groups", none)) (st := s_open_groups) D24
  have b24 := F24.fun.binds (ps := ["field", "pairs"]) fun _ _ _ _ _ _ us hl => match us, hl with | [_, _], _ => rfl
  have g24 := He.glo_ok KX G (D.fact 22 (f := .glo "_open_groups") rfl)
  obtain ⟨fd25, D25⟩ := D.def_ 24 rfl
  have F25 := GE.fun_of (st := s_grown) D25
  have b25 := F25.binds (ps := ["net", "pairs"]) fun _ _ _ _ _ _ us hl => match us, hl with | [_, _], _ => rfl
  have g25 := He.glo_ok KX G (D.fact 23 (f := .glo "_grown") rfl)
  obtain ⟨fd26, D26⟩ := D.def_ 25 rfl
  have F26 := GE.fun_of (st := sgrowth) D26
  have b26 := F26.binds (ps := ["net", "pairs"]) fun _ _ _ _ _ _ us hl => match us, hl with | [_, _], _ => rfl
  have g26 := He.glo_ok KX G (D.fact 24 (f := .glo "growth") rfl)
  obtain ⟨fd27, D27⟩ := D.def_ 26 rfl
  have F27 := GE.funC_of (p := ("joins", none)) (st := sjoins) D27
  have b27 := F27.fun.binds (ps := ["net", "pairs", "choice"]) fun _ _ _ _ _ _ us hl => match us, hl with | [_, _, _], _ => rfl
  have g27 := He.glo_ok KX G (D.fact 25 (f := .glo "joins") rfl)
  obtain ⟨fd28, D28⟩ := D.def_ 27 rfl
  have F28 := GE.funC_of (p := ("without", none)) (st := swithout) D28
  have b28 := F28.fun.binds (ps := ["choice", "way"]) fun _ _ _ _ _ _ us hl => match us, hl with | [_, _], _ => rfl
  have g28 := He.glo_ok KX G (D.fact 26 (f := .glo "without") rfl)
  obtain ⟨fd29, D29⟩ := D.def_ 28 rfl
  have F29 := GE.fun_of (st := stold) D29
  have b29 := F29.binds (ps := ["net", "pairs"]) fun _ _ _ _ _ _ us hl => match us, hl with | [_, _], _ => rfl
  have g29 := He.glo_ok KX G (D.fact 27 (f := .glo "told") rfl)
  obtain ⟨fd30, D30⟩ := D.def_ 29 rfl
  have F30 := GE.funC_of (p := ("groups", none)) (st := sgroups) D30
  have b30 := F30.fun.binds (ps := ["net", "choice"]) fun _ _ _ _ _ _ us hl => match us, hl with | [_, _], _ => rfl
  have g30 := He.glo_ok KX G (D.fact 28 (f := .glo "groups") rfl)
  obtain ⟨fd31, D31⟩ := D.def_ 30 rfl
  have F31 := GE.funC_of (p := ("_parts_with_pairs", none)) (st := s_parts_with_pairs) D31
  have b31 := F31.fun.binds (ps := ["net", "pairs"]) fun _ _ _ _ _ _ us hl => match us, hl with | [_, _], _ => rfl
  have g31 := He.glo_ok KX G (D.fact 29 (f := .glo "_parts_with_pairs") rfl)
  obtain ⟨fd32, D32⟩ := D.def_ 31 rfl
  have F32 := GE.fun_of (st := sYard___init__) D32
  have b32 := F32.binds (ps := ["self", "places"]) fun _ _ _ _ _ _ us hl => match us, hl with | [_, _], _ => rfl
  have M32 := He.mkr_ok (D.fact 30 (f := .mkr "Yard") rfl)
  obtain ⟨fd33, D33⟩ := D.def_ 32 rfl
  have F33 := GE.fun_of (st := sYard_task) D33
  have b33 := F33.binds (ps := ["self"]) fun _ _ _ _ _ _ us hl => match us, hl with | [_], _ => rfl
  have mm33 := He.meth_ok (D.fact 31 (f := .meth "Yard" "task") rfl)
  obtain ⟨fd34, D34⟩ := D.def_ 33 rfl
  have F34 := GE.fun_of (st := sYard__check_way) D34
  have b34 := F34.binds (ps := ["self", "way"]) fun _ _ _ _ _ _ us hl => match us, hl with | [_, _], _ => rfl
  have mm34 := He.meth_ok (D.fact 32 (f := .meth "Yard" "_check_way") rfl)
  obtain ⟨fd35, D35⟩ := D.def_ 34 rfl
  have F35 := GE.fun_of (st := sYard_build) D35
  have b35 := F35.binds (ps := ["self", "a", "b", "cost"]) fun _ _ _ _ _ _ us hl => match us, hl with | [_, _, _, _], _ => rfl
  have mm35 := He.meth_ok (D.fact 33 (f := .meth "Yard" "build") rfl)
  obtain ⟨fd36, D36⟩ := D.def_ 35 rfl
  have F36 := GE.fun_of (st := sYard_change) D36
  have b36 := F36.binds (ps := ["self", "way", "cost"]) fun _ _ _ _ _ _ us hl => match us, hl with | [_, _, _], _ => rfl
  have mm36 := He.meth_ok (D.fact 34 (f := .meth "Yard" "change") rfl)
  obtain ⟨fd37, D37⟩ := D.def_ 36 rfl
  have F37 := GE.fun_of (st := sYard_cut) D37
  have b37 := F37.binds (ps := ["self", "way"]) fun _ _ _ _ _ _ us hl => match us, hl with | [_, _], _ => rfl
  have mm37 := He.meth_ok (D.fact 35 (f := .meth "Yard" "cut") rfl)
  obtain ⟨fd38, D38⟩ := D.def_ 37 rfl
  have F38 := GE.fun_of (st := sYard_want) D38
  have b38 := F38.binds (ps := ["self", "a", "b"]) fun _ _ _ _ _ _ us hl => match us, hl with | [_, _, _], _ => rfl
  have mm38 := He.meth_ok (D.fact 36 (f := .meth "Yard" "want") rfl)
  obtain ⟨fd39, D39⟩ := D.def_ 38 rfl
  have F39 := GE.fun_of (st := sYard_drop) D39
  have b39 := F39.binds (ps := ["self", "a", "b"]) fun _ _ _ _ _ _ us hl => match us, hl with | [_, _, _], _ => rfl
  have mm39 := He.meth_ok (D.fact 37 (f := .meth "Yard" "drop") rfl)
  obtain ⟨fd40, D40⟩ := D.def_ 39 rfl
  have F40 := GE.fun_of (st := sYard__told_of) D40
  have b40 := F40.binds (ps := ["self", "part"]) fun _ _ _ _ _ _ us hl => match us, hl with | [_, _], _ => rfl
  have mm40 := He.meth_ok (D.fact 38 (f := .meth "Yard" "_told_of") rfl)
  obtain ⟨fd41, D41⟩ := D.def_ 40 rfl
  have F41 := GE.fun_of (st := sYard_told) D41
  have b41 := F41.binds (ps := ["self"]) fun _ _ _ _ _ _ us hl => match us, hl with | [_], _ => rfl
  have mm41 := He.meth_ok (D.fact 39 (f := .meth "Yard" "told") rfl)
  obtain ⟨fd42, D42⟩ := D.def_ 41 rfl
  have F42 := GE.fun_of (st := sYard_worked) D42
  have b42 := F42.binds (ps := ["self"]) fun _ _ _ _ _ _ us hl => match us, hl with | [_], _ => rfl
  have mm42 := He.meth_ok (D.fact 40 (f := .meth "Yard" "worked") rfl)
  obtain ⟨fd43, D43⟩ := D.def_ 42 rfl
  have F43 := GE.fun_of (st := s_law_same) D43
  have b43 := F43.binds (ps := ["actual", "due"]) fun _ _ _ _ _ _ us hl => match us, hl with | [_, _], _ => rfl
  have g43 := He.glo_ok KX G (D.fact 41 (f := .glo "_law_same") rfl)
  obtain ⟨fd44, D44⟩ := D.def_ 43 rfl
  have F44 := GE.fun_of (st := s_law_group) D44
  have b44 := F44.binds (ps := ["net", "choice", "place"]) fun _ _ _ _ _ _ us hl => match us, hl with | [_, _, _], _ => rfl
  have g44 := He.glo_ok KX G (D.fact 42 (f := .glo "_law_group") rfl)
  obtain ⟨fd45, D45⟩ := D.def_ 44 rfl
  have F45 := GE.fun_of (st := s_law_groups) D45
  have b45 := F45.binds (ps := ["net", "choice"]) fun _ _ _ _ _ _ us hl => match us, hl with | [_, _], _ => rfl
  have g45 := He.glo_ok KX G (D.fact 43 (f := .glo "_law_groups") rfl)
  obtain ⟨fd46, D46⟩ := D.def_ 45 rfl
  have F46 := GE.fun_of (st := s_law_joins) D46
  have b46 := F46.binds (ps := ["net", "pairs", "choice"]) fun _ _ _ _ _ _ us hl => match us, hl with | [_, _, _], _ => rfl
  have g46 := He.glo_ok KX G (D.fact 44 (f := .glo "_law_joins") rfl)
  obtain ⟨fd47, D47⟩ := D.def_ 46 rfl
  have F47 := GE.fun_of (st := s_law_near) D47
  have b47 := F47.binds (ps := ["pool", "places"]) fun _ _ _ _ _ _ us hl => match us, hl with | [_, _], _ => rfl
  have g47 := He.glo_ok KX G (D.fact 45 (f := .glo "_law_near") rfl)
  obtain ⟨fd48, D48⟩ := D.def_ 47 rfl
  have F48 := GE.fun_of (st := s_law_parts) D48
  have b48 := F48.binds (ps := ["net", "pairs"]) fun _ _ _ _ _ _ us hl => match us, hl with | [_, _], _ => rfl
  have g48 := He.glo_ok KX G (D.fact 46 (f := .glo "_law_parts") rfl)
  obtain ⟨fd49, D49⟩ := D.def_ 48 rfl
  have F49 := GE.fun_of (st := s_law_is_refused) D49
  have b49 := F49.binds (ps := ["pool", "yard"]) fun _ _ _ _ _ _ us hl => match us, hl with | [_, _], _ => rfl
  have g49 := He.glo_ok KX G (D.fact 47 (f := .glo "_law_is_refused") rfl)
  obtain ⟨fd50, D50⟩ := D.def_ 49 rfl
  have F50 := GE.fun_of (st := s_law_edits) D50
  have b50 := F50.binds (ps := ["pool", "yard", "places"]) fun _ _ _ _ _ _ us hl => match us, hl with | [_, _, _], _ => rfl
  have g50 := He.glo_ok KX G (D.fact 48 (f := .glo "_law_edits") rfl)
  obtain ⟨fd51, D51⟩ := D.def_ 50 rfl
  have F51 := GE.fun_of (st := s_law_answer) D51
  have b51 := F51.binds (ps := ["yard", "due"]) fun _ _ _ _ _ _ us hl => match us, hl with | [_, _], _ => rfl
  have g51 := He.glo_ok KX G (D.fact 49 (f := .glo "_law_answer") rfl)
  obtain ⟨fd52, D52⟩ := D.def_ 51 rfl
  have F52 := GE.fun_of (st := slaw) D52
  have b52 := F52.binds (ps := ["script"]) fun _ _ _ _ _ _ us hl => match us, hl with | [_], _ => rfl
  have g52 := He.glo_ok KX G (D.fact 0 (f := .glo "law") rfl)
  have m_list := He.free_ok KX G (D.fact 50 (f := .free "list") rfl)
  have m_abs := He.free_ok KX G (D.fact 51 (f := .free "abs") rfl)
  have m_int := He.free_ok KX G (D.fact 52 (f := .free "int") rfl)
  have m_len := He.free_ok KX G (D.fact 53 (f := .free "len") rfl)
  have m_enumerate := He.free_ok KX G (D.fact 54 (f := .free "enumerate") rfl)
  have m_tuple := He.free_ok KX G (D.fact 55 (f := .free "tuple") rfl)
  have m_sorted := He.free_ok KX G (D.fact 56 (f := .free "sorted") rfl)
  have m_range := He.free_ok KX G (D.fact 57 (f := .free "range") rfl)
  have m_min := He.free_ok KX G (D.fact 58 (f := .free "min") rfl)
  have m_max := He.free_ok KX G (D.fact 59 (f := .free "max") rfl)
  have m_any := He.free_ok KX G (D.fact 60 (f := .free "any") rfl)
  have m_all := He.free_ok KX G (D.fact 61 (f := .free "all") rfl)
  have m_reversed := He.free_ok KX G (D.fact 62 (f := .free "reversed") rfl)
  have m_isinstance := He.free_ok KX G (D.fact 63 (f := .free "isinstance") rfl)
  have m_str := He.free_ok KX G (D.fact 64 (f := .free "str") rfl)
  have m_bool := He.free_ok KX G (D.fact 65 (f := .free "bool") rfl)
  have g_MOST_WAYS := He.int_ok KX G (D.fact 66 (f := .int "MOST_WAYS" 24) rfl)
  have g_MOST_PAIRS := He.int_ok KX G (D.fact 67 (f := .int "MOST_PAIRS" 6) rfl)
  have gApart := He.glo_ok KX G (D.fact 68 (f := .glo "Apart") rfl)
  have gRefused := He.glo_ok KX G (D.fact 69 (f := .glo "Refused") rfl)
  have gMoatError := He.glo_ok KX G (D.fact 70 (f := .glo "MoatError") rfl)
  have g_ZERO := He.glo_ok KX G (D.fact 71 (f := .glo "ZERO") rfl)
  have gal0 := He.glo_ok KX G (D.fact 72 (f := .glo "told_growths") rfl)
  have gField := He.glo_ok KX G (D.fact 73 (f := .glo "Field") rfl)
  have clField := He.cls_ok (D.fact 74 (f := .cls "Field") rfl)
  have nField_time := He.noat_ok (D.fact 75 (f := .noat "Field" "time") rfl)
  have nField_taken := He.noat_ok (D.fact 76 (f := .noat "Field" "taken") rfl)
  have nField_widths := He.noat_ok (D.fact 77 (f := .noat "Field" "widths") rfl)
  have nField__ways := He.noat_ok (D.fact 78 (f := .noat "Field" "_ways") rfl)
  have nField__homes := He.noat_ok (D.fact 79 (f := .noat "Field" "_homes") rfl)
  have nField__depths := He.noat_ok (D.fact 80 (f := .noat "Field" "_depths") rfl)
  have gYard := He.glo_ok KX G (D.fact 81 (f := .glo "Yard") rfl)
  have clYard := He.cls_ok (D.fact 82 (f := .cls "Yard") rfl)
  have nYard__places := He.noat_ok (D.fact 83 (f := .noat "Yard" "_places") rfl)
  have nYard__ways := He.noat_ok (D.fact 84 (f := .noat "Yard" "_ways") rfl)
  have nYard__pairs := He.noat_ok (D.fact 85 (f := .noat "Yard" "_pairs") rfl)
  have nYard__known := He.noat_ok (D.fact 86 (f := .noat "Yard" "_known") rfl)
  have nYard__many := He.noat_ok (D.fact 87 (f := .noat "Yard" "_many") rfl)
  have fx : FTx K (He.ga K "Field") := ⟨clField, nField_time, nField_taken, nField_widths, nField__ways, nField__homes, nField__depths⟩
  have hz0 : SqT K (fun _ => none) (He.ga K "ZERO") [.int (frX 0), .int (frY 0)] := by rw [fr0.1, fr0.2]; exact hzero
  have fy : YTx K (He.ga K "Yard") := ⟨clYard, nYard__places, nYard__ways, nYard__pairs, nYard__known, nYard__many⟩
  have XApart := GE.xcB_ok hxA
  have XRefused := GE.xcB_ok hxR
  have BMoatError := GE.xbB_ok hxM
  have gal_told_growths : mg "told_growths" = some (.ref (He.ga K "told")) := gal0.trans (congrArg (fun a => some (Value.ref a)) hal)
  have bL := FunD.bindsA (ps := ["script"]) D52 fun _ _ _ _ _ _ us hl => match us, hl with | [_], _ => rfl
  refine ⟨fd52, [He.cT K ("Field", some "groups_now"), He.cT K ("parts_pair", none), He.cT K ("_open_groups", none), He.cT K ("joins", none), He.cT K ("without", none), He.cT K ("groups", none), He.cT K ("_parts_with_pairs", none)], spLaw K [(He.cT K ("Field", some "groups_now")).2, (He.cT K ("parts_pair", none)).2, (He.cT K ("_open_groups", none)).2, (He.cT K ("joins", none)).2, (He.cT K ("without", none)).2, (He.cT K ("groups", none)).2, (He.cT K ("_parts_with_pairs", none)).2], (fun p hp => by
    simp only [List.mem_cons, List.not_mem_nil, or_false] at hp
    rcases hp with rfl | rfl | rfl | rfl | rfl | rfl | rfl
    · exact c.empty _ (List.mem_of_getElem? (i := 0) rfl)
    · exact c.empty _ (List.mem_of_getElem? (i := 1) rfl)
    · exact c.empty _ (List.mem_of_getElem? (i := 2) rfl)
    · exact c.empty _ (List.mem_of_getElem? (i := 3) rfl)
    · exact c.empty _ (List.mem_of_getElem? (i := 4) rfl)
    · exact c.empty _ (List.mem_of_getElem? (i := 5) rfl)
    · exact c.empty _ (List.mem_of_getElem? (i := 6) rfl)), (fun p hp => by
    simp only [List.mem_cons, List.not_mem_nil, or_false] at hp
    rcases hp with rfl | rfl | rfl | rfl | rfl | rfl | rfl
    · exact c.out _ (List.mem_of_getElem? (i := 0) rfl)
    · exact c.out _ (List.mem_of_getElem? (i := 1) rfl)
    · exact c.out _ (List.mem_of_getElem? (i := 2) rfl)
    · exact c.out _ (List.mem_of_getElem? (i := 3) rfl)
    · exact c.out _ (List.mem_of_getElem? (i := 4) rfl)
    · exact c.out _ (List.mem_of_getElem? (i := 5) rfl)
    · exact c.out _ (List.mem_of_getElem? (i := 6) rfl)), (fun p hp => by
    simp only [List.mem_cons, List.not_mem_nil, or_false] at hp
    rcases hp with rfl | rfl | rfl | rfl | rfl | rfl | rfl
    · exact PySem.W.codeHd_of_K KX (c.hd _ (List.mem_of_getElem? (i := 0) rfl))
    · exact PySem.W.codeHd_of_K KX (c.hd _ (List.mem_of_getElem? (i := 1) rfl))
    · exact PySem.W.codeHd_of_K KX (c.hd _ (List.mem_of_getElem? (i := 2) rfl))
    · exact PySem.W.codeHd_of_K KX (c.hd _ (List.mem_of_getElem? (i := 3) rfl))
    · exact PySem.W.codeHd_of_K KX (c.hd _ (List.mem_of_getElem? (i := 4) rfl))
    · exact PySem.W.codeHd_of_K KX (c.hd _ (List.mem_of_getElem? (i := 5) rfl))
    · exact PySem.W.codeHd_of_K KX (c.hd _ (List.mem_of_getElem? (i := 6) rfl))), fun s v => bL s [v] rfl, fun H a ns hlen hbits hH hS => ⟨a, ns, rfl, hS, hlen, ?_, fun _ => rfl⟩, fun base XB GB TB => ?_⟩
  · intro P hP
    simp only [List.mem_cons, List.not_mem_nil, or_false] at hP
    rcases hP with hP | hP | hP | hP | hP | hP | hP
    · exact ⟨#[], by rw [hP]; exact hH (He.cT K ("Field", some "groups_now")) (List.mem_of_getElem? (i := 0) rfl), True.intro⟩
    · exact ⟨#[], by rw [hP]; exact hH (He.cT K ("parts_pair", none)) (List.mem_of_getElem? (i := 1) rfl), True.intro⟩
    · exact ⟨#[], by rw [hP]; exact hH (He.cT K ("_open_groups", none)) (List.mem_of_getElem? (i := 2) rfl), True.intro⟩
    · exact ⟨#[], by rw [hP]; exact hH (He.cT K ("joins", none)) (List.mem_of_getElem? (i := 3) rfl), True.intro⟩
    · exact ⟨#[], by rw [hP]; exact hH (He.cT K ("without", none)) (List.mem_of_getElem? (i := 4) rfl), True.intro⟩
    · exact ⟨#[], by rw [hP]; exact hH (He.cT K ("groups", none)) (List.mem_of_getElem? (i := 5) rfl), True.intro⟩
    · exact ⟨#[], by rw [hP]; exact hH (He.cT K ("_parts_with_pairs", none)) (List.mem_of_getElem? (i := 6) rfl), True.intro⟩
  have G1 := ok_Apart___init__ (T := [(He.cT K ("Field", some "groups_now")).2, (He.cT K ("parts_pair", none)).2, (He.cT K ("_open_groups", none)).2, (He.cT K ("joins", none)).2, (He.cT K ("without", none)).2, (He.cT K ("groups", none)).2, (He.cT K ("_parts_with_pairs", none)).2]) (P := l.prog) (w := w) (base := base) (mg := mg) F1 gMoatError BMoatError XApart
  have G2 := ok_Refused___init__ (T := [(He.cT K ("Field", some "groups_now")).2, (He.cT K ("parts_pair", none)).2, (He.cT K ("_open_groups", none)).2, (He.cT K ("joins", none)).2, (He.cT K ("without", none)).2, (He.cT K ("groups", none)).2, (He.cT K ("_parts_with_pairs", none)).2]) (P := l.prog) (w := w) (base := base) (mg := mg) F2 gMoatError BMoatError XRefused
  have G3 := ok__law_pool (T := [(He.cT K ("Field", some "groups_now")).2, (He.cT K ("parts_pair", none)).2, (He.cT K ("_open_groups", none)).2, (He.cT K ("joins", none)).2, (He.cT K ("without", none)).2, (He.cT K ("groups", none)).2, (He.cT K ("_parts_with_pairs", none)).2]) (P := l.prog) (w := w) (base := base) (mg := mg) F3 m_list
  have G4 := ok__law_draw (T := [(He.cT K ("Field", some "groups_now")).2, (He.cT K ("parts_pair", none)).2, (He.cT K ("_open_groups", none)).2, (He.cT K ("joins", none)).2, (He.cT K ("without", none)).2, (He.cT K ("groups", none)).2, (He.cT K ("_parts_with_pairs", none)).2]) (P := l.prog) (w := w) (base := base) (mg := mg) F4 m_abs m_int m_len
  have G5 := ok__law_pick (T := [(He.cT K ("Field", some "groups_now")).2, (He.cT K ("parts_pair", none)).2, (He.cT K ("_open_groups", none)).2, (He.cT K ("joins", none)).2, (He.cT K ("without", none)).2, (He.cT K ("groups", none)).2, (He.cT K ("_parts_with_pairs", none)).2]) (P := l.prog) (w := w) (base := base) (mg := mg) F5 m_len F4 (G4.mono (by decide)) b4 g4
  have G6 := ok__law_cost (T := [(He.cT K ("Field", some "groups_now")).2, (He.cT K ("parts_pair", none)).2, (He.cT K ("_open_groups", none)).2, (He.cT K ("joins", none)).2, (He.cT K ("without", none)).2, (He.cT K ("groups", none)).2, (He.cT K ("_parts_with_pairs", none)).2]) (P := l.prog) (w := w) (base := base) (mg := mg) F6 F4 (G4.mono (by decide)) b4 g4
  have G7 := ok_ratio (T := [(He.cT K ("Field", some "groups_now")).2, (He.cT K ("parts_pair", none)).2, (He.cT K ("_open_groups", none)).2, (He.cT K ("joins", none)).2, (He.cT K ("without", none)).2, (He.cT K ("groups", none)).2, (He.cT K ("_parts_with_pairs", none)).2]) (P := l.prog) (w := w) (base := base) (mg := mg) F7 m_gcd
  have G8 := ok_plus (T := [(He.cT K ("Field", some "groups_now")).2, (He.cT K ("parts_pair", none)).2, (He.cT K ("_open_groups", none)).2, (He.cT K ("joins", none)).2, (He.cT K ("without", none)).2, (He.cT K ("groups", none)).2, (He.cT K ("_parts_with_pairs", none)).2]) (P := l.prog) (w := w) (base := base) (mg := mg) F8 F7 (G7.mono (by decide)) b7 g7
  have G9 := ok_minus (T := [(He.cT K ("Field", some "groups_now")).2, (He.cT K ("parts_pair", none)).2, (He.cT K ("_open_groups", none)).2, (He.cT K ("joins", none)).2, (He.cT K ("without", none)).2, (He.cT K ("groups", none)).2, (He.cT K ("_parts_with_pairs", none)).2]) (P := l.prog) (w := w) (base := base) (mg := mg) F9 F7 (G7.mono (by decide)) b7 g7
  have G10 := ok_less (T := [(He.cT K ("Field", some "groups_now")).2, (He.cT K ("parts_pair", none)).2, (He.cT K ("_open_groups", none)).2, (He.cT K ("joins", none)).2, (He.cT K ("without", none)).2, (He.cT K ("groups", none)).2, (He.cT K ("_parts_with_pairs", none)).2]) (P := l.prog) (w := w) (base := base) (mg := mg) F10
  have G11 := ok_Field__slack (T := [(He.cT K ("Field", some "groups_now")).2, (He.cT K ("parts_pair", none)).2, (He.cT K ("_open_groups", none)).2, (He.cT K ("joins", none)).2, (He.cT K ("without", none)).2, (He.cT K ("groups", none)).2, (He.cT K ("_parts_with_pairs", none)).2]) (P := l.prog) (w := w) (base := base) (mg := mg) F11 F9 (G9.mono (by decide)) b9 g9 F8 (G8.mono (by decide)) b8 g8 fx
  have G12 := ok_Field__first_full_way (T := [(He.cT K ("Field", some "groups_now")).2, (He.cT K ("parts_pair", none)).2, (He.cT K ("_open_groups", none)).2, (He.cT K ("joins", none)).2, (He.cT K ("without", none)).2, (He.cT K ("groups", none)).2, (He.cT K ("_parts_with_pairs", none)).2]) (P := l.prog) (w := w) (base := base) (mg := mg) F12 m_enumerate F10 (G10.mono (by decide)) b10 g10 F11 (G11.mono (by decide)) b11 mm11 g_ZERO hz0 fx
  have G13 := ok_Field__take (T := [(He.cT K ("Field", some "groups_now")).2, (He.cT K ("parts_pair", none)).2, (He.cT K ("_open_groups", none)).2, (He.cT K ("joins", none)).2, (He.cT K ("without", none)).2, (He.cT K ("groups", none)).2, (He.cT K ("_parts_with_pairs", none)).2]) (P := l.prog) (w := w) (base := base) (mg := mg) F13 m_tuple m_sorted fx
  have G14 := ok_Field_take_full_ways (T := [(He.cT K ("Field", some "groups_now")).2, (He.cT K ("parts_pair", none)).2, (He.cT K ("_open_groups", none)).2, (He.cT K ("joins", none)).2, (He.cT K ("without", none)).2, (He.cT K ("groups", none)).2, (He.cT K ("_parts_with_pairs", none)).2]) (P := l.prog) (w := w) (base := base) (mg := mg) F14 F12 (G12.mono (by decide)) b12 mm12 F13 (G13.mono (by decide)) b13 mm13 fx
  have G15 := ok_Field__ways_between (T := [(He.cT K ("Field", some "groups_now")).2, (He.cT K ("parts_pair", none)).2, (He.cT K ("_open_groups", none)).2, (He.cT K ("joins", none)).2, (He.cT K ("without", none)).2, (He.cT K ("groups", none)).2, (He.cT K ("_parts_with_pairs", none)).2]) (P := l.prog) (w := w) (base := base) (mg := mg) F15 fx
  have G16 := ok_Field_span_until_full (T := [(He.cT K ("Field", some "groups_now")).2, (He.cT K ("parts_pair", none)).2, (He.cT K ("_open_groups", none)).2, (He.cT K ("joins", none)).2, (He.cT K ("without", none)).2, (He.cT K ("groups", none)).2, (He.cT K ("_parts_with_pairs", none)).2]) (P := l.prog) (w := w) (base := base) (mg := mg) F16 m_len F15 (G15.mono (by decide)) b15 mm15 F11 (G11.mono (by decide)) b11 mm11 F7 (G7.mono (by decide)) b7 g7 F10 (G10.mono (by decide)) b10 g10 fx
  have G17 := ok_Field_grow (T := [(He.cT K ("Field", some "groups_now")).2, (He.cT K ("parts_pair", none)).2, (He.cT K ("_open_groups", none)).2, (He.cT K ("joins", none)).2, (He.cT K ("without", none)).2, (He.cT K ("groups", none)).2, (He.cT K ("_parts_with_pairs", none)).2]) (P := l.prog) (w := w) (base := base) (mg := mg) F17 F8 (G8.mono (by decide)) b8 g8 g_ZERO hz0 fx
  have G18 := ok_Field_groups_now (T := [(He.cT K ("Field", some "groups_now")).2, (He.cT K ("parts_pair", none)).2, (He.cT K ("_open_groups", none)).2, (He.cT K ("joins", none)).2, (He.cT K ("without", none)).2, (He.cT K ("groups", none)).2, (He.cT K ("_parts_with_pairs", none)).2]) (P := l.prog) (w := w) (base := base) (mg := mg) F18 (GE.tabB_of (TB (He.cT K ("Field", some "groups_now")) (List.mem_of_getElem? (i := 0) rfl))) (List.mem_of_getElem? (i := 0) rfl) m_tuple m_enumerate fx
  have G19 := ok_Field___init__ (T := [(He.cT K ("Field", some "groups_now")).2, (He.cT K ("parts_pair", none)).2, (He.cT K ("_open_groups", none)).2, (He.cT K ("joins", none)).2, (He.cT K ("without", none)).2, (He.cT K ("groups", none)).2, (He.cT K ("_parts_with_pairs", none)).2]) (P := l.prog) (w := w) (base := base) (mg := mg) F19 m_range g_ZERO hz0 fx
  have G20 := ok__homes (T := [(He.cT K ("Field", some "groups_now")).2, (He.cT K ("parts_pair", none)).2, (He.cT K ("_open_groups", none)).2, (He.cT K ("joins", none)).2, (He.cT K ("without", none)).2, (He.cT K ("groups", none)).2, (He.cT K ("_parts_with_pairs", none)).2]) (P := l.prog) (w := w) (base := base) (mg := mg) F20 m_list m_range m_min m_max
  have G21 := ok_every_way (T := [(He.cT K ("Field", some "groups_now")).2, (He.cT K ("parts_pair", none)).2, (He.cT K ("_open_groups", none)).2, (He.cT K ("joins", none)).2, (He.cT K ("without", none)).2, (He.cT K ("groups", none)).2, (He.cT K ("_parts_with_pairs", none)).2]) (P := l.prog) (w := w) (base := base) (mg := mg) F21 m_tuple m_range m_len
  have G22 := ok_check_joined (T := [(He.cT K ("Field", some "groups_now")).2, (He.cT K ("parts_pair", none)).2, (He.cT K ("_open_groups", none)).2, (He.cT K ("joins", none)).2, (He.cT K ("without", none)).2, (He.cT K ("groups", none)).2, (He.cT K ("_parts_with_pairs", none)).2]) (P := l.prog) (w := w) (base := base) (mg := mg) F22 m_enumerate F20 (G20.mono (by decide)) b20 g20 F21 (G21.mono (by decide)) b21 g21
  have GA22 := okX_check_joined (T := [(He.cT K ("Field", some "groups_now")).2, (He.cT K ("parts_pair", none)).2, (He.cT K ("_open_groups", none)).2, (He.cT K ("joins", none)).2, (He.cT K ("without", none)).2, (He.cT K ("groups", none)).2, (He.cT K ("_parts_with_pairs", none)).2]) (P := l.prog) (w := w) (base := base) (mg := mg) F22 m_enumerate gApart F20 (G20.mono (by decide)) b20 g20 F21 (G21.mono (by decide)) b21 g21 F1 (G1.mono (by decide)) b1 XApart
  have G23 := ok_parts_pair (T := [(He.cT K ("Field", some "groups_now")).2, (He.cT K ("parts_pair", none)).2, (He.cT K ("_open_groups", none)).2, (He.cT K ("joins", none)).2, (He.cT K ("without", none)).2, (He.cT K ("groups", none)).2, (He.cT K ("_parts_with_pairs", none)).2]) (P := l.prog) (w := w) (base := base) (mg := mg) F23 (GE.tabB_of (TB (He.cT K ("parts_pair", none)) (List.mem_of_getElem? (i := 1) rfl))) (List.mem_of_getElem? (i := 1) rfl) m_any
  have G24 := ok__open_groups (T := [(He.cT K ("Field", some "groups_now")).2, (He.cT K ("parts_pair", none)).2, (He.cT K ("_open_groups", none)).2, (He.cT K ("joins", none)).2, (He.cT K ("without", none)).2, (He.cT K ("groups", none)).2, (He.cT K ("_parts_with_pairs", none)).2]) (P := l.prog) (w := w) (base := base) (mg := mg) F24 (GE.tabB_of (TB (He.cT K ("_open_groups", none)) (List.mem_of_getElem? (i := 2) rfl))) (List.mem_of_getElem? (i := 2) rfl) m_tuple F18.fun (G18.mono (by decide)) b18 mm18 F23.fun (G23.mono (by decide)) b23 g23 fx
  have G25 := ok__grown (T := [(He.cT K ("Field", some "groups_now")).2, (He.cT K ("parts_pair", none)).2, (He.cT K ("_open_groups", none)).2, (He.cT K ("joins", none)).2, (He.cT K ("without", none)).2, (He.cT K ("groups", none)).2, (He.cT K ("_parts_with_pairs", none)).2]) (P := l.prog) (w := w) (base := base) (mg := mg) F25 F22 (G22.mono (by decide)) b22 g22 F19 (G19.mono (by decide)) b19 M19 F14 (G14.mono (by decide)) b14 mm14 F24.fun (G24.mono (by decide)) b24 g24 F17 (G17.mono (by decide)) b17 mm17 F18.fun (G18.mono (by decide)) b18 mm18 F16 (G16.mono (by decide)) b16 mm16 gField fx
  have G26 := ok_growth (T := [(He.cT K ("Field", some "groups_now")).2, (He.cT K ("parts_pair", none)).2, (He.cT K ("_open_groups", none)).2, (He.cT K ("joins", none)).2, (He.cT K ("without", none)).2, (He.cT K ("groups", none)).2, (He.cT K ("_parts_with_pairs", none)).2]) (P := l.prog) (w := w) (base := base) (mg := mg) F26 m_tuple F25 (G25.mono (by decide)) b25 g25 fx
  have G27 := ok_joins (T := [(He.cT K ("Field", some "groups_now")).2, (He.cT K ("parts_pair", none)).2, (He.cT K ("_open_groups", none)).2, (He.cT K ("joins", none)).2, (He.cT K ("without", none)).2, (He.cT K ("groups", none)).2, (He.cT K ("_parts_with_pairs", none)).2]) (P := l.prog) (w := w) (base := base) (mg := mg) F27 (GE.tabB_of (TB (He.cT K ("joins", none)) (List.mem_of_getElem? (i := 3) rfl))) (List.mem_of_getElem? (i := 3) rfl) m_all F20 (G20.mono (by decide)) b20 g20
  have G28 := ok_without (T := [(He.cT K ("Field", some "groups_now")).2, (He.cT K ("parts_pair", none)).2, (He.cT K ("_open_groups", none)).2, (He.cT K ("joins", none)).2, (He.cT K ("without", none)).2, (He.cT K ("groups", none)).2, (He.cT K ("_parts_with_pairs", none)).2]) (P := l.prog) (w := w) (base := base) (mg := mg) F28 (GE.tabB_of (TB (He.cT K ("without", none)) (List.mem_of_getElem? (i := 4) rfl))) (List.mem_of_getElem? (i := 4) rfl) m_tuple
  have G29 := ok_told (T := [(He.cT K ("Field", some "groups_now")).2, (He.cT K ("parts_pair", none)).2, (He.cT K ("_open_groups", none)).2, (He.cT K ("joins", none)).2, (He.cT K ("without", none)).2, (He.cT K ("groups", none)).2, (He.cT K ("_parts_with_pairs", none)).2]) (P := l.prog) (w := w) (base := base) (mg := mg) F29 m_tuple m_reversed m_sorted F28.fun (G28.mono (by decide)) b28 g28 F27.fun (G27.mono (by decide)) b27 g27 F26 (G26.mono (by decide)) b26 g26
  have G30 := ok_groups (T := [(He.cT K ("Field", some "groups_now")).2, (He.cT K ("parts_pair", none)).2, (He.cT K ("_open_groups", none)).2, (He.cT K ("joins", none)).2, (He.cT K ("without", none)).2, (He.cT K ("groups", none)).2, (He.cT K ("_parts_with_pairs", none)).2]) (P := l.prog) (w := w) (base := base) (mg := mg) F30 (GE.tabB_of (TB (He.cT K ("groups", none)) (List.mem_of_getElem? (i := 5) rfl))) (List.mem_of_getElem? (i := 5) rfl) m_enumerate m_tuple F20 (G20.mono (by decide)) b20 g20
  have G31 := ok__parts_with_pairs (T := [(He.cT K ("Field", some "groups_now")).2, (He.cT K ("parts_pair", none)).2, (He.cT K ("_open_groups", none)).2, (He.cT K ("joins", none)).2, (He.cT K ("without", none)).2, (He.cT K ("groups", none)).2, (He.cT K ("_parts_with_pairs", none)).2]) (P := l.prog) (w := w) (base := base) (mg := mg) F31 (GE.tabB_of (TB (He.cT K ("_parts_with_pairs", none)) (List.mem_of_getElem? (i := 6) rfl))) (List.mem_of_getElem? (i := 6) rfl) m_tuple F21 (G21.mono (by decide)) b21 g21 F30.fun (G30.mono (by decide)) b30 g30
  have G32 := ok_Yard___init__ (T := [(He.cT K ("Field", some "groups_now")).2, (He.cT K ("parts_pair", none)).2, (He.cT K ("_open_groups", none)).2, (He.cT K ("joins", none)).2, (He.cT K ("without", none)).2, (He.cT K ("groups", none)).2, (He.cT K ("_parts_with_pairs", none)).2]) (P := l.prog) (w := w) (base := base) (mg := mg) F32 fy
  have G33 := ok_Yard_task (T := [(He.cT K ("Field", some "groups_now")).2, (He.cT K ("parts_pair", none)).2, (He.cT K ("_open_groups", none)).2, (He.cT K ("joins", none)).2, (He.cT K ("without", none)).2, (He.cT K ("groups", none)).2, (He.cT K ("_parts_with_pairs", none)).2]) (P := l.prog) (w := w) (base := base) (mg := mg) F33 m_tuple fy
  have G34 := True.intro
  have GX34 := okX_Yard__check_way (T := [(He.cT K ("Field", some "groups_now")).2, (He.cT K ("parts_pair", none)).2, (He.cT K ("_open_groups", none)).2, (He.cT K ("joins", none)).2, (He.cT K ("without", none)).2, (He.cT K ("groups", none)).2, (He.cT K ("_parts_with_pairs", none)).2]) (P := l.prog) (w := w) (base := base) (mg := mg) F34 m_len gRefused F2 (G2.mono (by decide)) b2 XRefused fy
  have G35 := True.intro
  have GX35 := okX_Yard_build (T := [(He.cT K ("Field", some "groups_now")).2, (He.cT K ("parts_pair", none)).2, (He.cT K ("_open_groups", none)).2, (He.cT K ("joins", none)).2, (He.cT K ("without", none)).2, (He.cT K ("groups", none)).2, (He.cT K ("_parts_with_pairs", none)).2]) (P := l.prog) (w := w) (base := base) (mg := mg) F35 m_len gRefused F2 (G2.mono (by decide)) b2 XRefused fy g_MOST_WAYS
  have G36 := True.intro
  have GX36 := okX_Yard_change (T := [(He.cT K ("Field", some "groups_now")).2, (He.cT K ("parts_pair", none)).2, (He.cT K ("_open_groups", none)).2, (He.cT K ("joins", none)).2, (He.cT K ("without", none)).2, (He.cT K ("groups", none)).2, (He.cT K ("_parts_with_pairs", none)).2]) (P := l.prog) (w := w) (base := base) (mg := mg) F36 F34 (GX34.mono (by decide)) b34 mm34 fy
  have G37 := True.intro
  have GX37 := okX_Yard_cut (T := [(He.cT K ("Field", some "groups_now")).2, (He.cT K ("parts_pair", none)).2, (He.cT K ("_open_groups", none)).2, (He.cT K ("joins", none)).2, (He.cT K ("without", none)).2, (He.cT K ("groups", none)).2, (He.cT K ("_parts_with_pairs", none)).2]) (P := l.prog) (w := w) (base := base) (mg := mg) F37 F34 (GX34.mono (by decide)) b34 mm34 fy
  have G38 := True.intro
  have GX38 := okX_Yard_want (T := [(He.cT K ("Field", some "groups_now")).2, (He.cT K ("parts_pair", none)).2, (He.cT K ("_open_groups", none)).2, (He.cT K ("joins", none)).2, (He.cT K ("without", none)).2, (He.cT K ("groups", none)).2, (He.cT K ("_parts_with_pairs", none)).2]) (P := l.prog) (w := w) (base := base) (mg := mg) F38 m_len gRefused F2 (G2.mono (by decide)) b2 XRefused fy g_MOST_PAIRS
  have G39 := True.intro
  have GX39 := okX_Yard_drop (T := [(He.cT K ("Field", some "groups_now")).2, (He.cT K ("parts_pair", none)).2, (He.cT K ("_open_groups", none)).2, (He.cT K ("joins", none)).2, (He.cT K ("without", none)).2, (He.cT K ("groups", none)).2, (He.cT K ("_parts_with_pairs", none)).2]) (P := l.prog) (w := w) (base := base) (mg := mg) F39 gRefused F2 (G2.mono (by decide)) b2 XRefused fy
  have G40 := ok_Yard__told_of (T := [(He.cT K ("Field", some "groups_now")).2, (He.cT K ("parts_pair", none)).2, (He.cT K ("_open_groups", none)).2, (He.cT K ("joins", none)).2, (He.cT K ("without", none)).2, (He.cT K ("groups", none)).2, (He.cT K ("_parts_with_pairs", none)).2]) (P := l.prog) (w := w) (base := base) (mg := mg) F40 F29 (G29.mono (by decide)) b29 gal_told_growths fy
  have GX22 := ck_of (k := 3) (G22.mono (by decide)) (GA22.mono (by decide))
  have G41 := True.intro
  have GX41 := okX_Yard_told (T := [(He.cT K ("Field", some "groups_now")).2, (He.cT K ("parts_pair", none)).2, (He.cT K ("_open_groups", none)).2, (He.cT K ("joins", none)).2, (He.cT K ("without", none)).2, (He.cT K ("groups", none)).2, (He.cT K ("_parts_with_pairs", none)).2]) (P := l.prog) (w := w) (base := base) (mg := mg) F41 m_tuple m_sorted F33 (G33.mono (by decide)) b33 mm33 F22 (GX22.mono (by decide)) b22 g22 F31.fun (G31.mono (by decide)) b31 g31 F40 (G40.mono (by decide)) b40 mm40 fy
  have G42 := ok_Yard_worked (P := l.prog) (w := w) (base := base) (mg := mg) F42 fy
  have G43 := (same_all (T := [(He.cT K ("Field", some "groups_now")).2, (He.cT K ("parts_pair", none)).2, (He.cT K ("_open_groups", none)).2, (He.cT K ("joins", none)).2, (He.cT K ("without", none)).2, (He.cT K ("groups", none)).2, (He.cT K ("_parts_with_pairs", none)).2]) (P := l.prog) (w := w) (base := base) (mg := mg) F43 m_isinstance m_tuple m_str m_int m_len m_bool m_range b43 g43 5)
  have GH43 := okH__law_same (P := l.prog) (w := w) (base := base) (mg := mg) F43 m_isinstance m_tuple m_str m_int m_len m_bool m_range
  have G44 := ok__law_group (T := [(He.cT K ("Field", some "groups_now")).2, (He.cT K ("parts_pair", none)).2, (He.cT K ("_open_groups", none)).2, (He.cT K ("joins", none)).2, (He.cT K ("without", none)).2, (He.cT K ("groups", none)).2, (He.cT K ("_parts_with_pairs", none)).2]) (P := l.prog) (w := w) (base := base) (mg := mg) F44 m_range m_tuple m_sorted
  have G45 := ok__law_groups (T := [(He.cT K ("Field", some "groups_now")).2, (He.cT K ("parts_pair", none)).2, (He.cT K ("_open_groups", none)).2, (He.cT K ("joins", none)).2, (He.cT K ("without", none)).2, (He.cT K ("groups", none)).2, (He.cT K ("_parts_with_pairs", none)).2]) (P := l.prog) (w := w) (base := base) (mg := mg) F45 m_range m_tuple F44 (G44.mono (by decide)) b44 g44
  have G46 := ok__law_joins (T := [(He.cT K ("Field", some "groups_now")).2, (He.cT K ("parts_pair", none)).2, (He.cT K ("_open_groups", none)).2, (He.cT K ("joins", none)).2, (He.cT K ("without", none)).2, (He.cT K ("groups", none)).2, (He.cT K ("_parts_with_pairs", none)).2]) (P := l.prog) (w := w) (base := base) (mg := mg) F46 m_len F44 (G44.mono (by decide)) b44 g44
  have G47 := ok__law_near (T := [(He.cT K ("Field", some "groups_now")).2, (He.cT K ("parts_pair", none)).2, (He.cT K ("_open_groups", none)).2, (He.cT K ("joins", none)).2, (He.cT K ("without", none)).2, (He.cT K ("groups", none)).2, (He.cT K ("_parts_with_pairs", none)).2]) (P := l.prog) (w := w) (base := base) (mg := mg) F47 m_min F4 (G4.mono (by decide)) b4 g4
  have G48 := ok__law_parts (T := [(He.cT K ("Field", some "groups_now")).2, (He.cT K ("parts_pair", none)).2, (He.cT K ("_open_groups", none)).2, (He.cT K ("joins", none)).2, (He.cT K ("without", none)).2, (He.cT K ("groups", none)).2, (He.cT K ("_parts_with_pairs", none)).2]) (P := l.prog) (w := w) (base := base) (mg := mg) F48 m_tuple m_len m_range F45 (G45.mono (by decide)) b45 g45
  have G49 := ok__law_is_refused (T := [(He.cT K ("Field", some "groups_now")).2, (He.cT K ("parts_pair", none)).2, (He.cT K ("_open_groups", none)).2, (He.cT K ("joins", none)).2, (He.cT K ("without", none)).2, (He.cT K ("groups", none)).2, (He.cT K ("_parts_with_pairs", none)).2]) (P := l.prog) (w := w) (base := base) (mg := mg) F49 m_len gRefused F33 (G33.mono (by decide)) b33 mm33 F4 (G4.mono (by decide)) b4 g4 F36 (GX36.mono (by decide)) b36 mm36 F37 (GX37.mono (by decide)) b37 mm37 F38 (GX38.mono (by decide)) b38 mm38 F39 (GX39.mono (by decide)) b39 mm39 fy gRefused hemR
  have G50 := ok__law_edits (T := [(He.cT K ("Field", some "groups_now")).2, (He.cT K ("parts_pair", none)).2, (He.cT K ("_open_groups", none)).2, (He.cT K ("joins", none)).2, (He.cT K ("without", none)).2, (He.cT K ("groups", none)).2, (He.cT K ("_parts_with_pairs", none)).2]) (P := l.prog) (w := w) (base := base) (mg := mg) F50 m_len F33 (G33.mono (by decide)) b33 mm33 F4 (G4.mono (by decide)) b4 g4 F47 (G47.mono (by decide)) b47 g47 F6 (G6.mono (by decide)) b6 g6 F35 (GX35.mono (by decide)) b35 mm35 F37 (GX37.mono (by decide)) b37 mm37 F36 (GX36.mono (by decide)) b36 mm36 F39 (GX39.mono (by decide)) b39 mm39 F38 (GX38.mono (by decide)) b38 mm38 fy
  have G51 := ok__law_answer (T := [(He.cT K ("Field", some "groups_now")).2, (He.cT K ("parts_pair", none)).2, (He.cT K ("_open_groups", none)).2, (He.cT K ("joins", none)).2, (He.cT K ("without", none)).2, (He.cT K ("groups", none)).2, (He.cT K ("_parts_with_pairs", none)).2]) (P := l.prog) (w := w) (base := base) (mg := mg) F51 F41 (GX41.mono (by decide)) b41 mm41 F43 (GE.fnH_mono GH43 (by decide)) b43 g43 fy (G43.mono (by decide)) XApart gApart hemA
  have G52 := ok_law (T := [(He.cT K ("Field", some "groups_now")).2, (He.cT K ("parts_pair", none)).2, (He.cT K ("_open_groups", none)).2, (He.cT K ("joins", none)).2, (He.cT K ("without", none)).2, (He.cT K ("groups", none)).2, (He.cT K ("_parts_with_pairs", none)).2]) (P := l.prog) (w := w) (base := base) (mg := mg) F52 m_range m_len F3 (G3.mono (by decide)) b3 g3 F4 (G4.mono (by decide)) b4 g4 F5 (G5.mono (by decide)) b5 g5 F32 (G32.mono (by decide)) b32 M32 F47 (G47.mono (by decide)) b47 g47 F6 (G6.mono (by decide)) b6 g6 F35 (GX35.mono (by decide)) b35 mm35 F50 (G50.mono (by decide)) b50 g50 F49 (G49.mono (by decide)) b49 g49 F33 (G33.mono (by decide)) b33 mm33 F46 (G46.mono (by decide)) b46 g46 F29 (G29.mono (by decide)) b29 gal_told_growths F48 (G48.mono (by decide)) b48 g48 F51 (G51.mono (by decide)) b51 g51 F42 (G42.mono (by decide)) b42 mm42 F43 (G43.mono (by decide)) b43 g43 fy gYard
  exact G52
end Mw

set_option Elab.async false
set_option linter.all false
set_option maxRecDepth 100000
set_option maxHeartbeats 4000000
open PySem PySem.W PyProof.Rows
set_option maxRecDepth 100000 in
set_option maxHeartbeats 0 in
theorem PySem.Challenge.cw_moatways_k23_answers_of_a_yard_holds : PySem.Challenge.rw_moatways_k23_answers_of_a_yard.Holds := by
  w_on; o_law; o_head (GE.hookS 5 Mw.Fas Mw.Das [] Mw.Tfs Mw.exB); (case hw => w_witness2)
  refine LamX.walk_ofTsE (l := PySem.Challenge.rw_moatways_k23_answers_of_a_yard) (n := 63) (k := 14) (x := "script") (CX := fun _ => L2.CX0) rfl (by decide) rfl ⟨rfl, by decide, by decide⟩ ?F (fun _ _ _ _ _ z => z)
  case F =>
    intro w mg fa h Y G hmg
    obtain ⟨K, KX, c⟩ := Y
    exact ⟨K, KX, Mw.all_mk KX G hmg c⟩

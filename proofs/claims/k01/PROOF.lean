import PyProof.Rows.All
import Wide.All
import OpenK.AllK
import Wide.FinOn
import HandS.ForMost
import HandS.GenList
import HandS.AnyAll
import PyProof.TupleOfGen
import HandS.EndOwn
import HandS.SetKeys
import HandS.More
import HandS.Conv
import HandS.IsInst
import HandS.Sort
import HandS.Wide
import KE.KNest
import HandS.Evl
import PySem.Challenge.RW_moatways_k01_pairs_that_are_joined
import HandS.Walk
import HandS.Deep
import HandS.CallRecv
set_option Elab.async false
set_option linter.all false
set_option maxRecDepth 100000
set_option maxHeartbeats 2000000
/-! Generator expressions over the hand layer, consumed at once: all, any, sum, tuple. -/
namespace GE
open PySem PySem.Spec PyProof.Rows L2 GenW

/-- what the consumer keeps at S when ys is out -/
abbrev CO := List V → Obj → Prop
structure Slp (C : CO) (S : Addr) (ys : List V) (s s' : Shared) : Prop where
  os : s'.os = s.os
  bare : AllBare s'.gens
  keep : ∀ b o, b ≠ S → s.heap.get? b = some o → s'.heap.get? b = some o
  own : ∃ o, s'.heap.get? S = some o ∧ C ys o
structure Mid (P : Program) (w : World) (outer : List Env) (ex : List Addr) (H : Hp) (s : Shared) (S a : Addr) (g : Nat) (C : CO) (ys : List V) (H' : Hp) (s' : Shared) : Prop where
  os : s'.os = s.os
  bare : AllBare s'.gens
  lim : s'.heap.NoLimit
  gen : s'.heap.IsGen a g
  un : Un (frs outer) ex H H' s.heap s'.heap
  hok : HOk P w H' s'.heap
  free : H' S = none
  own : ∃ o, s'.heap.get? S = some o ∧ C ys o
/-- what is wanted when an item is handed out; the last: that it may go on -/
abbrev YO := List V → V → Hp → Prop → Prop
abbrev EN := List V → Hp → Prop
def GYx (P : Program) (w : World) (outer : List Env) (ex : List Addr) (H : Hp) (s : Shared) (S a : Addr) (g : Nat) (C : CO) (Yo : YO) : Protocol := fun n s₀ v s' kap =>
  ∃ ys x H', n + 1 + ys.length = sizeLine ∧ RelV x v ∧ (∀ ob, s₀.heap.get? S = some ob → s'.heap.get? S = some ob) ∧ Mid P w outer ex H s S a g C ys H' s' ∧ Yo ys x H' (∀ s'', Slp C S (ys ++ [x]) s' s'' → kap (.send .none) s'')
def Fi (P : Program) (w : World) (outer : List Env) (ex : List Addr) (H : Hp) (s : Shared) (S a : Addr) (g : Nat) (C : CO) (En : EN) : Nat → Shared → Shared → Prop := fun n s₀ s' =>
  ∃ ys H', n + ys.length = sizeLine ∧ (∀ ob, s₀.heap.get? S = some ob → s'.heap.get? S = some ob) ∧ Mid P w outer ex H s S a g C ys H' s' ∧ En ys H'
def REx (P : Program) (w : World) (outer : List Env) (ex : List Addr) (H : Hp) (s : Shared) (S a : Addr) (g : Nat) (C : CO) (En : EN) : GenEnd := fun n s₀ r s1 =>
  ((r = .ok (.ret .none) ∨ r = .ok .next) ∧ Fi P w outer ex H s S a g C En n s₀ s1) ∨ ∃ e, r = .error e ∧ (fun (_ : Value) (_ : Shared) => False) e s1

/-- running: ys is out -/
def GIx (X : Cx) (S : Addr) (C : CO) (ip : List (Addr × Obj)) (ys : List V) (σ : L2.St) (H : Hp) (s : Shared) : Prop := ∃ o, C ys o ∧ Inv X ((S, o) :: ip) σ H s
theorem GIx.woken {X : Cx} {S : Addr} {C : CO} {ip : List (Addr × Obj)} {ys zs : List V} {σ : L2.St} {H : Hp} {s s' : Shared} (hC : ∀ ys o, C ys o → ∀ v, o.data ≠ .cell v) (hpn : ∀ p ∈ X.pn, p.1 ≠ S) (hip : ∀ p ∈ ip, p.1 ≠ S) (hA : Apart X S) (h : GIx X S C ip ys σ H s) (z : Slp C S zs s s') :
    GIx X S C ip zs σ H s' := by
  obtain ⟨o, hCo, I⟩ := h
  obtain ⟨eS, hS0, hSL, hSf, _⟩ := I.pin (S, o) (List.mem_append_right _ List.mem_cons_self)
  have I0 : Inv X ip σ H s := I.pins_of fun p hp => I.pin p (List.mem_append_right _ (List.mem_cons_of_mem _ hp))
  have nt : ∀ b u, H b = some u → b ≠ S := fun b u q hb => by rw [hb, hS0] at q; cases q
  obtain ⟨z1, z2, z3, o', eS', hCo'⟩ := z
  obtain ⟨hh, g, d, t, o9⟩ := s'
  have ho : o9 = s.os := z1
  subst ho
  have nc : ∀ b, b ∉ [S] → b ≠ S := fun b hb e => hb (by rw [e]; exact List.mem_singleton.mpr rfl)
  have J : Inv X ip σ H { s with heap := hh, gens := g, drawn := d, toks := t } := by
    refine I0.step (g' := g) (t' := t) (d' := d) (ch := [S]) (fun b hb => ?_)
      (fun b ob _ _ hc q _ => z3 b ob (nc b hc) q) (fun b ob _ _ hc q _ => ⟨ob.slots, z3 b ob (nc b hc) q⟩) (fun _ _ _ _ n => n) (fun b ob hc q => ⟨ob, z3 b ob (nc b hc) q⟩)
      (fun _ _ q => q) (fun _ _ _ q => q) (fun b ps q => ⟨#[], by rw [q]; simp⟩) (fun m hm => ?_) (fun b u q => ?_) z2
    · rw [List.mem_singleton.mp hb]
      refine ⟨.inr hA.1, hA.2.1, hA.2.2, fun p hp => ?_⟩
      rcases List.mem_append.mp hp with hp | hp
      · exact hpn p hp
      · exact hip p hp
    · obtain ⟨ob, es, ep, ho, r⟩ := hm
      exact ⟨ob, es, ep, z3 _ ob (Ne.symm hSL) ho, r⟩
    · refine (I0.hok b u q).stay (fun c v hc y => z3 c v ?_ y) (fun _ y => y) fun _ _ y => y
      rcases hc with y | y
      · rw [y]; exact nt b u q
      · exact nt c _ y
  refine ⟨o', hCo', J.pins_of fun p hp => ?_⟩
  rcases List.mem_cons.mp hp with hp | hp
  · rw [hp]
    exact ⟨eS', hS0, hSL, hSf, hC _ _ hCo'⟩
  · exact J.pin p (List.mem_append_right _ hp)

/-- the context of a generator expression's frame -/
abbrev gcx (X : Cx) (A : Around) (s : Shared) (H : Hp) (cenv : Env) (fp : List Addr) (gp : List (Addr × Obj)) : Cx :=
  { X with A := A.deeper cenv, s_0 := s, H_0 := H, env := cenv, outer := X.stack, stack := cenv :: X.stack, ex := fp, fn := fun _ => false, calm := true, pn := gp, xe := fun _ _ => False }

theorem mid_of {X : Cx} {A : Around} {s s' : Shared} {H H' : Hp} {cenv : Env} {fp : List Addr} {gp ip : List (Addr × Obj)} {S a : Addr} {g : Nat} {C : CO} {ys : List V} {σ : L2.St}
    (hgen : ∀ (s' : Shared) (ys : List V) (o : Obj), s'.heap.get? S = some o → C ys o → (∀ p ∈ gp, s'.heap.get? p.1 = some p.2) → s'.heap.IsGen a g)
    (h : GIx (gcx X A s H cenv fp gp) S C ip ys σ H' s') : Mid X.prog X.w X.stack fp H s S a g C ys H' s' := by
  obtain ⟨o, hCo, I⟩ := h
  obtain ⟨eS, hS0, _⟩ := I.pin (S, o) (List.mem_append_right _ List.mem_cons_self)
  exact ⟨I.os, I.bare, I.nolimit, hgen s' ys o eS hCo fun p hp => (I.pin p (List.mem_append_left _ hp)).1, I.base, I.hok, hS0, o, eS, hCo⟩

theorem over_comp {A : Around} {elt : Expr} {gs : List Comprehension} {scope : Scope} {pos : Pos} {u v : Value} {env : Env} : A.over (.compLoop (.GeneratorExp elt gs scope pos) 0 u v env) [] = A.deeper env := by
  first
    | rfl
    | (obtain ⟨hd, d, fr, gs, u⟩ := A; simp [Around.over, Around.deeper, marksOver, frameCount, unitsOf, envsOf, guardsOf, pushEnvs, pushGuards, Code.envs, Code.env?, Code.isFrame, Code.guards, Code.isGuard, Code.weight, Code.frames, Code.isCreation, Code.isCaller, Code.cUnits])
theorem over_compS {A : Around} {elt : Expr} {gs : List Comprehension} {scope : Scope} {pos : Pos} {u v : Value} {env : Env} : A.over (.compStart (.GeneratorExp elt gs scope pos) 0 u v env) [] = A.deeper env := by
  first
    | rfl
    | (obtain ⟨hd, d, fr, gs, u⟩ := A; simp [Around.over, Around.deeper, marksOver, frameCount, unitsOf, envsOf, guardsOf, pushEnvs, pushGuards, Code.envs, Code.env?, Code.isFrame, Code.guards, Code.isGuard, Code.weight, Code.frames, Code.isCreation, Code.isCaller, Code.cUnits])

/-- a turn of the loop -/
def turnX (g : TG) (tt : TT) (te : TE) (vs : List Nat) (σ : L2.St) (Yo : YO) (En : EN) (J : It) (W : Nat → Nat → List V → Hp → Prop) : Prop := ∀ i m ys H, W i m ys H →
  (J.stop i H ∧ En ys H) ∨ (J.go i H ∧ ∀ x H', J.yld i H x H' → g x (wipe σ vs) H' fun σ2 H2 => wipe σ2 vs = wipe σ vs ∧ tt σ2 H2 fun b H3 =>
    if b = true then te σ2 H3 fun y H4 => ys.length < sizeLine ∧ Yo ys y H4 (∃ m', m' < m ∧ W (i + 1) m' (ys ++ [y]) H4) else ∃ m', m' < m ∧ W (i + 1) m' ys H3)

section
variable {X : Cx} {A : Around} {s : Shared} {H : Hp} {cenv : Env} {fp : List Addr} {gp : List (Addr × Obj)} {S a : Addr} {g0 : Nat} {C : CO} {Yo : YO} {En : EN}
  {elt tg iter : Expr} {ifs : List Expr} {scope : Scope} {pos : Pos} {it : Addr} {vs : List Nat} {σ : L2.St} {g : TG} {tt : TT} {te : TE} {J : It} {tn : Nat → Heap → Prop} {W : Nat → Nat → List V → Hp → Prop}
theorem seg_loop (hC : ∀ ys o, C ys o → ∀ v, o.data ≠ .cell v) (hY : ∀ ys y H K K', (K → K') → Yo ys y H K → Yo ys y H K')
    (hgen : ∀ (s' : Shared) (ys : List V) (o : Obj), s'.heap.get? S = some o → C ys o → (∀ p ∈ gp, s'.heap.get? p.1 = some p.2) → s'.heap.IsGen a g0)
    (hpn : ∀ p ∈ gp, p.1 ≠ S ∧ p.1 ∉ fp) (hSf : S ∉ fp) (hA : Apart (gcx X A s H cenv fp gp) S) (hco : cenv.scope.isCoroutine = false)
    (T : Turn X.prog X.w X.K tg J fp it tn) (pg : PG (gcx X A s H cenv fp gp) tg g) (pt : PTs (gcx X A s H cenv fp gp) ifs tt) (pe : PE (gcx X A s H cenv fp gp) elt te) (turn : turnX g tt te vs σ Yo En J W) :
    ∀ (m n i : Nat) (ys : List V) (H' : Hp) (s₀ s' : Shared), n + ys.length = sizeLine → W i m ys H' → GIx (gcx X A s H cenv fp gp) S C [] ys (wipe σ vs) H' s' → tn i s'.heap → (∀ b ∈ fp, H' b = none) → (∀ ob, s₀.heap.get? S = some ob → s'.heap.get? S = some ob) →
      Seg (model X.prog X.w) A (REx X.prog X.w X.stack fp H s S a g0 C En) (GYx X.prog X.w X.stack fp H s S a g0 C Yo) n s₀
        (.compLoop (.GeneratorExp elt [⟨tg, iter, ifs, 0⟩] scope pos) 0 (.ref it) .none cenv) ((model X.prog X.w).den (.compLoop (.GeneratorExp elt [⟨tg, iter, ifs, 0⟩] scope pos) 0 (.ref it) .none cenv)) [] s' := by
  have stat : ∀ {σ' : L2.St} {H' : Hp} {s' : Shared} {pins : List (Addr × Obj)}, Inv (gcx X A s H cenv fp gp) pins σ' H' s' → (∀ p ∈ pins, p.1 ∉ fp) → (∀ b ∈ fp, H' b = none) → ∀ b ∈ fp, FpOk (gcx X A s H cenv fp gp) pins H' b := fun {σ' H' s' pins} I' hp0 hn b hb =>
    ⟨hn b hb, (I'.ok.exf b hb).1, I'.ok.exfs b hb, .inl hb, fun x c e => (I'.ok.exf b hb).2 x c e, fun p hp z => (List.mem_append.mp hp).elim (fun q => (hpn p q).2 (z ▸ hb)) fun q => hp0 p q (z ▸ hb)⟩
  intro m
  induction m using Nat.strongRecOn with
  | ind m ih =>
    intro n i ys H' s₀ s' hn w hG st nf h0
    obtain ⟨o, hCo, I⟩ := _root_.id hG
    have h0' : ∀ ob, s₀.heap.get? S = some ob → ob = o := fun ob e => by
      have e1 := h0 ob e
      rw [(I.pin (S, o) (List.mem_append_right _ List.mem_cons_self)).1] at e1
      exact (Option.some.inj e1).symm
    have hp1 : ∀ p ∈ [(S, o)], p.1 ∉ fp := fun p hp => by rw [List.mem_singleton.mp hp]; exact hSf
    show Seg _ A _ _ n s₀ _ ((compTurn (.GeneratorExp elt [⟨tg, iter, ifs, 0⟩] scope pos) 0 (.ref it) .none cenv).onRaise (leaving cenv)) [] s'
    rw [compTurn_gen, Sem.onRaise_eq_wrap]
    refine seg_bind_wrap (wpAny_standAt ?_)
    rcases turn i m ys H' w with ⟨stop, hend⟩ | ⟨go, step⟩
    · refine seg_bind_wrap ?_
      rw [over_comp]
      refine thnF (T.done (gcx X A s H cenv fp gp) rfl rfl rfl rfl i [(S, o)] s' _ H' (fun _ _ => False) I (stat I hp1 nf) st stop) fun r s1 ⟨hr, I1⟩ => ?_
      subst hr
      exact seg_end (.ok .next) (.inl ⟨.inr rfl, ys, H', hn, fun ob e => by rw [h0' ob e]; exact (I1.pin (S, o) (List.mem_append_right _ List.mem_cons_self)).1, mid_of hgen ⟨o, hCo, I1⟩, hend⟩)
    · refine seg_bind_wrap ?_
      rw [over_comp]
      refine thnF (T.item (gcx X A s H cenv fp gp) rfl rfl rfl rfl i [(S, o)] s' _ H' (fun _ _ => False) I (stat I hp1 nf) st go) fun r s1 ⟨u, hr, h1⟩ => ?_
      subst hr
      refine seg_bind_wrap ?_
      rw [over_comp]
      refine thnF h1 fun _ s2 ⟨x, H2, I2, r2, y2, st2, n2⟩ => ?_
      have I2' := I2.pinned (stat I2 hp1 n2) (T.obj _ _ st2)
      refine seg_bind_wrap ?_
      rw [over_comp]
      refine thnF (pg.run _ s2 _ H2 x u _ I2' r2 (step x H2 y2)) fun _ s3 ⟨σ3, H3, I3, hw3, q3⟩ => ?_
      refine seg_bind_wrap ?_
      rw [over_comp]
      refine thnF (pt.run _ s3 σ3 H3 _ I3 q3) fun b s4 ⟨H4, I4, q4⟩ => ?_
      have hl : (wipe σ vs).length = σ3.length := by rw [← hw3, wipe_length]
      have fin : ∀ {n' : Nat} {s9 s₀' : Shared} {H9 : Hp} {zs : List V} {m' : Nat}, n' + zs.length = sizeLine → GIx (gcx X A s H cenv fp gp) S C (pinsAt fp s2.heap) zs σ3 H9 s9 → m' < m → W (i + 1) m' zs H9 → (∀ ob, s₀'.heap.get? S = some ob → s9.heap.get? S = some ob) →
          Seg (model X.prog X.w) A (REx X.prog X.w X.stack fp H s S a g0 C En) (GYx X.prog X.w X.stack fp H s S a g0 C Yo) n' s₀'
            (.compLoop (.GeneratorExp elt [⟨tg, iter, ifs, 0⟩] scope pos) 0 (.ref it) .none cenv) ((model X.prog X.w).den (.compLoop (.GeneratorExp elt [⟨tg, iter, ifs, 0⟩] scope pos) 0 (.ref it) .none cenv)) [] s9 := fun {n' s9 s₀' H9 zs m'} hn' hG9 hm' w9 h9 => by
        obtain ⟨o9, hCo9, I9⟩ := hG9
        have pin9 : ∀ b ∈ fp, ∀ ob, s2.heap.get? b = some ob → s9.heap.get? b = some ob ∧ H9 b = none := fun b hb ob e =>
          let z := I9.pin (b, ob) (List.mem_append_right _ (List.mem_cons_of_mem _ (mem_pinsAt hb e)))
          ⟨z.1, z.2.1⟩
        refine ih m' hm' n' (i + 1) zs H9 s₀' s9 hn' w9 ⟨o9, hCo9, ?_⟩ (T.keep _ _ _ st2 fun b hb ob e => (pin9 b hb ob e).1) (fun b hb => ?_) h9
        · refine Inv.weak (I9.pins_of fun p hp => I9.pin p (List.mem_append_right _ ?_)) hl fun j v e => ?_
          · rw [List.mem_singleton.mp hp]; exact List.mem_cons_self
          · rw [← hw3] at e
            exact (wipe_some e).1
        · obtain ⟨ob, e, _⟩ := T.obj _ _ st2 b hb
          exact (pin9 b hb ob e).2
      cases b with
      | false =>
        simp only [Bool.false_eq_true, if_false] at q4 ⊢
        obtain ⟨m', hm', w4⟩ := q4
        exact seg_again rfl (fin hn ⟨o, hCo, I4⟩ hm' w4 fun ob e => by rw [h0' ob e]; exact (I4.pin (S, o) (List.mem_append_right _ List.mem_cons_self)).1)
      | true =>
        simp only [if_true] at q4 ⊢
        have hy : ∀ v, yieldOut cenv v = yieldValue v := fun v => by simp only [yieldOut, hco, Bool.false_eq_true, if_false]
        simp only [hy]
        rw [Sem.bind_eq_wrap', Sem.bind_eq_wrap', Sem.wrap_wrap, Sem.wrap_wrap]
        refine seg_wrap ?_
        rw [over_comp]
        refine thnF (pe.run _ s4 σ3 H4 _ I4 q4) fun u5 s5 ⟨y, H5, I5, r5, hlt, q5⟩ => ?_
        obtain ⟨n, rfl⟩ : ∃ k, n = k + 1 := ⟨n - 1, by omega⟩
        have G5 : GIx (gcx X A s H cenv fp gp) S C (pinsAt fp s2.heap) ys σ3 H5 s5 := ⟨o, hCo, I5⟩
        refine seg_at (seg_yield rfl rfl rfl ⟨ys, y, H5, hn, r5, fun ob e => by rw [h0' ob e]; exact (I5.pin (S, o) (List.mem_append_right _ List.mem_cons_self)).1, mid_of hgen G5, hY _ _ _ _ _ (fun ⟨m', hm', w5⟩ s6 z => ?_) q5⟩)
        refine seg_again rfl (fin ?_ (G5.woken hC (fun p hp => (hpn p hp).1) (fun p hp z => hSf (z ▸ (of_pinsAt hp).1)) hA z) hm' w5 fun _ e => e)
        rw [List.length_append, List.length_singleton]; omega
end
end GE

set_option Elab.async false
set_option linter.all false
set_option maxRecDepth 100000
set_option maxHeartbeats 2000000
namespace GE
open PySem PySem.Spec PyProof.Rows L2 GenW
section
variable {X : Cx} {A : Around} {s : Shared} {H : Hp} {cenv : Env} {fp : List Addr} {gp : List (Addr × Obj)} {S a : Addr} {g0 : Nat} {C : CO} {Yo : YO} {En : EN}
  {elt tg iter : Expr} {ifs : List Expr} {scope : Scope} {pos : Pos} {it : Addr} {vs : List Nat} {σ : L2.St} {g : TG} {tt : TT} {te : TE} {J : It} {tn : Nat → Heap → Prop} {W : Nat → Nat → List V → Hp → Prop}
theorem seg_start {m : Nat} {H' : Hp} {s₀ s' : Shared} (hC : ∀ ys o, C ys o → ∀ v, o.data ≠ .cell v) (hY : ∀ ys y H K K', (K → K') → Yo ys y H K → Yo ys y H K')
    (hgen : ∀ (s' : Shared) (ys : List V) (o : Obj), s'.heap.get? S = some o → C ys o → (∀ p ∈ gp, s'.heap.get? p.1 = some p.2) → s'.heap.IsGen a g0)
    (hpn : ∀ p ∈ gp, p.1 ≠ S ∧ p.1 ∉ fp) (hSf : S ∉ fp) (hA : Apart (gcx X A s H cenv fp gp) S) (hco : cenv.scope.isCoroutine = false)
    (T : Turn X.prog X.w X.K tg J fp it tn) (pg : PG (gcx X A s H cenv fp gp) tg g) (pt : PTs (gcx X A s H cenv fp gp) ifs tt) (pe : PE (gcx X A s H cenv fp gp) elt te) (turn : turnX g tt te vs σ Yo En J W)
    (w : W 0 m [] H') (hG : GIx (gcx X A s H cenv fp gp) S C [] [] (wipe σ vs) H' s') (st : tn 0 s'.heap) (nf : ∀ b ∈ fp, H' b = none) (h0 : ∀ ob, s₀.heap.get? S = some ob → s'.heap.get? S = some ob) :
    Seg (model X.prog X.w) A (REx X.prog X.w X.stack fp H s S a g0 C En) (GYx X.prog X.w X.stack fp H s S a g0 C Yo) sizeLine s₀
        (.compStart (.GeneratorExp elt [⟨tg, iter, ifs, 0⟩] scope pos) 0 (.ref it) .none cenv) ((model X.prog X.w).den (.compStart (.GeneratorExp elt [⟨tg, iter, ifs, 0⟩] scope pos) 0 (.ref it) .none cenv)) [] s' := by
  have loop := seg_loop (pos := pos) (iter := iter) (scope := scope) hC hY hgen hpn hSf hA hco T pg pt pe turn m sizeLine 0 [] H' s₀ s' (Nat.add_zero _) w hG st nf h0
  show Seg _ A _ _ _ s₀ _ ((compStart (.GeneratorExp elt [⟨tg, iter, ifs, 0⟩] scope pos) 0 (.ref it) .none cenv).onRaise (leaving cenv)) [] s'
  unfold compStart
  rw [Sem.onRaise_eq_wrap]
  show Seg _ A _ _ _ s₀ _ ((ask >>= _).wrap _ _ _ _) [] s'
  refine seg_bind_wrap (wpAny_askSetting ?_)
  split
  · exact seg_again rfl loop
  · first
      | exact seg_bind_wrap (wpAny_rule (seg_bind_wrap (wpAny_standAt (seg_bind_wrap (T.self _ 0 s' _ _ st (seg_again rfl loop))))))
      | (refine seg_bind_wrap (wpAny_rule ?_); show Seg _ A _ _ _ s₀ _ ((standAt iter.pos >>= _).wrap _ _ _ _) [] s'; exact seg_bind_wrap (wpAny_standAt (seg_bind_wrap (T.self _ 0 s' _ _ st (seg_again rfl loop)))))

/-- the frame's start, in any later state that keeps what stood -/
theorem gen_start {pins pl : List (Addr × Obj)} {own : List (Str × Nat)} {code : Value} {m : Str → Option Value} {s2 : Shared} (I : Inv X pins σ H s) (ok : BlkOk X.N X.env.scope scope own) (hN : X.N.Nodup) (hnc : ∀ y ∈ scope.names, y.2 ≠ .cell)
    (hfp : ∀ b ∈ fp, FpOk X pins H b ∧ b < s.heap.objs.size) (hd : A.handled = none) (hfr : A.frames = some X.stack)
    (hce : cenv = genEnv scope (cloFrom X.env.cells scope.names []) s.heap.objs.size code builtinsNs X.env)
    (kp : ∀ b o, s.heap.get? b = some o → s2.heap.get? b = some o) (hns : s2.heap.Ns s.heap.objs.size m) (hos : s2.os = s.os) (hba : AllBare s2.gens)
    (hpl : ∀ p ∈ gp ++ pl, s2.heap.get? p.1 = some p.2 ∧ s.heap.objs.size < p.1 ∧ ∀ v, p.2.data ≠ .cell v) :
    Inv (gcx X A s H cenv fp gp) pl (wipe σ (own.map (·.2))) H s2 := by
  have hfree : ∀ y ∈ scope.names, y.2 = .free → ∃ c, X.env.cells.lookup y.1 = some c := fun y hy e => by
    rcases ok.free y hy e with k | k
    · exact I.ok.has _ (.inl k)
    · exact I.ok.has _ (.inr k)
  have hL : cenv.locals = s.heap.objs.size := by rw [hce]; rfl
  have hcl : cenv.cells = cloFrom X.env.cells scope.names [] := by rw [hce]; rfl
  have hsc : cenv.scope = scope := by rw [hce]; rfl
  have cm : ∀ {y c}, (y, c) ∈ cloFrom X.env.cells scope.names [] → X.env.cells.lookup y = some c ∧ c < s.heap.objs.size := fun {y c} hm => by
    rcases cloFrom_mem hm with hm | ⟨h1, rfl⟩
    · cases hm
    · obtain ⟨c, hc⟩ := hfree _ h1 rfl
      rw [hc]
      obtain ⟨w, z⟩ := I.cell _ _ hc
      exact ⟨rfl, z.lt⟩
  have mem : ∀ {y c}, cenv.cells.lookup y = some c → X.env.cells.lookup y = some c ∧ c < s.heap.objs.size := fun {y c} e => by
    rw [hcl] at e
    exact cm (PySem.mem_of_lookup e)
  have look : ∀ {y}, scope.names.lookup y = some .free → ∃ c, cenv.cells.lookup y = some c ∧ X.env.cells.lookup y = some c := fun {y} hl => by
    have hy : (y, NameKind.free) ∈ scope.names := PySem.mem_of_lookup hl
    obtain ⟨c', e'⟩ := mem_lookup (cloFrom_has (cells := X.env.cells) (acc := []) hy)
    rw [← hcl] at e'
    exact ⟨c', e', (mem e').1⟩
  have stkLt : ∀ b ∈ frs X.stack, b < s.heap.objs.size := fun b hb => by
    obtain ⟨_, o, ho, _⟩ := I.stack.mem hb
    exact Heap.lt_size ho
  have okB : (gcx X A s H cenv fp gp).Ok := by
    refine ⟨I.ok.mod, by show cenv.scope.kind = _; rw [hsc]; exact ok.kind, by show cenv.globals = _; rw [hce]; exact I.ok.glob, by show cenv.builtins = _; rw [hce]; rfl, by show s.heap.objs.size ≤ cenv.locals; rw [hL]; exact Nat.le_refl _,
      fun y z c e1 e2 => ?_, fun y hy => ?_, fun y c z e => ?_, fun _ => hd, ?_, .inr ⟨rfl, ?_⟩, fun b hb => ⟨?_, fun y c e z => ?_⟩, I.bs, Nat.le_trans I.ok.bsz I.sz, fun b o e hb => ?_, fun b hb z => ?_, I.stack, I.stkFree⟩
    · exact I.ok.inj y z c (mem e1).1 (mem e2).1
    · have key : ∀ k, scope.names.lookup y = some k → (k = .cell ∨ k = .free) → ∃ c, cenv.cells.lookup y = some c := fun k hk hk' => by
        rcases hk' with rfl | rfl
        · exact absurd rfl (hnc _ (PySem.mem_of_lookup hk))
        · obtain ⟨c, h1, _⟩ := look hk
          exact ⟨c, h1⟩
      have hy' : cenv.scope.names.lookup y = some .cell ∨ cenv.scope.names.lookup y = some .free := hy
      rw [hsc] at hy'
      rcases hy' with hy' | hy'
      · exact key _ hy' (.inl rfl)
      · exact key _ hy' (.inr rfl)
    · cases z
    · show (A.deeper cenv).frames = some (cenv :: X.stack)
      have e : (A.deeper cenv).frames = A.frames.map (cenv :: ·) := by first | rfl | (obtain ⟨a1, a2, a3, a4, a5⟩ := A; cases a3 <;> rfl)
      rw [e, hfr]; rfl
    · show cenv.frame = some cenv.locals
      rw [hce]; rfl
    · show b ≠ cenv.locals
      rw [hL]; exact Nat.ne_of_lt (hfp b hb).2
    · exact (hfp b hb).1.2.2.2.2.1 y c (mem e).1 z
    · rcases (hfp b hb).1.2.2.2.1 with z | z
      · exact I.ok.noex b o e z
      · exact absurd (Nat.lt_of_lt_of_le (Heap.lt_size e) (Nat.le_trans I.ok.bsz z)) (Nat.lt_irrefl _)
    · rcases List.mem_cons.mp (I.stkSub b z) with z | z
      · exact (hfp b hb).1.2.1 z
      · exact (hfp b hb).1.2.2.1 z
  refine ⟨okB, hos, hba, Un.kept kp, ⟨m, by show s2.heap.Ns cenv.locals m; rw [hL]; exact hns, fun i y av e1 e2 e3 => ?_⟩, fun y c e => ?_, ?_, fun y c e => ?_, fun p hp => ?_, I.hok.kept kp, by rw [wipe_length]; exact I.len⟩
  · obtain ⟨e2, hne⟩ := wipe_some e2
    have hfr : scope.names.lookup y = some .free := by
      have e3 : Vis cenv.scope y := e3
      rw [hsc] at e3
      have no : ∀ k, scope.names.lookup y = some k → ¬ (k = .local ∨ k = .cell) := fun k hk hh => by
        rcases ok.own _ (PySem.mem_of_lookup hk) hh with e' | e'
        · obtain ⟨p, hp, hpy⟩ := List.mem_map.mp e'
          have e3 := ok.ix p hp
          have : p.1 = y := hpy
          rw [this] at e3
          exact hne (List.mem_map.mpr ⟨p, hp, nodup_ix hN e3 e1⟩)
        · exact e' (List.mem_of_getElem? e1)
      rcases e3 with e3 | e3 | e3
      · exact absurd (.inl rfl) (no _ e3)
      · exact absurd (.inr rfl) (no _ e3)
      · exact e3
    obtain ⟨m', hn, hl⟩ := I.loc
    have hvis : Vis X.env.scope y := (ok.free _ (PySem.mem_of_lookup hfr) rfl).elim (fun k => .inr (.inl k)) (fun k => .inr (.inr k))
    obtain ⟨w, r, q⟩ := hl i y av e1 e2 hvis
    have hkf : cenv.kindOf y = some .free := by show cenv.scope.names.lookup y = _; rw [hsc]; exact hfr
    refine ⟨w, r, .inr ⟨.inr hkf, ?_⟩⟩
    obtain ⟨c, h1, h2⟩ := look hfr
    rcases q with ⟨k, _⟩ | ⟨_, c', e', z⟩
    · have k : X.env.scope.names.lookup y = some .local := k
      rcases ok.free _ (PySem.mem_of_lookup hfr) rfl with k' | k' <;> rw [show X.env.scope.names.lookup y = _ from k'] at k <;> cases k
    · rw [h2] at e'; cases e'
      exact ⟨c, h1, z.keeps kp⟩
  · obtain ⟨w, z⟩ := I.cell y c (mem e).1
    exact ⟨w, z.keeps kp⟩
  · show H cenv.locals = none
    rw [hL]; exact I.hok.fresh (Nat.le_refl _)
  · exact I.freeC y c (mem e).1
  · obtain ⟨h1, h2, h3⟩ := hpl p hp
    refine ⟨h1, I.hok.fresh (Nat.le_of_lt h2), by show p.1 ≠ cenv.locals; rw [hL]; exact Nat.ne_of_gt h2, fun z => ?_, h3⟩
    exact absurd (Nat.lt_trans h2 (stkLt _ z)) (Nat.lt_irrefl _)
end
end GE

set_option Elab.async false
set_option linter.all false
set_option maxRecDepth 100000
set_option maxHeartbeats 2000000
namespace GE
open PySem PySem.Spec PyProof.Rows L2 GenW
/-- the reading of a generator expression that is consumed at once: Yo at each item, En at the end; P: the def's table of code objects -/
def tGx (wi : TI) (g : TG) (tt : TT) (te : TE) (vs : List Nat) (P : Addr) (Yo : YO) (En : EN) : L2.St → Hp → Prop := fun σ H => wi σ H fun J H1 => GxR.TabG H1 P ∧ ∀ H2, GxR.Tabbed P H1 H2 →
  ∃ W : Nat → Nat → List V → Hp → Prop, (∃ m, W 0 m [] H2) ∧ turnX g tt te vs σ Yo En J W
/-- a generator that has not begun -/
def MadeX (X : Cx) (k : Nat) (H : Hp) (sc : Shared) (fp : List Addr) (Yo : YO) (En : EN) (u : Value) (s5 : Shared) : Prop :=
  ∃ (a : Addr) (g : Nat) (c : Code), u = .ref a ∧ sc.heap.objs.size < a ∧ a < s5.heap.objs.size ∧ s5.heap.IsGen a g ∧ s5.gens[g]? = some (.fresh c) ∧ (∃ go, s5.heap.get? a = some go ∧ (∀ h : Heap, h.get? a = some go → h.IsGen a g) ∧ ∀ v, go.data ≠ .cell v) ∧
    s5.os = sc.os ∧ AllBare s5.gens ∧ s5.heap.NoLimit ∧ (∀ b o, sc.heap.get? b = some o → s5.heap.get? b = some o) ∧
    ∀ (A : Around) (S : Addr) (C : CO) (gp : List (Addr × Obj)) (s2 : Shared), Room (k + 1) A → A.frames = some X.stack → (∀ ys o, C ys o → ∀ v, o.data ≠ .cell v) →
      (∀ (s' : Shared) (ys : List V) (o : Obj), s'.heap.get? S = some o → C ys o → (∀ p ∈ gp, s'.heap.get? p.1 = some p.2) → s'.heap.IsGen a g) →
      (∀ p ∈ gp, p.1 ≠ S ∧ sc.heap.objs.size < p.1 ∧ s2.heap.get? p.1 = some p.2 ∧ ∀ v, p.2.data ≠ .cell v) → sc.heap.objs.size < S → (∀ b o, s5.heap.get? b = some o → s2.heap.get? b = some o) →
      (∃ o, s2.heap.get? S = some o ∧ C [] o) → s2.os = sc.os → AllBare s2.gens →
      Seg (model X.prog X.w) A (REx X.prog X.w X.stack fp H sc S a g C En) (GYx X.prog X.w X.stack fp H sc S a g C Yo) sizeLine s2 c ((model X.prog X.w).den c) [] s2

section
variable {X : Cx} {pins : List (Addr × Obj)} {σ : L2.St} {H : Hp} {s : Shared}
theorem gen_make {c P : Addr} {elt iter tg : Expr} {ifs : List Expr} {gpos : Pos} {scope : Scope} {own : List (Str × Nat)} {wi : TI} {g : TG} {tt : TT} {te : TE} {k : Nat} {Yo : YO} {En : EN} {Q' : Value → Shared → Prop}
    (hr : Room (k + 2) X.A) (hN : X.N.Nodup) (TB : GxR.TabB X.base X.mg c P) (hcode : X.env.code = .ref c) (hi : PI X tg iter wi) (ok : BlkOk X.N X.env.scope scope own) (hnc : ∀ y ∈ scope.names, y.2 ≠ .cell) (hco : scope.isCoroutine = false)
    (h0 : scope.names.lookup (".0" : Str) = some NameKind.local)
    (hg : ∀ (A : Around) (s : Shared) (H : Hp) (C : Addr) (cl : List (Str × Addr)) (code : Value) (fp : List Addr) (gp : List (Addr × Obj)), PG (gcx X A s H (genEnv scope cl C code builtinsNs X.env) fp gp) tg g)
    (ht : ∀ (A : Around) (s : Shared) (H : Hp) (C : Addr) (cl : List (Str × Addr)) (code : Value) (fp : List Addr) (gp : List (Addr × Obj)), Room k (A.deeper (genEnv scope cl C code builtinsNs X.env)) → PTs (gcx X A s H (genEnv scope cl C code builtinsNs X.env) fp gp) ifs tt)
    (he : ∀ (A : Around) (s : Shared) (H : Hp) (C : Addr) (cl : List (Str × Addr)) (code : Value) (fp : List Addr) (gp : List (Addr × Obj)), Room k (A.deeper (genEnv scope cl C code builtinsNs X.env)) → PE (gcx X A s H (genEnv scope cl C code builtinsNs X.env) fp gp) elt te)
    (hY : ∀ ys y H K K', (K → K') → Yo ys y H K → Yo ys y H K')
    (hs : ∀ v, genFold iter X.env v = pure v) (I : Inv X pins σ H s) (h : tGx wi g tt te (own.map (·.2)) P Yo En σ H)
    (hQ : ∀ H2 sc fp u s5, Inv X pins σ H2 sc → ExOk X pins fp → MadeX X k H2 sc fp Yo En u s5 → Q' u s5) :
    wpAny (model X.prog X.w) X.A (eval (.GeneratorExp elt [⟨tg, iter, ifs, 0⟩] scope gpos) X.env) Q' X.xe s := by
  have hfree : ∀ y ∈ scope.names, y.2 = .free → ∃ c, X.env.cells.lookup y.1 = some c := fun y hy e => by
    rcases ok.free y hy e with k | k
    · exact I.ok.has _ (.inl k)
    · exact I.ok.has _ (.inr k)
  refine wpAny_GeneratorExp_make hco (closure_ok hfree) hnc h0 ok.kind (by have := hr.dp; omega) (thn (hi.run pins s σ H _ I h) fun xv s1 hx => thn hx fun itv s2 h2 => ?_) hs
  obtain ⟨it, fp, tn, J, H2, e, I2, T, st2, f2, ⟨ps, hP, htr⟩, q⟩ := h2
  subst e
  have hPs : s2.heap.get? P = some { cls := .none, data := .fields ps } := I2.hok P _ hP
  have cd : PySem.W.CodeHd s2.heap c P := TB.code.keeps fun b u e => I2.bk b u e
  refine ⟨I2.nolimit, ?_⟩
  have fpne : ∀ b ∈ fp, b ≠ P := fun b hb z => by
    have := (f2 b hb).1
    rw [z, hP] at this
    cases this
  have cont : ∀ (code : Value) (h3 : Heap) (tk : Nat) (ps' : Array Value), Heap.ExtBut P s2.heap h3 → h3.get? P = some { cls := .none, data := .fields ps' } → (∃ more, ps' = ps ++ more) → TriplesOk ps'.toList →
      wpAny (model X.prog X.w) X.A (builtinsFor X.env.globals X.env.builtins) (fun bi s₄ =>
        ∀ h', h'.Ns s₄.heap.objs.size (fun y => if y = ".0" then some (.ref it) else none) → Heap.SameBut s₄.heap.objs.size (s₄.heap.push { cls := .type "frame", data := .dict #[] }) h' →
          Q' (.ref h'.objs.size) { s₄ with
            gens := s₄.gens.push (.fresh (.compStart (.GeneratorExp elt [⟨tg, iter, ifs, 0⟩] scope gpos) 0 (.ref it) .none (genEnv scope (cloFrom X.env.cells scope.names []) s₄.heap.objs.size code bi X.env))),
            toks := s₄.toks + 1 + 1 + 1,
            heap := h'.push { cls := .type "generator", data := .fields #[.int s₄.gens.size 0, .str "<genexpr>" (s₄.toks + 1), .str (X.env.qual ++ "<genexpr>") (s₄.toks + 1 + 1)] } }) X.xe { s2 with heap := h3, toks := tk } := by
    intro code h3 tk ps' hx hP3 hmore ht3
    obtain ⟨more, em⟩ := hmore
    have I3 : Inv X pins σ (upd H2 P (.tbl (ps ++ more))) { s2 with heap := h3, gens := s2.gens, drawn := s2.drawn, toks := tk } :=
      GxR.inv_tab I2 hP (fun b u hb e => hx b u hb e) (by rw [← em]; exact hP3) I2.bare
    generalize hsc : ({ s2 with heap := h3, gens := s2.gens, drawn := s2.drawn, toks := tk } : Shared) = sc at I3
    have hh3 : sc.heap = h3 := by rw [← hsc]
    generalize hH3 : upd H2 P (.tbl (ps ++ more)) = H3 at I3
    have tab : GxR.Tabbed P H2 H3 := by rw [← hH3]; exact ⟨⟨ps ++ more, upd_same, by rw [← em]; exact ht3⟩, fun b hb => upd_ne hb⟩
    obtain ⟨bm, ob, e1, e2, e3, e4, e5, e6, e7, e8⟩ := TB.bm
    refine wpAny_builtinsFor (m := X.mg) (by rw [I3.ok.glob]; exact I3.mod.glob.keeps I3.bk) e1 e2 (I3.bk _ _ e5) e6 e7 e8 ?_
    intro h' hns hsb
    obtain ⟨W, ⟨m0, w0⟩, turn⟩ := q H3 tab
    have st3 : tn 0 sc.heap := T.keep _ _ _ st2 fun b hb o e => by rw [hh3]; exact hx b o (fpne b hb) e
    have f3 : ∀ b ∈ fp, FpOk X pins H3 b ∧ b < sc.heap.objs.size := fun b hb => by
      obtain ⟨o, e, _⟩ := T.obj _ _ st3 b hb
      exact ⟨⟨(tab.2 b (fpne b hb)).trans (f2 b hb).1, (f2 b hb).2⟩, Heap.lt_size e⟩
    have hsz : h'.objs.size = sc.heap.objs.size + 1 := by rw [hsb.1, Heap.size_push]
    have kp1 : ∀ b o, sc.heap.get? b = some o → h'.get? b = some o := fun b o e => hsb.extBut b o (Nat.ne_of_lt (Heap.lt_size e)) (Heap.get?_push_of_some _ e)
    have limc : sc.heap.NoLimit := I3.nolimit
    have main : ∀ (go : Obj) (nm qn : Value) (tk2 : Nat), go.cls = .type "generator" → go.data = .fields #[.int sc.gens.size 0, nm, qn] → go.slots = #[] → (∀ h : Heap, (h.push go).get? h.objs.size = some go) →
        Q' (.ref h'.objs.size) { sc with gens := sc.gens.push (.fresh (.compStart (.GeneratorExp elt [⟨tg, iter, ifs, 0⟩] scope gpos) 0 (.ref it) .none (genEnv scope (cloFrom X.env.cells scope.names []) sc.heap.objs.size code builtinsNs X.env))), toks := tk2, heap := h'.push go } := by
      intro go nm qn tk2 hgc hgd0 hgs hgp
      have hgen : ∀ h : Heap, h.get? h'.objs.size = some go → h.IsGen h'.objs.size sc.gens.size := fun h e => ⟨go, nm, qn, e, hgc, hgd0, hgs⟩
      have hgd : ∀ v, go.data ≠ .cell v := fun v q => by rw [hgd0] at q; cases q
      have kp5 : ∀ b o, sc.heap.get? b = some o → (h'.push go).get? b = some o := fun b o e => Heap.get?_push_of_some _ (kp1 b o e)
      refine hQ H3 sc fp _ _ I3 (fun b hb => ⟨(f3 b hb).1.2.2.2.1, (f3 b hb).1.2.1, (f3 b hb).1.2.2.2.2.1, (f3 b hb).1.2.2.2.2.2⟩) ⟨h'.objs.size, sc.gens.size, _, rfl, by omega, by show _ < (h'.push go).objs.size; rw [Heap.size_push]; exact Nat.lt_succ_self _, hgen _ (hgp _), Array.getElem?_push_size .., ⟨go, hgp _, hgen, hgd⟩, rfl, AllBare.push I3.bare rfl, limc.keeps kp5, kp5, ?_⟩
      intro A S C gp s9 hrA hfr hC hgn hgp9 hSy hk9 hS9 hos9 hba9
      obtain ⟨oS, eS, hCo⟩ := hS9
      have kp9 : ∀ b o, sc.heap.get? b = some o → s9.heap.get? b = some o := fun b o e => hk9 b o (kp5 b o e)
      have hns9 : s9.heap.Ns sc.heap.objs.size (fun y => if y = ".0" then some (.ref it) else none) := hns.keeps fun b o e => hk9 b o (Heap.get?_push_of_some _ e)
      have I9 := gen_start (A := A) (gp := gp) (pl := [(S, oS)]) (cenv := genEnv scope (cloFrom X.env.cells scope.names []) sc.heap.objs.size code builtinsNs X.env) (s2 := s9) I3 ok hN hnc f3 hrA.hd hfr rfl kp9 hns9 hos9 hba9 (fun p hp => by
        rcases List.mem_append.mp hp with hp | hp
        · exact ⟨(hgp9 p hp).2.2.1, (hgp9 p hp).2.1, (hgp9 p hp).2.2.2⟩
        · rw [List.mem_singleton.mp hp]
          exact ⟨eS, hSy, hC _ _ hCo⟩)
      have hSf : S ∉ fp := fun z => absurd (Nat.lt_trans hSy (f3 S z).2) (Nat.lt_irrefl _)
      have hAp : Apart (gcx X A sc H3 (genEnv scope (cloFrom X.env.cells scope.names []) sc.heap.objs.size code builtinsNs X.env) fp gp) S := by
        refine ⟨Nat.le_of_lt hSy, Nat.ne_of_gt hSy, fun y cc e z => ?_⟩
        obtain ⟨v, ob, ho, _⟩ := I9.cell y cc e
        have e' : (cloFrom X.env.cells scope.names []).lookup y = some cc := e
        rcases cloFrom_mem (PySem.mem_of_lookup e') with hm | ⟨h1, h2⟩
        · cases hm
        · obtain ⟨c2, hc2⟩ := hfree _ h1 rfl
          obtain ⟨w, z2⟩ := I3.cell _ _ hc2
          have h3 : cc = c2 := by rw [h2, hc2]; rfl
          have hl : c2 < sc.heap.objs.size := z2.lt
          rw [← h3, z] at hl
          exact absurd (Nat.lt_trans hSy hl) (Nat.lt_irrefl _)
      exact seg_start hC hY hgn (fun p hp => ⟨(hgp9 p hp).1, fun z => absurd (Nat.lt_trans (hgp9 p hp).2.1 (f3 _ z).2) (Nat.lt_irrefl _)⟩) hSf hAp hco T (hg A sc H3 _ _ _ fp gp) (ht A sc H3 _ _ _ fp gp (hrA.deeper _)) (he A sc H3 _ _ _ fp gp (hrA.deeper _)) turn w0
        ⟨oS, hCo, I9⟩ (T.keep _ _ _ st3 fun b hb o e => kp9 b o e) (fun b hb => (f3 b hb).1.1) fun _ e => e
    exact main _ _ _ _ rfl rfl rfl fun h => Heap.get?_push_size _ rfl
  cases hf : codeAmong gpos ps.toList with
  | none =>
    refine wpAny_genexprCodeX hcode (cd.code hPs htr) (cd.tab hPs) hf fun c' h' tk hx hge hlt hco' _ htab' _ => ?_
    obtain ⟨o1, vs, f1, tf, fl, tg, inF, tx, tt, op, _, _, _, _, _, _, _, _, _, htr', _⟩ := hco'
    exact cont _ h' tk _ hx htab'.2 ⟨_, rfl⟩ htr'
  | some cv =>
    refine wpAny_genexprCode_hit hcode (cd.code hPs htr) hf ?_
    exact cont cv s2.heap s2.toks ps (Heap.ExtBut.refl _ _) hPs ⟨#[], by simp⟩ htr
end
end GE

set_option Elab.async false
set_option linter.all false
set_option maxRecDepth 100000
set_option maxHeartbeats 2000000
namespace GE
open PySem PySem.Spec PyProof.Rows L2 GenW
structure Out (P : Program) (w : World) (outer : List Env) (ex : List Addr) (H : Hp) (s : Shared) (S : Addr) (C : CO) (ys : List V) (H' : Hp) (s' : Shared) : Prop where
  os : s'.os = s.os
  bare : AllBare s'.gens
  un : Un (frs outer) ex H H' s.heap s'.heap
  hok : HOk P w H' s'.heap
  free : H' S = none
  own : ∃ o, s'.heap.get? S = some o ∧ C ys o
section
variable {P : Program} {w : World} {outer : List Env} {ex : List Addr} {H : Hp} {sc : Shared} {S a : Addr} {g : Nat} {C : CO} {Yo : YO} {En : EN}
def RdyX (P : Program) (w : World) (outer : List Env) (ex : List Addr) (H : Hp) (sc : Shared) (S a : Addr) (g : Nat) (C : CO) (Yo : YO) (En : EN) (A1 : Around) (m : Nat) (s : Shared) : Prop :=
  s.heap.IsGen a g ∧ s.heap.NoLimit ∧ ∃ gs, s.gens[g]? = some gs ∧ gs.Goes (model P w) A1 (REx P w outer ex H sc S a g C En) (GYx P w outer ex H sc S a g C Yo) m (.send .none) (s.setGen g .running)
theorem next_x {A0 : Around} {s : Shared} {m : Nat} {Q : Option Value → Shared → Prop} {E : Value → Shared → Prop} (hY : ∀ ys y H K K', (K → K') → Yo ys y H K → Yo ys y H K') (hh : A0.handled = none) (hd : A0.depth < recursionLimit)
    (hr : RdyX P w outer ex H sc S a g C Yo En A0.in1 m s)
    (hend : ∀ ys H' s', Out P w outer ex H sc S C ys H' s' → (∀ ob, s.heap.get? S = some ob → s'.heap.get? S = some ob) → ys.length ≤ sizeLine → En ys H' → Q none s')
    (hyl : ∀ ys x H' v s', RelV x v → Out P w outer ex H sc S C ys H' s' → s'.heap.NoLimit → s'.heap.IsGen a g → (∀ ob, s.heap.get? S = some ob → s'.heap.get? S = some ob) → ys.length < sizeLine →
      Yo ys x H' (∀ s'', s''.os = s'.os → s''.gens = s'.gens → (∀ b o, b ≠ S → s'.heap.get? b = some o → s''.heap.get? b = some o) → (∃ o, s''.heap.get? S = some o ∧ C (ys ++ [x]) o) → s''.heap.IsGen a g → s''.heap.NoLimit →
        ∃ k, m = k + 1 ∧ RdyX P w outer ex H sc S a g C Yo En A0.in1 k s'') → Q (some v) s') :
    wpAny (model P w) A0 (pyNext (.ref a)) Q E s := by
  obtain ⟨hg, hl, gs, hgs, hgo⟩ := hr
  have hgl : g < s.gens.size := (Array.getElem?_eq_some_iff.mp hgs).1
  refine wpAny_gsz (n := g + 1) hgl (next_genG (F := Fi P w outer ex H sc S a g C En) (Er := fun _ _ => False) hh hl hd hg hgs hgo (fun v s₁ gs' hbare hv => ?_) (fun s₁ hp h' hk => ?_) fun e s₁ he => he.elim)
  · intro hsz
    have hsz1 : g < s₁.gens.size := by
      have q : (s₁.setGen g gs').gens.size = s₁.gens.size := setGen_size _ _ _
      have hsz' : g + 1 ≤ (s₁.setGen g gs').gens.size := hsz
      omega
    obtain ⟨ys, x, H', hn, rv, h0, M, hyo⟩ := hv
    refine hyl ys x H' v _ rv ⟨M.os, allBare_setGen M.bare hbare, M.un, M.hok, M.free, M.own⟩ M.lim M.gen h0 (by omega) (hY _ _ _ _ _ (fun hk s'' h1 h2 h3 h4 h5 h6 => ?_) hyo)
    have z := hk (s''.setGen g .running) ⟨h1, allBare_setGen (by rw [h2]; exact allBare_setGen M.bare hbare) rfl, h3, h4⟩
    cases m with
    | zero => exact False.elim z
    | succ k => exact ⟨k, rfl, h5, h6, gs', by rw [h2]; exact setGen_at hsz1, z⟩
  · intro _
    obtain ⟨ys, H', hn, h0, M, he⟩ := hp
    obtain ⟨o, eS, hCo⟩ := M.own
    exact hend ys H' _ ⟨M.os, allBare_setGen M.bare rfl, M.un.trans (Un.kept hk), M.hok.kept hk, M.free, o, hk _ _ eS, hCo⟩ (fun ob e => hk _ _ (h0 ob e)) (by omega) he

/-! ### all, any -/
def YAll (Qf : Hp → Prop) : YO := fun _ y H K => ∃ b, y = .bl b ∧ (b = true → K) ∧ (b = false → Qf H)
def YAny (Qt : Hp → Prop) : YO := fun _ y H K => ∃ b, y = .bl b ∧ (b = false → K) ∧ (b = true → Qt H)
theorem YAll.mono {Qf : Hp → Prop} : ∀ ys y H K K', (K → K') → YAll Qf ys y H K → YAll Qf ys y H K' := fun _ _ _ _ _ f ⟨b, e, h1, h2⟩ => ⟨b, e, fun z => f (h1 z), h2⟩
theorem YAny.mono {Qf : Hp → Prop} : ∀ ys y H K K', (K → K') → YAny Qf ys y H K → YAny Qf ys y H K' := fun _ _ _ _ _ f ⟨b, e, h1, h2⟩ => ⟨b, e, fun z => f (h1 z), h2⟩
theorem all_loop {A : Around} {R : Result → Shared → Prop} {go : Obj} {Qf : Hp → Prop} (hh : A.handled = none) (hd : A.depth < recursionLimit)
    (hT : ∀ ys H' s', Out P w outer ex H sc a (fun _ o => o = go) ys H' s' → En ys H' → R (.ok (.ret (.bool true))) s') (hF : ∀ ys H' s', Out P w outer ex H sc a (fun _ o => o = go) ys H' s' → Qf H' → R (.ok (.ret (.bool false))) s') :
    ∀ (m : Nat) (s : Shared), RdyX P w outer ex H sc a a g (fun _ o => o = go) (YAll Qf) En A.in1.in1 m s → codeAny (model P w) A (.builtin "all.loop" ⟨[.ref a], []⟩) R s := by
  intro m
  induction m using Nat.strongRecOn with
  | ind m ih =>
    intro s hr
    refine codeAny_builtin F.entry_all_loop ?_
    rw [Around.under_plainId F.plain_all_loop _]
    show wpAny _ A.in1 (pyNext (.ref a) >>= _) _ _ s
    refine wpAny_bind (next_x (A0 := A.in1) YAll.mono hh hd hr (fun ys H' s' O _ _ he => ?_) fun ys x H' v s' rv O hl hg _ hlt hy => ?_)
    · exact wpAny_bind (wpAny_rule (wpAny_pure (hT ys H' s' O he)))
    · obtain ⟨b, rfl, h1, h2⟩ := hy
      obtain rfl : v = Value.bool b := rv
      refine wpAny_bind (wpAny_holding (wpAny_truthy_bool ?_))
      refine wpAny_bind (wpAny_letGo ?_)
      cases b with
      | true =>
        simp only [if_true]
        obtain ⟨k, rfl, hr'⟩ := h1 rfl s' rfl rfl (fun _ _ _ e => e) O.own hg hl
        exact wpAny_pure ⟨plainId_quiet F.plain_all_loop _, ih k (Nat.lt_succ_self k) s' hr'⟩
      | false =>
        simp only [Bool.false_eq_true, if_false]
        exact wpAny_bind (wpAny_rule (wpAny_pure (hF ys H' s' O (h2 rfl))))
theorem any_loop {A : Around} {R : Result → Shared → Prop} {go : Obj} {Qt : Hp → Prop} (hh : A.handled = none) (hd : A.depth < recursionLimit)
    (hF : ∀ ys H' s', Out P w outer ex H sc a (fun _ o => o = go) ys H' s' → En ys H' → R (.ok (.ret (.bool false))) s') (hT : ∀ ys H' s', Out P w outer ex H sc a (fun _ o => o = go) ys H' s' → Qt H' → R (.ok (.ret (.bool true))) s') :
    ∀ (m : Nat) (s : Shared), RdyX P w outer ex H sc a a g (fun _ o => o = go) (YAny Qt) En A.in1.in1 m s → codeAny (model P w) A (.builtin "any.loop" ⟨[.ref a], []⟩) R s := by
  intro m
  induction m using Nat.strongRecOn with
  | ind m ih =>
    intro s hr
    refine codeAny_builtin F.entry_any_loop ?_
    rw [Around.under_plainId F.plain_any_loop _]
    show wpAny _ A.in1 (pyNext (.ref a) >>= _) _ _ s
    refine wpAny_bind (next_x (A0 := A.in1) YAny.mono hh hd hr (fun ys H' s' O _ _ he => ?_) fun ys x H' v s' rv O hl hg _ hlt hy => ?_)
    · exact wpAny_bind (wpAny_rule (wpAny_pure (hF ys H' s' O he)))
    · obtain ⟨b, rfl, h1, h2⟩ := hy
      obtain rfl : v = Value.bool b := rv
      refine wpAny_bind (wpAny_holding (wpAny_truthy_bool ?_))
      refine wpAny_bind (wpAny_letGo ?_)
      cases b with
      | false =>
        simp only [Bool.false_eq_true, if_false]
        obtain ⟨k, rfl, hr'⟩ := h1 rfl s' rfl rfl (fun _ _ _ e => e) O.own hg hl
        exact wpAny_pure ⟨plainId_quiet F.plain_any_loop _, ih k (Nat.lt_succ_self k) s' hr'⟩
      | true =>
        simp only [if_true]
        exact wpAny_bind (wpAny_rule (wpAny_pure (hT ys H' s' O (h2 rfl))))

/-! ### sum -/
def iv : V → Int
  | .int z => z
  | _ => 0
def isum (ys : List V) : Int := (ys.map iv).sum
theorem isum_snoc (ys : List V) (z : Int) : isum (ys ++ [.int z]) = isum ys + z := by
  unfold isum
  rw [List.map_append, List.sum_append]
  show _ + ([z] : List Int).sum = _
  rw [show ([z] : List Int).sum = z by simp]
def YSum : YO := fun ys y _ K => ∃ z, y = .int z ∧ (-(2 ^ 63) ≤ z ∧ z < 2 ^ 63) ∧ (-(2 ^ 63) ≤ isum ys + z ∧ isum ys + z < 2 ^ 63) ∧ K
theorem YSum.mono : ∀ ys y H K K', (K → K') → YSum ys y H K → YSum ys y H K' := fun _ _ _ _ _ f ⟨b, e, h1, h2, h3⟩ => ⟨b, e, h1, h2, f h3⟩
def CSum : CO := fun ys o => ∃ (t : Tok) (c : Nat), o = { cls := .type "list", dict := none, data := .seq #[.int (isum ys) t] c, slots := #[] }
theorem sum_loop {A : Around} {R : Result → Shared → Prop} (hh : A.handled = none) (hd : A.depth < recursionLimit) (hSa : S ≠ a) (hSc : S ≠ cStatics)
    (hT : ∀ ys H' s' t, Out P w outer ex H sc S CSum ys H' s' → En ys H' → R (.ok (.ret (.int (isum ys) t))) s') :
    ∀ (m : Nat) (s : Shared) (ys : List V), RdyX P w outer ex H sc S a g CSum YSum En A.in1.in1 m s → (∃ o, s.heap.get? S = some o ∧ CSum ys o) →
      codeAny (model P w) A (.builtin "sum.loop" ⟨[.ref a, .ref S, rawInt 0, rawInt 0], []⟩) R s := by
  have same : ∀ {zs ws : List V} {o : Obj}, CSum zs o → CSum ws o → isum zs = isum ws := fun {zs ws o} h1 h2 => by
    obtain ⟨t, c, e1⟩ := h1
    obtain ⟨t', c', e2⟩ := h2
    rw [e1] at e2
    have e3 := congrArg Obj.data e2
    injection e3 with e4 _
    have e5 := congrArg (fun v : Array Value => v[0]?) e4
    simp at e5
    exact e5.1
  intro m
  induction m using Nat.strongRecOn with
  | ind m ih =>
    intro s ys hr hS
    obtain ⟨o, eS, hCo⟩ := hS
    obtain ⟨t, c, eo⟩ := _root_.id hCo
    refine codeAny_builtin F.entry_sum_loop ?_
    rw [Around.under_plainId F.plain_sum_loop _]
    show wpAny _ A.in1 (seqItems? (.ref S) >>= _) _ _ s
    refine wpAny_bind (wpAny_seqItems eS (by rw [eo]) ?_)
    show wpAny _ A.in1 (tryCatch (pyNext (.ref a)) _ >>= _) _ _ s
    refine wpAny_bind (wpAny_tryCatch (next_x (A0 := A.in1) YSum.mono hh hd hr (fun zs H' s' O h0 _ he => ?_) fun zs x H' v s' rv O hl hg h0 hlt hy => ?_))
    · obtain ⟨o', eS', hCo'⟩ := O.own
      have eoo := h0 o eS
      rw [eS'] at eoo
      have : o' = o := Option.some.inj eoo
      rw [this] at hCo'
      have hsum := same hCo hCo'
      have := hT zs H' s' t O he
      rw [← hsum] at this
      exact wpAny_pure this
    · obtain ⟨o', eS', hCo'⟩ := O.own
      have eoo := h0 o eS
      rw [eS'] at eoo
      have e9 : o' = o := Option.some.inj eoo
      rw [e9] at hCo' eS'
      have hsum := same hCo hCo'
      obtain ⟨z, rfl, ⟨f1, f2⟩, ⟨f3, f4⟩, hk⟩ := hy
      obtain ⟨tz, rfl⟩ := (show ∃ t, v = Value.int z t from rv)
      rw [← hsum] at f3 f4
      have hc : ((decide (-(2 ^ 63) ≤ z) && decide (z < 2 ^ 63)) && (decide (-(2 ^ 63) ≤ isum ys + z) && decide (isum ys + z < 2 ^ 63))) = true := by
        simp only [Bool.and_eq_true, decide_eq_true_eq]
        exact ⟨⟨f1, f2⟩, f3, f4⟩
      show wpAny _ A.in1 (if (_ : Bool) = true then (mkInt (isum ys + z) >>= _) else _) _ _ _
      split
      · refine wpAny_bind (wpAny_mkInt ?_)
        show wpAny _ A.in1 (updateSeq S (fun _ => #[.int (isum ys + z) s'.toks]) >>= _) _ _ _
        refine wpAny_bind ?_
        have eS2 : s'.heap.get? S = some { cls := .type "list", dict := none, data := .seq #[.int (isum ys) t] c, slots := #[] } := by rw [eS', eo]
        have keep3 : ∀ b ob, b ≠ S → s'.heap.get? b = some ob → (s'.heap.update S (Obj.mapSeq (fun _ => #[.int (isum ys + z) s'.toks]))).get? b = some ob := fun b ob hb e => (Heap.get?_update_other _ _ (Ne.symm hb)).trans e
        refine wpAny_updateSeq eS2 rfl (wpAny_pure ⟨plainId_quiet F.plain_sum_loop _, ?_⟩)
        have own2 : ∃ o, (s'.heap.update S (Obj.mapSeq (fun _ => #[.int (isum ys + z) s'.toks]))).get? S = some o ∧ CSum (zs ++ [.int z]) o := ⟨_, Heap.get?_update_self _ eS2 rfl, s'.toks, _, by rw [isum_snoc, ← hsum]; rfl⟩
        obtain ⟨k, rfl, hr'⟩ := hk { s' with heap := s'.heap.update S (Obj.mapSeq (fun _ => #[.int (isum ys + z) s'.toks])), toks := s'.toks + 1 } rfl rfl keep3 own2 (by obtain ⟨og, nm, qn, ho, r⟩ := hg; exact ⟨og, nm, qn, keep3 a og (Ne.symm hSa) ho, r⟩)
          (by obtain ⟨mc, hns, hnn⟩ := hl; exact ⟨mc, hns.at' fun o e => keep3 _ o (Ne.symm hSc) e, hnn⟩)
        exact ih k (Nat.lt_succ_self k) _ (zs ++ [.int z]) hr' own2
      · rename_i hneg
        exact absurd hc hneg
end
end GE

set_option Elab.async false
set_option linter.all false
set_option maxRecDepth 100000
set_option maxHeartbeats 2000000
namespace GE
open PySem PySem.Spec PyProof.Rows L2 GenW
open Sem (wp)
open AutoSeq1 (wpAny_loadPart')
/-! ### a list filled -/
def CLst : CO := fun ys o => ∃ (acc : Array Value) (c : Nat), Vals ys acc.toList ∧ o = lstObj acc c
def YItm : YO := fun _ _ _ K => K
theorem YItm.mono : ∀ ys y H K K', (K → K') → YItm ys y H K → YItm ys y H K' := fun _ _ _ _ _ f h => f h
section
variable {P : Program} {w : World} {outer : List Env} {ex : List Addr} {H : Hp} {sc : Shared} {S a : Addr} {g : Nat} {En : EN}
theorem lst_loop {A : Around} {R : Result → Shared → Prop} {res : Value} (hh : A.handled = none) (hd : A.depth < recursionLimit) (hSa : S ≠ a) (hSc : S ≠ cStatics)
    (hT : ∀ ys H' s', Out P w outer ex H sc S CLst ys H' s' → ys.length ≤ sizeLine → En ys H' → R (.ok (.ret res)) s') :
    ∀ (m : Nat) (s : Shared), RdyX P w outer ex H sc S a g CLst YItm En A.in1.in1 m s → codeAny (model P w) A (.builtin "list.extend.loop" ⟨[.ref S, .ref a, res], []⟩) R s := by
  intro m
  induction m using Nat.strongRecOn with
  | ind m ih =>
    intro s hr
    refine codeAny_builtin F.entry_extend_loop ?_
    rw [Around.under_plainId F.plain_extend_loop _]
    show wpAny _ A.in1 (pyNext (.ref a) >>= _) _ _ s
    refine wpAny_bind (next_x (A0 := A.in1) YItm.mono hh hd hr (fun zs H' s' O h0 hle he => ?_) fun zs x H' v s' rv O hl hg h0 hlt hk => ?_)
    · exact wpAny_pure (hT zs H' s' O hle he)
    · obtain ⟨o', eS', acc, c, r, eo⟩ := O.own
      rw [eo] at eS'
      have hsz : acc.size = zs.length := by
        have e1 := r.length
        have e2 : acc.toList.length = acc.size := by simp
        omega
      show wpAny _ A.in1 (updateSeq S (·.push v) >>= _) _ _ _
      refine wpAny_bind ?_
      have keep3 : ∀ b ob, b ≠ S → s'.heap.get? b = some ob → (s'.heap.update S (Obj.mapSeq (·.push v))).get? b = some ob := fun b ob hb e => (Heap.get?_update_other _ _ (Ne.symm hb)).trans e
      refine wpAny_updateSeq eS' rfl (wpAny_pure ⟨plainId_quiet F.plain_extend_loop _, ?_⟩) (by omega) (by show (acc.push v).size ≤ sizeLine + 1; rw [Array.size_push]; omega)
      obtain ⟨k, rfl, hr'⟩ := hk { s' with heap := s'.heap.update S (Obj.mapSeq (·.push v)) } rfl rfl keep3 ⟨_, Heap.get?_update_self _ eS' rfl, acc.push v, _, by rw [Array.toList_push]; exact r.append (.cons rv .nil), rfl⟩
        (by obtain ⟨og, nm, qn, ho, r⟩ := hg; exact ⟨og, nm, qn, keep3 a og (Ne.symm hSa) ho, r⟩) (by obtain ⟨mc, hns, hnn⟩ := hl; exact ⟨mc, hns.at' fun o e => keep3 _ o (Ne.symm hSc) e, hnn⟩)
      exact ih k (Nat.lt_succ_self k) _ hr'
end
/-- a generator that has not begun, collected -/
theorem collect_x {X : Cx} {k : Nat} {H : Hp} {sc s : Shared} {fp : List Addr} {En : EN} {u : Value} {A : Around} {Q : List Value → Shared → Prop} {E : Value → Shared → Prop} (hr : Room (k + 1) A.in1.in1) (hfr : A.in1.in1.frames = some X.stack) (hM : MadeX X k H sc fp YItm En u s)
    (hQ : ∀ ys H' s' acc, Out X.prog X.w X.stack fp H sc s.heap.objs.size CLst ys H' s' → Vals ys acc → ys.length ≤ sizeLine → En ys H' → Q acc s') : wpAny (model X.prog X.w) A (collect u) Q E s := by
  obtain ⟨a, g, c, rfl, ha1, ha2, hg, hgs, ⟨go, hgo, hgen, hgd⟩, hos, hb, hl, hkp, wake⟩ := hM
  have hcl : cStatics < s.heap.objs.size := let ⟨_, hn, _⟩ := hl; hn.lt
  have hSc : s.heap.objs.size ≠ cStatics := Nat.ne_of_gt hcl
  have hSI : s.heap.objs.size ≠ a := Nat.ne_of_gt ha2
  unfold collect
  refine wpAny_bind (wpAny_runValue (codeAny_builtin F.entry_proto_collect ?_))
  rw [Around.under_plainId F.plain_proto_collect _]
  show wpAny _ A.in1 (newList [] >>= fun l => again (.builtin "list.__iadd__" ⟨[l, .ref a], []⟩)) _ _ s
  refine wpAny_bind (wpAny_newObj_type ?_)
  refine wpAny_pure ⟨plainId_quiet F.plain_list_iadd _, codeAny_builtin F.entry_list_iadd ?_⟩
  rw [Around.under_plainId F.plain_list_iadd _]
  have k1 : ∀ b o, s.heap.get? b = some o → (s.heap.push { cls := .type "list", data := .seq ([] : List Value).toArray }).get? b = some o := fun b o e => Heap.get?_push_of_some _ e
  have gty : ∀ {h : Heap}, (∀ b o, s.heap.get? b = some o → h.get? b = some o) → h.IsGen a g := fun {h} q => hg.keeps q
  show wpAny _ A.in1 (Builtin.List.listExtendWith (.ref s.heap.objs.size) (.ref a) (.ref s.heap.objs.size)) _ _ _
  unfold Builtin.List.listExtendWith
  refine wpAny_bind (wpAny_typeOf (Heap.IsGen.typeIs (s := { s with heap := _ }) (gty k1)) ?_)
  have h1 : Builtin.List.listSameRef (.ref s.heap.objs.size) (.ref a) = false := by simp [Builtin.List.listSameRef, hSI]
  have h2 : (Value.type "generator" == Value.type "list") = false := by decide
  have h3 : (Value.type "generator" == Value.type "tuple") = false := by decide
  simp only [h1, h2, h3, Bool.or_false, Bool.false_eq_true, if_false]
  refine wpAny_bind (wpAny_pyIter_gen (s := { s with heap := _ }) (gty k1) ?_)
  refine wpAny_bind (wpAny_holding ?_)
  unfold Builtin.List.listLengthHint
  refine wpAny_bind (wpAny_specialOf (Heap.IsGen.typeIs (s := { s with heap := _ }) (gty k1)) F.gen_no_len ?_)
  show wpAny _ A.in1 (specialOf (Value.ref a) (Str.ofString "__length_hint__") >>= _) _ _ _
  refine wpAny_bind (wpAny_specialOf (Heap.IsGen.typeIs (s := { s with heap := _ }) (gty k1)) F.gen_no_hint ?_)
  refine wpAny_pure ?_
  show wpAny _ A.in1 (rule "list.extend.makes-room" >>= fun _ => Builtin.List.listTouch (.ref s.heap.objs.size) >>= fun _ =>
    again (.builtin "list.extend.loop" ⟨[.ref s.heap.objs.size, .ref a, .ref s.heap.objs.size], []⟩)) _ _ _
  refine wpAny_bind (wpAny_rule ?_)
  have hS₁ : (s.heap.push { cls := .type "list", data := .seq ([] : List Value).toArray }).get? s.heap.objs.size = some { cls := .type "list", data := .seq ([] : List Value).toArray } := Heap.get?_push_size _ rfl
  refine wpAny_bind ?_
  show wpAny _ A.in1 (updateSeq s.heap.objs.size (·.push .none) >>= fun _ => updateSeq s.heap.objs.size (·.pop)) _ _ _
  refine wpAny_bind (wpAny_updateSeq hS₁ rfl ?_)
  have hS₂ := Heap.get?_update_self (Obj.mapSeq (·.push Value.none)) hS₁ rfl
  refine wpAny_updateSeq hS₂ rfl ?_
  have hS₃ := Heap.get?_update_self (Obj.mapSeq (·.pop)) hS₂ rfl
  have k3 : ∀ b o, s.heap.get? b = some o →
      (((s.heap.push { cls := .type "list", data := .seq ([] : List Value).toArray }).update s.heap.objs.size (Obj.mapSeq (·.push Value.none))).update s.heap.objs.size (Obj.mapSeq (·.pop))).get? b = some o :=
    fun b o e => (Heap.get?_update_other _ _ (Ne.symm (Nat.ne_of_lt (Heap.lt_size e)))).trans ((Heap.get?_update_other _ _ (Ne.symm (Nat.ne_of_lt (Heap.lt_size e)))).trans (k1 b o e))
  refine wpAny_pure ⟨plainId_quiet F.plain_extend_loop _, lst_loop (A := A) (P := X.prog) (w := X.w) (outer := X.stack) (ex := fp) (H := H) (sc := sc) (En := En) (g := g) (show A.handled = none from hr.hd) (by have := hr.dp; show A.depth < _; have : A.in1.in1.depth = A.depth := rfl; omega) hSI hSc (fun ys H' s' O hle he => ?_) sizeLine _ ⟨gty k3, hl.keeps k3, _, hgs, rfl, ?_⟩⟩
  · obtain ⟨o, eS, acc, c', r, eo⟩ := _root_.id O.own
    rw [eo] at eS
    show wpAny _ A (load s.heap.objs.size >>= _) _ _ s'
    refine wpAny_bind (wpAny_load eS ?_)
    exact wpAny_pure (hQ ys H' s' acc.toList O r hle he)
  · refine wake A.in1.in1 s.heap.objs.size CLst [(a, go)] _ hr hfr (fun ys o hc v => ?_) (fun s' ys o e1 e2 e3 => hgen _ (e3 (a, go) (List.mem_singleton.mpr rfl))) (fun p hp => ?_) (Nat.lt_trans ha1 ha2) (fun b o e => k3 b o e) ⟨_, hS₃, #[], _, .nil, rfl⟩ hos (allBare_setGen (s := { s with heap := _ }) hb rfl)
    · obtain ⟨acc, cc, _, eo⟩ := hc
      rw [eo]
      exact fun z => by cases z
    · rw [List.mem_singleton.mp hp]
      exact ⟨Ne.symm hSI, ha1, k3 _ _ hgo, hgd⟩
theorem tuple_new_x {X : Cx} {k : Nat} {H : Hp} {sc s : Shared} {fp : List Addr} {En : EN} {u : Value} {A : Around} {Q₁ : Value → Shared → Prop} {E : Value → Shared → Prop} (hr : Room (k + 1) A.in1.in1.in1) (hfr : A.in1.in1.in1.frames = some X.stack) (hM : MadeX X k H sc fp YItm En u s)
    (hQ : ∀ ys H' s' acc, Out X.prog X.w X.stack fp H sc s.heap.objs.size CLst ys H' s' → Vals ys acc → ys.length ≤ sizeLine → En ys H' → Q₁ (.ref s'.heap.objs.size) { s' with heap := s'.heap.push { cls := .type "tuple", data := .seq acc.toArray } }) :
    codeAny (model X.prog X.w) A (.call (.builtin "tuple.__new__") ⟨[.type "tuple", u], []⟩) (wants Q₁ E) s := by
  have hM' := hM
  obtain ⟨a, g, c, rfl, ha1, ha2, hg, hgs, ⟨go, hgo, hgen, hgd⟩, hos, hb, hl, hkp, wake⟩ := hM'
  refine codeAny_of_tree ?_
  show wpAny _ A.in1 (do checkBuiltinCall "tuple.__new__" ⟨[.type "tuple", .ref a], []⟩; again (.builtin "tuple.__new__" ⟨[.type "tuple", .ref a], []⟩)) _ _ s
  refine wpAny_bind (wpAny_of_eq (F.newCall_tuple_1 _) (wpAny_pure ⟨plainId_quiet F.plain_tuple_new _, codeAny_builtin F.entry_tuple_new ?_⟩))
  rw [Around.under_plainId F.plain_tuple_new _]
  have hsub := sub_tuple_self
  have hinit := init_tuple_lookup
  have hmh := madeHere_tuple
  have hTI : s.TypeIs (.ref a) "generator" := hg.typeIs
  wp_walk using wpAny_typeOf hTI, collect_x hr hfr hM
  intro ys H' s' acc O r hle he
  show wpAny _ _ (Builtin.Tuple.tupleExact acc.toArray >>= fun v => ret v) _ _ _
  unfold Builtin.Tuple.tupleExact
  have hsz : acc.toArray.size ≤ sizeLine := by
    have e1 := r.length
    rw [List.size_toArray]; omega
  refine wpAny_bind (wpAny_newObj_type ?_ hsz)
  exact wpAny_pure (hQ ys H' s' acc O r hle he)
theorem call_tuple_x {X : Cx} {k : Nat} {H : Hp} {sc s : Shared} {fp : List Addr} {En : EN} {u : Value} {A : Around} {Q : Value → Shared → Prop} {E : Value → Shared → Prop} (hr : Room (k + 1) A.in1.in1.in1.in1) (hfr : A.in1.in1.in1.in1.frames = some X.stack) (hM : MadeX X k H sc fp YItm En u s)
    (hQ : ∀ ys H' s' acc, Out X.prog X.w X.stack fp H sc s.heap.objs.size CLst ys H' s' → Vals ys acc → ys.length ≤ sizeLine → En ys H' → Q (.ref s'.heap.objs.size) { s' with heap := s'.heap.push { cls := .type "tuple", data := .seq acc.toArray } }) :
    wpAny (model X.prog X.w) A (call (.type "tuple") [u]) Q E s := by
  obtain ⟨a, _, _, rfl, _⟩ := _root_.id hM
  refine callType_codes (Q₁ := fun obj s₁ => s₁.TypeIs obj "tuple" ∧ Q obj s₁) F.called_tuple (F.typeCall_tuple_1 _) F.entry_object_init
    (tuple_new_x hr hfr hM fun ys H' s' acc O r hle he => ⟨⟨_, Heap.get?_push_size _ rfl, rfl⟩, hQ ys H' s' acc O r hle he⟩) fun obj s₁ h₁ => ?_
  exact ⟨h₁.1, F.args_object_init_2 obj _, object_init_meets F.called_tuple.init.lookup F.called_tuple.made (by decide) _ _ A.in1 _ s₁ ⟨h₁.1, rfl, h₁.2⟩⟩
end GE

set_option Elab.async false
set_option linter.all false
set_option maxRecDepth 100000
set_option maxHeartbeats 2000000
namespace GE
open PySem PySem.Spec PyProof.Rows L2 GenW
section
variable {X : Cx}
theorem back {pins : List (Addr × Obj)} {σ : L2.St} {H2 H' : Hp} {sc s' : Shared} {fp : List Addr} {S : Addr} {C : CO} {ys : List V} (I : Inv X pins σ H2 sc) (hex : ExOk X pins fp) (O : Out X.prog X.w X.stack fp H2 sc S C ys H' s') : Inv X pins σ H' s' :=
  I.call' (ch := fp) O.os O.un O.hok O.bare hex
variable {c P : Addr} {elt iter tg : Expr} {ifs : List Expr} {gpos p pos : Pos} {scope : Scope} {own : List (Str × Nat)} {wi : TI} {g : TG} {tt : TT} {te : TE} {k : Nat}
def tAllG (wi : TI) (g : TG) (tt : TT) (te : TE) (vs : List Nat) (P : Addr) : TE := fun σ H Q => tGx wi g tt te vs P (YAll fun H' => Q (.bl false) H') (fun _ H' => Q (.bl true) H') σ H
def tAnyG (wi : TI) (g : TG) (tt : TT) (te : TE) (vs : List Nat) (P : Addr) : TE := fun σ H Q => tGx wi g tt te vs P (YAny fun H' => Q (.bl true) H') (fun _ H' => Q (.bl false) H') σ H
def tSumG (wi : TI) (g : TG) (tt : TT) (te : TE) (vs : List Nat) (P : Addr) : TE := fun σ H Q => tGx wi g tt te vs P YSum (fun ys H' => Q (.int (isum ys)) H') σ H
def tTupG (wi : TI) (g : TG) (tt : TT) (te : TE) (vs : List Nat) (P : Addr) : TE := fun σ H Q => tGx wi g tt te vs P YItm (fun ys H' => ∀ q, H' q = none → Q (.ref q) (upd H' q (.tup ys))) σ H
/-- what a genexpr's block asks -/
structure GBlk (X : Cx) (scope : Scope) (own : List (Str × Nat)) : Prop where
  ok : BlkOk X.N X.env.scope scope own
  nc : ∀ y ∈ scope.names, y.2 ≠ .cell
  co : scope.isCoroutine = false
  dot : scope.names.lookup (".0" : Str) = some NameKind.local
def gblkC (N : List Str) (sc scope : Scope) (own : List (Str × Nat)) : Bool := blkC N sc scope own && (scope.names.all fun y => match y.2 with | .cell => false | _ => true) && (!scope.isCoroutine) && (match scope.names.lookup (".0" : Str) with | some .local => true | _ => false)
theorem gblk_by {N : List Str} {sc : Scope} (h : gblkC N sc scope own = true) (hN : X.N = N := by rfl) (hsc : X.env.scope = sc := by rfl) : GBlk X scope own := by
  unfold gblkC at h
  simp only [Bool.and_eq_true, List.all_eq_true] at h
  obtain ⟨⟨⟨h1, h2⟩, h3⟩, h4⟩ := h
  refine ⟨by rw [hN, hsc]; exact blkOk_by h1, fun y hy e => ?_, by simpa using h3, ?_⟩
  · have := h2 y hy
    rw [e] at this
    cases this
  · split at h4
    · assumption
    · cases h4
theorem pe_allG (hr : Room (k + 2) X.A) (hgl : Gl X "all") (hm : X.mg "all" = none) (hN : X.N.Nodup) (TB : GxR.TabB X.base X.mg c P) (hcode : X.env.code = .ref c) (hi : PI X tg iter wi) (B : GBlk X scope own)
    (hg : ∀ (A : Around) (s : Shared) (H : Hp) (C : Addr) (cl : List (Str × Addr)) (code : Value) (fp : List Addr) (gp : List (Addr × Obj)), PG (gcx X A s H (genEnv scope cl C code builtinsNs X.env) fp gp) tg g)
    (ht : ∀ (A : Around) (s : Shared) (H : Hp) (C : Addr) (cl : List (Str × Addr)) (code : Value) (fp : List Addr) (gp : List (Addr × Obj)), Room k (A.deeper (genEnv scope cl C code builtinsNs X.env)) → PTs (gcx X A s H (genEnv scope cl C code builtinsNs X.env) fp gp) ifs tt)
    (hel : ∀ (A : Around) (s : Shared) (H : Hp) (C : Addr) (cl : List (Str × Addr)) (code : Value) (fp : List Addr) (gp : List (Addr × Obj)), Room k (A.deeper (genEnv scope cl C code builtinsNs X.env)) → PE (gcx X A s H (genEnv scope cl C code builtinsNs X.env) fp gp) elt te)
    (hs : ∀ v, genFold iter X.env v = pure v := by intro _; rfl) (hb : bootBuiltins "all" = some (.builtin "all") := by decide +kernel)
    (he : starEach [.GeneratorExp elt [⟨tg, iter, ifs, 0⟩] scope gpos] X.env = (false, eval (.GeneratorExp elt [⟨tg, iter, ifs, 0⟩] scope gpos) X.env) :: starEach [] X.env := by rfl) :
    PE X (.Call (.Name "all" p) [.GeneratorExp elt [⟨tg, iter, ifs, 0⟩] scope gpos] [] pos) (tAllG wi g tt te (own.map (·.2)) P) := by
  refine ⟨fun pins s σ H Q I h => ?_⟩
  refine wpAny_Call_Name_kw (ld_blt I hgl hm hb ?_)
  refine PyProof.Rows.callWith_builtin1 ?_ he (by rfl)
  rw [he]
  show wpAny _ _ (spliced ((false, eval (.GeneratorExp elt [⟨tg, iter, ifs, 0⟩] scope gpos) X.env) :: backTo pos (starEach [] X.env))) _ _ s
  refine Calls.spliced_cons (gen_make hr hN TB hcode hi B.ok B.nc B.co B.dot hg ht hel YAll.mono hs I h fun H2 sc fp u s5 I2 hex hM => ?_)
  refine Calls.spliced_nil ?_
  obtain ⟨a, g, cc, rfl, ha1, ha2, hgn, hgs, ⟨go, hgo, hgen, hgd⟩, hos, hba, hl, hkp, wake⟩ := hM
  refine call_function_tree F.kind_all F.plain_all F.entry_all (F.args_all1 _) ?_
  unfold Builtin.«all»
  refine wpAny_bind (m := oneArg "all" _) (wpAny_pure ?_)
  refine wpAny_bind (wpAny_pyIter_gen hgn ?_)
  refine wpAny_pure ⟨plainId_quiet F.plain_all_loop _, all_loop (A := X.A) (P := X.prog) (w := X.w) (outer := X.stack) (ex := fp) (H := H2) (sc := sc) (g := g) (go := go) hr.hd (by have := hr.dp; omega)
    (fun ys H' s' O he => ⟨.bl true, H', back I2 hex O, rfl, he⟩) (fun ys H' s' O he => ⟨.bl false, H', back I2 hex O, rfl, he⟩) sizeLine s5 ⟨hgn, hl, _, hgs, rfl, ?_⟩⟩
  refine wake X.A.in1.in1 a (fun _ o => o = go) [] _ ⟨hr.hd, ?_, ?_⟩ I.ok.frames (fun _ o e v => by rw [e]; exact hgd v) (fun s' ys o e1 e2 _ => hgen _ (by rw [e1, e2])) (fun p hp => by simp at hp) ha1 (fun b o e => e) ⟨go, hgo, rfl⟩ hos (allBare_setGen hba rfl)
  · have := hr.dp
    show X.A.depth + 3 * (k + 1) + 5 < _
    omega
  · have := hr.un
    show X.A.units + 1 + 1 + 16 * (k + 1) + 200 < _
    omega
theorem pe_anyG (hr : Room (k + 2) X.A) (hgl : Gl X "any") (hm : X.mg "any" = none) (hN : X.N.Nodup) (TB : GxR.TabB X.base X.mg c P) (hcode : X.env.code = .ref c) (hi : PI X tg iter wi) (B : GBlk X scope own)
    (hg : ∀ (A : Around) (s : Shared) (H : Hp) (C : Addr) (cl : List (Str × Addr)) (code : Value) (fp : List Addr) (gp : List (Addr × Obj)), PG (gcx X A s H (genEnv scope cl C code builtinsNs X.env) fp gp) tg g)
    (ht : ∀ (A : Around) (s : Shared) (H : Hp) (C : Addr) (cl : List (Str × Addr)) (code : Value) (fp : List Addr) (gp : List (Addr × Obj)), Room k (A.deeper (genEnv scope cl C code builtinsNs X.env)) → PTs (gcx X A s H (genEnv scope cl C code builtinsNs X.env) fp gp) ifs tt)
    (hel : ∀ (A : Around) (s : Shared) (H : Hp) (C : Addr) (cl : List (Str × Addr)) (code : Value) (fp : List Addr) (gp : List (Addr × Obj)), Room k (A.deeper (genEnv scope cl C code builtinsNs X.env)) → PE (gcx X A s H (genEnv scope cl C code builtinsNs X.env) fp gp) elt te)
    (hs : ∀ v, genFold iter X.env v = pure v := by intro _; rfl) (hb : bootBuiltins "any" = some (.builtin "any") := by decide +kernel)
    (he : starEach [.GeneratorExp elt [⟨tg, iter, ifs, 0⟩] scope gpos] X.env = (false, eval (.GeneratorExp elt [⟨tg, iter, ifs, 0⟩] scope gpos) X.env) :: starEach [] X.env := by rfl) :
    PE X (.Call (.Name "any" p) [.GeneratorExp elt [⟨tg, iter, ifs, 0⟩] scope gpos] [] pos) (tAnyG wi g tt te (own.map (·.2)) P) := by
  refine ⟨fun pins s σ H Q I h => ?_⟩
  refine wpAny_Call_Name_kw (ld_blt I hgl hm hb ?_)
  refine PyProof.Rows.callWith_builtin1 ?_ he (by rfl)
  rw [he]
  show wpAny _ _ (spliced ((false, eval (.GeneratorExp elt [⟨tg, iter, ifs, 0⟩] scope gpos) X.env) :: backTo pos (starEach [] X.env))) _ _ s
  refine Calls.spliced_cons (gen_make hr hN TB hcode hi B.ok B.nc B.co B.dot hg ht hel YAny.mono hs I h fun H2 sc fp u s5 I2 hex hM => ?_)
  refine Calls.spliced_nil ?_
  obtain ⟨a, g, cc, rfl, ha1, ha2, hgn, hgs, ⟨go, hgo, hgen, hgd⟩, hos, hba, hl, hkp, wake⟩ := hM
  refine call_function_tree F.kind_any F.plain_any F.entry_any (F.args_any1 _) ?_
  unfold Builtin.«any»
  refine wpAny_bind (m := oneArg "any" _) (wpAny_pure ?_)
  refine wpAny_bind (wpAny_pyIter_gen hgn ?_)
  refine wpAny_pure ⟨plainId_quiet F.plain_any_loop _, any_loop (A := X.A) (P := X.prog) (w := X.w) (outer := X.stack) (ex := fp) (H := H2) (sc := sc) (g := g) (go := go) hr.hd (by have := hr.dp; omega)
    (fun ys H' s' O he => ⟨.bl false, H', back I2 hex O, rfl, he⟩) (fun ys H' s' O he => ⟨.bl true, H', back I2 hex O, rfl, he⟩) sizeLine s5 ⟨hgn, hl, _, hgs, rfl, ?_⟩⟩
  refine wake X.A.in1.in1 a (fun _ o => o = go) [] _ ⟨hr.hd, ?_, ?_⟩ I.ok.frames (fun _ o e v => by rw [e]; exact hgd v) (fun s' ys o e1 e2 _ => hgen _ (by rw [e1, e2])) (fun p hp => by simp at hp) ha1 (fun b o e => e) ⟨go, hgo, rfl⟩ hos (allBare_setGen hba rfl)
  · have := hr.dp
    show X.A.depth + 3 * (k + 1) + 5 < _
    omega
  · have := hr.un
    show X.A.units + 1 + 1 + 16 * (k + 1) + 200 < _
    omega
theorem pe_sumG (hr : Room (k + 2) X.A) (hgl : Gl X "sum") (hm : X.mg "sum" = none) (hN : X.N.Nodup) (TB : GxR.TabB X.base X.mg c P) (hcode : X.env.code = .ref c) (hi : PI X tg iter wi) (B : GBlk X scope own)
    (hg : ∀ (A : Around) (s : Shared) (H : Hp) (C : Addr) (cl : List (Str × Addr)) (code : Value) (fp : List Addr) (gp : List (Addr × Obj)), PG (gcx X A s H (genEnv scope cl C code builtinsNs X.env) fp gp) tg g)
    (ht : ∀ (A : Around) (s : Shared) (H : Hp) (C : Addr) (cl : List (Str × Addr)) (code : Value) (fp : List Addr) (gp : List (Addr × Obj)), Room k (A.deeper (genEnv scope cl C code builtinsNs X.env)) → PTs (gcx X A s H (genEnv scope cl C code builtinsNs X.env) fp gp) ifs tt)
    (hel : ∀ (A : Around) (s : Shared) (H : Hp) (C : Addr) (cl : List (Str × Addr)) (code : Value) (fp : List Addr) (gp : List (Addr × Obj)), Room k (A.deeper (genEnv scope cl C code builtinsNs X.env)) → PE (gcx X A s H (genEnv scope cl C code builtinsNs X.env) fp gp) elt te)
    (hs : ∀ v, genFold iter X.env v = pure v := by intro _; rfl) (hb : bootBuiltins "sum" = some (.builtin "sum") := by decide +kernel)
    (he : starEach [.GeneratorExp elt [⟨tg, iter, ifs, 0⟩] scope gpos] X.env = (false, eval (.GeneratorExp elt [⟨tg, iter, ifs, 0⟩] scope gpos) X.env) :: starEach [] X.env := by rfl) :
    PE X (.Call (.Name "sum" p) [.GeneratorExp elt [⟨tg, iter, ifs, 0⟩] scope gpos] [] pos) (tSumG wi g tt te (own.map (·.2)) P) := by
  refine ⟨fun pins s σ H Q I h => ?_⟩
  refine wpAny_Call_Name_kw (ld_blt I hgl hm hb ?_)
  refine PyProof.Rows.callWith_builtin1 ?_ he (by rfl)
  rw [he]
  show wpAny _ _ (spliced ((false, eval (.GeneratorExp elt [⟨tg, iter, ifs, 0⟩] scope gpos) X.env) :: backTo pos (starEach [] X.env))) _ _ s
  refine Calls.spliced_cons (gen_make hr hN TB hcode hi B.ok B.nc B.co B.dot hg ht hel YSum.mono hs I h fun H2 sc fp u s5 I2 hex hM => ?_)
  refine Calls.spliced_nil ?_
  obtain ⟨a, g, cc, rfl, ha1, ha2, hgn, hgs, ⟨go, hgo, hgen, hgd⟩, hos, hba, hl, hkp, wake⟩ := hM
  refine call_function_tree F.kind_sum F.plain_sum F.entry_sum (F.args_sum1 _) ?_
  unfold Builtin.«sum»
  simp only [List.length_cons, List.length_nil]
  rw [if_neg (by decide)]
  refine wpAny_bind (wpAny_of_eq (show Builtin.Builtins.bindParams "sum" ["start"] 0 { } = pure [none] from rfl) ?_)
  refine wpAny_bind (wpAny_pyIter_gen hgn ?_)
  refine wpAny_bind (wpAny_mkInt ?_)
  refine wpAny_bind (wpAny_pure ?_)
  simp only [List.forIn_cons, List.forIn_nil]
  refine wpAny_bind (wpAny_bind (wpAny_bind (wpAny_isInstance (T := "int") (b := false) (typeIs_int _ _ _) PySem.sub_int_str ?_)))
  simp only [Bool.false_eq_true, if_false]
  refine wpAny_pure (wpAny_bind (wpAny_bind (wpAny_isInstance (T := "int") (b := false) (typeIs_int _ _ _) PySem.sub_int_bytes ?_)))
  simp only [Bool.false_eq_true, if_false]
  refine wpAny_pure (wpAny_bind (wpAny_bind (wpAny_isInstance (T := "int") (b := false) (typeIs_int _ _ _) PySem.sub_int_bytearray ?_)))
  simp only [Bool.false_eq_true, if_false]
  refine wpAny_pure (wpAny_pure ?_)
  refine wpAny_bind (wpAny_newObj_type ?_)
  have hcl : cStatics < s5.heap.objs.size := let ⟨_, hn, _⟩ := hl; hn.lt
  have k1 : ∀ b o, s5.heap.get? b = some o → (s5.heap.push { cls := .type "list", data := .seq ([Value.int 0 s5.toks] : List Value).toArray }).get? b = some o := fun b o e => Heap.get?_push_of_some _ e
  have hS1 : (s5.heap.push { cls := .type "list", data := .seq ([Value.int 0 s5.toks] : List Value).toArray }).get? s5.heap.objs.size = some { cls := .type "list", data := .seq ([Value.int 0 s5.toks] : List Value).toArray } := Heap.get?_push_size _ rfl
  have hC0 : CSum [] { cls := .type "list", data := .seq ([Value.int 0 s5.toks] : List Value).toArray } := ⟨_, _, rfl⟩
  refine wpAny_pure ⟨plainId_quiet F.plain_sum_loop _, sum_loop (A := X.A) (P := X.prog) (w := X.w) (outer := X.stack) (ex := fp) (H := H2) (sc := sc) (g := g) (S := s5.heap.objs.size) hr.hd (by have := hr.dp; omega) (Nat.ne_of_gt ha2) (Nat.ne_of_gt hcl)
    (fun ys H' s' t O he => ⟨.int (isum ys), H', back I2 hex O, ⟨t, rfl⟩, he⟩) sizeLine _ [] ⟨hgn.keeps k1, hl.keeps k1, _, hgs, rfl, ?_⟩ ⟨_, hS1, hC0⟩⟩
  refine wake X.A.in1.in1 s5.heap.objs.size CSum [(a, go)] _ ⟨hr.hd, ?_, ?_⟩ I.ok.frames (fun _ o e v => by obtain ⟨t, c', e⟩ := e; rw [e]; exact fun z => by cases z) (fun s' ys o e1 e2 e3 => hgen _ (e3 (a, go) (List.mem_singleton.mpr rfl)))
    (fun p hp => by rw [List.mem_singleton.mp hp]; exact ⟨Nat.ne_of_lt ha2, ha1, k1 _ _ hgo, hgd⟩) (Nat.lt_trans ha1 ha2) (fun b o e => k1 b o e) ⟨_, hS1, hC0⟩ hos (allBare_setGen (s := { s5 with heap := _ }) hba rfl)
  · have := hr.dp
    show X.A.depth + 3 * (k + 1) + 5 < _
    omega
  · have := hr.un
    show X.A.units + 1 + 1 + 16 * (k + 1) + 200 < _
    omega
theorem pe_tupG (hr : Room (k + 2) X.A) (hgl : Gl X "tuple") (hm : X.mg "tuple" = none) (hN : X.N.Nodup) (TB : GxR.TabB X.base X.mg c P) (hcode : X.env.code = .ref c) (hi : PI X tg iter wi) (B : GBlk X scope own)
    (hg : ∀ (A : Around) (s : Shared) (H : Hp) (C : Addr) (cl : List (Str × Addr)) (code : Value) (fp : List Addr) (gp : List (Addr × Obj)), PG (gcx X A s H (genEnv scope cl C code builtinsNs X.env) fp gp) tg g)
    (ht : ∀ (A : Around) (s : Shared) (H : Hp) (C : Addr) (cl : List (Str × Addr)) (code : Value) (fp : List Addr) (gp : List (Addr × Obj)), Room k (A.deeper (genEnv scope cl C code builtinsNs X.env)) → PTs (gcx X A s H (genEnv scope cl C code builtinsNs X.env) fp gp) ifs tt)
    (hel : ∀ (A : Around) (s : Shared) (H : Hp) (C : Addr) (cl : List (Str × Addr)) (code : Value) (fp : List Addr) (gp : List (Addr × Obj)), Room k (A.deeper (genEnv scope cl C code builtinsNs X.env)) → PE (gcx X A s H (genEnv scope cl C code builtinsNs X.env) fp gp) elt te)
    (hs : ∀ v, genFold iter X.env v = pure v := by intro _; rfl) (hb : bootBuiltins "tuple" = some (.type "tuple") := by decide +kernel)
    (he : starEach [.GeneratorExp elt [⟨tg, iter, ifs, 0⟩] scope gpos] X.env = (false, eval (.GeneratorExp elt [⟨tg, iter, ifs, 0⟩] scope gpos) X.env) :: starEach [] X.env := by rfl) :
    PE X (.Call (.Name "tuple" p) [.GeneratorExp elt [⟨tg, iter, ifs, 0⟩] scope gpos] [] pos) (tTupG wi g tt te (own.map (·.2)) P) := by
  refine ⟨fun pins s σ H Q I h => ?_⟩
  refine wpAny_Call_Name_kw (ld_blt I hgl hm hb ?_)
  refine PyProof.Rows.callWith_type1 ?_ he (by rfl)
  rw [he]
  show wpAny _ _ (spliced ((false, eval (.GeneratorExp elt [⟨tg, iter, ifs, 0⟩] scope gpos) X.env) :: backTo pos (starEach [] X.env))) _ _ s
  refine Calls.spliced_cons (gen_make hr hN TB hcode hi B.ok B.nc B.co B.dot hg ht hel YItm.mono hs I h fun H2 sc fp u s5 I2 hex hM => ?_)
  refine Calls.spliced_nil ?_
  refine call_tuple_x (A := X.A) ⟨hr.hd, ?_, ?_⟩ I.ok.frames hM fun ys H' s' acc O r hle he => ?_
  · have := hr.dp
    show X.A.depth + 3 * (k + 1) + 5 < _
    omega
  · have := hr.un
    show X.A.units + 1 + 1 + 1 + 1 + 16 * (k + 1) + 200 < _
    omega
  · have J := back I2 hex O
    refine ⟨.ref s'.heap.objs.size, upd H' s'.heap.objs.size (.tup ys), ?_, rfl, he _ (O.hok.fresh (Nat.le_refl _))⟩
    exact J.laid (t' := s'.toks) (fun b o e => Heap.get?_push_of_some _ e) (Nat.le_refl _) ⟨hle, acc, r, IsTup.new s'.heap _⟩
end
end GE

set_option Elab.async false
set_option linter.all false
set_option maxRecDepth 100000
set_option maxHeartbeats 2000000
namespace GE
open PySem PySem.Spec PyProof.Rows L2
/-- a def whose code object stands at c -/
structure FunC (K : PySem.W.Frag) (x qual : Str) (st : Stmt) (f : Addr) (fd : FuncData) (c : Addr) : Prop where
  ex : ∃ (oc : Value) (od : Option Addr) (kV doc pm : Value) (an : Option Addr) (ct : Value) (osl : Array (Option Value)),
    fd = PySem.W.fnOf x qual (defArgs st) (defBody st) (defScope st) .none kV doc pm an (.ref c) ct ∧ K.lookup f = some ⟨oc, od, .func fd, osl⟩ ∧ PySem.W.codeIn K (.ref c) qual = true
  kp : PySem.W.keepIn K (.ref f) = true
section
variable {P : Program} {w : World} {K : PySem.W.Frag} {mg : Str → Option Value} {base : Heap}
theorem FunC.fun {x qual : Str} {st : Stmt} {f c : Addr} {fd : FuncData} (F : FunC K x qual st f fd c) : Fun K x qual st f fd := by
  obtain ⟨oc, od, kV, doc, pm, an, ct, osl, h1, h2, h3⟩ := F.ex
  exact ⟨⟨oc, od, kV, doc, pm, an, .ref c, ct, osl, h1, h2, h3⟩, F.kp⟩
theorem FunC.ok {x qual : Str} {st : Stmt} {f c : Addr} {fd : FuncData} {N ps : List Str} {k : Nat} {sp : Sp} (F : FunC K x qual st f fd c) (S : FnScope N ps (defScope st)) (len : ∀ vs H Q E, sp vs H Q E → vs.length = ps.length)
    (hbody : ∀ (A : Around) (outer : List Env) (s : Shared) (H : Hp) (vs : List V) (Q : VK) (E : XK), Room k (A.deeper (envOfC qual (defScope st) s.heap.objs.size f (.ref c))) → sp vs H Q E →
      ∃ t, PSs (cxOf CX0 P w K mg base N qual (defScope st) f (.ref c) A outer s H E).nox (defBody st) t ∧ t { nx := fun _ H' => Q .non H', rt := Q } (start N vs) H) : FnOk P w K mg base CX0 (k + 1) f fd ps sp := by
  obtain ⟨oc, od, kV, doc, pm, an, ct, osl, rfl, lk, hcd⟩ := F.ex
  refine fn_of lk hcd S len fun A outer s H vs Q E hr hsp => ?_
  obtain ⟨t, h, q⟩ := hbody A outer s H vs Q E hr hsp
  exact ⟨t, h.nox, q⟩
theorem funC_mk {x qual : Str} {st : Stmt} {f c : Addr} {oc : Value} {od an : Option Addr} {osl : Array (Option Value)} {kV doc pm ct : Value} (l : K.lookup f = some ⟨oc, od, .func (PySem.W.fnOf x qual (defArgs st) (defBody st) (defScope st) .none kV doc pm an (.ref c) ct), osl⟩)
    (cd : PySem.W.codeIn K (.ref c) qual = true) (k : PySem.W.keepIn K (.ref f) = true) : FunC K x qual st f (PySem.W.fnOf x qual (defArgs st) (defBody st) (defScope st) .none kV doc pm an (.ref c) ct) c := ⟨⟨oc, od, kV, doc, pm, an, ct, osl, rfl, l, cd⟩, k⟩
end
/-- the tables of the defs of the view -/
def TabsOf (q : Program) (K : PySem.W.Frag) (h : Heap) : Prop := ∀ (x : Str) (e : DefRec) (c P : Addr), (recsOf q).find? (fun e => e.name == x) = some e → PySem.W.tabIn K x = some (c, P) → PySem.W.CodeHd h c P ∧ h.get? P = some { cls := .none, data := .fields #[] }
theorem nT_of {K : PySem.W.Frag} {h : Heap} {P : Addr} (X : K.In h) (hK : PySem.W.noTabs K = true) (hP : h.get? P = some { cls := .none, data := .fields #[] }) : K.lookup P = none := by
  cases e : K.lookup P with
  | none => rfl
  | some o =>
    have e2 := X P o e
    rw [hP] at e2
    have h2 := List.all_eq_true.mp hK (P, o) (PySem.W.mem_of_lookupK e)
    cases e2
    exact absurd (show false = true from h2) Bool.false_ne_true
theorem walk_tab {l : PySem.W.OpenLaw} {n k : Nat} {q : Program} {loose : List Str} {XP : (Str → Option Value) → Heap → Prop} {YP : World → Heap → Prop} {d : DefRec} {K : Params → PySem.W.Frag} {CX : World → CXT} {x : Str}
    (hn : l.most = some n) (hn2 : n ≤ sizeLine) (hdf : d.params.defaults = []) (hr : Room k callerA) (hY : ∀ (w : World) (h : Heap), YP w h → (K w.params).In h)
    (F : ∀ (w : World) (mg : Str → Option Value) (fa : Addr) (h : Heap), (K w.params).In h → h.Ns mainGlobals mg → mg d.name = some (.ref fa) → TabsOf q (K w.params) h → LamX.LawAtS l w (K w.params) (CX w) k n x mg fa h)
    (hCX : ∀ (w : World) (H : Hp) (s : Shared) (e : Value) (s' : Shared), CX w [] H s (fun _ _ _ => False) e s' → False) :
    PySem.W.WalkO q loose XP YP l.row.toRowW d [] (fun f vs => PySem.call f vs) := by
  refine Att.attach_callB hn hdf fun w s₀ s₁ mg mb fa o pm cd doc a vs ns G Y ho hd hcd hmg hobj hints hlen hbits hg => ?_
  have KX := hY w _ Y
  obtain ⟨fd, cs, sp, hT, nT, C, hb, hsp, hF⟩ := F w mg fa _ KX G.T.g hmg fun x e c P h1 h2 => PySem.W.tab_of G.T KX h1 h2
  exact LamX.law_callTs KX G.T.g G.T.b G.T.builtins G.T.nolimit hg hT nT C G.T.bmain hobj hints (Nat.le_trans hlen hn2) hr hF hb (fun H hH hS => hsp H a ns hlen hbits hH hS) fun H e s' => hCX w H s₁ e s'
theorem tabB_of {base : Heap} {mg : Str → Option Value} {c P : Addr} (t : LamX.TabB base mg c P) : GxR.TabB base mg c P := ⟨t.code, t.bm, t.gP⟩

/-! ### what is kept -/
structure Ext (T : List Addr) (M : Addr → Prop) (H H' : Hp) : Prop where
  kp : ∀ b o, ¬ M b → H b = some o → (∀ ps, o ≠ .tbl ps) → H' b = some o
  tb : ∀ P ∈ T, GxR.TabG H P → GxR.TabG H' P
  fr : ∀ b, H' b = none → H b = none
abbrev noM : Addr → Prop := fun _ => False
section
variable {T : List Addr} {M : Addr → Prop} {H H' H1 H2 : Hp} {K : PySem.W.Frag}
theorem Ext.refl (T : List Addr) (M : Addr → Prop) (H : Hp) : Ext T M H H := ⟨fun _ _ _ e _ => e, fun _ _ h => h, fun _ h => h⟩
theorem Ext.trans (a : Ext T M H H1) (b : Ext T M H1 H2) : Ext T M H H2 := ⟨fun x o m e n => b.kp x o m (a.kp x o m e n) n, fun P hP h => b.tb P hP (a.tb P hP h), fun x h => a.fr x (b.fr x h)⟩
theorem Ext.weak (a : Ext T noM H H1) : Ext T M H H1 := ⟨fun x o _ e n => a.kp x o (fun z => z) e n, a.tb, a.fr⟩
theorem tabG_ne {P p : Addr} {o : HO} (h : GxR.TabG H P) (e : H p = some o) (n : ∀ ps, o ≠ .tbl ps) : P ≠ p := fun z => by
  obtain ⟨ps, hp, _⟩ := h
  rw [z, e] at hp
  exact n ps (Option.some.inj hp)
theorem Ext.new {p : Addr} {o : HO} (h : H p = none) : Ext T M H (upd H p o) := by
  refine ⟨fun b u _ e _ => ?_, fun P _ ⟨ps, hp, ht⟩ => ⟨ps, ?_, ht⟩, fun b e => ?_⟩
  · rw [upd_ne (ne_of_none e h)]; exact e
  · rw [upd_ne (ne_of_none hp h)]; exact hp
  · by_cases hb : b = p
    · rw [hb]; exact h
    · rw [upd_ne hb] at e; exact e
/-- a thing that was not there, or may change, is written -/
theorem Ext.mut {p : Addr} {o u : HO} (a : Ext T M H H') (h : H p = none ∨ M p) (e : H' p = some u) (n : ∀ ps, u ≠ .tbl ps) : Ext T M H (upd H' p o) := by
  refine ⟨fun b v m eb nb => ?_, fun P hP hg => ?_, fun b eb => ?_⟩
  · have hbp : b ≠ p := fun z => by
      rcases h with h | h
      · rw [z, h] at eb; cases eb
      · exact m (z ▸ h)
    rw [upd_ne hbp]; exact a.kp b v m eb nb
  · have hg' := a.tb P hP hg
    have hne := tabG_ne hg' e n
    obtain ⟨ps, hp, ht⟩ := hg'
    exact ⟨ps, by rw [upd_ne hne]; exact hp, ht⟩
  · by_cases hb : b = p
    · rw [hb, upd_same] at eb; cases eb
    · rw [upd_ne hb] at eb; exact a.fr b eb
theorem Ext.tab {P : Addr} (h : GxR.TabG H P) (t : GxR.Tabbed P H H') : Ext T M H H' := by
  obtain ⟨ps, hp, _⟩ := h
  refine ⟨fun b o _ e n => ?_, fun R _ hR => ?_, fun b e => ?_⟩
  · have hb : b ≠ P := fun z => by rw [z, hp] at e; exact n ps (Option.some.inj e).symm
    rw [t.2 b hb]; exact e
  · by_cases hb : R = P
    · rw [hb]; exact t.1
    · obtain ⟨qs, hq, hqt⟩ := hR
      exact ⟨qs, by rw [t.2 R hb]; exact hq, hqt⟩
  · by_cases hb : b = P
    · obtain ⟨qs, hq, _⟩ := t.1
      rw [hb, hq] at e; cases e
    · rw [t.2 b hb] at e; exact e
theorem Ext.lst {a : Addr} {xs : List V} (e : Ext T M H H') (m : ¬ M a) (h : H a = some (.lst xs)) : H' a = some (.lst xs) := e.kp a _ m h fun ps z => by cases z
theorem Ext.tup {a : Addr} {xs : List V} (e : Ext T M H H') (m : ¬ M a) (h : H a = some (.tup xs)) : H' a = some (.tup xs) := e.kp a _ m h fun ps z => by cases z
theorem Ext.l {a : Addr} {xs : List V} (e : Ext T M H H') (m : ¬ M a) (h : SqL K H a xs) : SqL K H' a xs := by
  rcases h with (h | ⟨o, h⟩) | h
  · exact .inl (.inl (e.lst m h))
  · exact .inl (.inr ⟨o, e.kp _ _ m h fun ps z => by cases z⟩)
  · exact .inr h
/-- the tables stand -/
def Wd (T : List Addr) (H : Hp) : Prop := ∀ P ∈ T, GxR.TabG H P
theorem Wd.ext (h : Wd T H) (e : Ext T M H H') : Wd T H' := fun P hP => e.tb P hP (h P hP)

/-! ### data -/
inductive D where
  | i (n : Int) | non | bl (b : Bool)
  | t (ds : List D)
mutual
def Rp (H : Hp) : D → V → Prop
  | .i n, v => v = .int n
  | .non, v => v = .non
  | .bl b, v => v = .bl b
  | .t ds, v => ∃ a vs, v = .ref a ∧ H a = some (.tup vs) ∧ RpL H ds vs
def RpL (H : Hp) : List D → List V → Prop
  | [], vs => vs = []
  | d :: ds, vs => ∃ v r, vs = v :: r ∧ Rp H d v ∧ RpL H ds r
end
theorem Rp.i {n : Int} {v : V} (h : Rp H (.i n) v) : v = .int n := by unfold Rp at h; exact h
theorem Rp.t {ds : List D} {v : V} (h : Rp H (.t ds) v) : ∃ a vs, v = .ref a ∧ H a = some (.tup vs) ∧ RpL H ds vs := by unfold Rp at h; exact h
theorem rp_i (n : Int) : Rp H (.i n) (.int n) := by unfold Rp; rfl
theorem rp_t {ds : List D} {a : Addr} {vs : List V} (h : H a = some (.tup vs)) (r : RpL H ds vs) : Rp H (.t ds) (.ref a) := by unfold Rp; exact ⟨a, vs, rfl, h, r⟩
theorem rpl_nil : RpL H [] [] := by unfold RpL; rfl
theorem rpl_cons {d : D} {ds : List D} {v : V} {vs : List V} (h : Rp H d v) (r : RpL H ds vs) : RpL H (d :: ds) (v :: vs) := by unfold RpL; exact ⟨v, vs, rfl, h, r⟩
theorem RpL.cons {d : D} {ds : List D} {vs : List V} (h : RpL H (d :: ds) vs) : ∃ v r, vs = v :: r ∧ Rp H d v ∧ RpL H ds r := by unfold RpL at h; exact h
theorem RpL.nil {vs : List V} (h : RpL H [] vs) : vs = [] := by unfold RpL at h; exact h
theorem RpL.len : ∀ {ds : List D} {vs : List V}, RpL H ds vs → vs.length = ds.length
  | [], vs, h => by rw [h.nil] <;> rfl
  | d :: ds, vs, h => by
    obtain ⟨v, r, rfl, _, h2⟩ := h.cons
    rw [List.length_cons, List.length_cons, RpL.len h2]
theorem RpL.get : ∀ {ds : List D} {vs : List V} {i : Nat} {d : D}, RpL H ds vs → ds[i]? = some d → ∃ v, vs[i]? = some v ∧ Rp H d v
  | [], vs, i, d, _, e => by simp at e
  | d :: ds, vs, 0, d', h, e => by
    obtain ⟨v, r, rfl, h1, _⟩ := h.cons
    simp at e
    exact ⟨v, rfl, e ▸ h1⟩
  | d :: ds, vs, i + 1, d', h, e => by
    obtain ⟨v, r, rfl, _, h2⟩ := h.cons
    obtain ⟨u, e1, e2⟩ := RpL.get (i := i) h2 (by simpa using e)
    exact ⟨u, by simpa using e1, e2⟩
theorem RpL.snoc : ∀ {ds : List D} {vs : List V} {d : D} {v : V}, RpL H ds vs → Rp H d v → RpL H (ds ++ [d]) (vs ++ [v])
  | [], vs, d, v, h, hv => by rw [h.nil]; exact rpl_cons hv rpl_nil
  | e :: ds, vs, d, v, h, hv => by
    obtain ⟨u, r, rfl, h1, h2⟩ := h.cons
    exact rpl_cons h1 (RpL.snoc h2 hv)
theorem RpL.take : ∀ {ds : List D} {vs : List V} (n : Nat), RpL H ds vs → RpL H (ds.take n) (vs.take n)
  | ds, vs, 0, h => by simp; exact rpl_nil
  | [], vs, n + 1, h => by rw [h.nil]; exact rpl_nil
  | d :: ds, vs, n + 1, h => by
    obtain ⟨u, r, rfl, h1, h2⟩ := h.cons
    exact rpl_cons h1 (RpL.take n h2)
theorem RpL.drop : ∀ {ds : List D} {vs : List V} (n : Nat), RpL H ds vs → RpL H (ds.drop n) (vs.drop n)
  | ds, vs, 0, h => by simpa using h
  | [], vs, n + 1, h => by rw [h.nil]; exact rpl_nil
  | d :: ds, vs, n + 1, h => by
    obtain ⟨u, r, rfl, h1, h2⟩ := h.cons
    exact RpL.drop n h2
theorem RpL.append : ∀ {ds es : List D} {vs ws : List V}, RpL H ds vs → RpL H es ws → RpL H (ds ++ es) (vs ++ ws)
  | [], es, vs, ws, h, g => by rw [h.nil]; exact g
  | e :: ds, es, vs, ws, h, g => by
    obtain ⟨u, r, rfl, h1, h2⟩ := h.cons
    exact rpl_cons h1 (RpL.append h2 g)
theorem rpl_ints : ∀ (ns : List Int), RpL H (ns.map D.i) (ns.map V.int)
  | [] => rpl_nil
  | n :: r => rpl_cons (rp_i n) (rpl_ints r)
theorem RpL.ints : ∀ {ns : List Int} {vs : List V}, RpL H (ns.map D.i) vs → vs = ns.map V.int
  | [], vs, h => h.nil
  | n :: r, vs, h => by
    obtain ⟨v, s, rfl, h1, h2⟩ := h.cons
    rw [h1.i, RpL.ints h2]; rfl
mutual
theorem Rp.ext (e : Ext T M H H') (hM : ∀ b vs, M b → H b ≠ some (.tup vs)) : ∀ {d : D} {v : V}, Rp H d v → Rp H' d v
  | .i n, v, h => by rw [h.i]; exact rp_i n
  | .non, v, h => by unfold Rp at h ⊢; exact h
  | .bl b, v, h => by unfold Rp at h ⊢; exact h
  | .t ds, v, h => by
    obtain ⟨a, vs, rfl, h1, h2⟩ := h.t
    exact rp_t (e.tup (fun m => hM a vs m h1) h1) (RpL.ext e hM h2)
theorem RpL.ext (e : Ext T M H H') (hM : ∀ b vs, M b → H b ≠ some (.tup vs)) : ∀ {ds : List D} {vs : List V}, RpL H ds vs → RpL H' ds vs
  | [], vs, h => by rw [h.nil]; exact rpl_nil
  | d :: ds, vs, h => by
    obtain ⟨v, r, rfl, h1, h2⟩ := h.cons
    exact rpl_cons (Rp.ext e hM h1) (RpL.ext e hM h2)
end
theorem Rp.x (e : Ext T noM H H') {d : D} {v : V} (h : Rp H d v) : Rp H' d v := h.ext e fun _ _ m => m.elim
theorem RpL.x (e : Ext T noM H H') {ds : List D} {vs : List V} (h : RpL H ds vs) : RpL H' ds vs := h.ext e fun _ _ m => m.elim
end
end GE

set_option Elab.async false
set_option linter.all false
set_option maxRecDepth 100000
set_option maxHeartbeats 4000000

namespace Mw
open PySem PySem.Spec PyProof.Rows L2 GE
def top (i : Nat) : Stmt := PySem.Challenge.pw_moatways_k01_pairs_that_are_joined.main.body.getD i (.Pass ⟨0, 0, 0, 0⟩)
abbrev sjoins : Stmt := top 1
theorem scjoins : FnScope ["net", "pairs", "choice", "homes", "a", "b"] ["net", "pairs", "choice"] (defScope sjoins) := ⟨rfl, rfl, rfl, by decide +kernel, rfl, by decide +kernel, by decide +kernel⟩
abbrev sspare : Stmt := top 2
theorem scspare : FnScope ["net", "pairs", "choice", "way"] ["net", "pairs", "choice"] (defScope sspare) := ⟨rfl, rfl, rfl, by decide +kernel, rfl, by decide +kernel, by decide +kernel⟩
abbrev swithout : Stmt := top 3
theorem scwithout : FnScope ["choice", "way", "other"] ["choice", "way"] (defScope swithout) := ⟨rfl, rfl, rfl, by decide +kernel, rfl, by decide +kernel, by decide +kernel⟩
abbrev s_homes : Stmt := top 4
theorem sc_homes : FnScope ["net", "choice", "places", "ways", "homes", "way", "a", "b", "_", "low", "high", "home"] ["net", "choice"] (defScope s_homes) := ⟨rfl, rfl, rfl, by decide +kernel, rfl, by decide +kernel, by decide +kernel⟩
abbrev s_law_pool : Stmt := top 6
theorem sc_law_pool : FnScope ["script"] ["script"] (defScope s_law_pool) := ⟨rfl, rfl, rfl, by decide +kernel, rfl, by decide +kernel, by decide +kernel⟩
abbrev s_law_draw : Stmt := top 7
theorem sc_law_draw : FnScope ["pool", "many", "found", "cell", "mixed"] ["pool", "many"] (defScope s_law_draw) := ⟨rfl, rfl, rfl, by decide +kernel, rfl, by decide +kernel, by decide +kernel⟩
abbrev s_law_pick : Stmt := top 8
theorem sc_law_pick : FnScope ["pool", "rows"] ["pool", "rows"] (defScope s_law_pick) := ⟨rfl, rfl, rfl, by decide +kernel, rfl, by decide +kernel, by decide +kernel⟩
abbrev s_law_same : Stmt := top 9
theorem sc_law_same : FnScope ["actual", "due", "k"] ["actual", "due"] (defScope s_law_same) := ⟨rfl, rfl, rfl, by decide +kernel, rfl, by decide +kernel, by decide +kernel⟩
abbrev s_law_cost : Stmt := top 10
theorem sc_law_cost : FnScope ["pool", "pick"] ["pool"] (defScope s_law_cost) := ⟨rfl, rfl, rfl, by decide +kernel, rfl, by decide +kernel, by decide +kernel⟩
abbrev s_law_way : Stmt := top 11
theorem sc_law_way : FnScope ["pool", "places", "a"] ["pool", "places"] (defScope s_law_way) := ⟨rfl, rfl, rfl, by decide +kernel, rfl, by decide +kernel, by decide +kernel⟩
abbrev s_law_net : Stmt := top 12
theorem sc_law_net : FnScope ["pool", "most", "ways", "places", "found", "place", "k"] ["pool", "most", "ways"] (defScope s_law_net) := ⟨rfl, rfl, rfl, by decide +kernel, rfl, by decide +kernel, by decide +kernel⟩
abbrev s_law_pairs : Stmt := top 13
theorem sc_law_pairs : FnScope ["pool", "places", "most", "found", "k", "a", "pair"] ["pool", "places", "most"] (defScope s_law_pairs) := ⟨rfl, rfl, rfl, by decide +kernel, rfl, by decide +kernel, by decide +kernel⟩
abbrev s_law_group : Stmt := top 14
theorem sc_law_group : FnScope ["net", "choice", "place", "found", "turn", "index", "a", "b", "cost"] ["net", "choice", "place"] (defScope s_law_group) := ⟨rfl, rfl, rfl, by decide +kernel, rfl, by decide +kernel, by decide +kernel⟩
abbrev s_law_joins : Stmt := top 15
theorem sc_law_joins : FnScope ["net", "pairs", "choice", "pair"] ["net", "pairs", "choice"] (defScope s_law_joins) := ⟨rfl, rfl, rfl, by decide +kernel, rfl, by decide +kernel, by decide +kernel⟩
abbrev s_law_choice : Stmt := top 16
theorem sc_law_choice : FnScope ["pool", "net", "some", "k"] ["pool", "net"] (defScope s_law_choice) := ⟨rfl, rfl, rfl, by decide +kernel, rfl, by decide +kernel, by decide +kernel⟩
abbrev s_law_spare : Stmt := top 17
theorem sc_law_spare : FnScope ["net", "pairs", "choice", "way", "other"] ["net", "pairs", "choice"] (defScope s_law_spare) := ⟨rfl, rfl, rfl, by decide +kernel, rfl, by decide +kernel, by decide +kernel⟩
abbrev slaw : Stmt := top 18
theorem sclaw : FnScope ["script", "pool", "net", "turn", "pairs", "choice", "found"] ["script"] (defScope slaw) := ⟨rfl, rfl, rfl, by decide +kernel, rfl, by decide +kernel, by decide +kernel⟩
/-! ### the pool -/
def PoolAt (H : Hp) (p s : Addr) : Prop := ∃ (ns : List Int) (i1 i2 i3 i4 : Int), H p = some (.lst [.ref s, .int i1, .int i2, .int i3, .int i4]) ∧ H s = some (.lst (ns.map V.int)) ∧ ns.length ≤ 63 ∧ 0 ≤ i1 ∧ 0 ≤ i2
abbrev atP (p : Addr) : Addr → Prop := fun b => b = p
theorem PoolAt.tup {H : Hp} {p s : Addr} (h : PoolAt H p s) : ∀ b vs, atP p b → H b ≠ some (.tup vs) := fun b vs e z => by
  obtain ⟨ns, i1, i2, i3, i4, hp, _⟩ := h
  rw [show b = p from e, hp] at z
  cases z
theorem PoolAt.keep {T : List Addr} {H H' : Hp} {p s : Addr} (h : PoolAt H p s) (e : Ext T noM H H') : PoolAt H' p s := by
  obtain ⟨ns, i1, i2, i3, i4, hp, hs, hl, h1, h2⟩ := h
  exact ⟨ns, i1, i2, i3, i4, e.lst (fun z => z) hp, e.lst (fun z => z) hs, hl, h1, h2⟩
theorem Rp.p {T : List Addr} {H H' : Hp} {p s : Addr} {d : D} {v : V} (h : Rp H d v) (hp : PoolAt H p s) (e : Ext T (atP p) H H') : Rp H' d v := h.ext e hp.tup
theorem ltbl {xs : List V} : ∀ ps, HO.lst xs ≠ .tbl ps := fun ps z => by cases z
theorem PoolAt.upd {H : Hp} {p s l : Addr} {o : HO} (h : PoolAt H p s) (h1 : l ≠ p) (h2 : l ≠ s) : PoolAt (upd H l o) p s := by
  obtain ⟨ns, i1, i2, i3, i4, hp, hs, r⟩ := h
  exact ⟨ns, i1, i2, i3, i4, by rw [upd_ne (Ne.symm h1)]; exact hp, by rw [upd_ne (Ne.symm h2)]; exact hs, r⟩
theorem PoolAt.ne {H : Hp} {p s l : Addr} (h : PoolAt H p s) (e : H l = none) : l ≠ p ∧ l ≠ s := by
  obtain ⟨ns, i1, i2, i3, i4, hp, hs, r⟩ := h
  exact ⟨fun z => (by rw [z, hp] at e; cases e), fun z => (by rw [z, hs] at e; cases e)⟩
theorem rpl_upd {H : Hp} {l : Addr} {xs : List V} {o : HO} {ds : List D} {vs : List V} (h : RpL H ds vs) (hl : H l = some (.lst xs)) : RpL (upd H l o) ds vs :=
  h.ext (T := []) ((Ext.refl [] (atP l) H).mut (.inr rfl) hl fun ps z => by cases z) fun b vs e z => by rw [show b = l from e, hl] at z; cases z
theorem rp_upd {H : Hp} {l : Addr} {xs : List V} {o : HO} {d : D} {v : V} (h : Rp H d v) (hl : H l = some (.lst xs)) : Rp (upd H l o) d v :=
  h.ext (T := []) ((Ext.refl [] (atP l) H).mut (.inr rfl) hl fun ps z => by cases z) fun b vs e z => by rw [show b = l from e, hl] at z; cases z
theorem RpL.p {T : List Addr} {H H' : Hp} {p s : Addr} {d : List D} {v : List V} (h : RpL H d v) (hp : PoolAt H p s) (e : Ext T (atP p) H H') : RpL H' d v := h.ext e hp.tup
def spPool (K : PySem.W.Frag) (T : List Addr) : Sp := fun vs H Q _ => ∃ (a : Addr) (ns : List Int), vs = [.ref a] ∧ SqL K H a (ns.map V.int) ∧ ns.length ≤ 63 ∧ ∀ p s H', H p = none → H s = none → PoolAt H' p s → Ext T noM H H' → Q (.ref p) H'
def spDraw (T : List Addr) : Sp := fun vs H Q _ => ∃ (p s : Addr) (many : Int), vs = [.ref p, .int many] ∧ PoolAt H p s ∧ 1 ≤ many ∧ many < 1073741824 ∧ ∀ r H', 0 ≤ r → r < many → PoolAt H' p s → Ext T (atP p) H H' → Q (.int r) H'
def spPick (T : List Addr) : Sp := fun vs H Q _ => ∃ (p s a : Addr) (xs : List V), vs = [.ref p, .ref a] ∧ PoolAt H p s ∧ H a = some (.lst xs) ∧ a ≠ p ∧ 1 ≤ xs.length ∧ xs.length ≤ 1000 ∧ ∀ v H', v ∈ xs → PoolAt H' p s → Ext T (atP p) H H' → Q v H'
def spCost (T : List Addr) : Sp := fun vs H Q _ => ∃ (p s : Addr), vs = [.ref p] ∧ PoolAt H p s ∧ ∀ r H', 1 ≤ r → r ≤ 10000 → PoolAt H' p s → Ext T (atP p) H H' → Q (.int r) H'
section
variable {P : Program} {w : World} {K : PySem.W.Frag} {mg : Str → Option Value} {base : Heap} {T : List Addr}
theorem pool_upd {H : Hp} {p s : Addr} {ns : List Int} {i1 i2 i3 i4 j1 j2 j3 j4 : Int} (hp : H p = some (.lst [.ref s, .int i1, .int i2, .int i3, .int i4])) (hs : H s = some (.lst (ns.map V.int))) (hl : ns.length ≤ 63) (h1 : 0 ≤ j1) (h2 : 0 ≤ j2) :
    PoolAt (upd H p (.lst [.ref s, .int j1, .int j2, .int j3, .int j4])) p s ∧ Ext T (atP p) H (upd H p (.lst [.ref s, .int j1, .int j2, .int j3, .int j4])) := by
  have hsp : s ≠ p := fun z => by
    rw [z, hp] at hs
    have e := HO.lst.inj (Option.some.inj hs)
    cases ns with
    | nil => cases e
    | cons x r => cases e
  exact ⟨⟨ns, j1, j2, j3, j4, upd_same, by rw [upd_ne hsp]; exact hs, hl, h1, h2⟩, (Ext.refl T _ H).mut (.inr rfl) hp fun ps z => by cases z⟩
theorem ok__law_pool {f : Addr} {fd : FuncData} (F : Fun K "_law_pool" "_law_pool" s_law_pool f fd) (m_list : mg "list" = none) : FnOk P w K mg base CX0 1 f fd ["script"] (spPool K T) := by
  refine F.ok sc_law_pool (fun vs H Q E h => ?_) (fun cdv A outer s H vs Q E hr h => ?_)
  · obtain ⟨a, ns, rfl, hS, hlen, k⟩ := h
    rfl
  · obtain ⟨a, ns, rfl, hS, hlen, k⟩ := h
    refine ⟨_, (pss_one (ps_ret (pe_lst (pa_cons (pe_callTy call_list_of (by rfl) m_list (by decide +kernel) (pa_cons (pv 0) pa_nil)) (pa_cons pe_int (pa_cons pe_int (pa_cons pe_int (pa_cons pe_int pa_nil)))))))), ?_⟩
    refine ⟨_, rfl, a, _, rfl, .inl hS, fun l hl => ?_⟩
    refine ⟨by show 5 ≤ sizeLine; decide, fun p hp => ?_⟩
    have hlp : l ≠ p := fun z => by rw [← z, upd_same] at hp; cases hp
    have hpH : H p = none := by rw [upd_ne (Ne.symm hlp)] at hp; exact hp
    exact k p l _ hpH hl ⟨ns, 0, 0, 0, 0, upd_same, by rw [upd_ne hlp, upd_same], hlen, by omega, by omega⟩ ((Ext.new hl).trans (Ext.new hp))
theorem ok__law_draw {f : Addr} {fd : FuncData} (F : Fun K "_law_draw" "_law_draw" s_law_draw f fd) (m_abs : mg "abs" = none) (m_int : mg "int" = none) (m_len : mg "len" = none) : FnOk P w K mg base CX0 1 f fd ["pool", "many"] (spDraw T) := by
  refine F.ok sc_law_draw (fun vs H Q E h => ?_) (fun cdv A outer s H vs Q E hr h => ?_)
  · obtain ⟨p, s, many, rfl, hP, hm1, hm2, k⟩ := h
    rfl
  · obtain ⟨p, s, many, rfl, hP, hm1, hm2, k⟩ := h
    refine ⟨_, (pss_cons (ps_if (pt_cmpR op_gt (pe_ix ix_list (pv 0) pe_int (fun _ _ => rfl)) pe_int (nomark _)) (pss_cons (ps_set (i := 2) sc_law_draw.nd rfl (Or.inl rfl) (pe_op op_mod (pe_callTy call_int1 (by rfl) m_int (by decide +kernel) (pa_cons (pe_ix ix_list (pv 0) pe_int (fun _ _ => rfl)) pa_nil)) (pv 1)))
      (pss_cons (ps_asg (pe_op op_fdivN (pe_ix ix_list (pv 0) pe_int (fun _ _ => rfl)) (pv 1)) (pg_sub (pv 0) pe_int set_list))
      (pss_one (ps_ret (pv 2))))) pss_nil)
      (Evl.pss_cut (ps_if (PW.pt (pw_and (pt_cmpR op_eq (pe_op op_mod (pe_callTy call_int1 (by rfl) m_int (by decide +kernel) (pa_cons (pe_ix ix_list (pv 0) pe_int (fun _ _ => rfl)) pa_nil)) pe_int) pe_int (nomark _)) (pw_and1 (pt_cmpR op_lt (pe_ix ix_list (pv 0) pe_int (fun _ _ => rfl)) (pe_callB call_len_seq (by rfl) m_len PySem.boot_len (pa_cons (pe_ix ix_list (pv 0) pe_int (fun _ _ => rfl)) pa_nil)) (nomark _))))) (pss_cons (ps_set (i := 3) sc_law_draw.nd rfl (Or.inl rfl) (pe_callB call_abs (by rfl) m_abs (by decide +kernel) (pa_cons (pe_ix ix_list (pe_ix ix_list (pv 0) pe_int (fun _ _ => rfl)) (pe_ix ix_list (pv 0) pe_int (fun _ _ => rfl)) (fun _ _ => rfl)) pa_nil)))
      (pss_cons (ps_asg (pe_op op_add (pe_ix ix_list (pv 0) pe_int (fun _ _ => rfl)) pe_int) (pg_sub (pv 0) pe_int set_list))
      (pss_cons (ps_if (pt_cmpR op_ge (pv 3) (pe_op op_pow pe_int pe_int) (nomark _)) (pss_cons (ps_asg (pe_op op_fdivN (pv 3) (pv 1)) (pg_sub (pv 0) pe_int set_list))
      (pss_one (ps_ret (pe_op op_mod (pe_callTy call_int1 (by rfl) m_int (by decide +kernel) (pa_cons (pv 3) pa_nil)) (pv 1))))) pss_nil)
      (pss_one (ps_asg (pv 3) (pg_sub (pv 0) pe_int set_list)))))) pss_nil)
      (pss_cons (ps_asg (pe_op op_add (pe_ix ix_list (pv 0) pe_int (fun _ _ => rfl)) pe_int) (pg_sub (pv 0) pe_int set_list))
      (pss_cons (ps_set (i := 4) sc_law_draw.nd rfl (Or.inl rfl) (pe_op op_mod (pe_callTy call_int1 (by rfl) m_int (by decide +kernel) (pa_cons (pe_op op_add (pe_op op_add (pe_op op_mul (pe_ix ix_list (pv 0) pe_int (fun _ _ => rfl)) pe_int) (pe_op op_mul (pe_ix ix_list (pv 0) pe_int (fun _ _ => rfl)) pe_int)) pe_int) pa_nil)) pe_int))
      (pss_cons (ps_set (i := 4) sc_law_draw.nd rfl (Or.inl rfl) (pe_op op_mod (pe_callTy call_int1 (by rfl) m_int (by decide +kernel) (pa_cons (pe_op op_add (pe_op op_mul (pv 4) (pv 4)) (pe_op op_mul (pe_ix ix_list (pv 0) pe_int (fun _ _ => rfl)) pe_int)) pa_nil)) pe_int))
      (pss_one (ps_ret (pe_op op_mod (pe_callTy call_int1 (by rfl) m_int (by decide +kernel) (pa_cons (pv 4) pa_nil)) (pv 1))))))))), ?_⟩
    obtain ⟨ns, i1, i2, i3, i4, hp, hs, hl, h1, h2⟩ := hP
    have hm0 : (0 : Int) < many := by omega
    have hmod : ∀ z : Int, 0 ≤ z % many ∧ z % many < many := fun z => ⟨Int.emod_nonneg _ (by omega), Int.emod_lt_of_pos _ hm0⟩
    have hsp : s ≠ p := fun z => by
      rw [z, hp] at hs
      have e := HO.lst.inj (Option.some.inj hs)
      cases ns with
      | nil => cases e
      | cons x r => cases e
    refine ⟨_, rfl, p, _, _, _, rfl, rfl, SqL.of hp, at_of (j := 2) rfl rfl, _, _, rfl, rfl, _, rfl, ?_⟩
    refine ite2 (fun c => ?_) (fun c => ?_)
    · have c' : i2 > 0 := of_decide_eq_true c
      refine ⟨_, rfl, p, _, _, _, rfl, rfl, SqL.of hp, at_of (j := 2) rfl rfl, .inl ⟨_, rfl, _, rfl, _, _, rfl, rfl, hm0, ?_⟩⟩
      refine ⟨_, rfl, p, _, _, _, rfl, rfl, SqL.of hp, at_of (j := 2) rfl rfl, _, rfl, _, _, rfl, rfl, ⟨by omega, by omega⟩, _, rfl, p, _, _, 2, rfl, rfl, hp, rfl, ?_⟩
      obtain ⟨g1, g2⟩ := pool_upd (T := T) (j1 := i1) (j2 := i2.fdiv many) (j3 := i3) (j4 := i4) hp hs hl h1 (by rw [Int.fdiv_eq_ediv_of_nonneg _ (by omega)]; exact Int.ediv_nonneg h2 (by omega))
      exact ⟨_, rfl, k _ _ (hmod _).1 (hmod _).2 g1 g2⟩
    · refine ⟨fun σ' H' => ∃ y2 y3 y4, σ' = [some (.ref p), some (.int many), y2, y3, y4] ∧ PoolAt H' p s ∧ Ext T (atP p) H H', ?_, ?_⟩
      · refine ⟨_, rfl, p, _, _, _, rfl, rfl, SqL.of hp, at_of (j := 4) rfl rfl, .inl ⟨_, rfl, _, _, rfl, rfl, (by show (0 : Int) < 8; decide), rfl, _, rfl, ?_⟩⟩
        have stay : ∃ y2 y3 y4, [some (V.ref p), some (V.int many), none, none, none] = [some (V.ref p), some (V.int many), y2, y3, y4] ∧ PoolAt H p s ∧ Ext T (atP p) H H := ⟨none, none, none, rfl, ⟨ns, i1, i2, i3, i4, hp, hs, hl, h1, h2⟩, Ext.refl T _ H⟩
        refine ite2 (fun c1 => ?_) (fun c1 => iteF stay)
        refine ⟨_, rfl, p, _, _, _, rfl, rfl, SqL.of hp, at_of (j := 1) rfl rfl, _, rfl, p, _, _, _, rfl, rfl, SqL.of hp, at_of (j := 0) rfl rfl, s, _, rfl, .inl (SqL.of hs), _, _, rfl, rfl, _, rfl, ?_⟩
        refine ite2 (fun c2 => ?_) (fun c2 => stay)
        have c2' : i1 < ((ns.map V.int).length : Int) := of_decide_eq_true c2
        rw [List.length_map] at c2'
        have hj : i1.toNat < ns.length := by omega
        have ga : atI (ns.map V.int) i1 = some (.int ns[i1.toNat]) := at_of (j := i1.toNat) (by omega) (by rw [List.getElem?_map, List.getElem?_eq_getElem hj]; rfl)
        -- cell = abs(pool[0][pool[1]])
        refine ⟨_, rfl, p, _, _, _, rfl, rfl, SqL.of hp, at_of (j := 0) rfl rfl, _, rfl, p, _, _, _, rfl, rfl, SqL.of hp, at_of (j := 1) rfl rfl, s, _, _, _, rfl, rfl, SqL.of hs, ga, _, rfl, ?_⟩
        generalize hz : (if ns[i1.toNat] < 0 then -ns[i1.toNat] else ns[i1.toNat]) = z
        have z0 : 0 ≤ z := by rw [← hz]; split <;> omega
        -- pool[1] = pool[1] + 1
        refine ⟨_, rfl, p, _, _, _, rfl, rfl, SqL.of hp, at_of (j := 1) rfl rfl, _, _, rfl, rfl, _, rfl, p, _, _, 1, rfl, rfl, hp, rfl, ?_⟩
        obtain ⟨g1, g2⟩ := pool_upd (T := T) (j1 := i1 + 1) (j2 := i2) (j3 := i3) (j4 := i4) hp hs hl (by omega) h2
        have hp1 : (upd H p (.lst [.ref s, .int (i1 + 1), .int i2, .int i3, .int i4])) p = some (.lst [.ref s, .int (i1 + 1), .int i2, .int i3, .int i4]) := upd_same
        have hs1 : (upd H p (.lst [.ref s, .int (i1 + 1), .int i2, .int i3, .int i4])) s = some (.lst (ns.map V.int)) := by rw [upd_ne hsp]; exact hs
        -- if cell >= 10 ** 18
        refine ⟨_, rfl, _, _, rfl, rfl, ⟨by decide, by decide, by decide⟩, _, _, rfl, rfl, _, rfl, ?_⟩
        refine ite2 (fun c3 => ?_) (fun c3 => ?_)
        · refine ⟨_, rfl, _, rfl, _, _, rfl, rfl, ⟨by omega, by omega⟩, _, rfl, p, _, _, 2, rfl, rfl, hp1, rfl, ?_⟩
          obtain ⟨g3, g4⟩ := pool_upd (T := T) (j1 := i1 + 1) (j2 := z.fdiv many) (j3 := i3) (j4 := i4) hp1 hs1 hl (by omega) (by rw [Int.fdiv_eq_ediv_of_nonneg _ (by omega)]; exact Int.ediv_nonneg z0 (by omega))
          exact ⟨_, rfl, .inl ⟨_, rfl, _, rfl, _, _, rfl, rfl, hm0, k _ _ (hmod _).1 (hmod _).2 g3 (g2.trans g4)⟩⟩
        · refine ⟨_, rfl, _, rfl, p, _, _, 3, rfl, rfl, hp1, rfl, ?_⟩
          obtain ⟨g3, g4⟩ := pool_upd (T := T) (j1 := i1 + 1) (j2 := i2) (j3 := z) (j4 := i4) hp1 hs1 hl (by omega) h2
          exact ⟨_, _, _, rfl, g3, g2.trans g4⟩
      · rintro σ' H1 ⟨y2, y3, y4, rfl, ⟨ns, i1, i2, i3, i4, hp, hs, hl, h1, h2⟩, e1⟩
        refine ⟨_, rfl, p, _, _, _, rfl, rfl, SqL.of hp, at_of (j := 4) rfl rfl, _, _, rfl, rfl, _, rfl, p, _, _, 4, rfl, rfl, hp, rfl, ?_⟩
        obtain ⟨g1, g2⟩ := pool_upd (T := T) (j1 := i1) (j2 := i2) (j3 := i3) (j4 := i4 + 1) hp hs hl h1 h2
        have hp : (upd H1 p (.lst [.ref s, .int i1, .int i2, .int i3, .int (i4 + 1)])) p = some (.lst [.ref s, .int i1, .int i2, .int i3, .int (i4 + 1)]) := upd_same
        refine ⟨_, rfl, p, _, _, _, rfl, rfl, SqL.of hp, at_of (j := 3) rfl rfl, _, _, rfl, rfl, .inr ⟨by decide, by decide⟩, _, rfl, p, _, _, _, rfl, rfl, SqL.of hp, at_of (j := 4) rfl rfl, _, _, rfl, rfl, .inr ⟨by decide, by decide⟩, _, _, rfl, rfl, _, _, rfl, rfl, .inl ⟨_, rfl, _, _, rfl, rfl, (by show (0 : Int) < 2147483647; decide), ?_⟩⟩
        have b1 : ∀ z : Int, 0 ≤ z % 2147483647 ∧ z % 2147483647 < 2147483647 := fun z => ⟨Int.emod_nonneg _ (by decide), Int.emod_lt_of_pos _ (by decide)⟩
        refine ⟨_, rfl, _, rfl, _, _, rfl, rfl, .inl ⟨?_, ?_⟩, _, rfl, p, _, _, _, rfl, rfl, SqL.of hp, at_of (j := 4) rfl rfl, _, _, rfl, rfl, .inr ⟨by decide, by decide⟩, _, _, rfl, rfl, .inl ⟨_, rfl, _, _, rfl, rfl, (by show (0 : Int) < 2147483399; decide), ?_⟩⟩
        · have := (b1 (i3 * 48271 + (i4 + 1) * 69621 + 7919)).1; omega
        · have := (b1 (i3 * 48271 + (i4 + 1) * 69621 + 7919)).2; omega
        exact ⟨_, rfl, .inl ⟨_, rfl, _, rfl, _, _, rfl, rfl, hm0, k _ _ (hmod _).1 (hmod _).2 g1 (e1.trans g2)⟩⟩
theorem ok__law_pick {f : Addr} {fd : FuncData} (F : Fun K "_law_pick" "_law_pick" s_law_pick f fd) (m_len : mg "len" = none) {f_law_draw : Addr} {fd_law_draw : FuncData} (F_law_draw : Fun K "_law_draw" "_law_draw" s_law_draw f_law_draw fd_law_draw) (G_law_draw : FnOk P w K mg base CX0 1 f_law_draw fd_law_draw ["pool", "many"] (spDraw T)) (b_law_draw : Binds K fd_law_draw ["pool", "many"] []) (g_law_draw : mg "_law_draw" = some (.ref f_law_draw)) : FnOk P w K mg base CX0 2 f fd ["pool", "rows"] (spPick T) := by
  refine F.ok sc_law_pick (fun vs H Q E h => ?_) (fun cdv A outer s H vs Q E hr h => ?_)
  · obtain ⟨p, s, a, xs, rfl, hP, ha, hap, hl1, hl2, k⟩ := h
    rfl
  · obtain ⟨p, s, a, xs, rfl, hP, ha, hap, hl1, hl2, k⟩ := h
    refine ⟨_, (pss_one (ps_ret (pe_ix ix_list (pv 1) (pe_call G_law_draw hr (by rfl) g_law_draw F_law_draw.kp b_law_draw .nil pass0 (pa_cons (pv 0) (pa_cons (pe_callB call_len_seq (by rfl) m_len PySem.boot_len (pa_cons (pv 1) pa_nil)) pa_nil))) (fun _ _ => rfl)))), ?_⟩
    refine ⟨_, rfl, _, rfl, _, rfl, a, xs, rfl, .inl (SqL.of ha), p, s, _, rfl, hP, by omega, by omega, fun r H1 r0 r1 hP1 e1 => ?_⟩
    have hj : r.toNat < xs.length := by omega
    refine ⟨a, xs, r, xs[r.toNat], rfl, rfl, SqL.of (e1.lst hap ha), at_of (j := r.toNat) (by omega) (List.getElem?_eq_getElem hj), ?_⟩
    exact k _ _ (List.getElem_mem hj) hP1 e1
theorem ok__law_cost {f : Addr} {fd : FuncData} (F : Fun K "_law_cost" "_law_cost" s_law_cost f fd) {f_law_draw : Addr} {fd_law_draw : FuncData} (F_law_draw : Fun K "_law_draw" "_law_draw" s_law_draw f_law_draw fd_law_draw) (G_law_draw : FnOk P w K mg base CX0 1 f_law_draw fd_law_draw ["pool", "many"] (spDraw T)) (b_law_draw : Binds K fd_law_draw ["pool", "many"] []) (g_law_draw : mg "_law_draw" = some (.ref f_law_draw)) : FnOk P w K mg base CX0 2 f fd ["pool"] (spCost T) := by
  refine F.ok sc_law_cost (fun vs H Q E h => ?_) (fun cdv A outer s H vs Q E hr h => ?_)
  · obtain ⟨p, s, rfl, hP, k⟩ := h
    rfl
  · obtain ⟨p, s, rfl, hP, k⟩ := h
    refine ⟨_, (pss_cons (ps_set (i := 1) sc_law_cost.nd rfl (Or.inl rfl) (pe_call G_law_draw hr (by rfl) g_law_draw F_law_draw.kp b_law_draw .nil pass0 (pa_cons (pv 0) (pa_cons pe_int pa_nil))))
      (pss_cons (ps_if (pt_cmpR op_eq (pv 1) pe_int (nomark _)) (pss_one (ps_ret (pe_op op_add pe_int (pe_call G_law_draw hr (by rfl) g_law_draw F_law_draw.kp b_law_draw .nil pass0 (pa_cons (pv 0) (pa_cons pe_int pa_nil)))))) pss_nil)
      (pss_cons (ps_if (pt_cmpR op_lt (pv 1) pe_int (nomark _)) (pss_one (ps_ret (pe_ix ix_list (pe_lst (pa_cons pe_int (pa_cons pe_int (pa_cons pe_int (pa_cons pe_int (pa_cons pe_int pa_nil)))))) (pe_call G_law_draw hr (by rfl) g_law_draw F_law_draw.kp b_law_draw .nil pass0 (pa_cons (pv 0) (pa_cons pe_int pa_nil))) (fun _ _ => rfl)))) pss_nil)
      (pss_one (ps_ret (pe_op op_add pe_int (pe_call G_law_draw hr (by rfl) g_law_draw F_law_draw.kp b_law_draw .nil pass0 (pa_cons (pv 0) (pa_cons pe_int pa_nil))))))))), ?_⟩
    refine ⟨_, rfl, p, s, _, rfl, hP, by decide, by decide, fun r H1 r0 r1 hP1 e1 => ?_⟩
    refine ⟨_, rfl, rfl, _, rfl, ?_⟩
    refine ite2 (fun c => ?_) (fun c => ?_)
    · refine ⟨_, rfl, p, s, _, rfl, hP1, by decide, by decide, fun r2 H2 r20 r21 hP2 e2 => ⟨_, _, rfl, rfl, ?_⟩⟩
      exact k _ _ (by omega) (by omega) hP2 (e1.trans e2)
    · refine ⟨_, rfl, _, _, rfl, rfl, _, rfl, ?_⟩
      refine ite2 (fun c => ?_) (fun c => ?_)
      · refine ⟨by show 5 ≤ sizeLine; decide, fun l hl => ?_⟩
        have hlp : p ≠ l := fun z => by obtain ⟨_, _, _, _, _, q, _⟩ := hP1; rw [z, hl] at q; cases q
        refine ⟨_, rfl, p, s, _, rfl, hP1.keep (T := T) (Ext.new hl), by decide, by decide, fun r2 H2 r20 r21 hP2 e2 => ?_⟩
        have hl2 : H2 l = some (.lst [.int 1, .int 2, .int 2, .int 3, .int 4]) := e2.lst (fun z => hlp z.symm) upd_same
        obtain ⟨j, rfl⟩ : ∃ j : Nat, r2 = (j : Int) := ⟨r2.toNat, by omega⟩
        have done : ∀ z : Int, 1 ≤ z → z ≤ 10000 → ([.int 1, .int 2, .int 2, .int 3, .int 4] : List V)[j]? = some (.int z) → tRet (tOp (rIxL K) (tC (.ref l)) (tC (.int (j : Int)))) { nx := fun _ H' => Q .non H', rt := Q } [] H2 := fun z z1 z2 e => ⟨l, _, _, _, rfl, rfl, SqL.of hl2, at_of rfl e, k _ _ z1 z2 hP2 ((e1.trans (Ext.new hl)).trans e2)⟩
        have hj : j < 5 := by omega
        match j, hj with
        | 0, _ => exact done 1 (by decide) (by decide) rfl
        | 1, _ => exact done 2 (by decide) (by decide) rfl
        | 2, _ => exact done 2 (by decide) (by decide) rfl
        | 3, _ => exact done 3 (by decide) (by decide) rfl
        | 4, _ => exact done 4 (by decide) (by decide) rfl
      · refine ⟨_, rfl, p, s, _, rfl, hP1, by decide, by decide, fun r2 H2 r20 r21 hP2 e2 => ⟨_, _, rfl, rfl, ?_⟩⟩
        exact k _ _ (by omega) (by omega) hP2 (e1.trans e2)
end
end Mw

set_option Elab.async false
set_option linter.all false
set_option maxRecDepth 100000
set_option maxHeartbeats 4000000
namespace Mw
open PySem PySem.Spec PyProof.Rows L2 GE
/-! ### nets -/
abbrev Wy := Nat × Nat × Nat
def wayD (w : Wy) : D := .t [.i w.1, .i w.2.1, .i w.2.2]
def netD (n : Nat) (ws : List Wy) : D := .t [.i n, .t (ws.map wayD)]
def chD (cs : List Nat) : D := .t (cs.map fun (c : Nat) => D.i (c : Int))
def WayOk (n : Nat) (w : Wy) : Prop := w.1 < w.2.1 ∧ w.2.1 < n ∧ 1 ≤ w.2.2 ∧ w.2.2 ≤ 10000
structure Wf (n : Nat) (ws : List Wy) : Prop where
  n1 : 1 ≤ n
  n12 : n ≤ 12
  ln : ws.length ≤ 24
  ok : ∀ w ∈ ws, WayOk n w
structure Ch (m : Nat) (cs : List Nat) : Prop where
  lt : ∀ c ∈ cs, c < m
  asc : cs.Pairwise (· < ·)
theorem Ch.len {m : Nat} {cs : List Nat} (h : Ch m cs) : cs.length ≤ m := by
  have key : ∀ (cs : List Nat) (lo m : Nat), cs.Pairwise (· < ·) → (∀ c ∈ cs, lo ≤ c ∧ c < m) → cs.length ≤ m - lo := by
    intro cs
    induction cs with
    | nil => intro lo m _ _; exact Nat.zero_le _
    | cons c r ih =>
      intro lo m hp hb
      have h1 := hb c List.mem_cons_self
      obtain ⟨h2, h3⟩ := List.pairwise_cons.mp hp
      have := ih (c + 1) m h3 fun x hx => ⟨h2 x hx, (hb x (List.mem_cons_of_mem _ hx)).2⟩
      rw [List.length_cons]; omega
  have := key cs 0 m h.asc fun c hc => ⟨Nat.zero_le _, h.lt c hc⟩
  omega
def spWay (T : List Addr) : Sp := fun vs H Q _ => ∃ (p s : Addr) (n : Nat), vs = [.ref p, .int n] ∧ PoolAt H p s ∧ 2 ≤ n ∧ n ≤ 1000 ∧ ∀ v w H', WayOk n w → Rp H' (wayD w) v → PoolAt H' p s → Ext T (atP p) H H' → Q v H'
def spNet (T : List Addr) : Sp := fun vs H Q _ => ∃ (p s : Addr) (most ways : Int), vs = [.ref p, .int most, .int ways] ∧ PoolAt H p s ∧ 1 ≤ most ∧ most ≤ 12 ∧ 0 ≤ ways ∧ ways ≤ 24 ∧ ∀ v n ws H', Wf n ws → Rp H' (netD n ws) v → PoolAt H' p s → Ext T (atP p) H H' → Q v H'
def spChoice (T : List Addr) : Sp := fun vs H Q _ => ∃ (p s : Addr) (v : V) (n : Nat) (ws : List Wy), vs = [.ref p, v] ∧ PoolAt H p s ∧ Wf n ws ∧ Rp H (netD n ws) v ∧ ∀ u cs H', Ch ws.length cs → Rp H' (chD cs) u → PoolAt H' p s → Ext T (atP p) H H' → Q u H'
theorem rp_way {H : Hp} {a : Addr} {x y z : Nat} (h : H a = some (.tup [.int x, .int y, .int z])) : Rp H (wayD (x, y, z)) (.ref a) := rp_t h (rpl_cons (rp_i _) (rpl_cons (rp_i _) (rpl_cons (rp_i _) rpl_nil)))
theorem way_at {H : Hp} {w : Wy} {v : V} (h : Rp H (wayD w) v) : ∃ a, v = .ref a ∧ H a = some (.tup [.int w.1, .int w.2.1, .int w.2.2]) := by
  obtain ⟨a, vs, rfl, h1, h2⟩ := h.t
  exact ⟨a, rfl, by rw [h1, RpL.ints (ns := [w.1, w.2.1, w.2.2]) h2]; rfl⟩
theorem net_at {H : Hp} {n : Nat} {ws : List Wy} {v : V} (h : Rp H (netD n ws) v) : ∃ a b vs, v = .ref a ∧ H a = some (.tup [.int n, .ref b]) ∧ H b = some (.tup vs) ∧ RpL H (ws.map wayD) vs := by
  obtain ⟨a, us, rfl, h1, h2⟩ := h.t
  obtain ⟨u1, r1, rfl, g1, h3⟩ := h2.cons
  obtain ⟨u2, r2, rfl, g2, h4⟩ := h3.cons
  rw [h4.nil, g1.i] at h1
  obtain ⟨b, vs, rfl, k1, k2⟩ := g2.t
  exact ⟨a, b, vs, rfl, h1, k1, k2⟩
theorem rp_net {H : Hp} {n : Nat} {ws : List Wy} {a b : Addr} {vs : List V} (h1 : H a = some (.tup [.int n, .ref b])) (h2 : H b = some (.tup vs)) (h3 : RpL H (ws.map wayD) vs) : Rp H (netD n ws) (.ref a) :=
  rp_t h1 (rpl_cons (rp_i _) (rpl_cons (rp_t h2 h3) rpl_nil))
theorem ch_at {H : Hp} {cs : List Nat} {v : V} (h : Rp H (chD cs) v) : ∃ a, v = .ref a ∧ H a = some (.tup (cs.map fun (c : Nat) => V.int (c : Int))) := by
  obtain ⟨a, us, rfl, h1, h2⟩ := h.t
  refine ⟨a, rfl, ?_⟩
  have e : us = (cs.map fun c : Nat => (c : Int)).map V.int := RpL.ints (H := H) (by rw [List.map_map]; exact h2)
  rw [h1, e, List.map_map]; rfl
theorem rp_ch {H : Hp} {cs : List Nat} {a : Addr} (h : H a = some (.tup (cs.map fun (c : Nat) => V.int (c : Int)))) : Rp H (chD cs) (.ref a) := by
  refine rp_t h ?_
  have e := rpl_ints (H := H) (cs.map fun c : Nat => (c : Int))
  rw [List.map_map, List.map_map] at e
  exact e
theorem ne_of_pool {H : Hp} {p s l : Addr} (h : PoolAt H p s) (e : H l = none) : p ≠ l := fun z => (h.ne e).1 z.symm
theorem nat_of {r : Int} (h : 0 ≤ r) : ∃ j : Nat, r = (j : Int) := ⟨r.toNat, by omega⟩
section
variable {P : Program} {w : World} {K : PySem.W.Frag} {mg : Str → Option Value} {base : Heap} {T : List Addr}
theorem ok__law_way {f : Addr} {fd : FuncData} (F : Fun K "_law_way" "_law_way" s_law_way f fd) {f_law_draw : Addr} {fd_law_draw : FuncData} (F_law_draw : Fun K "_law_draw" "_law_draw" s_law_draw f_law_draw fd_law_draw) (G_law_draw : FnOk P w K mg base CX0 2 f_law_draw fd_law_draw ["pool", "many"] (spDraw T)) (b_law_draw : Binds K fd_law_draw ["pool", "many"] []) (g_law_draw : mg "_law_draw" = some (.ref f_law_draw)) {f_law_cost : Addr} {fd_law_cost : FuncData} (F_law_cost : Fun K "_law_cost" "_law_cost" s_law_cost f_law_cost fd_law_cost) (G_law_cost : FnOk P w K mg base CX0 2 f_law_cost fd_law_cost ["pool"] (spCost T)) (b_law_cost : Binds K fd_law_cost ["pool"] []) (g_law_cost : mg "_law_cost" = some (.ref f_law_cost)) : FnOk P w K mg base CX0 3 f fd ["pool", "places"] (spWay T) := by
  refine F.ok sc_law_way (fun vs H Q E h => ?_) (fun cdv A outer s H vs Q E hr h => ?_)
  · obtain ⟨p, s, n, rfl, hP, h2, h1000, k⟩ := h
    rfl
  · obtain ⟨p, s, n, rfl, hP, h2, h1000, k⟩ := h
    refine ⟨_, (pss_cons (ps_set (i := 2) sc_law_way.nd rfl (Or.inl rfl) (pe_call G_law_draw hr (by rfl) g_law_draw F_law_draw.kp b_law_draw .nil pass0 (pa_cons (pv 0) (pa_cons (pe_op op_sub (pv 1) pe_int) pa_nil))))
      (pss_one (ps_ret (pe_tup (pa_cons (pv 2) (pa_cons (pe_op op_add (pe_op op_add (pv 2) pe_int) (pe_call G_law_draw hr (by rfl) g_law_draw F_law_draw.kp b_law_draw .nil pass0 (pa_cons (pv 0) (pa_cons (pe_op op_sub (pe_op op_sub (pv 1) pe_int) (pv 2)) pa_nil)))) (pa_cons (pe_call G_law_cost hr (by rfl) g_law_cost F_law_cost.kp b_law_cost .nil pass0 (pa_cons (pv 0) pa_nil)) pa_nil))))))), ?_⟩
    refine ⟨_, rfl, _, rfl, _, _, rfl, rfl, p, s, _, rfl, hP, by omega, by omega, fun r H1 r0 r1 hP1 e1 => ?_⟩
    obtain ⟨a, rfl⟩ := nat_of r0
    refine ⟨_, rfl, _, rfl, _, _, rfl, rfl, _, rfl, _, rfl, _, _, rfl, rfl, _, rfl, _, _, rfl, rfl, p, s, _, rfl, hP1, by omega, by omega, fun r2 H2 r20 r21 hP2 e2 => ?_⟩
    obtain ⟨b, rfl⟩ := nat_of r20
    refine ⟨_, _, rfl, rfl, _, rfl, p, s, rfl, hP2, fun c H3 c0 c1 hP3 e3 => ?_⟩
    obtain ⟨cc, rfl⟩ := nat_of (show 0 ≤ c by omega)
    refine ⟨by show 3 ≤ sizeLine; decide, fun t ht => ?_⟩
    refine k (.ref t) (a, a + 1 + b, cc) _ ⟨by show a < a + 1 + b; omega, by show a + 1 + b < n; omega, by show 1 ≤ cc; omega, by show cc ≤ 10000; omega⟩ (rp_way (by rw [upd_same]; push_cast; rfl)) (hP3.keep (T := T) (Ext.new ht)) (((e1.trans e2).trans e3).trans (Ext.new ht))
theorem ok__law_choice {f : Addr} {fd : FuncData} (F : Fun K "_law_choice" "_law_choice" s_law_choice f fd) (m_tuple : mg "tuple" = none) (m_range : mg "range" = none) (m_len : mg "len" = none) {f_law_draw : Addr} {fd_law_draw : FuncData} (F_law_draw : Fun K "_law_draw" "_law_draw" s_law_draw f_law_draw fd_law_draw) (G_law_draw : FnOk P w K mg base CX0 2 f_law_draw fd_law_draw ["pool", "many"] (spDraw T)) (b_law_draw : Binds K fd_law_draw ["pool", "many"] []) (g_law_draw : mg "_law_draw" = some (.ref f_law_draw)) : FnOk P w K mg base CX0 3 f fd ["pool", "net"] (spChoice T) := by
  refine F.ok sc_law_choice (fun vs H Q E h => ?_) (fun cdv A outer s H vs Q E hr h => ?_)
  · obtain ⟨p, s, v, n, ws, rfl, hP, hW, hv, k⟩ := h
    rfl
  · obtain ⟨p, s, v, n, ws, rfl, hP, hW, hv, k⟩ := h
    refine ⟨_, (pss_cons (ps_set (i := 2) sc_law_choice.nd rfl (Or.inr rfl) (pe_op op_add pe_int (pe_call G_law_draw hr (by rfl) g_law_draw F_law_draw.kp b_law_draw .nil pass0 (pa_cons (pv 0) (pa_cons pe_int pa_nil)))))
      (pss_one (ps_ret (pe_callTy call_tuple_of (by rfl) m_tuple (by decide +kernel) (pa_cons (pe_lc (own := [("k", 3)]) (g := (gName 3)) rfl sc_law_choice.nd (pi_range1 (by rfl) m_range (pa_cons (pe_callB call_len_seq (by rfl) m_len PySem.boot_len (pa_cons (pe_ix ix_tup (pv 1) pe_int (fun _ _ => rfl)) pa_nil)) pa_nil)) (blkOk_by (own := [("k", 3)]) (N := ["pool", "net", "some", "k"]) (sc := defScope s_law_choice) (by decide +kernel)) (fun _ _ _ _ _ => (pg_name (i := 3) sc_law_choice.nd rfl (Or.inl rfl))) (fun _ _ _ _ _ => (pts_one (pt_cmpR op_lt (pe_call G_law_draw hr (by rfl) g_law_draw F_law_draw.kp b_law_draw .nil pass0 (pa_cons (pv 0) (pa_cons pe_int pa_nil))) (pv 2) (nomark _)))) (fun _ _ _ _ _ => (pv 3))) pa_nil))))), ?_⟩
    refine ⟨_, rfl, p, s, _, rfl, hP, by decide, by decide, fun r H1 r0 r1 hP1 e1 => ⟨_, _, rfl, rfl, ?_⟩⟩
    have hv1 := Rp.p hv hP e1
    obtain ⟨a, b, us, rfl, ha, hb, hus⟩ := net_at hv1
    have hlen : us.length = ws.length := by rw [hus.len, List.length_map]
    have h24 := hW.ln
    refine ⟨_, rfl, a, _, _, _, rfl, rfl, SqT.of ha, at_of (j := 1) rfl rfl, b, _, rfl, .inr (SqT.of hb), ?_⟩
    refine ⟨_, rfl, by omega, by omega, fun Dl hD => ?_⟩
    refine lc_range (lo := 0) (n := (us.length : Int).toNat) (fun i H' => ∃ cs : List Nat, PoolAt H' p s ∧ Ext T (atP p) H H' ∧ H Dl = none ∧ H' Dl = some (.lst (cs.map fun (c : Nat) => V.int (c : Int))) ∧ (∀ c ∈ cs, c < i) ∧ cs.Pairwise (· < ·))
      ⟨[], hP1.keep (T := T) (Ext.new hD), e1.trans (Ext.new hD), e1.fr _ hD, upd_same, (fun c hc => by simp at hc), .nil⟩ ?_ ?_
    · rintro i H2 hi ⟨cs, hP2, e2, hDn, hD2, hlt, hpw⟩
      refine ⟨rfl, _, rfl, p, s, _, rfl, hP2, by decide, by decide, fun r2 H3 r20 r21 hP3 e3 => ?_⟩
      have hDp := hP.ne hDn
      have hD3 : H3 Dl = some (.lst (cs.map fun (c : Nat) => V.int (c : Int))) := e3.lst hDp.1 hD2
      refine ⟨_, rfl, _, _, rfl, rfl, _, rfl, ?_⟩
      refine ite2 (fun c => ?_) (fun c => ?_)
      · refine ⟨_, rfl, _, hD3, ?_, ?_⟩
        · rw [List.length_map]
          have hl : cs.length ≤ i := (Ch.len (m := i) ⟨hlt, hpw⟩)
          exact small1000 (by omega)
        · refine ⟨cs ++ [i], hP3.upd hDp.1 hDp.2, (e2.trans e3).mut (.inl hDn) hD3 ltbl, hDn, ?_, fun c hc => ?_, ?_⟩
          · rw [upd_same, List.map_append]
            show some (HO.lst (cs.map (fun (c : Nat) => V.int (c : Int)) ++ [V.int (0 + (i : Int))])) = _
            rw [Int.zero_add]; rfl
          · rcases List.mem_append.mp hc with h | h
            · exact Nat.lt_succ_of_lt (hlt c h)
            · rw [List.mem_singleton.mp h]; exact Nat.lt_succ_self i
          · rw [List.pairwise_append]
            exact ⟨hpw, List.pairwise_singleton _ _, fun x hx y hy => by rw [List.mem_singleton.mp hy]; exact hlt x hx⟩
      · exact ⟨cs, hP3, e2.trans e3, hDn, hD3, fun c hc => Nat.lt_succ_of_lt (hlt c hc), hpw⟩
    · rintro H2 ⟨cs, hP2, e2, hDn, hD2, hlt, hpw⟩
      refine ⟨Dl, _, rfl, .inl ⟨SqL.of hD2, fun t ht => ?_⟩⟩
      exact k (.ref t) cs _ ⟨fun c hc => by have := hlt c hc; omega, hpw⟩ (rp_ch upd_same) (hP2.keep (T := T) (Ext.new ht)) (e2.trans (Ext.new ht))
/-- the list that is filled with ways -/
def FillAt (H0 H : Hp) (T : List Addr) (p s l : Addr) (n m : Nat) : Prop := ∃ (ws : List Wy) (vs : List V), PoolAt H p s ∧ Ext T (atP p) H0 H ∧ H l = some (.lst vs) ∧ RpL H (ws.map wayD) vs ∧ ws.length ≤ m ∧ ∀ w ∈ ws, WayOk n w
theorem FillAt.draw {H0 H H' : Hp} {p s l : Addr} {n m : Nat} (f : FillAt H0 H T p s l n m) (hl : l ≠ p) (hP : PoolAt H' p s) (e : Ext T (atP p) H H') : FillAt H0 H' T p s l n m := by
  obtain ⟨ws, vs, hP0, e0, hv, r, hm, ok⟩ := f
  exact ⟨ws, vs, hP, e0.trans e, e.lst hl hv, RpL.p r hP0 e, hm, ok⟩
theorem FillAt.pool {H0 H : Hp} {p s l : Addr} {n m : Nat} (f : FillAt H0 H T p s l n m) : PoolAt H p s := by
  obtain ⟨ws, vs, hP0, _⟩ := f
  exact hP0
theorem FillAt.lst {H0 H : Hp} {p s l : Addr} {n m : Nat} (f : FillAt H0 H T p s l n m) : ∃ vs, H l = some (.lst vs) := by
  obtain ⟨ws, vs, hP0, e0, hv, _⟩ := f
  exact ⟨vs, hv⟩
theorem cutTo (xs : List V) (j : Nat) : cutV xs none (some (j : Int)) = xs.take j := by
  unfold cutV
  rw [HT.sIx_none, HT.sIx_nat]
  show List.take (min j xs.length - 0) (xs.drop 0) = _
  rw [List.drop_zero, Nat.sub_zero]
  by_cases h : j ≤ xs.length
  · rw [Nat.min_eq_left h]
  · rw [Nat.min_eq_right (by omega), List.take_of_length_le (Nat.le_refl _), List.take_of_length_le (by omega)]
theorem minI (a b : Int) : (if b < a then b else a) ≤ a ∧ (if b < a then b else a) ≤ b := by split <;> omega
theorem ok__law_net {f : Addr} {fd : FuncData} (F : Fun K "_law_net" "_law_net" s_law_net f fd) (m_range : mg "range" = none) (m_tuple : mg "tuple" = none) (m_min : mg "min" = none) (m_len : mg "len" = none) {f_law_draw : Addr} {fd_law_draw : FuncData} (F_law_draw : Fun K "_law_draw" "_law_draw" s_law_draw f_law_draw fd_law_draw) (G_law_draw : FnOk P w K mg base CX0 3 f_law_draw fd_law_draw ["pool", "many"] (spDraw T)) (b_law_draw : Binds K fd_law_draw ["pool", "many"] []) (g_law_draw : mg "_law_draw" = some (.ref f_law_draw)) {f_law_way : Addr} {fd_law_way : FuncData} (F_law_way : Fun K "_law_way" "_law_way" s_law_way f_law_way fd_law_way) (G_law_way : FnOk P w K mg base CX0 3 f_law_way fd_law_way ["pool", "places"] (spWay T)) (b_law_way : Binds K fd_law_way ["pool", "places"] []) (g_law_way : mg "_law_way" = some (.ref f_law_way)) {f_law_cost : Addr} {fd_law_cost : FuncData} (F_law_cost : Fun K "_law_cost" "_law_cost" s_law_cost f_law_cost fd_law_cost) (G_law_cost : FnOk P w K mg base CX0 3 f_law_cost fd_law_cost ["pool"] (spCost T)) (b_law_cost : Binds K fd_law_cost ["pool"] []) (g_law_cost : mg "_law_cost" = some (.ref f_law_cost)) : FnOk P w K mg base CX0 4 f fd ["pool", "most", "ways"] (spNet T) := by
  refine F.ok sc_law_net (fun vs H Q E h => ?_) (fun cdv A outer s H vs Q E hr h => ?_)
  · obtain ⟨p, s, most, ways, rfl, hP, hm1, hm2, hw1, hw2, k⟩ := h
    rfl
  · obtain ⟨p, s, most, ways, rfl, hP, hm1, hm2, hw1, hw2, k⟩ := h
    refine ⟨_, (pss_cons (ps_set (i := 3) sc_law_net.nd rfl (Or.inl rfl) (pe_op op_add pe_int (pe_call G_law_draw hr (by rfl) g_law_draw F_law_draw.kp b_law_draw .nil pass0 (pa_cons (pv 0) (pa_cons (pv 1) pa_nil)))))
      (pss_cons (ps_set (i := 4) sc_law_net.nd rfl (Or.inl rfl) (pe_lst pa_nil))
      (Evl.pss_cut (ps_if (PW.pt (pw_and (pt_cmpR op_gt (pv 3) pe_int (nomark _)) (pw_and1 (pt_cmpR op_gt (pe_call G_law_draw hr (by rfl) g_law_draw F_law_draw.kp b_law_draw .nil pass0 (pa_cons (pv 0) (pa_cons pe_int pa_nil))) pe_int (nomark _))))) (pss_one (ps_for PassesOwn.never rfl (pi_range2 (by rfl) m_range (pa_cons pe_int (pa_cons (pv 3) pa_nil))) (pg_name (i := 5) sc_law_net.nd rfl (Or.inl rfl)) (pss_one (ps_expr (pe_bm PySem.F.plainAttrs_list PySem.F.slot_list_append PySem.F.type_list_append mt_append (pv 4) (pa_cons (pe_tup (pa_cons (pe_call G_law_draw hr (by rfl) g_law_draw F_law_draw.kp b_law_draw .nil pass0 (pa_cons (pv 0) (pa_cons (pv 5) pa_nil))) (pa_cons (pv 5) (pa_cons (pe_call G_law_cost hr (by rfl) g_law_cost F_law_cost.kp b_law_cost .nil pass0 (pa_cons (pv 0) pa_nil)) pa_nil)))) pa_nil)))))) pss_nil)
      (Evl.pss_cut (ps_if (pt_cmpR op_gt (pv 3) pe_int (nomark _)) (pss_one (ps_for PassesOwn.never rfl (pi_range1 (by rfl) m_range (pa_cons (pe_call G_law_draw hr (by rfl) g_law_draw F_law_draw.kp b_law_draw .nil pass0 (pa_cons (pv 0) (pa_cons (pe_op op_sub (pe_op op_add (pv 2) pe_int) (pe_callB (call_min2 rfl) (by rfl) m_min (by decide +kernel) (pa_cons (pv 2) (pa_cons (pe_callB call_len_seq (by rfl) m_len PySem.boot_len (pa_cons (pv 4) pa_nil)) pa_nil)))) pa_nil))) pa_nil)) (pg_name (i := 6) sc_law_net.nd rfl (Or.inl rfl)) (pss_one (ps_expr (pe_bm PySem.F.plainAttrs_list PySem.F.slot_list_insert PySem.F.type_list_insert mt_insert (pv 4) (pa_cons (pe_call G_law_draw hr (by rfl) g_law_draw F_law_draw.kp b_law_draw .nil pass0 (pa_cons (pv 0) (pa_cons (pe_op op_add (pe_callB call_len_seq (by rfl) m_len PySem.boot_len (pa_cons (pv 4) pa_nil)) pe_int) pa_nil))) (pa_cons (pe_call G_law_way hr (by rfl) g_law_way F_law_way.kp b_law_way .nil pass0 (pa_cons (pv 0) (pa_cons (pv 3) pa_nil))) pa_nil))))))) pss_nil)
      (pss_one (ps_ret (pe_tup (pa_cons (pv 3) (pa_cons (pe_callTy call_tuple_of (by rfl) m_tuple (by decide +kernel) (pa_cons (pe_slice sl_list (pv 4) po_none (po_some (pv 2))) pa_nil)) pa_nil))))))))), ?_⟩
    refine ⟨_, rfl, _, rfl, p, s, _, rfl, hP, by omega, by omega, fun r H1 r0 r1 hP1 e1 => ⟨_, _, rfl, rfl, ?_⟩⟩
    obtain ⟨n, hn⟩ : ∃ n : Nat, 1 + r = (n : Int) := ⟨(1 + r).toNat, by omega⟩
    have n1 : 1 ≤ n := by omega
    have n12 : n ≤ 12 := by omega
    dsimp only
    rw [hn]
    refine ⟨by show 0 ≤ sizeLine; decide, fun l hl => ?_⟩
    obtain ⟨hlp, hls⟩ := hP1.ne hl
    have hl0 : H l = none := e1.fr l hl
    have F0 : FillAt H (upd H1 l (.lst [])) T p s l n 0 := ⟨[], [], hP1.upd hlp hls, e1.trans (Ext.new hl), upd_same, rpl_nil, Nat.le_refl _, fun w hw => by simp at hw⟩
    -- the first ways
    refine ⟨fun σ' H' => ∃ y5, σ' = [some (.ref p), some (.int most), some (.int ways), some (.int n), some (.ref l), y5, none] ∧ FillAt H H' T p s l n 11, ?_, ?_⟩
    · refine ⟨_, rfl, _, _, rfl, rfl, _, rfl, ?_⟩
      have F1 : ∀ {m H'}, FillAt H H' T p s l n m → m ≤ 11 → FillAt H H' T p s l n 11 := fun {m H'} ⟨ws, vs, a1, a2, a3, a4, a5, a6⟩ h => ⟨ws, vs, a1, a2, a3, a4, Nat.le_trans a5 h, a6⟩
      refine ite2 (fun c => ?_) (fun c => iteF ⟨none, rfl, F1 F0 (by omega)⟩)
      refine ⟨_, rfl, p, s, _, rfl, F0.pool, by decide, by decide, fun r2 H2 r20 r21 hP2 e2 => ⟨_, _, rfl, rfl, _, rfl, ?_⟩⟩
      have F2 := F0.draw hlp hP2 e2
      refine ite2 (fun c2 => ?_) (fun c2 => ⟨none, rfl, F1 F2 (by omega)⟩)
      have c' : (n : Int) > 1 := of_decide_eq_true c
      refine ⟨_, rfl, 1, n, rfl, ⟨by decide, by decide, by omega, by omega⟩, for_range (lo := 1) (n := ((n : Int) - 1).toNat) (fun i σ' H' => ∃ y5, σ' = [some (.ref p), some (.int most), some (.int ways), some (.int n), some (.ref l), y5, none] ∧ FillAt H H' T p s l n i) ⟨none, rfl, F2⟩ ?_ ?_⟩
      · rintro i σ' H3 hi ⟨y5, rfl, F3⟩
        have hP3 : PoolAt H3 p s := F3.pool
        obtain ⟨vs3, hl3⟩ := F3.lst
        refine ⟨_, rfl, .inl ⟨rfl, _, SqL.of hl3⟩, ?_⟩
        refine ⟨_, rfl, _, rfl, p, s, _, rfl, hP3, by omega, by omega, fun r4 H4 r40 r41 hP4 e4 => ?_⟩
        have F4 := F3.draw hlp hP4 e4
        obtain ⟨a, rfl⟩ := nat_of r40
        refine ⟨_, rfl, _, rfl, p, s, rfl, hP4, fun c5 H5 c0 c1 hP5 e5 => ?_⟩
        obtain ⟨ws, vs, _, e05, hl5, r5, hm5, ok5⟩ := F4.draw hlp hP5 e5
        obtain ⟨cc, rfl⟩ := nat_of (show 0 ≤ c5 by omega)
        refine ⟨by show 3 ≤ sizeLine; decide, fun t ht => ?_⟩
        have htl : l ≠ t := ne_of_none hl5 ht
        have e6 : Ext T (atP p) H5 (upd H5 t (.tup [.int (a : Int), .int (1 + (i : Int)), .int (cc : Int)])) := Ext.new ht
        have hl6 : (upd H5 t (.tup [.int (a : Int), .int (1 + (i : Int)), .int (cc : Int)])) l = some (.lst vs) := by rw [upd_ne htl]; exact hl5
        have hvl : vs.length = ws.length := by rw [r5.len, List.length_map]
        refine ⟨l, vs, _, rfl, rfl, hl6, small1000 (by omega), ?_⟩
        refine ⟨_, rfl, ws ++ [(a, 1 + i, cc)], vs ++ [.ref t], (hP5.keep (T := T) (Ext.new ht)).upd hlp hls, (e05.trans e6).mut (.inl hl0) hl6 ltbl, upd_same, ?_, ?_, ?_⟩
        · rw [List.map_append]
          refine rpl_upd (RpL.snoc (RpL.p r5 hP5 e6) (rp_way ?_)) hl6
          rw [upd_same]; push_cast; rfl
        · rw [List.length_append, List.length_singleton]; omega
        · intro w hw
          rcases List.mem_append.mp hw with h | h
          · exact ok5 w h
          · rw [List.mem_singleton.mp h]
            exact ⟨by show a < 1 + i; omega, by show 1 + i < n; omega, by show 1 ≤ cc; omega, by show cc ≤ 10000; omega⟩
      · rintro σ' H3 ⟨y5, rfl, F3⟩
        exact ⟨_, rfl, F1 F3 (by omega)⟩
    · rintro σ' H2 ⟨y5, rfl, F2⟩
      -- the other ways
      refine ⟨fun σ' H' => ∃ y6, σ' = [some (.ref p), some (.int most), some (.int ways), some (.int n), some (.ref l), y5, y6] ∧ FillAt H H' T p s l n 36, ?_, ?_⟩
      · have F1 : ∀ {m H'}, FillAt H H' T p s l n m → m ≤ 36 → FillAt H H' T p s l n 36 := fun {m H'} ⟨ws, vs, a1, a2, a3, a4, a5, a6⟩ h => ⟨ws, vs, a1, a2, a3, a4, Nat.le_trans a5 h, a6⟩
        refine ⟨_, rfl, _, _, rfl, rfl, _, rfl, ?_⟩
        refine ite2 (fun c => ?_) (fun c => ⟨none, rfl, F1 F2 (by omega)⟩)
        have c' : (n : Int) > 1 := of_decide_eq_true c
        obtain ⟨ws2, vs2, hP2, e02, hl2, r2, hm2', ok2⟩ := _root_.id F2
        have hv2 : vs2.length = ws2.length := by rw [r2.len, List.length_map]
        have mn := minI ways (vs2.length : Int)
        refine ⟨_, rfl, _, rfl, _, _, rfl, rfl, _, rfl, _, rfl, l, _, rfl, .inl (SqL.of hl2), _, _, rfl, _, _, rfl, rfl, p, s, _, rfl, hP2, by omega, by omega, fun r3 H3 r30 r31 hP3 e3 => ?_⟩
        have F3 := F2.draw hlp hP3 e3
        have hb : r3 < 26 := by omega
        refine ⟨r3, rfl, by omega, by omega, for_range (lo := 0) (n := r3.toNat) (fun i σ' H' => ∃ y6, σ' = [some (.ref p), some (.int most), some (.int ways), some (.int n), some (.ref l), y5, y6] ∧ FillAt H H' T p s l n (11 + i)) ⟨none, rfl, F3⟩ ?_ ?_⟩
        · rintro i σ' H4 hi ⟨y6, rfl, F4⟩
          obtain ⟨ws4, vs4, hP4, e04, hl4, r4, hm4, ok4⟩ := _root_.id F4
          have hv4 : vs4.length = ws4.length := by rw [r4.len, List.length_map]
          refine ⟨_, rfl, .inl ⟨rfl, _, SqL.of hl4⟩, ?_⟩
          refine ⟨_, rfl, _, rfl, l, _, rfl, .inl (SqL.of hl4), _, _, rfl, rfl, p, s, _, rfl, hP4, by omega, by omega, fun r5 H5 r50 r51 hP5 e5 => ?_⟩
          have F5 := F4.draw hlp hP5 e5
          have hl5 := e5.lst hlp hl4
          refine ⟨_, rfl, _, rfl, p, s, n, rfl, hP5, by omega, by omega, fun v w H6 hw hv hP6 e6 => ?_⟩
          have r6 := RpL.p (RpL.p r4 hP4 e5) hP5 e6
          have hl6 := e6.lst hlp hl5
          refine ⟨l, vs4, r5, v, rfl, rfl, hl6, small1000 (by omega), r50, by omega, ?_⟩
          refine ⟨_, rfl, ws4.take r5.toNat ++ [w] ++ ws4.drop r5.toNat, vs4.take r5.toNat ++ [v] ++ vs4.drop r5.toNat, hP6.upd hlp hls, ((e04.trans e5).trans e6).mut (.inl hl0) hl6 ltbl, upd_same, ?_, ?_, ?_⟩
          · rw [List.map_append, List.map_append, List.map_take, List.map_drop]
            exact rpl_upd (((r6.take _).append (rpl_cons hv rpl_nil)).append (r6.drop _)) hl6
          · have := List.length_take_le r5.toNat ws4
            rw [List.length_append, List.length_append, List.length_take, List.length_drop, List.length_singleton]; omega
          · intro x hx
            rcases List.mem_append.mp hx with h | h
            · rcases List.mem_append.mp h with h | h
              · exact ok4 x (List.mem_of_mem_take h)
              · rw [List.mem_singleton.mp h]; exact hw
            · exact ok4 x (List.mem_of_mem_drop h)
        · rintro σ' H4 ⟨y6, rfl, F4⟩
          exact ⟨_, rfl, F1 F4 (by omega)⟩
      · rintro σ' H3 ⟨y6, rfl, ws, vs, hP3, e03, hl3, r3, hm3, ok3⟩
        refine ⟨_, rfl, _, rfl, _, rfl, ways, rfl, l, vs, rfl, SqL.of hl3, fun q hq => ?_⟩
        obtain ⟨j, rfl⟩ := nat_of hw1
        rw [cutTo]
        refine ⟨q, _, rfl, .inl ⟨SqL.of upd_same, fun t ht => ?_⟩⟩
        refine ⟨by show 2 ≤ sizeLine; decide, fun u hu => ?_⟩
        have eq1 : Ext T noM H3 (upd H3 q (.lst (vs.take j))) := Ext.new hq
        have eq2 : Ext T noM (upd H3 q (.lst (vs.take j))) (upd (upd H3 q (.lst (vs.take j))) t (.tup (vs.take j))) := Ext.new ht
        have eq3 : Ext T noM (upd (upd H3 q (.lst (vs.take j))) t (.tup (vs.take j))) (upd (upd (upd H3 q (.lst (vs.take j))) t (.tup (vs.take j))) u (.tup [.int (n : Int), .ref t])) := Ext.new hu
        have e123 := (eq1.trans eq2).trans eq3
        have htu : t ≠ u := fun z => by rw [← z, upd_same] at hu; cases hu
        refine k (.ref u) n (ws.take j) _ ⟨n1, n12, ?_, fun x hx => ok3 x (List.mem_of_mem_take hx)⟩ (rp_net (b := t) (vs := vs.take j) upd_same (by rw [upd_ne htu, upd_same]) ?_) (hP3.keep e123) (e03.trans e123.weak)
        · have := List.length_take_le j ws
          omega
        · rw [List.map_take]
          exact (RpL.x e123 r3).take j
end
end Mw

set_option linter.all false
namespace Mw
/-- connected by the edges -/
inductive Cn (es : List (Nat × Nat)) : Nat → Nat → Prop where
  | refl (x : Nat) : Cn es x x
  | fwd {x a b : Nat} : Cn es x a → (a, b) ∈ es → Cn es x b
  | bwd {x a b : Nat} : Cn es x b → (a, b) ∈ es → Cn es x a
namespace Cn
variable {es fs : List (Nat × Nat)}
theorem trans {x y z : Nat} (h : Cn es x y) (g : Cn es y z) : Cn es x z := by
  induction g with
  | refl => exact h
  | fwd _ he ih => exact ih.fwd he
  | bwd _ he ih => exact ih.bwd he
theorem symm {x y : Nat} (h : Cn es x y) : Cn es y x := by
  induction h with
  | refl => exact .refl _
  | fwd _ he ih => exact (Cn.bwd (.refl _) he).trans ih
  | bwd _ he ih => exact (Cn.fwd (.refl _) he).trans ih
theorem mono (hs : ∀ e ∈ es, e ∈ fs) {x y : Nat} (h : Cn es x y) : Cn fs x y := by
  induction h with
  | refl => exact .refl _
  | fwd _ he ih => exact ih.fwd (hs _ he)
  | bwd _ he ih => exact ih.bwd (hs _ he)
theorem inv {x y : Nat} (h : Cn es x y) {P : Nat → Prop} (hP : ∀ e ∈ es, P e.1 ↔ P e.2) : P x ↔ P y := by
  induction h with
  | refl => exact Iff.rfl
  | fwd _ he ih => exact ih.trans (hP _ he)
  | bwd _ he ih => exact ih.trans (hP _ he).symm
theorem nil {x y : Nat} (h : Cn [] x y) : x = y := by
  induction h with
  | refl => rfl
  | fwd _ he _ => cases he
  | bwd _ he _ => cases he
end Cn

/-- h tells of each place below n the first place of its group -/
structure Hom (n : Nat) (es : List (Nat × Nat)) (h : Nat → Nat) : Prop where
  le : ∀ x, x < n → h x ≤ x
  idem : ∀ x, x < n → h (h x) = h x
  iff : ∀ x y, x < n → y < n → (h x = h y ↔ Cn es x y)
  bd : ∀ e ∈ es, e.1 < n ∧ e.2 < n
theorem Hom.start (n : Nat) : Hom n [] (fun x => x) := ⟨fun _ _ => Nat.le_refl _, fun _ _ => rfl, fun x y _ _ => ⟨fun e => by rw [show x = y from e]; exact .refl _, fun h => h.nil⟩, fun e he => by cases he⟩
def relab (h : Nat → Nat) (a b : Nat) : Nat → Nat := fun x => if h x = max (h a) (h b) then min (h a) (h b) else h x
theorem Hom.step {n : Nat} {es : List (Nat × Nat)} {h : Nat → Nat} (H : Hom n es h) {a b : Nat} (ha : a < n) (hb : b < n) : Hom n (es ++ [(a, b)]) (relab h a b) := by
  have la := H.le a ha
  have lb := H.le b hb
  have ia := H.idem a ha
  have ib := H.idem b hb
  have ilow : h (min (h a) (h b)) = min (h a) (h b) := by
    rcases Nat.le_total (h a) (h b) with q | q
    · rw [Nat.min_eq_left q]; exact ia
    · rw [Nat.min_eq_right q]; exact ib
  have lowhigh : min (h a) (h b) ≤ max (h a) (h b) := by omega
  refine ⟨fun x hx => ?_, fun x hx => ?_, fun x y hx hy => ⟨fun e => ?_, fun c => ?_⟩, fun e he => ?_⟩
  · unfold relab
    have := H.le x hx
    split <;> omega
  · by_cases hxm : h x = max (h a) (h b)
    · have e1 : relab h a b x = min (h a) (h b) := if_pos hxm
      rw [e1]
      unfold relab
      rw [ilow]; split <;> rfl
    · have e1 : relab h a b x = h x := if_neg hxm
      rw [e1]
      unfold relab
      rw [H.idem x hx, if_neg hxm]
  · -- the same label: connected
    have up : ∀ {u v : Nat}, Cn es u v → Cn (es ++ [(a, b)]) u v := fun c => c.mono fun e he => List.mem_append_left _ he
    have ab : Cn (es ++ [(a, b)]) a b := .fwd (.refl _) (List.mem_append_right _ (List.mem_singleton.mpr rfl))
    have toHigh : ∀ {u : Nat}, u < n → h u = max (h a) (h b) → Cn (es ++ [(a, b)]) u a := fun {u} hu e => by
      rcases Nat.le_total (h a) (h b) with q | q
      · rw [Nat.max_eq_right q] at e
        exact (up ((H.iff u b hu hb).mp e)).trans ab.symm
      · rw [Nat.max_eq_left q] at e
        exact up ((H.iff u a hu ha).mp e)
    have toLow : ∀ {u : Nat}, u < n → h u = min (h a) (h b) → Cn (es ++ [(a, b)]) u a := fun {u} hu e => by
      rcases Nat.le_total (h a) (h b) with q | q
      · rw [Nat.min_eq_left q] at e
        exact up ((H.iff u a hu ha).mp e)
      · rw [Nat.min_eq_right q] at e
        exact (up ((H.iff u b hu hb).mp e)).trans ab.symm
    unfold relab at e
    by_cases hx1 : h x = max (h a) (h b)
    · rw [if_pos hx1] at e
      by_cases hy1 : h y = max (h a) (h b)
      · exact (toHigh hx hx1).trans (toHigh hy hy1).symm
      · rw [if_neg hy1] at e
        exact (toHigh hx hx1).trans (toLow hy e.symm).symm
    · rw [if_neg hx1] at e
      by_cases hy1 : h y = max (h a) (h b)
      · rw [if_pos hy1] at e
        exact (toLow hx e).trans (toHigh hy hy1).symm
      · rw [if_neg hy1] at e
        exact up ((H.iff x y hx hy).mp e)
  · -- connected: the same label
    have eab : relab h a b a = relab h a b b := by
      unfold relab
      rcases Nat.le_total (h a) (h b) with q | q
      · rw [Nat.max_eq_right q, Nat.min_eq_left q, if_pos rfl]
        split <;> rfl
      · rw [Nat.max_eq_left q, Nat.min_eq_right q, if_pos rfl]
        split <;> rfl
    have inv := c.inv (P := fun z => relab h a b x = relab h a b z) fun e he => by
      have ee : relab h a b e.1 = relab h a b e.2 := by
        rcases List.mem_append.mp he with q | q
        · have hb' := H.bd e q
          have := (H.iff e.1 e.2 hb'.1 hb'.2).mpr (.fwd (.refl _) q)
          unfold relab; rw [this]
        · rw [List.mem_singleton.mp q]; exact eab
      rw [ee]
    exact inv.mp rfl
  · rcases List.mem_append.mp he with q | q
    · exact H.bd e q
    · rw [List.mem_singleton.mp q]; exact ⟨ha, hb⟩

/-! ### lists of places -/
/-- the group of p -/
def cls (h : Nat → Nat) (n p : Nat) : List Nat := (List.range n).filter fun x => h x == h p
def reps (h : Nat → Nat) (n : Nat) : List Nat := (List.range n).filter fun x => h x == x
def grps (h : Nat → Nat) (n : Nat) : List (List Nat) := (reps h n).map (cls h n)
theorem mem_cls {h : Nat → Nat} {n p x : Nat} : x ∈ cls h n p ↔ x < n ∧ h x = h p := by
  unfold cls; rw [List.mem_filter, List.mem_range, beq_iff_eq]
theorem range_pw (n : Nat) : (List.range n).Pairwise (· < ·) := List.pairwise_lt_range
theorem cls_pw (h : Nat → Nat) (n p : Nat) : (cls h n p).Pairwise (· < ·) := (range_pw n).filter _
theorem sorted_ext : ∀ {l m : List Nat}, l.Pairwise (· < ·) → m.Pairwise (· < ·) → (∀ x, x ∈ l ↔ x ∈ m) → l = m
  | [], [], _, _, _ => rfl
  | [], y :: m, _, _, h => absurd ((h y).mpr List.mem_cons_self) (by simp)
  | x :: l, [], _, _, h => absurd ((h x).mp List.mem_cons_self) (by simp)
  | x :: l, y :: m, hl, hm, h => by
    obtain ⟨hx, hl'⟩ := List.pairwise_cons.mp hl
    obtain ⟨hy, hm'⟩ := List.pairwise_cons.mp hm
    have exy : x = y := by
      rcases List.mem_cons.mp ((h x).mp List.mem_cons_self) with q | q
      · exact q
      · rcases List.mem_cons.mp ((h y).mpr List.mem_cons_self) with q' | q'
        · exact q'.symm
        · have h1 := hy x q
          have h2 := hx y q'
          omega
    subst exy
    rw [sorted_ext hl' hm' fun z => ?_]
    constructor
    · intro hz
      rcases List.mem_cons.mp ((h z).mp (List.mem_cons_of_mem _ hz)) with q | q
      · have := hx z hz; omega
      · exact q
    · intro hz
      rcases List.mem_cons.mp ((h z).mpr (List.mem_cons_of_mem _ hz)) with q | q
      · have := hy z hz; omega
      · exact q
/-- the first of a group -/
theorem cls_head {n : Nat} {es : List (Nat × Nat)} {h : Nat → Nat} (H : Hom n es h) {p : Nat} (hp : p < n) : ∃ r, cls h n p = h p :: r := by
  have hlt : h p < n := Nat.lt_of_le_of_lt (H.le p hp) hp
  have hm : h p ∈ cls h n p := mem_cls.mpr ⟨hlt, H.idem p hp⟩
  cases e : cls h n p with
  | nil => rw [e] at hm; cases hm
  | cons x r =>
    have hx : x ∈ cls h n p := by rw [e]; exact List.mem_cons_self
    obtain ⟨x1, x2⟩ := mem_cls.mp hx
    have pw := cls_pw h n p
    rw [e] at pw hm
    have : h p ≤ x := by rw [← x2]; exact H.le x x1
    rcases List.mem_cons.mp hm with q | q
    · exact ⟨r, by rw [q]⟩
    · have := (List.pairwise_cons.mp pw).1 _ q
      omega
theorem filter_range_succ (f : Nat → Bool) (n : Nat) : (List.range (n + 1)).filter f = (List.range n).filter f ++ if f n then [n] else [] := by
  rw [List.range_succ, List.filter_append]
  congr 1
  cases e : f n with
  | true => rw [List.filter_cons, if_pos e]; rfl
  | false => rw [List.filter_cons, if_neg (by rw [e]; exact Bool.false_ne_true)]; rfl
/-- places found, closed under the edges, all connected with p: the group -/
theorem closed_cls {n : Nat} {es : List (Nat × Nat)} {h : Nat → Nat} (H : Hom n es h) {p : Nat} (hp : p < n) {found l : List Nat} (hmem : p ∈ found) (hc : ∀ x ∈ found, x < n ∧ Cn es p x) (hcl : ∀ e ∈ es, e.1 ∈ found ↔ e.2 ∈ found)
    (hl : l.Pairwise (· < ·)) (hlm : ∀ x, x ∈ l ↔ x ∈ found) : l = cls h n p := by
  refine sorted_ext hl (cls_pw h n p) fun x => (hlm x).trans ⟨fun hx => ?_, fun hx => ?_⟩
  · obtain ⟨h1, h2⟩ := hc x hx
    exact mem_cls.mpr ⟨h1, ((H.iff p x hp h1).mpr h2).symm⟩
  · obtain ⟨h1, h2⟩ := mem_cls.mp hx
    have c := (H.iff p x hp h1).mp h2.symm
    exact (c.inv (P := fun z => z ∈ found) hcl).mp hmem
/-- distinct places below n -/
theorem nodup_le : ∀ {n : Nat} {l : List Nat}, l.Nodup → (∀ x ∈ l, x < n) → l.length ≤ n
  | 0, [], _, _ => Nat.le_refl _
  | 0, x :: l, _, hb => absurd (hb x List.mem_cons_self) (Nat.not_lt_zero _)
  | n + 1, l, hn, hb => by
    by_cases hm : n ∈ l
    · have h1 := nodup_le (n := n) (hn.erase n) fun x hx => by
        have := hn.mem_erase_iff.mp hx
        have := hb x this.2
        omega
      have := List.length_erase_of_mem hm
      have : 0 < l.length := List.length_pos_of_mem hm
      omega
    · have := nodup_le (n := n) hn fun x hx => by
        have := hb x hx
        have : x ≠ n := fun z => hm (z ▸ hx)
        omega
      omega
end Mw

set_option Elab.async false
set_option linter.all false
set_option maxRecDepth 100000
set_option maxHeartbeats 2000000
namespace GE
open PySem PySem.Spec PyProof.Rows L2
/-! ### generator expressions over tuples, lists, the values of a dict: by an invariant -/
section
variable {K : PySem.W.Frag} {a : Addr} {xs : List V} {g : TG} {tt : TT} {te : TE} {vs : List Nat} {σ : L2.St} {Yo : YO} {En : EN} {H : Hp} {J : It}
theorem turn_of (n : Nat) (Pv : Nat → List V → Hp → Prop) (h0 : Pv 0 [] H)
    (hd : ∀ ys H, Pv n ys H → J.stop n H ∧ En ys H)
    (hg : ∀ i ys H, i < n → Pv i ys H → J.go i H)
    (hs : ∀ i x ys H H1, i < n → Pv i ys H → J.yld i H x H1 → ∀ N : List V → Hp → Prop, (∀ zs H', Pv (i + 1) zs H' → N zs H') → g x (wipe σ vs) H1 fun σ2 H2 => wipe σ2 vs = wipe σ vs ∧ tt σ2 H2 fun b H3 =>
      if b = true then te σ2 H3 fun y H4 => ys.length < sizeLine ∧ Yo ys y H4 (N (ys ++ [y]) H4) else N ys H3) :
    ∃ W : Nat → Nat → List V → Hp → Prop, (∃ m, W 0 m [] H) ∧ turnX g tt te vs σ Yo En J W := by
  refine ⟨fun i m ys H => m = n - i ∧ i ≤ n ∧ Pv i ys H, ⟨n, rfl, Nat.zero_le _, h0⟩, ?_⟩
  rintro i m ys H ⟨rfl, hi, p⟩
  rcases Nat.lt_or_eq_of_le hi with h | h
  · refine .inr ⟨hg i ys H h p, fun x H1 hy => ?_⟩
    exact hs i x ys H H1 h p hy (fun ys H4 => ∃ m', m' < n - i ∧ m' = n - (i + 1) ∧ i + 1 ≤ n ∧ Pv (i + 1) ys H4) fun zs H' q => ⟨n - (i + 1), by omega, rfl, h, q⟩
  · subst h
    exact .inl (hd ys H p)
theorem turn_tupI (Pv : Nat → List V → Hp → Prop) (h0 : Pv 0 [] H) (hl : ∀ i ys H, i ≤ xs.length → Pv i ys H → SqT K H a xs) (hd : ∀ ys H, Pv xs.length ys H → En ys H)
    (hs : ∀ i x ys H, xs[i]? = some x → Pv i ys H → ∀ N : List V → Hp → Prop, (∀ zs H', Pv (i + 1) zs H' → N zs H') → g x (wipe σ vs) H fun σ2 H2 => wipe σ2 vs = wipe σ vs ∧ tt σ2 H2 fun b H3 =>
      if b = true then te σ2 H3 fun y H4 => ys.length < sizeLine ∧ Yo ys y H4 (N (ys ++ [y]) H4) else N ys H3) :
    ∃ W : Nat → Nat → List V → Hp → Prop, (∃ m, W 0 m [] H) ∧ turnX g tt te vs σ Yo En (Itt K a) W := by
  refine turn_of xs.length Pv h0 (fun ys H p => ⟨⟨xs, hl _ _ _ (Nat.le_refl _) p, Nat.le_refl _⟩, hd ys H p⟩) (fun i ys H h p => ⟨xs, xs[i], hl _ _ _ (Nat.le_of_lt h) p, List.getElem?_eq_getElem h⟩) ?_
  rintro i x ys H H1 h p ⟨rfl, hy⟩ N hN
  exact hs i x ys H1 (hy xs (hl _ _ _ (Nat.le_of_lt h) p)) p N hN
theorem turn_valsI {d : Addr} {o : Obj} {kvs : List (Key × V)} (Pv : Nat → List V → Hp → Prop) (h0 : Pv 0 [] H) (hl : ∀ i ys H, i ≤ kvs.length → Pv i ys H → H d = some (.frz o (.dK kvs))) (hd : ∀ ys H, Pv kvs.length ys H → En ys H)
    (hs : ∀ i k x ys H, kvs[i]? = some (k, x) → Pv i ys H → ∀ N : List V → Hp → Prop, (∀ zs H', Pv (i + 1) zs H' → N zs H') → g x (wipe σ vs) H fun σ2 H2 => wipe σ2 vs = wipe σ vs ∧ tt σ2 H2 fun b H3 =>
      if b = true then te σ2 H3 fun y H4 => ys.length < sizeLine ∧ Yo ys y H4 (N (ys ++ [y]) H4) else N ys H3) :
    ∃ W : Nat → Nat → List V → Hp → Prop, (∃ m, W 0 m [] H) ∧ turnX g tt te vs σ Yo En (Itd d o kvs) W := by
  refine turn_of kvs.length Pv h0 (fun ys H p => ⟨⟨hl _ _ _ (Nat.le_refl _) p, Nat.le_refl _⟩, hd ys H p⟩) (fun i ys H h p => ⟨hl _ _ _ (Nat.le_of_lt h) p, h⟩) ?_
  rintro i x ys H H1 h p ⟨rfl, k, hk⟩ N hN
  exact hs i k x ys H1 hk p N hN
theorem isum_ints (ns : List Int) : isum (ns.map V.int) = ns.sum := by
  unfold isum; rw [List.map_map]; congr 1
  exact List.map_id'' (fun _ => rfl) ns
theorem tYesI {σ : L2.St} {H : Hp} {A B : Hp → Prop} (h : A H) : tYes σ H fun b H3 => if b = true then A H3 else B H3 := by
  show (if true = true then A H else B H)
  rw [if_pos rfl]; exact h
end
section
variable {X : Cx} {K : PySem.W.Frag}
/-! the same rules, the fragment named (within a generator's frame) -/
theorem ix_tupK (h : X.K = K := by rfl) : IxR X (rIxT K) := h ▸ ix_tup
theorem ix_listK (h : X.K = K := by rfl) : IxR X (rIxL K) := h ▸ ix_list
theorem in_seqK (h : X.K = K := by rfl) : OpR X (compareOp .In) (rIn K false) := h ▸ op_in_seq
theorem notIn_seqK (h : X.K = K := by rfl) : OpR X (compareOp .NotIn) (rIn K true) := h ▸ op_notIn_seq
theorem call_len_seqK (h : X.K = K := by rfl) : CallR X (.builtin "len") (fun xs H Q => ∃ p ys, xs = [.ref p] ∧ (SqL K H p ys ∨ SqT K H p ys) ∧ Q (.int ys.length) H) := h ▸ call_len_seq
theorem call_tuple_ofK (h : X.K = K := by rfl) : CallR X (.type "tuple") (fun xs H Q => ∃ p ys, xs = [.ref p] ∧ ((SqL K H p ys ∧ ∀ l, H l = none → Q (.ref l) (upd H l (.tup ys))) ∨ (SqT K H p ys ∧ Q (.ref p) H))) := h ▸ call_tuple_of
theorem pg_tupK {es : List Expr} {k : Nat} {pos : Pos} {t : TGs} (n : Nat) (h : PGs X es t) (hK : X.K = K := by rfl) (hc : X.calm = true := by rfl)
    (hn : (assignEach es X.env).length = n := by rfl) (hst : (assignEach es X.env).findIdx? (·.1) = none := by rfl) : PG X (.Tuple es k pos) (gTup K n t) := hK ▸ pg_tup hc h hn hst
theorem pi_or {tg e : Expr} {w1 w2 : TI} (h1 : PI X tg e w1) (h2 : PI X tg e w2) : PI X tg e fun σ H R => w1 σ H R ∨ w2 σ H R :=
  ⟨fun pins s σ H R I h => h.elim (h1.run pins s σ H R I) (h2.run pins s σ H R I)⟩
end
end GE

set_option Elab.async false
set_option linter.all false
set_option maxRecDepth 100000
set_option maxHeartbeats 4000000
namespace Mw
open PySem PySem.Spec PyProof.Rows L2 GE
/-! ### choices -/
def wyAt (ws : List Wy) (c : Nat) : Wy := ws.getD c (0, 0, 0)
def edg (ws : List Wy) (cs : List Nat) : List (Nat × Nat) := cs.map fun c => ((wyAt ws c).1, (wyAt ws c).2.1)
def hom (ws : List Wy) (cs : List Nat) : Nat → Nat := cs.foldl (fun h c => relab h (wyAt ws c).1 (wyAt ws c).2.1) fun x => x
theorem take_succ' {α : Type} {l : List α} {i : Nat} {x : α} (h : l[i]? = some x) : l.take (i + 1) = l.take i ++ [x] := by rw [List.take_add_one, h]; rfl
theorem hom_snoc (ws : List Wy) (cs : List Nat) (c : Nat) : hom ws (cs ++ [c]) = relab (hom ws cs) (wyAt ws c).1 (wyAt ws c).2.1 := by unfold hom; rw [List.foldl_append]; rfl
theorem wy_ok {n : Nat} {ws : List Wy} (W : Wf n ws) {c : Nat} (h : c < ws.length) : ws[c]? = some (wyAt ws c) ∧ WayOk n (wyAt ws c) := by
  have e : ws[c]? = some ws[c] := List.getElem?_eq_getElem h
  have e2 : wyAt ws c = ws[c] := by unfold wyAt; rw [List.getD_eq_getElem?_getD, e]; rfl
  exact ⟨by rw [e2]; exact e, by rw [e2]; exact W.ok _ (List.getElem_mem h)⟩
theorem hom_ok {n : Nat} {ws : List Wy} (W : Wf n ws) : ∀ cs : List Nat, (∀ c ∈ cs, c < ws.length) → Hom n (edg ws cs) (hom ws cs) := by
  have key : ∀ (k : Nat) (cs : List Nat), cs.length = k → (∀ c ∈ cs, c < ws.length) → Hom n (edg ws cs) (hom ws cs) := by
    intro k
    induction k with
    | zero =>
      intro cs hl _
      rw [List.eq_nil_of_length_eq_zero hl]; exact Hom.start n
    | succ k ih =>
      intro cs hl hb
      have hne : cs ≠ [] := fun z => by rw [z] at hl; cases hl
      have e := List.dropLast_concat_getLast hne
      rw [← e]
      have hb1 : ∀ c ∈ cs.dropLast, c < ws.length := fun c hc => hb c (List.dropLast_subset _ hc)
      have hlast := hb _ (List.getLast_mem hne)
      have H1 := ih cs.dropLast (by rw [List.length_dropLast]; omega) hb1
      have ok := (wy_ok W hlast).2
      rw [hom_snoc]
      have e2 : edg ws (cs.dropLast ++ [cs.getLast hne]) = edg ws cs.dropLast ++ [((wyAt ws (cs.getLast hne)).1, (wyAt ws (cs.getLast hne)).2.1)] := by unfold edg; rw [List.map_append]; rfl
      rw [e2]
      exact H1.step (Nat.lt_trans ok.1 ok.2.1) ok.2.1
  exact fun cs => key cs.length cs rfl
theorem hom_lt {n : Nat} {ws : List Wy} (W : Wf n ws) {cs : List Nat} (h : ∀ c ∈ cs, c < ws.length) {x : Nat} (hx : x < n) : hom ws cs x < n := Nat.lt_of_le_of_lt ((hom_ok W cs h).le x hx) hx
/-- the list of first places -/
def hV (n : Nat) (h : Nat → Nat) : List V := (List.range n).map fun x => V.int (h x : Nat)
theorem hV_get {n : Nat} {h : Nat → Nat} {x : Nat} (hx : x < n) : (hV n h)[x]? = some (.int (h x : Nat)) := by
  unfold hV; rw [List.getElem?_map, List.getElem?_range hx]; rfl
theorem hV_len (n : Nat) (h : Nat → Nat) : (hV n h).length = n := by unfold hV; rw [List.length_map, List.length_range]
theorem rg_hV (n : Nat) : rgV 0 (n : Int) = hV n fun x => x := by
  unfold rgV hV
  have : ((n : Int) - 0).toNat = n := by omega
  rw [this]
  exact List.map_congr_left fun x _ => by rw [Int.zero_add]
structure Task (H : Hp) (n : Nat) (ws : List Wy) (cs : List Nat) (net ch : V) : Prop where
  W : Wf n ws
  C : Ch ws.length cs
  net : Rp H (netD n ws) net
  ch : Rp H (chD cs) ch
theorem Task.x {T : List Addr} {H H' : Hp} {n : Nat} {ws : List Wy} {cs : List Nat} {net ch : V} (t : Task H n ws cs net ch) (e : Ext T noM H H') : Task H' n ws cs net ch := ⟨t.W, t.C, Rp.x e t.net, Rp.x e t.ch⟩
def spHomes (T : List Addr) : Sp := fun vs H Q _ => ∃ (net ch : V) (n : Nat) (ws : List Wy) (cs : List Nat), vs = [net, ch] ∧ Task H n ws cs net ch ∧ ∀ l H', H l = none → H' l = some (.lst (hV n (hom ws cs))) → Ext T noM H H' → Q (.ref l) H'
def grpD (h : Nat → Nat) (n : Nat) : D := .t ((grps h n).map fun g => .t (g.map fun (x : Nat) => .i (x : Int)))
def spGroups (T : List Addr) : Sp := fun vs H Q _ => ∃ (net ch : V) (n : Nat) (ws : List Wy) (cs : List Nat), vs = [net, ch] ∧ Task H n ws cs net ch ∧ Wd T H ∧ ∀ v H', Rp H' (grpD (hom ws cs) n) v → Ext T noM H H' → Q v H'
def cost (ws : List Wy) (cs : List Nat) : Int := (cs.map fun c => ((wyAt ws c).2.2 : Int)).sum
def spPrice (T : List Addr) : Sp := fun vs H Q _ => ∃ (net ch : V) (n : Nat) (ws : List Wy) (cs : List Nat), vs = [net, ch] ∧ Task H n ws cs net ch ∧ Wd T H ∧ ∀ H', Ext T noM H H' → Q (.int (cost ws cs)) H'
theorem sum_le : ∀ (l : List Int), (∀ z ∈ l, 0 ≤ z ∧ z ≤ 10000) → 0 ≤ l.sum ∧ l.sum ≤ 10000 * l.length
  | [], _ => by simp
  | z :: r, h => by
    have h1 := h z (List.mem_cons_self ..)
    have h2 := sum_le r fun y hy => h y (List.mem_cons_of_mem _ hy)
    rw [List.sum_cons, List.length_cons]; omega
theorem cost_le {n : Nat} {ws : List Wy} {cs : List Nat} (W : Wf n ws) (C : Ch ws.length cs) (i : Nat) : 0 ≤ cost ws (cs.take i) ∧ cost ws (cs.take i) ≤ 240000 := by
  have hl : (cs.take i).length ≤ 24 := Nat.le_trans (by rw [List.length_take]; exact Nat.min_le_right _ _) (Nat.le_trans C.len W.ln)
  have := sum_le ((cs.take i).map fun c => ((wyAt ws c).2.2 : Int)) fun z hz => by
    obtain ⟨c, hc, rfl⟩ := List.mem_map.mp hz
    have ok := (wy_ok W (C.lt c (List.mem_of_mem_take hc))).2
    unfold WayOk at ok
    omega
  unfold cost
  rw [List.length_map] at this
  omega
theorem way_get {H : Hp} {n : Nat} {ws : List Wy} (W : Wf n ws) {us : List V} (r : RpL H (ws.map wayD) us) {c : Nat} (hc : c < ws.length) : ∃ a, us[c]? = some (.ref a) ∧ H a = some (.tup [.int (wyAt ws c).1, .int (wyAt ws c).2.1, .int (wyAt ws c).2.2]) := by
  obtain ⟨v, h1, h2⟩ := r.get (i := c) (d := wayD (wyAt ws c)) (by rw [List.getElem?_map, (wy_ok W hc).1]; rfl)
  obtain ⟨a, rfl, ha⟩ := way_at h2
  exact ⟨a, h1, ha⟩
theorem minN (a b : Nat) : (if (b : Int) < (a : Int) then (b : Int) else (a : Int)) = ((min a b : Nat) : Int) := by split <;> omega
theorem maxN (a b : Nat) : (if (b : Int) > (a : Int) then (b : Int) else (a : Int)) = ((max a b : Nat) : Int) := by split <;> omega
theorem vint_inj {a b : Nat} : (V.int (a : Int) = V.int (b : Int)) ↔ a = b := ⟨fun h => by injection h with h; omega, fun h => by rw [h]⟩
section
variable {P : Program} {w : World} {K : PySem.W.Frag} {mg : Str → Option Value} {base : Heap} {T : List Addr}
theorem ok__homes {f : Addr} {fd : FuncData} (F : Fun K "_homes" "_homes" s_homes f fd) (m_list : mg "list" = none) (m_range : mg "range" = none) (m_min : mg "min" = none) (m_max : mg "max" = none) : FnOk P w K mg base CX0 1 f fd ["net", "choice"] (spHomes T) := by
  refine F.ok sc_homes (fun vs H Q E h => ?_) (fun cdv A outer s H vs Q E hr h => ?_)
  · obtain ⟨net, ch, n, ws, cs, rfl, t, k⟩ := h
    rfl
  · obtain ⟨net, ch, n, ws, cs, rfl, t, k⟩ := h
    refine ⟨_, (pss_cons (ps_asg (pv 0) (pg_tup (by rfl) (pgs_cons (pg_name (i := 2) sc_homes.nd rfl (Or.inl rfl)) (pgs_cons (pg_name (i := 3) sc_homes.nd rfl (Or.inl rfl)) pgs_nil))))
      (pss_cons (ps_set (i := 4) sc_homes.nd rfl (Or.inl rfl) (pe_listRg rfl (by rfl) m_list (prg_1 (by rfl) m_range (pv 2))))
      (pss_cons (ps_for PassesOwn.never rfl (pi_tup (pv 1)) (pg_name (i := 5) sc_homes.nd rfl (Or.inl rfl)) (pss_cons (ps_asg (pe_ix ix_tup (pv 3) (pv 5) (fun _ _ => rfl)) (pg_tup (by rfl) (pgs_cons (pg_name (i := 6) sc_homes.nd rfl (Or.inl rfl)) (pgs_cons (pg_name (i := 7) sc_homes.nd rfl (Or.inl rfl)) (pgs_cons (pg_name (i := 8) sc_homes.nd rfl (Or.inl rfl)) pgs_nil)))))
      (pss_cons (ps_set (i := 9) sc_homes.nd rfl (Or.inr rfl) (pe_callB (call_min2 rfl) (by rfl) m_min (by decide +kernel) (pa_cons (pe_ix ix_list (pv 4) (pv 6) (fun _ _ => rfl)) (pa_cons (pe_ix ix_list (pv 4) (pv 7) (fun _ _ => rfl)) pa_nil))))
      (pss_cons (ps_set (i := 10) sc_homes.nd rfl (Or.inr rfl) (pe_callB (call_max2 rfl) (by rfl) m_max (by decide +kernel) (pa_cons (pe_ix ix_list (pv 4) (pv 6) (fun _ _ => rfl)) (pa_cons (pe_ix ix_list (pv 4) (pv 7) (fun _ _ => rfl)) pa_nil))))
      (pss_one (ps_setLc (i := 4) (own := [("home", 11)]) (g := (gName 11)) (tt := tYes) rfl sc_homes.nd rfl rfl (sw_true rfl rfl rfl (by decide +kernel)) (pi_list (pv 4)) (blkOk_by (own := [("home", 11)]) (N := ["net", "choice", "places", "ways", "homes", "way", "a", "b", "_", "low", "high", "home"]) (sc := defScope s_homes) (by decide +kernel)) (fun _ _ _ _ _ => (pg_name (i := 11) sc_homes.nd rfl (Or.inl rfl))) (fun _ _ _ _ _ => pts_nil) (fun _ _ _ _ _ => (pe_ifExp (pt_cmpR op_eq (pv 11) (pv 10) (nomark _)) (pv 9) (pv 11)))))))))
      (pss_one (ps_ret (pv 4)))))), ?_⟩
    obtain ⟨W, C, hnet, hch⟩ := t
    obtain ⟨na, nb, us, rfl, ha, hb, hus⟩ := net_at hnet
    obtain ⟨ca, rfl, hca⟩ := ch_at hch
    have n12 := W.n12
    have h24 := W.ln
    have hlen : us.length = ws.length := by rw [hus.len, List.length_map]
    refine ⟨_, rfl, na, _, rfl, SqT.of ha, rfl, _, _, rfl, _, _, rfl, rfl, ?_⟩
    refine ⟨_, rfl, n, rfl, RgOk.of_le (by omega) (by omega) (by omega) (by omega), fun l hl => ?_⟩
    rw [rg_hV]
    have e1 : Ext T noM H (upd H l (.lst (hV n fun x => x))) := Ext.new hl
    refine ⟨_, rfl, ca, rfl, ⟨_, SqT.of (e1.tup (fun z => z) hca)⟩, for_tup (K := K) (a := ca) (xs := cs.map fun (c : Nat) => V.int (c : Int)) (fun i σ' H' => ∃ l y5 y6 y7 y8 y9 y10 y11, σ' = [some (.ref na), some (.ref ca), some (.int n), some (.ref nb), some (.ref l), y5, y6, y7, y8, y9, y10, y11] ∧ H l = none ∧ H' l = some (.lst (hV n (hom ws (cs.take i)))) ∧ Ext T noM H H')
      ⟨l, none, none, none, none, none, none, none, rfl, hl, upd_same, e1⟩ (fun i σ' H' _ ⟨_, _, _, _, _, _, _, _, _, _, _, e⟩ => SqT.of (e.tup (fun z => z) hca)) ?_ ?_⟩
    · rintro i x σ' H2 hx ⟨l2, y5, y6, y7, y8, y9, y10, y11, rfl, hl2, hL, e2⟩
      obtain ⟨c, hc, rfl⟩ : ∃ c, cs[i]? = some c ∧ x = V.int ((c : Nat) : Int) := by
        rw [List.getElem?_map] at hx
        cases e : cs[i]? with
        | none => rw [e] at hx; cases hx
        | some c => rw [e] at hx; exact ⟨c, rfl, (Option.some.inj hx).symm⟩
      have hcl : c < ws.length := C.lt c (List.mem_of_getElem? hc)
      obtain ⟨wa, hwa, hwt⟩ := way_get W hus hcl
      obtain ⟨_, ok1, ok2, _⟩ := wy_ok W hcl
      have hL1 := hV_get (n := n) (h := hom ws (cs.take i)) (x := (wyAt ws c).1) (by omega)
      have hL2 := hV_get (n := n) (h := hom ws (cs.take i)) (x := (wyAt ws c).2.1) ok2
      refine ⟨_, rfl, _, rfl, nb, _, _, _, rfl, rfl, SqT.of (e2.tup (fun z => z) hb), at_of (j := c) rfl hwa, wa, _, rfl, SqT.of (e2.tup (fun z => z) hwt), rfl, _, _, rfl, _, _, rfl, _, _, rfl, rfl, ?_⟩
      refine ⟨_, rfl, _, rfl, l2, _, _, _, rfl, rfl, SqL.of hL, at_of (j := (wyAt ws c).1) rfl hL1, _, rfl, _, rfl, l2, _, _, _, rfl, rfl, SqL.of hL, at_of (j := (wyAt ws c).2.1) rfl hL2, _, _, rfl, ?_⟩
      refine ⟨_, rfl, _, rfl, l2, _, _, _, rfl, rfl, SqL.of hL, at_of (j := (wyAt ws c).1) rfl hL1, _, rfl, _, rfl, l2, _, _, _, rfl, rfl, SqL.of hL, at_of (j := (wyAt ws c).2.1) rfl hL2, _, _, rfl, ?_⟩
      rw [minN, maxN]
      refine ⟨_, rfl, l2, rfl, ⟨_, SqL.of hL⟩, fun Dl hD => ?_⟩
      have hnew := hom_snoc ws (cs.take i) c
      rw [← take_succ' hc] at hnew
      refine lc_list (xs := hV n (hom ws (cs.take i))) (fun j H' => Ext T noM H H' ∧ H Dl = none ∧ H' l2 = some (.lst (hV n (hom ws (cs.take i)))) ∧ H' Dl = some (.lst ((hV n (hom ws (cs.take (i + 1)))).take j))) ⟨e2.trans (Ext.new hD), e2.fr _ hD, by rw [upd_ne (ne_of_none hL hD)]; exact hL, upd_same⟩ (fun j H' _ p => SqL.of p.2.2.1) ?_ ?_
      · rintro j x H3 hx ⟨e3, hDn, hL3, hD3⟩
        have hj : j < n := by have := (List.getElem?_eq_some_iff.mp hx).1; rw [hV_len] at this; exact this
        have ex := hV_get (n := n) (h := hom ws (cs.take i)) hj
        rw [hx] at ex
        obtain rfl := Option.some.inj ex
        have el2 : l2 ≠ Dl := fun z => by rw [z, hD3] at hL3; have := congrArg List.length (HO.lst.inj (Option.some.inj hL3)); rw [List.length_take, hV_len, hV_len] at this; omega
        have fin : ∀ z : Nat, z = hom ws (cs.take (i + 1)) j → ∃ acc, H3 Dl = some (.lst acc) ∧ acc.length < sizeLine ∧ (Ext T noM H (upd H3 Dl (.lst (acc ++ [V.int (z : Int)]))) ∧ H Dl = none ∧ (upd H3 Dl (.lst (acc ++ [V.int (z : Int)]))) l2 = some (.lst (hV n (hom ws (cs.take i)))) ∧
            (upd H3 Dl (.lst (acc ++ [V.int (z : Int)]))) Dl = some (.lst ((hV n (hom ws (cs.take (i + 1)))).take (j + 1)))) := fun z ez => by
          refine ⟨_, hD3, ?_, e3.mut (.inl hDn) hD3 ltbl, hDn, by rw [upd_ne el2]; exact hL3, ?_⟩
          · rw [List.length_take, hV_len]; exact small1000 (by omega)
          · rw [upd_same, take_succ' (hV_get hj), ez]
        refine ⟨rfl, tYesI ?_⟩
        refine ⟨_, rfl, _, rfl, rfl, _, rfl, ?_⟩
        refine ite2 (fun q => ⟨_, rfl, fin _ ?_⟩) (fun q => ⟨_, rfl, fin _ ?_⟩)
        · have q' := vint_inj.mp (of_decide_eq_true q)
          rw [hnew]; unfold relab; rw [if_pos q']
        · have q' : ¬ hom ws (cs.take i) j = max (hom ws (cs.take i) (wyAt ws c).1) (hom ws (cs.take i) (wyAt ws c).2.1) := fun z => q (decide_eq_true (by rw [z]))
          rw [hnew]; unfold relab; rw [if_neg q']
      · rintro H3 ⟨e3, hDn, hL3, hD3⟩
        rw [hV_len, List.take_of_length_le (by rw [hV_len]; exact Nat.le_refl _)] at hD3
        exact ⟨Dl, _, _, _, _, _, _, _, rfl, hDn, hD3, e3⟩
    · rintro σ' H2 ⟨l2, y5, y6, y7, y8, y9, y10, y11, rfl, hl2, hL, e2⟩
      rw [List.length_map, List.take_length] at hL
      exact ⟨_, rfl, k l2 _ hl2 hL e2⟩
end
end Mw

set_option Elab.async false
set_option linter.all false
set_option maxRecDepth 100000
set_option maxHeartbeats 4000000
namespace Mw
open PySem PySem.Spec PyProof.Rows L2 GE
/-! ### pairs that are joined -/
def natsV (l : List Nat) : List V := l.map fun x => V.int (x : Nat)
abbrev Pr := Nat × Nat
def pairD (p : Pr) : D := .t [.i p.1, .i p.2]
def pairsD (ps : List Pr) : D := .t (ps.map pairD)
structure PsOk (n : Nat) (ps : List Pr) : Prop where
  ok : ∀ p ∈ ps, p.1 < p.2 ∧ p.2 < n
  ln : ps.length ≤ 6
def jn1 (ws : List Wy) (cs : List Nat) (p : Pr) : Bool := decide (hom ws cs p.1 = hom ws cs p.2)
def jn (ws : List Wy) (cs : List Nat) (ps : List Pr) : Bool := ps.all (jn1 ws cs)
def outc (c : Nat) (cs : List Nat) : List Nat := cs.filter fun x => decide (x ≠ c)
def spr (ws : List Wy) (cs : List Nat) (ps : List Pr) : Option Nat := cs.find? fun c => jn ws (outc c cs) ps
def optV : Option Nat → V
  | some c => .int (c : Nat)
  | none => .non
theorem Ch.out {m : Nat} {cs : List Nat} (C : Ch m cs) (c : Nat) : Ch m (outc c cs) := ⟨fun x hx => C.lt x (List.mem_filter.mp hx).1, C.asc.filter _⟩
theorem outc_len (c : Nat) (cs : List Nat) : (outc c cs).length ≤ cs.length := List.length_filter_le _ _
theorem find_at {α : Type} {f : α → Bool} {l : List α} {i : Nat} {x : α} (hx : l[i]? = some x) (hb : ∀ y ∈ l.take i, f y = false) (h : f x = true) : l.find? f = some x := by
  have hi := (List.getElem?_eq_some_iff.mp hx).1
  have e : l = l.take i ++ x :: l.drop (i + 1) := by
    have e1 := List.take_append_drop i l
    have e2 : l.drop i = x :: l.drop (i + 1) := by
      rw [List.drop_eq_getElem_cons hi]
      congr 1
      exact (List.getElem?_eq_some_iff.mp hx).2
    rw [← e2, e1]
  rw [e, List.find?_append, List.find?_eq_none.mpr fun y hy => by rw [hb y hy]; exact Bool.false_ne_true]
  simp [h]
theorem find_no {α : Type} {f : α → Bool} {l : List α} (hb : ∀ y ∈ l, f y = false) : l.find? f = none := List.find?_eq_none.mpr fun y hy => by rw [hb y hy]; exact Bool.false_ne_true
theorem pair_at {H : Hp} {p : Pr} {v : V} (h : Rp H (pairD p) v) : ∃ a, v = .ref a ∧ H a = some (.tup [.int p.1, .int p.2]) := by
  obtain ⟨a, vs, rfl, h1, h2⟩ := h.t
  exact ⟨a, rfl, by rw [h1, RpL.ints (ns := [p.1, p.2]) h2]; rfl⟩
theorem rp_pair {H : Hp} {a : Addr} {x y : Nat} (h : H a = some (.tup [.int x, .int y])) : Rp H (pairD (x, y)) (.ref a) := rp_t h (rpl_cons (rp_i _) (rpl_cons (rp_i _) rpl_nil))
def spWithout (T : List Addr) : Sp := fun vs H Q _ => ∃ (ch : V) (cs : List Nat) (c : Nat), vs = [ch, .int (c : Nat)] ∧ Rp H (chD cs) ch ∧ cs.length ≤ 24 ∧ Wd T H ∧ ∀ u H', Rp H' (chD (outc c cs)) u → Ext T noM H H' → Q u H'
def spJoins (T : List Addr) : Sp := fun vs H Q _ => ∃ (net pz ch : V) (n : Nat) (ws : List Wy) (cs : List Nat) (ps : List Pr), vs = [net, pz, ch] ∧ Task H n ws cs net ch ∧ Rp H (pairsD ps) pz ∧ PsOk n ps ∧ Wd T H ∧ ∀ H', Ext T noM H H' → Q (.bl (jn ws cs ps)) H'
def spSpare (T : List Addr) : Sp := fun vs H Q _ => ∃ (net pz ch : V) (n : Nat) (ws : List Wy) (cs : List Nat) (ps : List Pr), vs = [net, pz, ch] ∧ Task H n ws cs net ch ∧ Rp H (pairsD ps) pz ∧ PsOk n ps ∧ Wd T H ∧ ∀ H', Ext T noM H H' → Q (optV (spr ws cs ps)) H'
theorem all_take {α : Type} {f : α → Bool} {l : List α} {i : Nat} {x : α} (hx : l[i]? = some x) (hb : (l.take i).all f = true) (h : f x = true) : (l.take (i + 1)).all f = true := by
  rw [take_succ' hx, List.all_append, hb]; simp [h]
theorem all_no {α : Type} {f : α → Bool} {l : List α} {i : Nat} {x : α} (hx : l[i]? = some x) (h : f x = false) : l.all f = false :=
  List.all_eq_false.mpr ⟨x, List.mem_of_getElem? hx, by rw [h]; exact Bool.false_ne_true⟩
theorem nats_at {cs : List Nat} {j : Nat} {x : V} (hx : (cs.map fun (c : Nat) => V.int (c : Int))[j]? = some x) : ∃ c, cs[j]? = some c ∧ x = V.int ((c : Nat) : Int) := by
  rw [List.getElem?_map] at hx
  cases e : cs[j]? with
  | none => rw [e] at hx; cases hx
  | some c => rw [e] at hx; exact ⟨c, rfl, (Option.some.inj hx).symm⟩
section
variable {P : Program} {w : World} {K : PySem.W.Frag} {mg : Str → Option Value} {base : Heap} {T : List Addr}
theorem ok_joins {f : Addr} {fd : FuncData} {c PT : Addr} (F : GE.FunC K "joins" "joins" sjoins f fd c) (TB : GxR.TabB base mg c PT) (hPT : PT ∈ T) (m_all : mg "all" = none) {f_homes : Addr} {fd_homes : FuncData} (F_homes : Fun K "_homes" "_homes" s_homes f_homes fd_homes) (G_homes : FnOk P w K mg base CX0 2 f_homes fd_homes ["net", "choice"] (spHomes T)) (b_homes : Binds K fd_homes ["net", "choice"] []) (g_homes : mg "_homes" = some (.ref f_homes)) : FnOk P w K mg base CX0 3 f fd ["net", "pairs", "choice"] (spJoins T) := by
  refine F.ok scjoins (fun vs H Q E h => ?_) (fun A outer s H vs Q E hr h => ?_)
  · obtain ⟨net, pz, ch, n, ws, cs, ps, rfl, t, hps, ok, wd, k⟩ := h
    rfl
  · obtain ⟨net, pz, ch, n, ws, cs, ps, rfl, t, hps, ok, wd, k⟩ := h
    refine ⟨_, (pss_cons (ps_set (i := 3) scjoins.nd rfl (Or.inr rfl) (pe_call G_homes hr (by rfl) g_homes F_homes.kp b_homes .nil pass0 (pa_cons (pv 0) (pa_cons (pv 2) pa_nil))))
      (pss_one (ps_ret (GE.pe_allG (own := [("a", 4), ("b", 5)]) (k := 0) hr (by rfl) m_all scjoins.nd TB rfl (pi_tup (pv 1)) (GE.gblk_by (N := ["net", "pairs", "choice", "homes", "a", "b"]) (sc := defScope sjoins) (by decide +kernel)) (fun _ _ _ _ _ _ _ _ => (GE.pg_tupK (K := K) 2 (pgs_cons (pg_name (i := 4) scjoins.nd rfl (Or.inl rfl)) (pgs_cons (pg_name (i := 5) scjoins.nd rfl (Or.inl rfl)) pgs_nil)))) (fun _ _ _ _ _ _ _ _ hr' => pts_nil) (fun _ _ _ _ _ _ _ _ hr' => (pe_cmpR op_eq (pe_ix (GE.ix_listK (K := K)) (pv 3) (pv 4) (fun _ _ => rfl)) (pe_ix (GE.ix_listK (K := K)) (pv 3) (pv 5) (fun _ _ => rfl)) (nomark _))))))), ?_⟩
    have n12 := t.W.n12
    refine ⟨_, rfl, _, rfl, net, ch, n, ws, cs, rfl, t, fun l H2 hl hL e2 => ?_⟩
    obtain ⟨pa, pus, rfl, hpa, hpr⟩ := (Rp.x e2 hps).t
    have wd2 := wd.ext e2
    refine ⟨_, rfl, pa, rfl, ⟨_, SqT.of hpa⟩, wd2 PT hPT, fun H3 tb => ?_⟩
    have e3 : Ext T noM H2 H3 := Ext.tab (wd2 PT hPT) tb
    refine turn_tupI (K := K) (a := pa) (xs := pus) (fun i ys H' => ys.length = i ∧ (ps.take i).all (jn1 ws cs) = true ∧ Ext T noM H2 H') ⟨rfl, rfl, e3⟩ (fun i ys H' _ p => SqT.of (p.2.2.tup (fun z => z) hpa)) ?_ ?_
    · rintro ys H' ⟨_, hb, e⟩
      have hlen : pus.length = ps.length := by rw [hpr.len, List.length_map]
      rw [hlen, List.take_length] at hb
      have := k H' (e2.trans e)
      unfold jn at this
      rw [hb] at this
      exact this
    · rintro i x ys H' hx ⟨hyl, hb, e⟩ N hN
      have hi : i < ps.length := by
        have h1 := (List.getElem?_eq_some_iff.mp hx).1
        have h2 := hpr.len
        rw [List.length_map] at h2
        omega
      obtain ⟨x', hx', hr⟩ := hpr.get (i := i) (d := pairD ps[i]) (by rw [List.getElem?_map, List.getElem?_eq_getElem hi]; rfl)
      rw [hx] at hx'
      obtain rfl := Option.some.inj hx'
      obtain ⟨xa, rfl, hxa⟩ := pair_at (Rp.x e hr)
      obtain ⟨p1, p2⟩ := ok.ok _ (List.getElem_mem hi)
      have hL' := e.lst (fun z => z) hL
      have hpi : ps[i]? = some ps[i] := List.getElem?_eq_getElem hi
      have hln := ok.ln
      refine ⟨xa, _, rfl, SqT.of hxa, rfl, _, _, rfl, _, _, rfl, rfl, rfl, tYesI ?_⟩
      refine ⟨_, rfl, _, rfl, l, _, _, _, rfl, rfl, SqL.of hL', at_of (j := ps[i].1) rfl (hV_get (by omega)), _, rfl, _, rfl, l, _, _, _, rfl, rfl, SqL.of hL', at_of (j := ps[i].2) rfl (hV_get p2), rfl, ?_⟩
      refine ⟨small1000 (by omega), _, rfl, fun q => hN _ _ ⟨?_, all_take hpi hb ?_, e⟩, fun q => ?_⟩
      · rw [List.length_append, List.length_singleton, hyl]
      · exact decide_eq_true (vint_inj.mp (of_decide_eq_true q))
      · have hf : jn ws cs ps = false := all_no hpi (decide_eq_false fun z => of_decide_eq_false q (vint_inj.mpr z))
        have := k H' (e2.trans e)
        rw [hf] at this
        exact this
theorem ok_without {f : Addr} {fd : FuncData} {c PT : Addr} (F : GE.FunC K "without" "without" swithout f fd c) (TB : GxR.TabB base mg c PT) (hPT : PT ∈ T) (m_tuple : mg "tuple" = none) : FnOk P w K mg base CX0 3 f fd ["choice", "way"] (spWithout T) := by
  refine F.ok scwithout (fun vs H Q E h => ?_) (fun A outer s H vs Q E hr h => ?_)
  · obtain ⟨ch, cs, c, rfl, hch, hl24, wd, k⟩ := h
    rfl
  · obtain ⟨ch, cs, c, rfl, hch, hl24, wd, k⟩ := h
    refine ⟨_, (pss_one (ps_ret (GE.pe_tupG (own := [("other", 2)]) (g := (gName 2)) (k := 0) hr (by rfl) m_tuple scwithout.nd TB rfl (pi_tup (pv 0)) (GE.gblk_by (N := ["choice", "way", "other"]) (sc := defScope swithout) (by decide +kernel)) (fun _ _ _ _ _ _ _ _ => (pg_name (i := 2) scwithout.nd rfl (Or.inl rfl))) (fun _ _ _ _ _ _ _ _ hr' => (pts_one (pt_cmpR op_ne (pv 2) (pv 1) (nomark _)))) (fun _ _ _ _ _ _ _ _ hr' => (pv 2))))), ?_⟩
    obtain ⟨ca, rfl, hca⟩ := ch_at hch
    refine ⟨_, rfl, ca, rfl, ⟨_, SqT.of hca⟩, wd PT hPT, fun H2 tb => ?_⟩
    have e2 : Ext T noM H H2 := Ext.tab (wd PT hPT) tb
    refine turn_tupI (K := K) (a := ca) (xs := cs.map fun (c : Nat) => V.int (c : Int)) (fun i ys H' => ys = natsV (outc c (cs.take i)) ∧ Ext T noM H H') ⟨rfl, e2⟩ (fun i ys H' _ p => SqT.of (p.2.tup (fun z => z) hca)) ?_ ?_
    · rintro ys H' ⟨rfl, e⟩ q hq
      rw [List.length_map, List.take_length]
      exact k _ _ (rp_ch upd_same) (e.trans (Ext.new hq))
    · rintro i x ys H' hx ⟨rfl, e⟩ N hN
      obtain ⟨d, hd, rfl⟩ := nats_at hx
      have hsn : outc c (cs.take (i + 1)) = outc c (cs.take i) ++ if d = c then [] else [d] := by
        rw [take_succ' hd]; unfold outc; rw [List.filter_append]
        by_cases z : d = c <;> simp [z]
      refine ⟨rfl, ?_⟩
      refine ⟨_, rfl, _, rfl, rfl, _, rfl, ?_⟩
      refine ite2 (fun q => ?_) (fun q => ?_)
      · have z : ¬ d = c := fun z => by rw [z] at q; simp at q
        rw [if_neg z] at hsn
        refine ⟨_, rfl, ?_, hN _ _ ⟨?_, e⟩⟩
        · have h1 := outc_len c (cs.take i)
          have h2 := List.length_take_le i cs
          rw [List.length_take] at h1
          unfold natsV; rw [List.length_map]; exact small1000 (by omega)
        · rw [hsn]; unfold natsV; rw [List.map_append]; rfl
      · have z : d = c := Classical.byContradiction fun z => q (by rw [decide_eq_false fun y => z (vint_inj.mp y)]; rfl)
        rw [if_pos z, List.append_nil] at hsn
        exact hN _ _ ⟨by rw [hsn], e⟩
theorem ok_spare {f : Addr} {fd : FuncData} (F : Fun K "spare" "spare" sspare f fd) {fjoins : Addr} {fdjoins : FuncData} (Fjoins : Fun K "joins" "joins" sjoins fjoins fdjoins) (Gjoins : FnOk P w K mg base CX0 3 fjoins fdjoins ["net", "pairs", "choice"] (spJoins T)) (bjoins : Binds K fdjoins ["net", "pairs", "choice"] []) (gjoins : mg "joins" = some (.ref fjoins)) {fwithout : Addr} {fdwithout : FuncData} (Fwithout : Fun K "without" "without" swithout fwithout fdwithout) (Gwithout : FnOk P w K mg base CX0 3 fwithout fdwithout ["choice", "way"] (spWithout T)) (bwithout : Binds K fdwithout ["choice", "way"] []) (gwithout : mg "without" = some (.ref fwithout)) : FnOk P w K mg base CX0 4 f fd ["net", "pairs", "choice"] (spSpare T) := by
  refine F.ok scspare (fun vs H Q E h => ?_) (fun cdv A outer s H vs Q E hr h => ?_)
  · obtain ⟨net, pz, ch, n, ws, cs, ps, rfl, t, hps, ok, wd, k⟩ := h
    rfl
  · obtain ⟨net, pz, ch, n, ws, cs, ps, rfl, t, hps, ok, wd, k⟩ := h
    refine ⟨_, (pss_cons (ps_for PassesOwn.never rfl (pi_tup (pv 2)) (pg_name (i := 3) scspare.nd rfl (Or.inl rfl)) (pss_one (ps_if (pt_val (pe_call Gjoins hr (by rfl) gjoins Fjoins.kp bjoins .nil pass0 (pa_cons (pv 0) (pa_cons (pv 1) (pa_cons (pe_call Gwithout hr (by rfl) gwithout Fwithout.kp bwithout .nil pass0 (pa_cons (pv 2) (pa_cons (pv 3) pa_nil))) pa_nil))))) (pss_one (ps_ret (pv 3))) pss_nil)))
      (pss_one (ps_ret pe_non))), ?_⟩
    obtain ⟨ca, rfl, hca⟩ := ch_at t.ch
    have hlc : cs.length ≤ 24 := Nat.le_trans t.C.len t.W.ln
    refine ⟨_, rfl, ca, rfl, ⟨_, SqT.of hca⟩, for_tup (K := K) (a := ca) (xs := cs.map fun (c : Nat) => V.int (c : Int)) (fun i σ' H' => ∃ y, σ' = [some net, some pz, some (.ref ca), y] ∧ (∀ c ∈ cs.take i, jn ws (outc c cs) ps = false) ∧ Ext T noM H H') ⟨none, rfl, (fun c hc => nomatch hc), Ext.refl _ _ _⟩ (fun i σ' H' _ ⟨_, _, _, e⟩ => SqT.of (e.tup (fun z => z) hca)) ?_ ?_⟩
    · rintro i x σ' H2 hx ⟨y, rfl, hb, e⟩
      obtain ⟨c, hc, rfl⟩ := nats_at hx
      refine ⟨_, rfl, _, rfl, _, rfl, _, rfl, _, cs, c, rfl, Rp.x e t.ch, hlc, wd.ext e, fun u H3 hu e3 => ?_⟩
      have e13 := e.trans e3
      refine ⟨net, pz, u, n, ws, outc c cs, ps, rfl, ⟨t.W, t.C.out c, Rp.x e13 t.net, hu⟩, Rp.x e13 hps, ok, wd.ext e13, fun H4 e4 => ⟨_, rfl, ?_⟩⟩
      refine ite2 (fun q => ?_) (fun q => ?_)
      · have hf : spr ws cs ps = some c := find_at hc hb q
        refine ⟨_, rfl, ?_⟩
        have := k H4 (e13.trans e4)
        rw [hf] at this
        exact this
      · refine ⟨_, rfl, fun d hd => ?_, e13.trans e4⟩
        rw [take_succ' hc] at hd
        rcases List.mem_append.mp hd with h | h
        · exact hb d h
        · rw [List.mem_singleton.mp h]; exact Bool.eq_false_iff.mpr q
    · rintro σ' H2 ⟨y, rfl, hb, e⟩
      rw [List.length_map, List.take_length] at hb
      have hf : spr ws cs ps = none := find_no hb
      have := k H2 e
      rw [hf] at this
      exact this
end
end Mw

set_option Elab.async false
set_option linter.all false
set_option maxRecDepth 100000
set_option maxHeartbeats 4000000
namespace Mw
open PySem PySem.Spec PyProof.Rows L2 GE
/-! ### a group, grown -/
theorem nd1 (a : Nat) : [a].Nodup := List.nodup_cons.mpr ⟨(fun h => nomatch h), List.nodup_nil⟩
structure Gr (n : Nat) (es : List (Nat × Nat)) (p : Nat) (f : List Nat) : Prop where
  mem : p ∈ f
  nd : f.Nodup
  ok : ∀ x ∈ f, x < n ∧ Cn es p x
theorem Gr.snoc {n : Nat} {es : List (Nat × Nat)} {p y : Nat} {f : List Nat} (g : Gr n es p f) (hy : y ∉ f) (hn : y < n) (hc : Cn es p y) : Gr n es p (f ++ [y]) :=
  ⟨List.mem_append_left _ g.mem, by rw [List.nodup_append]; exact ⟨g.nd, nd1 _, fun a ha b hb z => hy (by rw [← List.mem_singleton.mp hb, ← z]; exact ha)⟩,
   fun x hx => by rcases List.mem_append.mp hx with h | h
                  · exact g.ok x h
                  · rw [List.mem_singleton.mp h]; exact ⟨hn, hc⟩⟩
theorem Gr.len {n : Nat} {es : List (Nat × Nat)} {p : Nat} {f : List Nat} (g : Gr n es p f) : f.length ≤ n := nodup_le g.nd fun x hx => (g.ok x hx).1
def Clo (ws : List Wy) (cs : List Nat) (f : List Nat) : Prop := ∀ c ∈ cs, ((wyAt ws c).1 ∈ f ↔ (wyAt ws c).2.1 ∈ f)
theorem inV_nats (a : Nat) : ∀ f : List Nat, inV (.int (a : Int)) (natsV f) = decide (a ∈ f)
  | [] => rfl
  | x :: f => by
    have ih := inV_nats a f
    unfold inV natsV at ih ⊢
    rw [List.map_cons, List.any_cons, ih]
    by_cases e : x = a
    · subst e; simp [eqV]
    · have e2 : ¬ a = x := fun z => e z.symm
      have e3 : ¬ (x : Int) = (a : Int) := fun z => e (by omega)
      simp [eqV, e2, e3]
theorem flat_nats (f : List Nat) : (natsV f).all flatV = true := by
  rw [List.all_eq_true]; intro x hx; obtain ⟨y, _, rfl⟩ := List.mem_map.mp hx; rfl
theorem sort_nats {ns : List Int} {f : List Nat} (h : ns.Perm (f.map fun x : Nat => (x : Int))) (s : ns.Pairwise (· ≤ ·)) (nd : f.Nodup) : ∃ l : List Nat, ns = l.map (fun x : Nat => (x : Int)) ∧ l.Pairwise (· < ·) ∧ ∀ x, x ∈ l ↔ x ∈ f := by
  have hpos : ∀ z ∈ ns, ((z.toNat : Nat) : Int) = z := fun z hz => by
    obtain ⟨x, _, rfl⟩ := List.mem_map.mp (h.mem_iff.mp hz); rfl
  have e : ns = (ns.map Int.toNat).map (fun x : Nat => (x : Int)) := by
    rw [List.map_map]
    have := List.map_congr_left (f := id) (g := (fun x : Nat => (x : Int)) ∘ Int.toNat) fun z hz => (hpos z hz).symm
    rw [← this, List.map_id]
  have hp2 : (ns.map Int.toNat).Perm f := by
    have := h.map Int.toNat
    rw [List.map_map] at this
    have e2 : f.map (Int.toNat ∘ fun x : Nat => (x : Int)) = f := by
      have := List.map_congr_left (l := f) (f := Int.toNat ∘ fun x : Nat => (x : Int)) (g := id) fun z _ => by show Int.toNat (z : Int) = z; omega
      rw [this, List.map_id]
    rw [e2] at this; exact this
  have nd2 : (ns.map Int.toNat).Nodup := hp2.nodup_iff.mpr nd
  have s2 : (ns.map Int.toNat).Pairwise (· ≤ ·) := by
    rw [List.pairwise_map]
    exact s.imp fun {a b} hab => Int.toNat_le_toNat hab
  refine ⟨ns.map Int.toNat, e, ?_, fun x => hp2.mem_iff⟩
  exact (List.pairwise_and_iff.mpr ⟨s2, nd2⟩).imp fun {a b} hab => Nat.lt_of_le_of_ne hab.1 hab.2
/-- a choice in a tuple or a list -/
def ChV (H : Hp) (cs : List Nat) (v : V) : Prop := ∃ a, v = .ref a ∧ (H a = some (.tup (natsV cs)) ∨ H a = some (.lst (natsV cs)))
theorem ChV.x {T : List Addr} {H H' : Hp} {cs : List Nat} {v : V} (h : ChV H cs v) (e : Ext T noM H H') : ChV H' cs v := by
  obtain ⟨a, rfl, h | h⟩ := h
  · exact ⟨a, rfl, .inl (e.tup (fun z => z) h)⟩
  · exact ⟨a, rfl, .inr (e.lst (fun z => z) h)⟩
structure TaskL (H : Hp) (n : Nat) (ws : List Wy) (cs : List Nat) (net ch : V) : Prop where
  W : Wf n ws
  lt : ∀ c ∈ cs, c < ws.length
  ln : cs.length ≤ 24
  net : Rp H (netD n ws) net
  ch : ChV H cs ch
theorem TaskL.x {T : List Addr} {H H' : Hp} {n : Nat} {ws : List Wy} {cs : List Nat} {net ch : V} (t : TaskL H n ws cs net ch) (e : Ext T noM H H') : TaskL H' n ws cs net ch := ⟨t.W, t.lt, t.ln, Rp.x e t.net, t.ch.x e⟩
theorem Task.l {H : Hp} {n : Nat} {ws : List Wy} {cs : List Nat} {net ch : V} (t : Task H n ws cs net ch) : TaskL H n ws cs net ch :=
  ⟨t.W, t.C.lt, Nat.le_trans t.C.len t.W.ln, t.net, by obtain ⟨a, rfl, h⟩ := ch_at t.ch; exact ⟨a, rfl, .inl h⟩⟩
def prP (p : Pr) : PyData := .tuple [.int (p.1 : Nat), .int (p.2 : Nat)]
theorem prP_shaped (p : Pr) : SeqAt.shaped (prP p) = true := by
  unfold SeqAt.shaped prP; simp [PyData.canLay0, PyData.canLayAll0, PyData.depth, PyData.depthAll]
theorem prP_all : ∀ ps : List Pr, PyData.canLayAll0 (ps.map prP) = true ∧ PyData.depthAll (ps.map prP) ≤ 1
  | [] => ⟨rfl, Nat.zero_le _⟩
  | p :: r => by
    obtain ⟨h1, h2⟩ := prP_all r
    simp only [List.map_cons, PyData.canLayAll0, PyData.depthAll, h1, Bool.and_true]
    exact ⟨by simp [prP, PyData.canLay0, PyData.canLayAll0], by simp [prP, PyData.depth, PyData.depthAll]; omega⟩
theorem prPs_shaped (ps : List Pr) : SeqAt.shaped (.list (ps.map prP)) = true := by
  obtain ⟨h1, h2⟩ := prP_all ps
  show (PyData.canLayAll0 (ps.map prP) && decide (PyData.depthAll (ps.map prP) + 1 ≤ 64)) = true
  rw [h1, Bool.true_and, decide_eq_true_eq]
  omega
theorem dp_pair {K : PySem.W.Frag} {H : Hp} {p : Pr} {v : V} (h : Rp H (pairD p) v) : Dp K H v (prP p) := by
  obtain ⟨a, rfl, ha⟩ := pair_at h
  exact .tup (SqT.of ha) (.cons (.int _) (.cons (.int _) .nil))
theorem dp_pairs {K : PySem.W.Frag} {H : Hp} : ∀ {ps : List Pr} {vs : List V}, RpL H (ps.map pairD) vs → DpAll K H vs (ps.map prP)
  | [], vs, h => by rw [h.nil]; exact .nil
  | p :: r, vs, h => by
    obtain ⟨v, u, rfl, h1, h2⟩ := h.cons
    exact .cons (dp_pair h1) (dp_pairs h2)
def spLGroup (T : List Addr) : Sp := fun vs H Q _ => ∃ (net ch : V) (n : Nat) (ws : List Wy) (cs : List Nat) (p : Nat), vs = [net, ch, .int (p : Nat)] ∧ TaskL H n ws cs net ch ∧ p < n ∧ ∀ a H', H' a = some (.tup (natsV (cls (hom ws cs) n p))) → Ext T noM H H' → Q (.ref a) H'
def spLPairs (T : List Addr) : Sp := fun vs H Q _ => ∃ (p s : Addr) (n : Nat) (most : Int), vs = [.ref p, .int (n : Nat), .int most] ∧ PoolAt H p s ∧ 1 ≤ n ∧ n ≤ 12 ∧ 0 ≤ most ∧ most ≤ 6 ∧ ∀ v ps H', PsOk n ps → Rp H' (pairsD ps) v → PoolAt H' p s → Ext T (atP p) H H' → Q v H'
def spLJoins (T : List Addr) : Sp := fun vs H Q _ => ∃ (net pz ch : V) (n : Nat) (ws : List Wy) (cs : List Nat) (ps : List Pr), vs = [net, pz, ch] ∧ TaskL H n ws cs net ch ∧ Rp H (pairsD ps) pz ∧ PsOk n ps ∧ ∀ H', Ext T noM H H' → Q (.bl (jn ws cs ps)) H'
def spLSpare (T : List Addr) : Sp := fun vs H Q _ => ∃ (net pz ch : V) (n : Nat) (ws : List Wy) (cs : List Nat) (ps : List Pr), vs = [net, pz, ch] ∧ Task H n ws cs net ch ∧ Rp H (pairsD ps) pz ∧ PsOk n ps ∧ ∀ H', Ext T noM H H' → Q (optV (spr ws cs ps)) H'
/-- what is known of the list while it grows, in one turn -/
structure Grow (T : List Addr) (H H' : Hp) (l n : Nat) (ws : List Wy) (cs : List Nat) (p j : Nat) (f0 f : List Nat) : Prop where
  g : Gr n (edg ws cs) p f
  hl : H' l = some (.lst (natsV f))
  fr : H l = none
  e : Ext T noM H H'
  st : (f = f0 ∧ Clo ws (cs.take j) f) ∨ (f0.length < f.length ∧ ¬ Clo ws cs f0)
theorem Grow.push {T : List Addr} {H H' : Hp} {l n : Nat} {ws : List Wy} {cs : List Nat} {p j k : Nat} {f0 f : List Nat} (G : Grow T H H' l n ws cs p j f0 f) {c y : Nat} (hc : c ∈ cs) (hy : y ∉ f) (hn : y < n) (hcn : Cn (edg ws cs) p y)
    (hd : ¬ ((wyAt ws c).1 ∈ f ↔ (wyAt ws c).2.1 ∈ f)) : Grow T H (upd H' l (.lst (natsV f ++ [V.int (y : Nat)]))) l n ws cs p k f0 (f ++ [y]) := by
  refine ⟨G.g.snoc hy hn hcn, by rw [upd_same]; unfold natsV; rw [List.map_append]; rfl, G.fr, G.e.mut (.inl G.fr) G.hl ltbl, .inr ?_⟩
  rcases G.st with ⟨rfl, _⟩ | ⟨h1, h2⟩
  · exact ⟨by rw [List.length_append, List.length_singleton]; omega, fun z => hd (z c hc)⟩
  · exact ⟨by rw [List.length_append, List.length_singleton]; omega, h2⟩
section
variable {P : Program} {w : World} {K : PySem.W.Frag} {mg : Str → Option Value} {base : Heap} {T : List Addr}
theorem ok__law_group {f : Addr} {fd : FuncData} (F : Fun K "_law_group" "_law_group" s_law_group f fd) (m_range : mg "range" = none) (m_tuple : mg "tuple" = none) (m_sorted : mg "sorted" = none) : FnOk P w K mg base CX0 1 f fd ["net", "choice", "place"] (spLGroup T) := by
  refine F.ok sc_law_group (fun vs H Q E h => ?_) (fun cdv A outer s H vs Q E hr h => ?_)
  · obtain ⟨net, ch, n, ws, cs, p, rfl, t, hp, k⟩ := h
    rfl
  · obtain ⟨net, ch, n, ws, cs, p, rfl, t, hp, k⟩ := h
    refine ⟨_, (pss_cons (ps_set (i := 3) sc_law_group.nd rfl (Or.inl rfl) (pe_lst (pa_cons (pv 2) pa_nil)))
      (pss_cons (ps_for PassesOwn.never rfl (pi_range1 (by rfl) m_range (pa_cons (pe_ix ix_tup (pv 0) pe_int (fun _ _ => rfl)) pa_nil)) (pg_name (i := 4) sc_law_group.nd rfl (Or.inl rfl)) (pss_one (ps_for PassesOwn.never rfl (GE.pi_or (pi_tup (pv 1)) (pi_list (pv 1))) (pg_name (i := 5) sc_law_group.nd rfl (Or.inl rfl)) (pss_cons (ps_asg (pe_ix ix_tup (pe_ix ix_tup (pv 0) pe_int (fun _ _ => rfl)) (pv 5) (fun _ _ => rfl)) (pg_tup (by rfl) (pgs_cons (pg_name (i := 6) sc_law_group.nd rfl (Or.inl rfl)) (pgs_cons (pg_name (i := 7) sc_law_group.nd rfl (Or.inl rfl)) (pgs_cons (pg_name (i := 8) sc_law_group.nd rfl (Or.inl rfl)) pgs_nil)))))
      (Evl.pss_cut (ps_if (PW.pt (pw_and (pt_cmpR op_in_seq (pv 6) (pv 3) (by rfl)) (pw_and1 (pt_cmpR op_notIn_seq (pv 7) (pv 3) (by rfl))))) (pss_one (ps_expr (pe_bm PySem.F.plainAttrs_list PySem.F.slot_list_append PySem.F.type_list_append mt_append (pv 3) (pa_cons (pv 7) pa_nil)))) pss_nil)
      (pss_one (ps_if (PW.pt (pw_and (pt_cmpR op_in_seq (pv 7) (pv 3) (by rfl)) (pw_and1 (pt_cmpR op_notIn_seq (pv 6) (pv 3) (by rfl))))) (pss_one (ps_expr (pe_bm PySem.F.plainAttrs_list PySem.F.slot_list_append PySem.F.type_list_append mt_append (pv 3) (pa_cons (pv 6) pa_nil)))) pss_nil)))))))
      (pss_one (ps_ret (pe_callTy call_tuple_of (by rfl) m_tuple (by decide +kernel) (pa_cons (pe_callB cr_sorted (by rfl) m_sorted (by decide +kernel) (pa_cons (pv 3) pa_nil)) pa_nil)))))), ?_⟩
    obtain ⟨W, Clt, Cln, hnet, hch⟩ := t
    have HM := hom_ok W cs Clt
    obtain ⟨na, nb, us, rfl, ha, hb, hus⟩ := net_at hnet
    obtain ⟨ca, rfl, hca⟩ := hch
    rcases hca with hca | hca
    · have n12 := W.n12
      refine ⟨_, rfl, by show 1 ≤ sizeLine; decide, fun l hl => ?_⟩
      have e1 : Ext T noM H (upd H l (.lst (natsV [p]))) := Ext.new hl
      have g1 : Gr n (edg ws cs) p [p] := ⟨List.mem_singleton.mpr rfl, nd1 _, fun x hx => by rw [List.mem_singleton.mp hx]; exact ⟨hp, .refl _⟩⟩
      refine ⟨_, rfl, na, _, _, _, rfl, rfl, SqT.of (e1.tup (fun z => z) ha), at_of (j := 0) rfl rfl, n, rfl, by omega, by omega, ?_⟩
      refine for_range (lo := 0) (n := ((n : Int) - 0).toNat) (fun i σ' H' => ∃ f y4 y5 y6 y7 y8, σ' = [some (.ref na), some (.ref ca), some (.int (p : Nat)), some (.ref l), y4, y5, y6, y7, y8] ∧ Gr n (edg ws cs) p f ∧ H' l = some (.lst (natsV f)) ∧ Ext T noM H H' ∧ (Clo ws cs f ∨ i + 1 ≤ f.length))
        ⟨[p], none, none, none, none, none, rfl, g1, upd_same, e1, .inr (Nat.le_refl _)⟩ ?_ ?_
      · rintro i σ' H2 hi ⟨f0, y4, y5, y6, y7, y8, rfl, g2, hl2, e2, hs⟩
        refine .inl ⟨_, rfl, ca, rfl, ⟨_, SqT.of (e2.tup (fun z => z) hca)⟩, for_tup (K := K) (a := ca) (xs := cs.map fun (c : Nat) => V.int (c : Int)) (fun j σ' H' => ∃ f y5 y6 y7 y8, σ' = [some (.ref na), some (.ref ca), some (.int (p : Nat)), some (.ref l), some (.int (0 + (i : Int))), y5, y6, y7, y8] ∧ Grow T H H' l n ws cs p j f0 f)
          ⟨f0, _, _, _, _, rfl, g2, hl2, hl, e2, .inl ⟨rfl, fun c hc => by cases hc⟩⟩ (fun j σ' H' _ ⟨_, _, _, _, _, _, G⟩ => SqT.of (G.e.tup (fun z => z) hca)) ?_ ?_⟩
        · rintro j x σ' H3 hx ⟨f, y5, y6, y7, y8, rfl, G⟩
          obtain ⟨c, hc, rfl⟩ : ∃ c, cs[j]? = some c ∧ x = V.int ((c : Nat) : Int) := by
            rw [List.getElem?_map] at hx
            cases e : cs[j]? with
            | none => rw [e] at hx; cases hx
            | some c => rw [e] at hx; exact ⟨c, rfl, (Option.some.inj hx).symm⟩
          have hcm := List.mem_of_getElem? hc
          have hcl : c < ws.length := Clt c hcm
          obtain ⟨wa, hwa, hwt⟩ := way_get W hus hcl
          obtain ⟨_, ok1, ok2, _⟩ := wy_ok W hcl
          have hed : ((wyAt ws c).1, (wyAt ws c).2.1) ∈ edg ws cs := List.mem_map.mpr ⟨c, hcm, rfl⟩
          have hfl := G.g.len
          refine ⟨_, rfl, na, _, _, _, rfl, rfl, SqT.of (G.e.tup (fun z => z) ha), at_of (j := 1) rfl rfl, _, rfl, nb, _, _, _, rfl, rfl, SqT.of (G.e.tup (fun z => z) hb), at_of (j := c) rfl hwa, wa, _, rfl, SqT.of (G.e.tup (fun z => z) hwt), rfl, _, _, rfl, _, _, rfl, _, _, rfl, rfl, ?_⟩
          refine ⟨fun σ' H' => ∃ f, σ' = [some (.ref na), some (.ref ca), some (.int (p : Nat)), some (.ref l), some (.int (0 + (i : Int))), some (.int c), some (.int (wyAt ws c).1), some (.int (wyAt ws c).2.1), some (.int (wyAt ws c).2.2)] ∧
            Grow T H H' l n ws cs p j f0 f ∧ ((wyAt ws c).1 ∈ f → (wyAt ws c).2.1 ∈ f), ?_, ?_⟩
          · refine ⟨_, rfl, _, rfl, l, _, rfl, .inl (SqL.of G.hl), rfl, flat_nats f, _, rfl, ?_⟩
            rw [if_neg (by decide), inV_nats]
            refine ite2 (fun q1 => ?_) (fun q1 => iteF ⟨f, rfl, G, fun z => absurd (decide_eq_true z) q1⟩)
            refine ⟨_, rfl, _, rfl, l, _, rfl, .inl (SqL.of G.hl), rfl, flat_nats f, _, rfl, ?_⟩
            rw [if_pos rfl, inV_nats]
            have q1' := of_decide_eq_true q1
            refine ite2 (fun q2 => ?_) (fun q2 => ⟨f, rfl, G, fun z => Classical.byContradiction fun y => q2 (by rw [decide_eq_false y]; rfl)⟩)
            have q2' : (wyAt ws c).2.1 ∉ f := fun z => by rw [decide_eq_true z] at q2; cases q2
            refine ⟨_, rfl, .inl ⟨rfl, _, SqL.of G.hl⟩, _, rfl, l, _, _, rfl, rfl, G.hl, ?_, _, rfl, G.push (k := j) hcm q2' ok2 ((G.g.ok _ q1').2.fwd hed) (fun z => q2' (z.mp q1')), fun _ => List.mem_append_right _ (List.mem_singleton.mpr rfl)⟩
            unfold natsV; rw [List.length_map]; exact small1000 (by omega)
          · rintro σ' H4 ⟨f, rfl, G, hab⟩
            have hfl := G.g.len
            have same : ((wyAt ws c).2.1 ∈ f → (wyAt ws c).1 ∈ f) → Grow T H H4 l n ws cs p (j + 1) f0 f := fun hba => by
              refine ⟨G.g, G.hl, G.fr, G.e, ?_⟩
              rcases G.st with ⟨e, h⟩ | h
              · refine .inl ⟨e, fun c' hc' => ?_⟩
                rw [take_succ' hc] at hc'
                rcases List.mem_append.mp hc' with q | q
                · exact h c' q
                · rw [List.mem_singleton.mp q]; exact ⟨hab, hba⟩
              · exact .inr h
            refine ⟨_, rfl, _, rfl, l, _, rfl, .inl (SqL.of G.hl), rfl, flat_nats f, _, rfl, ?_⟩
            rw [if_neg (by decide), inV_nats]
            refine ite2 (fun q1 => ?_) (fun q1 => iteF ⟨f, _, _, _, _, rfl, same fun z => absurd (decide_eq_true z) q1⟩)
            refine ⟨_, rfl, _, rfl, l, _, rfl, .inl (SqL.of G.hl), rfl, flat_nats f, _, rfl, ?_⟩
            rw [if_pos rfl, inV_nats]
            have q1' := of_decide_eq_true q1
            refine ite2 (fun q2 => ?_) (fun q2 => ⟨f, _, _, _, _, rfl, same fun z => Classical.byContradiction fun y => q2 (by rw [decide_eq_false y]; rfl)⟩)
            have q2' : (wyAt ws c).1 ∉ f := fun z => by rw [decide_eq_true z] at q2; cases q2
            refine ⟨_, rfl, .inl ⟨rfl, _, SqL.of G.hl⟩, _, rfl, l, _, _, rfl, rfl, G.hl, ?_, _, _, _, _, _, rfl, G.push hcm q2' (Nat.lt_trans ok1 ok2) ((G.g.ok _ q1').2.bwd hed) (fun z => q2' (z.mpr q1'))⟩
            unfold natsV; rw [List.length_map]; exact small1000 (by omega)
        · rintro σ' H3 ⟨f, y5, y6, y7, y8, rfl, G⟩
          refine ⟨f, _, _, _, _, _, rfl, G.g, G.hl, G.e, ?_⟩
          rcases G.st with ⟨e, h⟩ | ⟨h1, h2⟩
          · rw [List.length_map, List.take_length] at h
            exact .inl h
          · rcases hs with hs | hs
            · exact absurd hs h2
            · exact .inr (by omega)
      · rintro σ' H2 ⟨f, y4, y5, y6, y7, y8, rfl, g, hl2, e2, hs⟩
        have hfl := g.len
        have hcl : Clo ws cs f := by
          rcases hs with h | h
          · exact h
          · omega
        have hcl2 : ∀ e ∈ edg ws cs, e.1 ∈ f ↔ e.2 ∈ f := fun e he => by
          obtain ⟨c, hc, rfl⟩ := List.mem_map.mp he
          exact hcl c hc
        have hnat : natsV f = (f.map fun x : Nat => (x : Int)).map V.int := by rw [List.map_map]; rfl
        refine ⟨_, rfl, l, f.map fun x : Nat => (x : Int), rfl, by rw [← hnat]; exact SqL.of hl2, by rw [List.length_map]; omega, fun ns q hns hst hq => ?_⟩
        obtain ⟨l2, rfl, pw, mem⟩ := sort_nats hns hst g.nd
        have el := closed_cls HM hp g.mem g.ok hcl2 pw mem
        subst el
        refine ⟨q, _, rfl, .inl ⟨SqL.of upd_same, fun t ht => ?_⟩⟩
        have e3 : (cls (hom ws cs) n p).map (V.int ∘ fun x : Nat => (x : Int)) = natsV (cls (hom ws cs) n p) := rfl
        refine k t _ ?_ ((e2.trans (Ext.new hq)).trans (Ext.new ht))
        rw [upd_same, List.map_map, e3]
    · have n12 := W.n12
      refine ⟨_, rfl, by show 1 ≤ sizeLine; decide, fun l hl => ?_⟩
      have e1 : Ext T noM H (upd H l (.lst (natsV [p]))) := Ext.new hl
      have g1 : Gr n (edg ws cs) p [p] := ⟨List.mem_singleton.mpr rfl, nd1 _, fun x hx => by rw [List.mem_singleton.mp hx]; exact ⟨hp, .refl _⟩⟩
      refine ⟨_, rfl, na, _, _, _, rfl, rfl, SqT.of (e1.tup (fun z => z) ha), at_of (j := 0) rfl rfl, n, rfl, by omega, by omega, ?_⟩
      refine for_range (lo := 0) (n := ((n : Int) - 0).toNat) (fun i σ' H' => ∃ f y4 y5 y6 y7 y8, σ' = [some (.ref na), some (.ref ca), some (.int (p : Nat)), some (.ref l), y4, y5, y6, y7, y8] ∧ Gr n (edg ws cs) p f ∧ H' l = some (.lst (natsV f)) ∧ Ext T noM H H' ∧ (Clo ws cs f ∨ i + 1 ≤ f.length))
        ⟨[p], none, none, none, none, none, rfl, g1, upd_same, e1, .inr (Nat.le_refl _)⟩ ?_ ?_
      · rintro i σ' H2 hi ⟨f0, y4, y5, y6, y7, y8, rfl, g2, hl2, e2, hs⟩
        refine .inr ⟨_, rfl, ca, rfl, ⟨_, SqL.of (e2.lst (fun z => z) hca)⟩, for_list (K := K) (a := ca) (xs := cs.map fun (c : Nat) => V.int (c : Int)) (fun j σ' H' => ∃ f y5 y6 y7 y8, σ' = [some (.ref na), some (.ref ca), some (.int (p : Nat)), some (.ref l), some (.int (0 + (i : Int))), y5, y6, y7, y8] ∧ Grow T H H' l n ws cs p j f0 f)
          ⟨f0, _, _, _, _, rfl, g2, hl2, hl, e2, .inl ⟨rfl, fun c hc => by cases hc⟩⟩ (fun j σ' H' _ ⟨_, _, _, _, _, _, G⟩ => SqL.of (G.e.lst (fun z => z) hca)) ?_ ?_⟩
        · rintro j x σ' H3 hx ⟨f, y5, y6, y7, y8, rfl, G⟩
          obtain ⟨c, hc, rfl⟩ : ∃ c, cs[j]? = some c ∧ x = V.int ((c : Nat) : Int) := by
            rw [List.getElem?_map] at hx
            cases e : cs[j]? with
            | none => rw [e] at hx; cases hx
            | some c => rw [e] at hx; exact ⟨c, rfl, (Option.some.inj hx).symm⟩
          have hcm := List.mem_of_getElem? hc
          have hcl : c < ws.length := Clt c hcm
          obtain ⟨wa, hwa, hwt⟩ := way_get W hus hcl
          obtain ⟨_, ok1, ok2, _⟩ := wy_ok W hcl
          have hed : ((wyAt ws c).1, (wyAt ws c).2.1) ∈ edg ws cs := List.mem_map.mpr ⟨c, hcm, rfl⟩
          have hfl := G.g.len
          refine ⟨_, rfl, na, _, _, _, rfl, rfl, SqT.of (G.e.tup (fun z => z) ha), at_of (j := 1) rfl rfl, _, rfl, nb, _, _, _, rfl, rfl, SqT.of (G.e.tup (fun z => z) hb), at_of (j := c) rfl hwa, wa, _, rfl, SqT.of (G.e.tup (fun z => z) hwt), rfl, _, _, rfl, _, _, rfl, _, _, rfl, rfl, ?_⟩
          refine ⟨fun σ' H' => ∃ f, σ' = [some (.ref na), some (.ref ca), some (.int (p : Nat)), some (.ref l), some (.int (0 + (i : Int))), some (.int c), some (.int (wyAt ws c).1), some (.int (wyAt ws c).2.1), some (.int (wyAt ws c).2.2)] ∧
            Grow T H H' l n ws cs p j f0 f ∧ ((wyAt ws c).1 ∈ f → (wyAt ws c).2.1 ∈ f), ?_, ?_⟩
          · refine ⟨_, rfl, _, rfl, l, _, rfl, .inl (SqL.of G.hl), rfl, flat_nats f, _, rfl, ?_⟩
            rw [if_neg (by decide), inV_nats]
            refine ite2 (fun q1 => ?_) (fun q1 => iteF ⟨f, rfl, G, fun z => absurd (decide_eq_true z) q1⟩)
            refine ⟨_, rfl, _, rfl, l, _, rfl, .inl (SqL.of G.hl), rfl, flat_nats f, _, rfl, ?_⟩
            rw [if_pos rfl, inV_nats]
            have q1' := of_decide_eq_true q1
            refine ite2 (fun q2 => ?_) (fun q2 => ⟨f, rfl, G, fun z => Classical.byContradiction fun y => q2 (by rw [decide_eq_false y]; rfl)⟩)
            have q2' : (wyAt ws c).2.1 ∉ f := fun z => by rw [decide_eq_true z] at q2; cases q2
            refine ⟨_, rfl, .inl ⟨rfl, _, SqL.of G.hl⟩, _, rfl, l, _, _, rfl, rfl, G.hl, ?_, _, rfl, G.push (k := j) hcm q2' ok2 ((G.g.ok _ q1').2.fwd hed) (fun z => q2' (z.mp q1')), fun _ => List.mem_append_right _ (List.mem_singleton.mpr rfl)⟩
            unfold natsV; rw [List.length_map]; exact small1000 (by omega)
          · rintro σ' H4 ⟨f, rfl, G, hab⟩
            have hfl := G.g.len
            have same : ((wyAt ws c).2.1 ∈ f → (wyAt ws c).1 ∈ f) → Grow T H H4 l n ws cs p (j + 1) f0 f := fun hba => by
              refine ⟨G.g, G.hl, G.fr, G.e, ?_⟩
              rcases G.st with ⟨e, h⟩ | h
              · refine .inl ⟨e, fun c' hc' => ?_⟩
                rw [take_succ' hc] at hc'
                rcases List.mem_append.mp hc' with q | q
                · exact h c' q
                · rw [List.mem_singleton.mp q]; exact ⟨hab, hba⟩
              · exact .inr h
            refine ⟨_, rfl, _, rfl, l, _, rfl, .inl (SqL.of G.hl), rfl, flat_nats f, _, rfl, ?_⟩
            rw [if_neg (by decide), inV_nats]
            refine ite2 (fun q1 => ?_) (fun q1 => iteF ⟨f, _, _, _, _, rfl, same fun z => absurd (decide_eq_true z) q1⟩)
            refine ⟨_, rfl, _, rfl, l, _, rfl, .inl (SqL.of G.hl), rfl, flat_nats f, _, rfl, ?_⟩
            rw [if_pos rfl, inV_nats]
            have q1' := of_decide_eq_true q1
            refine ite2 (fun q2 => ?_) (fun q2 => ⟨f, _, _, _, _, rfl, same fun z => Classical.byContradiction fun y => q2 (by rw [decide_eq_false y]; rfl)⟩)
            have q2' : (wyAt ws c).1 ∉ f := fun z => by rw [decide_eq_true z] at q2; cases q2
            refine ⟨_, rfl, .inl ⟨rfl, _, SqL.of G.hl⟩, _, rfl, l, _, _, rfl, rfl, G.hl, ?_, _, _, _, _, _, rfl, G.push hcm q2' (Nat.lt_trans ok1 ok2) ((G.g.ok _ q1').2.bwd hed) (fun z => q2' (z.mpr q1'))⟩
            unfold natsV; rw [List.length_map]; exact small1000 (by omega)
        · rintro σ' H3 ⟨f, y5, y6, y7, y8, rfl, G⟩
          refine ⟨f, _, _, _, _, _, rfl, G.g, G.hl, G.e, ?_⟩
          rcases G.st with ⟨e, h⟩ | ⟨h1, h2⟩
          · rw [List.length_map, List.take_length] at h
            exact .inl h
          · rcases hs with hs | hs
            · exact absurd hs h2
            · exact .inr (by omega)
      · rintro σ' H2 ⟨f, y4, y5, y6, y7, y8, rfl, g, hl2, e2, hs⟩
        have hfl := g.len
        have hcl : Clo ws cs f := by
          rcases hs with h | h
          · exact h
          · omega
        have hcl2 : ∀ e ∈ edg ws cs, e.1 ∈ f ↔ e.2 ∈ f := fun e he => by
          obtain ⟨c, hc, rfl⟩ := List.mem_map.mp he
          exact hcl c hc
        have hnat : natsV f = (f.map fun x : Nat => (x : Int)).map V.int := by rw [List.map_map]; rfl
        refine ⟨_, rfl, l, f.map fun x : Nat => (x : Int), rfl, by rw [← hnat]; exact SqL.of hl2, by rw [List.length_map]; omega, fun ns q hns hst hq => ?_⟩
        obtain ⟨l2, rfl, pw, mem⟩ := sort_nats hns hst g.nd
        have el := closed_cls HM hp g.mem g.ok hcl2 pw mem
        subst el
        refine ⟨q, _, rfl, .inl ⟨SqL.of upd_same, fun t ht => ?_⟩⟩
        have e3 : (cls (hom ws cs) n p).map (V.int ∘ fun x : Nat => (x : Int)) = natsV (cls (hom ws cs) n p) := rfl
        refine k t _ ?_ ((e2.trans (Ext.new hq)).trans (Ext.new ht))
        rw [upd_same, List.map_map, e3]
theorem ok__law_pairs {f : Addr} {fd : FuncData} (F : Fun K "_law_pairs" "_law_pairs" s_law_pairs f fd) (m_range : mg "range" = none) (m_tuple : mg "tuple" = none) {f_law_draw : Addr} {fd_law_draw : FuncData} (F_law_draw : Fun K "_law_draw" "_law_draw" s_law_draw f_law_draw fd_law_draw) (G_law_draw : FnOk P w K mg base CX0 1 f_law_draw fd_law_draw ["pool", "many"] (spDraw T)) (b_law_draw : Binds K fd_law_draw ["pool", "many"] []) (g_law_draw : mg "_law_draw" = some (.ref f_law_draw)) : FnOk P w K mg base CX0 2 f fd ["pool", "places", "most"] (spLPairs T) := by
  refine F.ok sc_law_pairs (fun vs H Q E h => ?_) (fun cdv A outer s H vs Q E hr h => ?_)
  · obtain ⟨p, s, n, most, rfl, hP, n1, n12, hm1, hm2, k⟩ := h
    rfl
  · obtain ⟨p, s, n, most, rfl, hP, n1, n12, hm1, hm2, k⟩ := h
    refine ⟨_, (pss_cons (ps_set (i := 3) sc_law_pairs.nd rfl (Or.inl rfl) (pe_lst pa_nil))
      (pss_cons (ps_for PassesOwn.never rfl (pi_range1 (by rfl) m_range (pa_cons (pe_call G_law_draw hr (by rfl) g_law_draw F_law_draw.kp b_law_draw .nil pass0 (pa_cons (pv 0) (pa_cons (pe_op op_add (pv 2) pe_int) pa_nil))) pa_nil)) (pg_name (i := 4) sc_law_pairs.nd rfl (Or.inl rfl)) (pss_one (ps_if (pt_cmpR op_gt (pv 1) pe_int (nomark _)) (pss_cons (ps_set (i := 5) sc_law_pairs.nd rfl (Or.inl rfl) (pe_call G_law_draw hr (by rfl) g_law_draw F_law_draw.kp b_law_draw .nil pass0 (pa_cons (pv 0) (pa_cons (pe_op op_sub (pv 1) pe_int) pa_nil))))
      (pss_cons (ps_set (i := 6) sc_law_pairs.nd rfl (Or.inl rfl) (pe_tup (pa_cons (pv 5) (pa_cons (pe_op op_add (pe_op op_add (pv 5) pe_int) (pe_call G_law_draw hr (by rfl) g_law_draw F_law_draw.kp b_law_draw .nil pass0 (pa_cons (pv 0) (pa_cons (pe_op op_sub (pe_op op_sub (pv 1) pe_int) (pv 5)) pa_nil)))) pa_nil))))
      (pss_one (ps_if (pt_cmpR (op_notInD (by have := hr.un; show (A.deeper _).units + 65 < _; omega)) (pv 6) (pv 3) (by rfl)) (pss_one (ps_expr (pe_bm PySem.F.plainAttrs_list PySem.F.slot_list_append PySem.F.type_list_append mt_append (pv 3) (pa_cons (pv 6) pa_nil)))) pss_nil)))) pss_nil)))
      (pss_one (ps_ret (pe_callTy call_tuple_of (by rfl) m_tuple (by decide +kernel) (pa_cons (pv 3) pa_nil)))))), ?_⟩
    refine ⟨by show 0 ≤ sizeLine; decide, fun l hl => ?_⟩
    obtain ⟨hlp, hls⟩ := hP.ne hl
    refine ⟨_, rfl, _, rfl, _, _, rfl, rfl, p, s, _, rfl, hP.upd hlp hls, by omega, by omega, fun r H1 r0 r1 hP1 e1 => ?_⟩
    have e01 : Ext T (atP p) H H1 := (Ext.new (T := T) hl).trans e1
    have hl1 : H1 l = some (.lst []) := e1.lst hlp upd_same
    refine ⟨r, rfl, by omega, by omega, for_range (lo := 0) (n := r.toNat) (fun i σ' H' => ∃ ps vs y4 y5 y6, σ' = [some (.ref p), some (.int (n : Nat)), some (.int most), some (.ref l), y4, y5, y6] ∧ PoolAt H' p s ∧ Ext T (atP p) H H' ∧ H' l = some (.lst vs) ∧ RpL H' (ps.map pairD) vs ∧ ps.length ≤ i ∧ ∀ q ∈ ps, q.1 < q.2 ∧ q.2 < n)
      ⟨[], [], none, none, none, rfl, hP1, e01, hl1, rpl_nil, Nat.le_refl _, fun q hq => nomatch hq⟩ ?_ ?_⟩
    · rintro i σ' H2 hi ⟨ps, vs, y4, y5, y6, rfl, hP2, e2, hl2, r2, hlen, ok⟩
      have hvl : vs.length = ps.length := by rw [r2.len, List.length_map]
      refine ⟨_, rfl, _, _, rfl, rfl, _, rfl, ?_⟩
      refine ite2 (fun c => ?_) (fun c => ⟨ps, vs, _, _, _, rfl, hP2, e2, hl2, r2, Nat.le_succ_of_le hlen, ok⟩)
      have c' : (n : Int) > 1 := of_decide_eq_true c
      refine ⟨_, rfl, _, rfl, _, _, rfl, rfl, p, s, _, rfl, hP2, by omega, by omega, fun a H3 a0 a1 hP3 e3 => ?_⟩
      obtain ⟨a, rfl⟩ := nat_of a0
      refine ⟨_, rfl, _, rfl, _, _, rfl, rfl, _, rfl, _, rfl, _, _, rfl, rfl, _, rfl, _, _, rfl, rfl, p, s, _, rfl, hP3, by omega, by omega, fun b H4 b0 b1 hP4 e4 => ?_⟩
      obtain ⟨b, rfl⟩ := nat_of b0
      refine ⟨_, _, rfl, rfl, by show 2 ≤ sizeLine; decide, fun t ht => ?_⟩
      have hl4 := e4.lst hlp (e3.lst hlp hl2)
      have r4 := RpL.p (RpL.p r2 hP2 e3) hP3 e4
      have e5 : Ext T noM H4 (upd H4 t (.tup [.int (a : Int), .int ((a : Int) + 1 + (b : Int))])) := Ext.new ht
      have hP5 := hP4.keep (T := T) e5
      have hl5 := e5.lst (fun z => z) hl4
      have r5 := RpL.x e5 r4
      have hn : Rp (upd H4 t (.tup [.int (a : Int), .int ((a : Int) + 1 + (b : Int))])) (pairD (a, a + 1 + b)) (.ref t) := rp_pair (by rw [upd_same]; push_cast; rfl)
      have e25 := ((e2.trans e3).trans e4).trans e5.weak
      refine ⟨_, rfl, _, rfl, prP (a, a + 1 + b), ps.map prP, dp_pair hn, .lst (SqL.of hl5) (dp_pairs r5), prP_shaped _, prPs_shaped _, _, rfl, ?_⟩
      refine ite2 (fun q => ?_) (fun q => ⟨ps, vs, _, _, _, rfl, hP5, e25, hl5, r5, Nat.le_succ_of_le hlen, ok⟩)
      refine ⟨_, rfl, .inl ⟨rfl, _, SqL.of hl5⟩, _, rfl, l, _, _, rfl, rfl, hl5, small1000 (by omega), ps ++ [(a, a + 1 + b)], vs ++ [.ref t], _, _, _, rfl, hP5.upd hlp hls, e25.mut (.inl hl) hl5 ltbl, upd_same, ?_, ?_, ?_⟩
      · rw [List.map_append]
        exact rpl_upd (RpL.snoc r5 hn) hl5
      · rw [List.length_append, List.length_singleton]; omega
      · intro q hq
        rcases List.mem_append.mp hq with h | h
        · exact ok q h
        · rw [List.mem_singleton.mp h]
          exact ⟨by show a < a + 1 + b; omega, by show a + 1 + b < n; omega⟩
    · rintro σ' H2 ⟨ps, vs, y4, y5, y6, rfl, hP2, e2, hl2, r2, hlen, ok⟩
      refine ⟨_, rfl, l, vs, rfl, .inl ⟨SqL.of hl2, fun t ht => ?_⟩⟩
      exact k (.ref t) ps _ ⟨ok, by omega⟩ (rp_t upd_same (RpL.x (Ext.new (T := T) ht) r2)) (hP2.keep (T := T) (Ext.new ht)) (e2.trans (Ext.new ht))
theorem ok__law_joins {f : Addr} {fd : FuncData} (F : Fun K "_law_joins" "_law_joins" s_law_joins f fd) (m_len : mg "len" = none) {f_law_group : Addr} {fd_law_group : FuncData} (F_law_group : Fun K "_law_group" "_law_group" s_law_group f_law_group fd_law_group) (G_law_group : FnOk P w K mg base CX0 1 f_law_group fd_law_group ["net", "choice", "place"] (spLGroup T)) (b_law_group : Binds K fd_law_group ["net", "choice", "place"] []) (g_law_group : mg "_law_group" = some (.ref f_law_group)) : FnOk P w K mg base CX0 2 f fd ["net", "pairs", "choice"] (spLJoins T) := by
  refine F.ok sc_law_joins (fun vs H Q E h => ?_) (fun cdv A outer s H vs Q E hr h => ?_)
  · obtain ⟨net, pz, ch, n, ws, cs, ps, rfl, t, hps, ok, k⟩ := h
    rfl
  · obtain ⟨net, pz, ch, n, ws, cs, ps, rfl, t, hps, ok, k⟩ := h
    refine ⟨_, (pss_one (ps_ret (pe_cmpR op_eq (pe_callB call_len_seq (by rfl) m_len PySem.boot_len (pa_cons (pe_lc (own := [("pair", 3)]) (g := (gName 3)) rfl sc_law_joins.nd (pi_tup (pv 1)) (blkOk_by (own := [("pair", 3)]) (N := ["net", "pairs", "choice", "pair"]) (sc := defScope s_law_joins) (by decide +kernel)) (fun _ _ _ _ _ => (pg_name (i := 3) sc_law_joins.nd rfl (Or.inl rfl))) (fun _ _ _ _ _ => (pts_one (pt_cmpR (GE.notIn_seqK (K := K)) (pe_ix (GE.ix_tupK (K := K)) (pv 3) pe_int (fun _ _ => rfl)) (pe_call G_law_group hr (by rfl) g_law_group F_law_group.kp b_law_group .nil pass0 (pa_cons (pv 0) (pa_cons (pv 2) (pa_cons (pe_ix (GE.ix_tupK (K := K)) (pv 3) pe_int (fun _ _ => rfl)) pa_nil)))) (by rfl)))) (fun _ _ _ _ _ => (pv 3))) pa_nil)) pe_int (nomark _)))), ?_⟩
    obtain ⟨pa, pus, rfl, hpa, hpr⟩ := hps.t
    have hlen : pus.length = ps.length := by rw [hpr.len, List.length_map]
    have hln := ok.ln
    refine ⟨_, rfl, pa, rfl, ⟨_, SqT.of hpa⟩, fun Dl hD => ?_⟩
    have e1 : Ext T noM H (upd H Dl (.lst [])) := Ext.new hD
    refine lc_tup (K := K) (a := pa) (xs := pus) (fun j H' => ∃ acc, Ext T noM H H' ∧ H' Dl = some (.lst acc) ∧ acc.length ≤ j ∧ (acc = [] ↔ (ps.take j).all (jn1 ws cs) = true)) ⟨[], e1, upd_same, Nat.le_refl _, ⟨fun _ => rfl, fun _ => rfl⟩⟩ (fun j H' _ ⟨_, e, _⟩ => SqT.of (e.tup (fun z => z) hpa)) ?_ ?_
    · rintro j x H3 hx ⟨acc, e, hD3, hal, hiff⟩
      have hj : j < ps.length := by
        have h1 := (List.getElem?_eq_some_iff.mp hx).1
        omega
      obtain ⟨x', hx', hr⟩ := hpr.get (i := j) (d := pairD ps[j]) (by rw [List.getElem?_map, List.getElem?_eq_getElem hj]; rfl)
      rw [hx] at hx'
      obtain rfl := Option.some.inj hx'
      obtain ⟨xa, rfl, hxa⟩ := pair_at (Rp.x e hr)
      obtain ⟨p1, p2⟩ := ok.ok _ (List.getElem_mem hj)
      have hpi : ps[j]? = some ps[j] := List.getElem?_eq_getElem hj
      refine ⟨rfl, _, rfl, xa, _, _, _, rfl, rfl, SqT.of hxa, at_of (j := 1) rfl rfl, ?_⟩
      refine ⟨_, rfl, _, rfl, _, rfl, xa, _, _, _, rfl, rfl, SqT.of hxa, at_of (j := 0) rfl rfl, net, ch, n, ws, cs, ps[j].1, rfl, t.x e, by omega, fun a H4 hA e4 => ?_⟩
      refine ⟨a, _, rfl, .inr (SqT.of hA), rfl, flat_nats _, _, rfl, ?_⟩
      rw [if_pos rfl, inV_nats]
      have hD4 := e4.lst (fun z => z) hD3
      refine ite2 (fun q => ?_) (fun q => ?_)
      · have hf : jn1 ws cs ps[j] = false := decide_eq_false fun z => by
          rw [decide_eq_true (mem_cls.mpr ⟨p2, z.symm⟩)] at q; cases q
        refine ⟨_, rfl, acc, hD4, small1000 (by omega), acc ++ [.ref xa], (e.trans e4).mut (.inl hD) hD4 ltbl, upd_same, ?_, ⟨fun z => by simp at z, fun z => ?_⟩⟩
        · rw [List.length_append, List.length_singleton]; omega
        · rw [take_succ' hpi, List.all_append] at z
          simp [hf] at z
      · have hin : ps[j].2 ∈ cls (hom ws cs) n ps[j].1 := Classical.byContradiction fun z => q (by rw [decide_eq_false z]; rfl)
        have ht : jn1 ws cs ps[j] = true := decide_eq_true (mem_cls.mp hin).2.symm
        refine ⟨acc, e.trans e4, hD4, Nat.le_succ_of_le hal, hiff.trans ⟨fun z => all_take hpi z ht, fun z => ?_⟩⟩
        rw [take_succ' hpi, List.all_append, Bool.and_eq_true] at z
        exact z.1
    · rintro H3 ⟨acc, e, hD3, hal, hiff⟩
      rw [hlen, List.take_length] at hiff
      refine ⟨Dl, acc, rfl, .inl (SqL.of hD3), rfl, ?_⟩
      have hb : decide (V.int (acc.length : Nat) = V.int 0) = jn ws cs ps := by
        unfold jn
        cases ha : acc with
        | nil => rw [hiff.mp ha]; rfl
        | cons y ys =>
          rw [ha] at hiff
          have : ps.all (jn1 ws cs) = false := by
            cases h : ps.all (jn1 ws cs) with
            | false => rfl
            | true => exact absurd (hiff.mpr h) (by simp)
          rw [this]
          exact decide_eq_false fun z => by injection z with z; simp at z; omega
      have := k H3 e
      rw [← hb] at this
      exact this
theorem ok__law_spare {f : Addr} {fd : FuncData} (F : Fun K "_law_spare" "_law_spare" s_law_spare f fd) {f_law_joins : Addr} {fd_law_joins : FuncData} (F_law_joins : Fun K "_law_joins" "_law_joins" s_law_joins f_law_joins fd_law_joins) (G_law_joins : FnOk P w K mg base CX0 2 f_law_joins fd_law_joins ["net", "pairs", "choice"] (spLJoins T)) (b_law_joins : Binds K fd_law_joins ["net", "pairs", "choice"] []) (g_law_joins : mg "_law_joins" = some (.ref f_law_joins)) : FnOk P w K mg base CX0 3 f fd ["net", "pairs", "choice"] (spLSpare T) := by
  refine F.ok sc_law_spare (fun vs H Q E h => ?_) (fun cdv A outer s H vs Q E hr h => ?_)
  · obtain ⟨net, pz, ch, n, ws, cs, ps, rfl, t, hps, ok, k⟩ := h
    rfl
  · obtain ⟨net, pz, ch, n, ws, cs, ps, rfl, t, hps, ok, k⟩ := h
    refine ⟨_, (pss_cons (ps_for PassesOwn.never rfl (pi_tup (pv 2)) (pg_name (i := 3) sc_law_spare.nd rfl (Or.inr rfl)) (pss_one (ps_if (pt_val (pe_call G_law_joins hr (by rfl) g_law_joins F_law_joins.kp b_law_joins .nil pass0 (pa_cons (pv 0) (pa_cons (pv 1) (pa_cons (pe_lc (own := [("other", 4)]) (g := (gName 4)) rfl sc_law_spare.nd (pi_tup (pv 2)) (blkOk_by (own := [("other", 4)]) (N := ["net", "pairs", "choice", "way", "other"]) (sc := defScope s_law_spare) (by decide +kernel)) (fun _ _ _ _ _ => (pg_name (i := 4) sc_law_spare.nd rfl (Or.inl rfl))) (fun _ _ _ _ _ => (pts_one (pt_cmpR op_ne (pv 4) (pv 3) (nomark _)))) (fun _ _ _ _ _ => (pv 4))) pa_nil))))) (pss_one (ps_ret (pv 3))) pss_nil)))
      (pss_one (ps_ret pe_non))), ?_⟩
    obtain ⟨ca, rfl, hca⟩ := ch_at t.ch
    have hlc : cs.length ≤ 24 := Nat.le_trans t.C.len t.W.ln
    refine ⟨_, rfl, ca, rfl, ⟨_, SqT.of hca⟩, for_tup (K := K) (a := ca) (xs := cs.map fun (c : Nat) => V.int (c : Int)) (fun i σ' H' => ∃ y z, σ' = [some net, some pz, some (.ref ca), y, z] ∧ (∀ c ∈ cs.take i, jn ws (outc c cs) ps = false) ∧ Ext T noM H H') ⟨none, none, rfl, (fun c hc => nomatch hc), Ext.refl _ _ _⟩ (fun i σ' H' _ ⟨_, _, _, _, e⟩ => SqT.of (e.tup (fun z => z) hca)) ?_ ?_⟩
    · rintro i x σ' H2 hx ⟨y, z, rfl, hb, e⟩
      obtain ⟨c, hc, rfl⟩ := nats_at hx
      refine ⟨_, rfl, _, rfl, _, rfl, ca, rfl, ⟨_, SqT.of (e.tup (fun z => z) hca)⟩, fun Dl hD => ?_⟩
      refine lc_tup (K := K) (a := ca) (xs := cs.map fun (c : Nat) => V.int (c : Int)) (fun j H' => Ext T noM H2 H' ∧ H' Dl = some (.lst (natsV (outc c (cs.take j))))) ⟨Ext.new hD, upd_same⟩ (fun j H' _ p => SqT.of ((e.trans p.1).tup (fun z => z) hca)) ?_ ?_
      · rintro j x H3 hx3 ⟨e3, hD3⟩
        obtain ⟨d, hd, rfl⟩ := nats_at hx3
        have hsn : outc c (cs.take (j + 1)) = outc c (cs.take j) ++ if d = c then [] else [d] := by
          rw [take_succ' hd]; unfold outc; rw [List.filter_append]
          by_cases z : d = c <;> simp [z]
        refine ⟨rfl, ?_⟩
        refine ⟨_, rfl, _, rfl, rfl, _, rfl, ?_⟩
        refine ite2 (fun q => ?_) (fun q => ?_)
        · have z : ¬ d = c := fun z => by rw [z] at q; simp at q
          rw [if_neg z] at hsn
          refine ⟨_, rfl, _, hD3, ?_, e3.mut (.inl hD) hD3 ltbl, ?_⟩
          · have h1 := outc_len c (cs.take j)
            rw [List.length_take] at h1
            unfold natsV; rw [List.length_map]; exact small1000 (by omega)
          · rw [upd_same, hsn]; unfold natsV; rw [List.map_append]; rfl
        · have z : d = c := Classical.byContradiction fun z => q (by rw [decide_eq_false fun y => z (vint_inj.mp y)]; rfl)
          rw [if_pos z, List.append_nil] at hsn
          exact ⟨e3, by rw [hsn]; exact hD3⟩
      · rintro H3 ⟨e3, hD3⟩
        rw [List.length_map, List.take_length] at hD3
        have e13 := e.trans e3
        have C' := t.C.out c
        refine ⟨net, pz, .ref Dl, n, ws, outc c cs, ps, rfl, ⟨t.W, C'.lt, Nat.le_trans C'.len t.W.ln, Rp.x e13 t.net, ⟨Dl, rfl, .inr hD3⟩⟩, Rp.x e13 hps, ok, fun H4 e4 => ⟨_, rfl, ?_⟩⟩
        refine ite2 (fun q => ?_) (fun q => ?_)
        · have hf : spr ws cs ps = some c := find_at hc hb q
          refine ⟨_, rfl, ?_⟩
          have := k H4 (e13.trans e4)
          rw [hf] at this
          exact this
        · refine ⟨_, _, rfl, fun d hd => ?_, e13.trans e4⟩
          rw [take_succ' hc] at hd
          rcases List.mem_append.mp hd with h | h
          · exact hb d h
          · rw [List.mem_singleton.mp h]; exact Bool.eq_false_iff.mpr q
    · rintro σ' H2 ⟨y, z, rfl, hb, e⟩
      rw [List.length_map, List.take_length] at hb
      have hf : spr ws cs ps = none := find_no hb
      have := k H2 e
      rw [hf] at this
      exact this
end
end Mw

set_option Elab.async false
set_option linter.all false
set_option maxRecDepth 100000
set_option maxHeartbeats 4000000
namespace Mw
open PySem PySem.Spec PyProof.Rows L2 GE
/-! ### the same data -/
def Sm : Nat → D → Prop
  | 0, _ => False
  | _ + 1, .i _ => True
  | _ + 1, .non => True
  | _ + 1, .bl _ => False
  | n + 1, .t ds => ds.length ≤ 1000 ∧ ∀ d ∈ ds, Sm n d
def spSame (K : PySem.W.Frag) (n : Nat) (T : List Addr) : Sp := fun vs H Q _ => ∃ (a b : V) (d : D), vs = [a, b] ∧ Rp H d a ∧ Rp H d b ∧ Sm n d ∧ ∀ H', Ext T noM H H' → Q (.bl true) H'
section
variable {P : Program} {w : World} {K : PySem.W.Frag} {mg : Str → Option Value} {base : Heap} {T : List Addr} {n : Nat}
theorem ok__law_same {f : Addr} {fd : FuncData} (F : Fun K "_law_same" "_law_same" s_law_same f fd) (m_isinstance : mg "isinstance" = none) (m_tuple : mg "tuple" = none) (m_str : mg "str" = none) (m_int : mg "int" = none) (m_len : mg "len" = none) (m_bool : mg "bool" = none) (m_range : mg "range" = none) {f_law_same : Addr} {fd_law_same : FuncData} (F_law_same : Fun K "_law_same" "_law_same" s_law_same f_law_same fd_law_same) (G_law_same : FnOk P w K mg base CX0 n f_law_same fd_law_same ["actual", "due"] (spSame K n T)) (b_law_same : Binds K fd_law_same ["actual", "due"] []) (g_law_same : mg "_law_same" = some (.ref f_law_same)) : FnOk P w K mg base CX0 (n + 1) f fd ["actual", "due"] (spSame K (n + 1) T) := by
  refine F.ok sc_law_same (fun vs H Q E h => ?_) (fun cdv A outer s H vs Q E hr h => ?_)
  · obtain ⟨x, y, d, rfl, ha, hb, hs, k⟩ := h
    rfl
  · obtain ⟨x, y, d, rfl, ha, hb, hs, k⟩ := h
    refine ⟨_, (pss_cons (ps_if (pt_val (pe_callB call_isi (by rfl) m_isinstance (by decide +kernel) (pa_cons (pv 1) (pa_cons (pe_bltn (u := .type "tuple") (v := .ty "tuple") (by rfl) m_tuple (by decide +kernel) rfl) pa_nil)))) (pss_cons (ps_if (PW.pt (pw_or (pt_not (pt_val (pe_callB call_isi (by rfl) m_isinstance (by decide +kernel) (pa_cons (pv 0) (pa_cons (pe_bltn (u := .type "tuple") (v := .ty "tuple") (by rfl) m_tuple (by decide +kernel) rfl) pa_nil))))) (pw_or1 (pt_cmpR op_ne (pe_callB call_len_seq (by rfl) m_len PySem.boot_len (pa_cons (pv 0) pa_nil)) (pe_callB call_len_seq (by rfl) m_len PySem.boot_len (pa_cons (pv 1) pa_nil)) (nomark _))))) (pss_one (ps_ret pe_bl)) pss_nil)
      (pss_one (ps_ret (pe_cmpR op_eq (pe_callB call_len_seq (by rfl) m_len PySem.boot_len (pa_cons (pe_lc (own := [("k", 2)]) (g := (gName 2)) rfl sc_law_same.nd (pi_range1 (by rfl) m_range (pa_cons (pe_callB call_len_seq (by rfl) m_len PySem.boot_len (pa_cons (pv 1) pa_nil)) pa_nil)) (blkOk_by (own := [("k", 2)]) (N := ["actual", "due", "k"]) (sc := defScope s_law_same) (by decide +kernel)) (fun _ _ _ _ _ => (pg_name (i := 2) sc_law_same.nd rfl (Or.inl rfl))) (fun _ _ _ _ _ => (pts_one (pt_not (pt_val (pe_call G_law_same hr (by rfl) g_law_same F_law_same.kp b_law_same .nil pass0 (pa_cons (pe_ix (GE.ix_tupK (K := K)) (pv 0) (pv 2) (fun _ _ => rfl)) (pa_cons (pe_ix (GE.ix_tupK (K := K)) (pv 1) (pv 2) (fun _ _ => rfl)) pa_nil))))))) (fun _ _ _ _ _ => (pv 2))) pa_nil)) pe_int (nomark _))))) pss_nil)
      (pss_cons (ps_if (pt_cmpR op_isN (pv 1) pe_non (nomark _)) (pss_one (ps_ret (pe_cmpR op_isN (pv 0) pe_non (nomark _)))) pss_nil)
      (pss_cons (ps_if (pt_val (pe_callB call_isi (by rfl) m_isinstance (by decide +kernel) (pa_cons (pv 1) (pa_cons (pe_bltn (u := .type "str") (v := .ty "str") (by rfl) m_str (by decide +kernel) rfl) pa_nil)))) (pss_one (ps_ret (pe_and (pe_callB call_isi (by rfl) m_isinstance (by decide +kernel) (pa_cons (pv 0) (pa_cons (pe_bltn (u := .type "str") (v := .ty "str") (by rfl) m_str (by decide +kernel) rfl) pa_nil))) (pe_one (pe_cmpR op_eq (pv 0) (pv 1) (nomark _)))))) pss_nil)
      (pss_one (ps_ret (pe_and (pe_callB call_isi (by rfl) m_isinstance (by decide +kernel) (pa_cons (pv 0) (pa_cons (pe_bltn (u := .type "int") (v := .ty "int") (by rfl) m_int (by decide +kernel) rfl) pa_nil))) (pe_and (pe_not (pe_callB call_isi (by rfl) m_isinstance (by decide +kernel) (pa_cons (pv 0) (pa_cons (pe_bltn (u := .type "bool") (v := .ty "bool") (by rfl) m_bool (by decide +kernel) rfl) pa_nil)))) (pe_one (pe_cmpR op_eq (pv 0) (pv 1) (nomark _)))))))))), ?_⟩
    cases d with
    | bl b => exact hs.elim
    | i z =>
      rw [ha.i, hb.i]
      refine ⟨_, rfl, _, _, _, _, false, rfl, .ty _, .base (.int _), kit_ty (by decide +kernel), ⟨_, rfl, iteF ?_⟩⟩
      refine ⟨_, rfl, rfl, _, rfl, iteF ?_⟩
      refine ⟨_, rfl, _, _, _, _, false, rfl, .ty _, .base (.int _), kit_ty (by decide +kernel), ⟨_, rfl, iteF ?_⟩⟩
      refine ⟨_, rfl, _, _, _, _, true, rfl, .ty _, .base (.int _), kit_ty (by decide +kernel), ⟨_, rfl, iteT ?_⟩⟩
      refine ⟨_, rfl, _, _, _, _, false, rfl, .ty _, .base (.int _), kit_ty (by decide +kernel), ⟨_, rfl, ⟨_, rfl, iteT ?_⟩⟩⟩
      refine ⟨_, rfl, _, rfl, rfl, ?_⟩
      rw [decide_eq_true rfl]
      exact k H (Ext.refl _ _ _)
    | non =>
      unfold Rp at ha hb
      subst ha hb
      refine ⟨_, rfl, _, _, _, _, false, rfl, .ty _, .base (.non), kit_ty (by decide +kernel), ⟨_, rfl, iteF ?_⟩⟩
      refine ⟨_, rfl, rfl, _, rfl, iteT ?_⟩
      exact ⟨_, rfl, rfl, k H (Ext.refl _ _ _)⟩
    | t ds =>
      obtain ⟨a1, v1, rfl, h1, r1⟩ := ha.t
      obtain ⟨a2, v2, rfl, h2, r2⟩ := hb.t
      obtain ⟨hlen, hsm⟩ := hs
      have hl1 := r1.len
      have hl2 := r2.len
      have e12 : v1.length = v2.length := by omega
      refine ⟨_, rfl, _, _, _, _, true, rfl, .ty _, .base (.tup h2), kit_ty (by decide +kernel), ⟨_, rfl, iteT ?_⟩⟩
      refine ⟨_, rfl, _, _, _, _, true, rfl, .ty _, .base (.tup h1), kit_ty (by decide +kernel), ⟨_, rfl, iteF ?_⟩⟩
      refine ⟨_, rfl, a1, v1, rfl, .inr (SqT.of h1), _, rfl, a2, v2, rfl, .inr (SqT.of h2), rfl, _, rfl, ?_⟩
      refine ite2 (fun q => ?_) (fun q => ?_)
      · exfalso; rw [e12] at q; simp at q
      refine ⟨_, rfl, a2, v2, rfl, .inr (SqT.of h2), v2.length, rfl, by omega, by omega, fun Dl hD => ?_⟩
      have e1 : Ext T noM H (upd H Dl (.lst [])) := Ext.new hD
      refine lc_range (lo := 0) (n := ((v2.length : Int) - 0).toNat) (fun j H' => Ext T noM H H' ∧ H' Dl = some (.lst [])) ⟨e1, upd_same⟩ ?_ ?_
      · rintro j H3 hj ⟨e, hD3⟩
        have hj' : j < ds.length := by omega
        obtain ⟨x1, g1, p1⟩ := r1.get (List.getElem?_eq_getElem hj')
        obtain ⟨x2, g2, p2⟩ := r2.get (List.getElem?_eq_getElem hj')
        have hz : (0 : Int) + (j : Int) = (j : Int) := Int.zero_add _
        rw [hz]
        refine ⟨rfl, ?_⟩
        refine ⟨_, rfl, _, rfl, a1, _, _, _, rfl, rfl, SqT.of (e.tup (fun z => z) h1), at_of (j := j) rfl g1, _, rfl, _, rfl, a2, _, _, _, rfl, rfl, SqT.of (e.tup (fun z => z) h2), at_of (j := j) rfl g2, x1, x2, ds[j], rfl, Rp.x e p1, Rp.x e p2, hsm _ (List.getElem_mem hj'), fun H4 e4 => ⟨_, rfl, iteF ⟨e.trans e4, e4.lst (fun z => z) hD3⟩⟩⟩
      · rintro H3 ⟨e, hD3⟩
        refine ⟨Dl, [], rfl, .inl (SqL.of hD3), rfl, ?_⟩
        exact k H3 e
end
end Mw

set_option Elab.async false
set_option linter.all false
set_option maxRecDepth 100000
set_option maxHeartbeats 4000000
namespace Mw
open PySem PySem.Spec PyProof.Rows L2 GE
theorem opt_d {H : Hp} : ∀ x : Option Nat, ∃ d : D, Rp H d (optV x) ∧ Sm 3 d
  | some c => ⟨.i (c : Nat), rp_i _, True.intro⟩
  | none => ⟨.non, by unfold Rp; rfl, True.intro⟩
def spLaw (K : PySem.W.Frag) (T : List Addr) : Sp := fun vs H Q _ => ∃ (a : Addr) (ns : List Int), vs = [.ref a] ∧ SqL K H a (ns.map V.int) ∧ ns.length ≤ 63 ∧ Wd T H ∧ ∀ H', Q (.bl true) H'
section
variable {P : Program} {w : World} {K : PySem.W.Frag} {mg : Str → Option Value} {base : Heap} {T : List Addr}
theorem same_all {f : Addr} {fd : FuncData} (F : Fun K "_law_same" "_law_same" s_law_same f fd) (m_isinstance : mg "isinstance" = none) (m_tuple : mg "tuple" = none) (m_str : mg "str" = none) (m_int : mg "int" = none) (m_len : mg "len" = none) (m_bool : mg "bool" = none)
    (m_range : mg "range" = none) (b : Binds K fd ["actual", "due"] []) (g : mg "_law_same" = some (.ref f)) : ∀ n, FnOk P w K mg base CX0 n f fd ["actual", "due"] (spSame K n T)
  | 0 => ⟨fun vs H Q E h => by obtain ⟨x, y, d, rfl, _⟩ := h; rfl, fun A outer s H args us vs Q E hr he hb hv hs => by obtain ⟨x, y, d, rfl, _, _, hs, _⟩ := hs; exact hs.elim⟩
  | n + 1 => ok__law_same F m_isinstance m_tuple m_str m_int m_len m_bool m_range F (same_all F m_isinstance m_tuple m_str m_int m_len m_bool m_range b g n) b g
theorem ok_law {f : Addr} {fd : FuncData} (F : Fun K "law" "law" slaw f fd) (m_range : mg "range" = none) (m_isinstance : mg "isinstance" = none) (m_bool : mg "bool" = none) {f_law_pool : Addr} {fd_law_pool : FuncData} (F_law_pool : Fun K "_law_pool" "_law_pool" s_law_pool f_law_pool fd_law_pool) (G_law_pool : FnOk P w K mg base CX0 4 f_law_pool fd_law_pool ["script"] (spPool K T)) (b_law_pool : Binds K fd_law_pool ["script"] []) (g_law_pool : mg "_law_pool" = some (.ref f_law_pool)) {f_law_net : Addr} {fd_law_net : FuncData} (F_law_net : Fun K "_law_net" "_law_net" s_law_net f_law_net fd_law_net) (G_law_net : FnOk P w K mg base CX0 4 f_law_net fd_law_net ["pool", "most", "ways"] (spNet T)) (b_law_net : Binds K fd_law_net ["pool", "most", "ways"] []) (g_law_net : mg "_law_net" = some (.ref f_law_net)) {f_law_pick : Addr} {fd_law_pick : FuncData} (F_law_pick : Fun K "_law_pick" "_law_pick" s_law_pick f_law_pick fd_law_pick) (G_law_pick : FnOk P w K mg base CX0 4 f_law_pick fd_law_pick ["pool", "rows"] (spPick T)) (b_law_pick : Binds K fd_law_pick ["pool", "rows"] []) (g_law_pick : mg "_law_pick" = some (.ref f_law_pick)) {f_law_pairs : Addr} {fd_law_pairs : FuncData} (F_law_pairs : Fun K "_law_pairs" "_law_pairs" s_law_pairs f_law_pairs fd_law_pairs) (G_law_pairs : FnOk P w K mg base CX0 4 f_law_pairs fd_law_pairs ["pool", "places", "most"] (spLPairs T)) (b_law_pairs : Binds K fd_law_pairs ["pool", "places", "most"] []) (g_law_pairs : mg "_law_pairs" = some (.ref f_law_pairs)) {f_law_choice : Addr} {fd_law_choice : FuncData} (F_law_choice : Fun K "_law_choice" "_law_choice" s_law_choice f_law_choice fd_law_choice) (G_law_choice : FnOk P w K mg base CX0 4 f_law_choice fd_law_choice ["pool", "net"] (spChoice T)) (b_law_choice : Binds K fd_law_choice ["pool", "net"] []) (g_law_choice : mg "_law_choice" = some (.ref f_law_choice)) {fjoins : Addr} {fdjoins : FuncData} (Fjoins : Fun K "joins" "joins" sjoins fjoins fdjoins) (Gjoins : FnOk P w K mg base CX0 4 fjoins fdjoins ["net", "pairs", "choice"] (spJoins T)) (bjoins : Binds K fdjoins ["net", "pairs", "choice"] []) (gjoins : mg "joins" = some (.ref fjoins)) {f_law_joins : Addr} {fd_law_joins : FuncData} (F_law_joins : Fun K "_law_joins" "_law_joins" s_law_joins f_law_joins fd_law_joins) (G_law_joins : FnOk P w K mg base CX0 4 f_law_joins fd_law_joins ["net", "pairs", "choice"] (spLJoins T)) (b_law_joins : Binds K fd_law_joins ["net", "pairs", "choice"] []) (g_law_joins : mg "_law_joins" = some (.ref f_law_joins)) {f_law_same : Addr} {fd_law_same : FuncData} (F_law_same : Fun K "_law_same" "_law_same" s_law_same f_law_same fd_law_same) (G_law_same : FnOk P w K mg base CX0 4 f_law_same fd_law_same ["actual", "due"] (spSame K 3 T)) (b_law_same : Binds K fd_law_same ["actual", "due"] []) (g_law_same : mg "_law_same" = some (.ref f_law_same)) {fspare : Addr} {fdspare : FuncData} (Fspare : Fun K "spare" "spare" sspare fspare fdspare) (Gspare : FnOk P w K mg base CX0 4 fspare fdspare ["net", "pairs", "choice"] (spSpare T)) (bspare : Binds K fdspare ["net", "pairs", "choice"] []) (gspare : mg "spare" = some (.ref fspare)) {f_law_spare : Addr} {fd_law_spare : FuncData} (F_law_spare : Fun K "_law_spare" "_law_spare" s_law_spare f_law_spare fd_law_spare) (G_law_spare : FnOk P w K mg base CX0 4 f_law_spare fd_law_spare ["net", "pairs", "choice"] (spLSpare T)) (b_law_spare : Binds K fd_law_spare ["net", "pairs", "choice"] []) (g_law_spare : mg "_law_spare" = some (.ref f_law_spare)) : FnOk P w K mg base CX0 5 f fd ["script"] (spLaw K T) := by
  refine F.ok sclaw (fun vs H Q E h => ?_) (fun cdv A outer s H vs Q E hr h => ?_)
  · obtain ⟨a, ns, rfl, hS, hlen, wd, k⟩ := h
    rfl
  · obtain ⟨a, ns, rfl, hS, hlen, wd, k⟩ := h
    refine ⟨_, (pss_cons (ps_set (i := 1) sclaw.nd rfl (Or.inl rfl) (pe_call G_law_pool hr (by rfl) g_law_pool F_law_pool.kp b_law_pool .nil pass0 (pa_cons (pv 0) pa_nil)))
      (pss_cons (ps_set (i := 2) sclaw.nd rfl (Or.inl rfl) (pe_call G_law_net hr (by rfl) g_law_net F_law_net.kp b_law_net .nil pass0 (pa_cons (pv 1) (pa_cons (pe_call G_law_pick hr (by rfl) g_law_pick F_law_pick.kp b_law_pick .nil pass0 (pa_cons (pv 1) (pa_cons (pe_lst (pa_cons pe_int (pa_cons pe_int pa_nil))) pa_nil))) (pa_cons (pe_call G_law_pick hr (by rfl) g_law_pick F_law_pick.kp b_law_pick .nil pass0 (pa_cons (pv 1) (pa_cons (pe_lst (pa_cons pe_int (pa_cons pe_int pa_nil))) pa_nil))) pa_nil)))))
      (pss_cons (ps_for PassesOwn.never rfl (pi_range1 (by rfl) m_range (pa_cons pe_int pa_nil)) (pg_name (i := 3) sclaw.nd rfl (Or.inl rfl)) (pss_cons (ps_set (i := 4) sclaw.nd rfl (Or.inl rfl) (pe_call G_law_pairs hr (by rfl) g_law_pairs F_law_pairs.kp b_law_pairs .nil pass0 (pa_cons (pv 1) (pa_cons (pe_ix ix_tup (pv 2) pe_int (fun _ _ => rfl)) (pa_cons pe_int pa_nil)))))
      (pss_cons (ps_set (i := 5) sclaw.nd rfl (Or.inl rfl) (pe_call G_law_choice hr (by rfl) g_law_choice F_law_choice.kp b_law_choice .nil pass0 (pa_cons (pv 1) (pa_cons (pv 2) pa_nil))))
      (pss_cons (ps_set (i := 6) sclaw.nd rfl (Or.inl rfl) (pe_call Gjoins hr (by rfl) gjoins Fjoins.kp bjoins .nil pass0 (pa_cons (pv 2) (pa_cons (pv 4) (pa_cons (pv 5) pa_nil)))))
      (pss_cons (ps_if (PW.pt (pw_or (pt_not (pt_val (pe_callB call_isi (by rfl) m_isinstance (by decide +kernel) (pa_cons (pv 6) (pa_cons (pe_bltn (u := .type "bool") (v := .ty "bool") (by rfl) m_bool (by decide +kernel) rfl) pa_nil))))) (pw_or1 (pt_cmpR op_ne (pv 6) (pe_call G_law_joins hr (by rfl) g_law_joins F_law_joins.kp b_law_joins .nil pass0 (pa_cons (pv 2) (pa_cons (pv 4) (pa_cons (pv 5) pa_nil)))) (nomark _))))) (pss_one (ps_ret pe_bl)) pss_nil)
      (pss_one (ps_if (PW.pt (pw_and (pt_val (pv 6)) (pw_and1 (pt_not (pt_val (pe_call G_law_same hr (by rfl) g_law_same F_law_same.kp b_law_same .nil pass0 (pa_cons (pe_call Gspare hr (by rfl) gspare Fspare.kp bspare .nil pass0 (pa_cons (pv 2) (pa_cons (pv 4) (pa_cons (pv 5) pa_nil)))) (pa_cons (pe_call G_law_spare hr (by rfl) g_law_spare F_law_spare.kp b_law_spare .nil pass0 (pa_cons (pv 2) (pa_cons (pv 4) (pa_cons (pv 5) pa_nil)))) pa_nil)))))))) (pss_one (ps_ret pe_bl)) pss_nil)))))))
      (pss_one (ps_ret pe_bl))))), ?_⟩
    refine ⟨_, rfl, a, ns, rfl, hS, hlen, fun p s H1 hp hs hP1 e1 => ?_⟩
    have wd1 := wd.ext e1
    refine ⟨_, rfl, _, rfl, by show 2 ≤ sizeLine; decide, fun l1 hl1 => ?_⟩
    have x1 : Ext T noM H1 (upd H1 l1 (.lst [.int 10, .int 12])) := Ext.new hl1
    have hP2 := hP1.keep (T := T) x1
    refine ⟨p, s, l1, _, rfl, hP2, upd_same, (hP1.ne hl1).1, by decide, by decide, fun v1 H2 hv1 hP3 e2 => ?_⟩
    obtain ⟨m1, rfl, hm1⟩ : ∃ m : Int, v1 = .int m ∧ (m = 10 ∨ m = 12) := by
      rcases List.mem_cons.mp hv1 with h | h
      · exact ⟨10, h, .inl rfl⟩
      · exact ⟨12, List.mem_singleton.mp h, .inr rfl⟩
    refine ⟨_, rfl, by show 2 ≤ sizeLine; decide, fun l2 hl2 => ?_⟩
    have x2 : Ext T noM H2 (upd H2 l2 (.lst [.int 18, .int 24])) := Ext.new hl2
    have hP4 := hP3.keep (T := T) x2
    refine ⟨p, s, l2, _, rfl, hP4, upd_same, (hP3.ne hl2).1, by decide, by decide, fun v2 H3 hv2 hP5 e3 => ?_⟩
    obtain ⟨m2, rfl, hm2⟩ : ∃ m : Int, v2 = .int m ∧ (m = 18 ∨ m = 24) := by
      rcases List.mem_cons.mp hv2 with h | h
      · exact ⟨18, h, .inl rfl⟩
      · exact ⟨24, List.mem_singleton.mp h, .inr rfl⟩
    refine ⟨p, s, m1, m2, rfl, hP5, by omega, by omega, by omega, by omega, fun net n ws H4 W hnet hP6 e4 => ?_⟩
    have wd4 : Wd T H4 := ((((wd1.ext x1).ext e2).ext x2).ext e3).ext e4
    
    refine ⟨4, rfl, by decide, by decide, for_range (lo := 0) (n := 4) (fun i σ' H' => ∃ y3 y4 y5 y6, σ' = [some (.ref a), some (.ref p), some net, y3, y4, y5, y6] ∧ PoolAt H' p s ∧ Ext T (atP p) H4 H') ⟨_, _, _, _, rfl, hP6, Ext.refl _ _ _⟩ ?_ ?_⟩
    · rintro i σ' H5 hi ⟨y3, y4, y5, y6, rfl, hP7, e5⟩
      have hnet5 := Rp.p hnet hP6 e5
      obtain ⟨na, nb, us, rfl, ha, hb, hus⟩ := net_at hnet5
      have n1 := W.n1
      have n12 := W.n12
      refine ⟨_, rfl, _, rfl, na, _, _, _, rfl, rfl, SqT.of ha, at_of (j := 0) rfl rfl, p, s, n, 6, rfl, hP7, n1, n12, by decide, by decide, fun pz ps H6 ok hps hP8 e6 => ?_⟩
      have hnet6 := Rp.p hnet5 hP7 e6
      refine ⟨_, rfl, _, rfl, p, s, _, n, ws, rfl, hP8, W, hnet6, fun ch cs H7 C hch hP9 e7 => ?_⟩
      have tk : Task H7 n ws cs (.ref na) ch := ⟨W, C, Rp.p hnet6 hP8 e7, hch⟩
      have hps7 := Rp.p hps hP8 e7
      have wd7 : Wd T H7 := ((wd4.ext e5).ext e6).ext e7
      refine ⟨_, rfl, _, rfl, _, rfl, .ref na, pz, ch, n, ws, cs, ps, rfl, tk, hps7, ok, wd7, fun H8 e8 => ?_⟩
      refine ⟨_, rfl, _, _, _, _, true, rfl, .ty _, .base (.bl _), kit_ty (by decide +kernel), ⟨_, rfl, iteF ?_⟩⟩
      refine ⟨_, rfl, _, rfl, _, rfl, _, rfl, .ref na, pz, ch, n, ws, cs, ps, rfl, tk.l.x e8, Rp.x e8 hps7, ok, fun H9 e9 => ⟨rfl, _, rfl, ?_⟩⟩
      refine ite2 (fun q => ?_) (fun q => ?_)
      · rw [decide_eq_true rfl] at q; cases q
      have e79 := e8.trans e9
      have fin : ∀ H', Ext T noM H7 H' → PoolAt H' p s ∧ Ext T (atP p) H4 H' := fun H' e => ⟨hP9.keep e, ((e5.trans e6).trans e7).trans e.weak⟩
      refine ⟨_, rfl, _, rfl, ?_⟩
      refine ite2 (fun q2 => ?_) (fun q2 => ⟨_, _, _, _, rfl, fin _ e79⟩)
      refine ⟨_, rfl, _, rfl, _, rfl, .ref na, pz, ch, n, ws, cs, ps, rfl, tk.x e79, Rp.x e79 hps7, ok, wd7.ext e79, fun H10 e10 => ?_⟩
      have e710 := e79.trans e10
      refine ⟨_, rfl, _, rfl, _, rfl, .ref na, pz, ch, n, ws, cs, ps, rfl, tk.x e710, Rp.x e710 hps7, ok, fun H11 e11 => ?_⟩
      obtain ⟨d, hd1, hd2⟩ := opt_d (H := H11) (spr ws cs ps)
      refine ⟨_, _, d, rfl, hd1, hd1, hd2, fun H12 e12 => ⟨_, rfl, iteF ⟨_, _, _, _, rfl, fin _ ((e710.trans e11).trans e12)⟩⟩⟩
    · rintro σ' H5 ⟨y3, y4, y5, y6, rfl, hP7, e5⟩
      exact k H5
end
end Mw

set_option Elab.async false
set_option linter.all false
set_option maxRecDepth 100000
set_option maxHeartbeats 4000000
namespace Mw
open PySem PySem.Spec PyProof.Rows L2 GE
section
variable {P : Program}
theorem all_mk {l : PySem.W.OpenLaw} {w : World} {K : PySem.W.Frag} {h : Heap} {mg : Str → Option Value} {q : Program} {fa f1 f2 f3 f4 f5 f6 f7 f8 f9 f10 f11 f12 f13 f14 f15 f16 f17 : Addr} (X : K.In h) (G : h.Ns mainGlobals mg) (hfa : mg "law" = some (.ref fa)) (TT : GE.TabsOf q K h)
    {od1 an1 od2 an2 od3 an3 od4 an4 od5 an5 od6 an6 od7 an7 od8 an8 od9 an9 od10 an10 od11 an11 od12 an12 od13 an13 od14 an14 od15 an15 od16 an16 od17 an17 : Option Addr} {sl1 sl2 sl3 sl4 sl5 sl6 sl7 sl8 sl9 sl10 sl11 sl12 sl13 sl14 sl15 sl16 sl17 : Array (Option Value)} {oc1 kV1 dc1 pm1 ct1 cd1 oc2 kV2 dc2 pm2 ct2 cd2 oc3 kV3 dc3 pm3 ct3 cd3 oc4 kV4 dc4 pm4 ct4 cd4 oc5 kV5 dc5 pm5 ct5 cd5 oc6 kV6 dc6 pm6 ct6 cd6 oc7 kV7 dc7 pm7 ct7 cd7 oc8 kV8 dc8 pm8 ct8 cd8 oc9 kV9 dc9 pm9 ct9 cd9 oc10 kV10 dc10 pm10 ct10 oc11 kV11 dc11 pm11 ct11 oc12 kV12 dc12 pm12 ct12 cd12 oc13 kV13 dc13 pm13 ct13 cd13 oc14 kV14 dc14 pm14 ct14 cd14 oc15 kV15 dc15 pm15 ct15 cd15 oc16 kV16 dc16 pm16 ct16 cd16 oc17 kV17 dc17 pm17 ct17 cd17 : Value} {cc10 PP10 cc11 PP11 : Addr}
    (a1 : PySem.W.nsIn K mainGlobals "_law_pool" = some (some (.ref f1))) (l1 : K.lookup f1 = some ⟨oc1, od1, .func (PySem.W.fnOf "_law_pool" "_law_pool" (defArgs s_law_pool) (defBody s_law_pool) (defScope s_law_pool) .none kV1 dc1 pm1 an1 cd1 ct1), sl1⟩) (c1 : PySem.W.codeIn K cd1 "_law_pool" = true) (k1 : PySem.W.keepIn K (.ref f1) = true)
    (a2 : PySem.W.nsIn K mainGlobals "_law_draw" = some (some (.ref f2))) (l2 : K.lookup f2 = some ⟨oc2, od2, .func (PySem.W.fnOf "_law_draw" "_law_draw" (defArgs s_law_draw) (defBody s_law_draw) (defScope s_law_draw) .none kV2 dc2 pm2 an2 cd2 ct2), sl2⟩) (c2 : PySem.W.codeIn K cd2 "_law_draw" = true) (k2 : PySem.W.keepIn K (.ref f2) = true)
    (a3 : PySem.W.nsIn K mainGlobals "_law_pick" = some (some (.ref f3))) (l3 : K.lookup f3 = some ⟨oc3, od3, .func (PySem.W.fnOf "_law_pick" "_law_pick" (defArgs s_law_pick) (defBody s_law_pick) (defScope s_law_pick) .none kV3 dc3 pm3 an3 cd3 ct3), sl3⟩) (c3 : PySem.W.codeIn K cd3 "_law_pick" = true) (k3 : PySem.W.keepIn K (.ref f3) = true)
    (a4 : PySem.W.nsIn K mainGlobals "_law_cost" = some (some (.ref f4))) (l4 : K.lookup f4 = some ⟨oc4, od4, .func (PySem.W.fnOf "_law_cost" "_law_cost" (defArgs s_law_cost) (defBody s_law_cost) (defScope s_law_cost) .none kV4 dc4 pm4 an4 cd4 ct4), sl4⟩) (c4 : PySem.W.codeIn K cd4 "_law_cost" = true) (k4 : PySem.W.keepIn K (.ref f4) = true)
    (a5 : PySem.W.nsIn K mainGlobals "_law_way" = some (some (.ref f5))) (l5 : K.lookup f5 = some ⟨oc5, od5, .func (PySem.W.fnOf "_law_way" "_law_way" (defArgs s_law_way) (defBody s_law_way) (defScope s_law_way) .none kV5 dc5 pm5 an5 cd5 ct5), sl5⟩) (c5 : PySem.W.codeIn K cd5 "_law_way" = true) (k5 : PySem.W.keepIn K (.ref f5) = true)
    (a6 : PySem.W.nsIn K mainGlobals "_law_net" = some (some (.ref f6))) (l6 : K.lookup f6 = some ⟨oc6, od6, .func (PySem.W.fnOf "_law_net" "_law_net" (defArgs s_law_net) (defBody s_law_net) (defScope s_law_net) .none kV6 dc6 pm6 an6 cd6 ct6), sl6⟩) (c6 : PySem.W.codeIn K cd6 "_law_net" = true) (k6 : PySem.W.keepIn K (.ref f6) = true)
    (a7 : PySem.W.nsIn K mainGlobals "_law_choice" = some (some (.ref f7))) (l7 : K.lookup f7 = some ⟨oc7, od7, .func (PySem.W.fnOf "_law_choice" "_law_choice" (defArgs s_law_choice) (defBody s_law_choice) (defScope s_law_choice) .none kV7 dc7 pm7 an7 cd7 ct7), sl7⟩) (c7 : PySem.W.codeIn K cd7 "_law_choice" = true) (k7 : PySem.W.keepIn K (.ref f7) = true)
    (a8 : PySem.W.nsIn K mainGlobals "_law_pairs" = some (some (.ref f8))) (l8 : K.lookup f8 = some ⟨oc8, od8, .func (PySem.W.fnOf "_law_pairs" "_law_pairs" (defArgs s_law_pairs) (defBody s_law_pairs) (defScope s_law_pairs) .none kV8 dc8 pm8 an8 cd8 ct8), sl8⟩) (c8 : PySem.W.codeIn K cd8 "_law_pairs" = true) (k8 : PySem.W.keepIn K (.ref f8) = true)
    (a9 : PySem.W.nsIn K mainGlobals "_homes" = some (some (.ref f9))) (l9 : K.lookup f9 = some ⟨oc9, od9, .func (PySem.W.fnOf "_homes" "_homes" (defArgs s_homes) (defBody s_homes) (defScope s_homes) .none kV9 dc9 pm9 an9 cd9 ct9), sl9⟩) (c9 : PySem.W.codeIn K cd9 "_homes" = true) (k9 : PySem.W.keepIn K (.ref f9) = true)
    (a10 : PySem.W.nsIn K mainGlobals "joins" = some (some (.ref f10))) (l10 : K.lookup f10 = some ⟨oc10, od10, .func (PySem.W.fnOf "joins" "joins" (defArgs sjoins) (defBody sjoins) (defScope sjoins) .none kV10 dc10 pm10 an10 (.ref cc10) ct10), sl10⟩) (c10 : PySem.W.codeIn K (.ref cc10) "joins" = true) (k10 : PySem.W.keepIn K (.ref f10) = true)
    (a11 : PySem.W.nsIn K mainGlobals "without" = some (some (.ref f11))) (l11 : K.lookup f11 = some ⟨oc11, od11, .func (PySem.W.fnOf "without" "without" (defArgs swithout) (defBody swithout) (defScope swithout) .none kV11 dc11 pm11 an11 (.ref cc11) ct11), sl11⟩) (c11 : PySem.W.codeIn K (.ref cc11) "without" = true) (k11 : PySem.W.keepIn K (.ref f11) = true)
    (a12 : PySem.W.nsIn K mainGlobals "spare" = some (some (.ref f12))) (l12 : K.lookup f12 = some ⟨oc12, od12, .func (PySem.W.fnOf "spare" "spare" (defArgs sspare) (defBody sspare) (defScope sspare) .none kV12 dc12 pm12 an12 cd12 ct12), sl12⟩) (c12 : PySem.W.codeIn K cd12 "spare" = true) (k12 : PySem.W.keepIn K (.ref f12) = true)
    (a13 : PySem.W.nsIn K mainGlobals "_law_group" = some (some (.ref f13))) (l13 : K.lookup f13 = some ⟨oc13, od13, .func (PySem.W.fnOf "_law_group" "_law_group" (defArgs s_law_group) (defBody s_law_group) (defScope s_law_group) .none kV13 dc13 pm13 an13 cd13 ct13), sl13⟩) (c13 : PySem.W.codeIn K cd13 "_law_group" = true) (k13 : PySem.W.keepIn K (.ref f13) = true)
    (a14 : PySem.W.nsIn K mainGlobals "_law_joins" = some (some (.ref f14))) (l14 : K.lookup f14 = some ⟨oc14, od14, .func (PySem.W.fnOf "_law_joins" "_law_joins" (defArgs s_law_joins) (defBody s_law_joins) (defScope s_law_joins) .none kV14 dc14 pm14 an14 cd14 ct14), sl14⟩) (c14 : PySem.W.codeIn K cd14 "_law_joins" = true) (k14 : PySem.W.keepIn K (.ref f14) = true)
    (a15 : PySem.W.nsIn K mainGlobals "_law_spare" = some (some (.ref f15))) (l15 : K.lookup f15 = some ⟨oc15, od15, .func (PySem.W.fnOf "_law_spare" "_law_spare" (defArgs s_law_spare) (defBody s_law_spare) (defScope s_law_spare) .none kV15 dc15 pm15 an15 cd15 ct15), sl15⟩) (c15 : PySem.W.codeIn K cd15 "_law_spare" = true) (k15 : PySem.W.keepIn K (.ref f15) = true)
    (a16 : PySem.W.nsIn K mainGlobals "_law_same" = some (some (.ref f16))) (l16 : K.lookup f16 = some ⟨oc16, od16, .func (PySem.W.fnOf "_law_same" "_law_same" (defArgs s_law_same) (defBody s_law_same) (defScope s_law_same) .none kV16 dc16 pm16 an16 cd16 ct16), sl16⟩) (c16 : PySem.W.codeIn K cd16 "_law_same" = true) (k16 : PySem.W.keepIn K (.ref f16) = true)
    (a17 : PySem.W.nsIn K mainGlobals "law" = some (some (.ref f17))) (l17 : K.lookup f17 = some ⟨oc17, od17, .func (PySem.W.fnOf "law" "law" (defArgs slaw) (defBody slaw) (defScope slaw) .none kV17 dc17 pm17 an17 cd17 ct17), sl17⟩) (c17 : PySem.W.codeIn K cd17 "law" = true) (k17 : PySem.W.keepIn K (.ref f17) = true)
    (z_list : PySem.W.nsIn K mainGlobals "list" = some none)    (z_abs : PySem.W.nsIn K mainGlobals "abs" = some none)    (z_int : PySem.W.nsIn K mainGlobals "int" = some none)    (z_len : PySem.W.nsIn K mainGlobals "len" = some none)    (z_range : PySem.W.nsIn K mainGlobals "range" = some none)    (z_tuple : PySem.W.nsIn K mainGlobals "tuple" = some none)    (z_min : PySem.W.nsIn K mainGlobals "min" = some none)    (z_max : PySem.W.nsIn K mainGlobals "max" = some none)    (z_all : PySem.W.nsIn K mainGlobals "all" = some none)    (z_sorted : PySem.W.nsIn K mainGlobals "sorted" = some none)    (z_isinstance : PySem.W.nsIn K mainGlobals "isinstance" = some none)    (z_str : PySem.W.nsIn K mainGlobals "str" = some none)    (z_bool : PySem.W.nsIn K mainGlobals "bool" = some none)
    (nt : PySem.W.noTabs K = true) {e10 : DefRec} (r10 : (recsOf q).find? (fun e => e.name == ("joins" : Str)) = some e10) (t10 : PySem.W.tabIn K "joins" = some (cc10, PP10)) {e11 : DefRec} (r11 : (recsOf q).find? (fun e => e.name == ("without" : Str)) = some e11) (t11 : PySem.W.tabIn K "without" = some (cc11, PP11)) :
    LamX.LawAtS l w K CX0 5 63 "script" mg fa h := by
  have e := hfa.symm.trans (PySem.W.mg_of X G a17)
  cases e
  have F1 := fun_mk (st := s_law_pool) l1 c1 k1
  have b1 := F1.binds (ps := ["script"]) fun _ _ _ _ _ _ us hl => match us, hl with | [_], _ => rfl
  have g1 := PySem.W.mg_of X G a1
  have F2 := fun_mk (st := s_law_draw) l2 c2 k2
  have b2 := F2.binds (ps := ["pool", "many"]) fun _ _ _ _ _ _ us hl => match us, hl with | [_, _], _ => rfl
  have g2 := PySem.W.mg_of X G a2
  have F3 := fun_mk (st := s_law_pick) l3 c3 k3
  have b3 := F3.binds (ps := ["pool", "rows"]) fun _ _ _ _ _ _ us hl => match us, hl with | [_, _], _ => rfl
  have g3 := PySem.W.mg_of X G a3
  have F4 := fun_mk (st := s_law_cost) l4 c4 k4
  have b4 := F4.binds (ps := ["pool"]) fun _ _ _ _ _ _ us hl => match us, hl with | [_], _ => rfl
  have g4 := PySem.W.mg_of X G a4
  have F5 := fun_mk (st := s_law_way) l5 c5 k5
  have b5 := F5.binds (ps := ["pool", "places"]) fun _ _ _ _ _ _ us hl => match us, hl with | [_, _], _ => rfl
  have g5 := PySem.W.mg_of X G a5
  have F6 := fun_mk (st := s_law_net) l6 c6 k6
  have b6 := F6.binds (ps := ["pool", "most", "ways"]) fun _ _ _ _ _ _ us hl => match us, hl with | [_, _, _], _ => rfl
  have g6 := PySem.W.mg_of X G a6
  have F7 := fun_mk (st := s_law_choice) l7 c7 k7
  have b7 := F7.binds (ps := ["pool", "net"]) fun _ _ _ _ _ _ us hl => match us, hl with | [_, _], _ => rfl
  have g7 := PySem.W.mg_of X G a7
  have F8 := fun_mk (st := s_law_pairs) l8 c8 k8
  have b8 := F8.binds (ps := ["pool", "places", "most"]) fun _ _ _ _ _ _ us hl => match us, hl with | [_, _, _], _ => rfl
  have g8 := PySem.W.mg_of X G a8
  have F9 := fun_mk (st := s_homes) l9 c9 k9
  have b9 := F9.binds (ps := ["net", "choice"]) fun _ _ _ _ _ _ us hl => match us, hl with | [_, _], _ => rfl
  have g9 := PySem.W.mg_of X G a9
  have F10 := GE.funC_mk (st := sjoins) l10 c10 k10
  have T10 := TT "joins" e10 cc10 PP10 r10 t10
  have b10 := F10.fun.binds (ps := ["net", "pairs", "choice"]) fun _ _ _ _ _ _ us hl => match us, hl with | [_, _, _], _ => rfl
  have g10 := PySem.W.mg_of X G a10
  have F11 := GE.funC_mk (st := swithout) l11 c11 k11
  have T11 := TT "without" e11 cc11 PP11 r11 t11
  have b11 := F11.fun.binds (ps := ["choice", "way"]) fun _ _ _ _ _ _ us hl => match us, hl with | [_, _], _ => rfl
  have g11 := PySem.W.mg_of X G a11
  have F12 := fun_mk (st := sspare) l12 c12 k12
  have b12 := F12.binds (ps := ["net", "pairs", "choice"]) fun _ _ _ _ _ _ us hl => match us, hl with | [_, _, _], _ => rfl
  have g12 := PySem.W.mg_of X G a12
  have F13 := fun_mk (st := s_law_group) l13 c13 k13
  have b13 := F13.binds (ps := ["net", "choice", "place"]) fun _ _ _ _ _ _ us hl => match us, hl with | [_, _, _], _ => rfl
  have g13 := PySem.W.mg_of X G a13
  have F14 := fun_mk (st := s_law_joins) l14 c14 k14
  have b14 := F14.binds (ps := ["net", "pairs", "choice"]) fun _ _ _ _ _ _ us hl => match us, hl with | [_, _, _], _ => rfl
  have g14 := PySem.W.mg_of X G a14
  have F15 := fun_mk (st := s_law_spare) l15 c15 k15
  have b15 := F15.binds (ps := ["net", "pairs", "choice"]) fun _ _ _ _ _ _ us hl => match us, hl with | [_, _, _], _ => rfl
  have g15 := PySem.W.mg_of X G a15
  have F16 := fun_mk (st := s_law_same) l16 c16 k16
  have b16 := F16.binds (ps := ["actual", "due"]) fun _ _ _ _ _ _ us hl => match us, hl with | [_, _], _ => rfl
  have g16 := PySem.W.mg_of X G a16
  have F17 := fun_mk (st := slaw) l17 c17 k17
  have b17 := F17.binds (ps := ["script"]) fun _ _ _ _ _ _ us hl => match us, hl with | [_], _ => rfl
  have g17 := PySem.W.mg_of X G a17
  have m_list := PySem.W.mg_none_of X G z_list
  have m_abs := PySem.W.mg_none_of X G z_abs
  have m_int := PySem.W.mg_none_of X G z_int
  have m_len := PySem.W.mg_none_of X G z_len
  have m_range := PySem.W.mg_none_of X G z_range
  have m_tuple := PySem.W.mg_none_of X G z_tuple
  have m_min := PySem.W.mg_none_of X G z_min
  have m_max := PySem.W.mg_none_of X G z_max
  have m_all := PySem.W.mg_none_of X G z_all
  have m_sorted := PySem.W.mg_none_of X G z_sorted
  have m_isinstance := PySem.W.mg_none_of X G z_isinstance
  have m_str := PySem.W.mg_none_of X G z_str
  have m_bool := PySem.W.mg_none_of X G z_bool
  refine ⟨PySem.W.fnOf "law" "law" (defArgs slaw) (defBody slaw) (defScope slaw) .none kV17 dc17 pm17 an17 cd17 ct17, [(cc10, PP10), (cc11, PP11)], spLaw K [PP10, PP11], (fun p hp => by
    simp only [List.mem_cons, List.not_mem_nil, or_false] at hp
    rcases hp with rfl | rfl
    · exact T10.2
    · exact T11.2), (fun p hp => by
    simp only [List.mem_cons, List.not_mem_nil, or_false] at hp
    rcases hp with rfl | rfl
    · exact GE.nT_of X nt T10.2
    · exact GE.nT_of X nt T11.2), (fun p hp => by
    simp only [List.mem_cons, List.not_mem_nil, or_false] at hp
    rcases hp with rfl | rfl
    · exact T10.1
    · exact T11.1), fun s v => .of_eq rfl, fun H a ns hlen hbits hH hS => ⟨a, ns, rfl, hS, hlen, ?_, fun _ => rfl⟩, fun base XB GB TB => ?_⟩
  · intro P hP
    simp only [List.mem_cons, List.not_mem_nil, or_false] at hP
    rcases hP with hP | hP
    · exact ⟨#[], by rw [hP]; exact hH (cc10, PP10) (by simp), True.intro⟩
    · exact ⟨#[], by rw [hP]; exact hH (cc11, PP11) (by simp), True.intro⟩
  have G1 := ok__law_pool (T := [PP10, PP11]) (P := l.prog) (w := w) (base := base) (mg := mg) F1 m_list
  have G2 := ok__law_draw (T := [PP10, PP11]) (P := l.prog) (w := w) (base := base) (mg := mg) F2 m_abs m_int m_len
  have G3 := ok__law_pick (T := [PP10, PP11]) (P := l.prog) (w := w) (base := base) (mg := mg) F3 m_len F2 (G2.mono (by decide)) b2 g2
  have G4 := ok__law_cost (T := [PP10, PP11]) (P := l.prog) (w := w) (base := base) (mg := mg) F4 F2 (G2.mono (by decide)) b2 g2
  have G5 := ok__law_way (T := [PP10, PP11]) (P := l.prog) (w := w) (base := base) (mg := mg) F5 F2 (G2.mono (by decide)) b2 g2 F4 (G4.mono (by decide)) b4 g4
  have G6 := ok__law_net (T := [PP10, PP11]) (P := l.prog) (w := w) (base := base) (mg := mg) F6 m_range m_tuple m_min m_len F2 (G2.mono (by decide)) b2 g2 F5 (G5.mono (by decide)) b5 g5 F4 (G4.mono (by decide)) b4 g4
  have G7 := ok__law_choice (T := [PP10, PP11]) (P := l.prog) (w := w) (base := base) (mg := mg) F7 m_tuple m_range m_len F2 (G2.mono (by decide)) b2 g2
  have G8 := ok__law_pairs (T := [PP10, PP11]) (P := l.prog) (w := w) (base := base) (mg := mg) F8 m_range m_tuple F2 (G2.mono (by decide)) b2 g2
  have G9 := ok__homes (T := [PP10, PP11]) (P := l.prog) (w := w) (base := base) (mg := mg) F9 m_list m_range m_min m_max
  have G10 := ok_joins (T := [PP10, PP11]) (P := l.prog) (w := w) (base := base) (mg := mg) F10 (GE.tabB_of (TB (cc10, PP10) (by simp))) (by simp) m_all F9 (G9.mono (by decide)) b9 g9
  have G11 := ok_without (T := [PP10, PP11]) (P := l.prog) (w := w) (base := base) (mg := mg) F11 (GE.tabB_of (TB (cc11, PP11) (by simp))) (by simp) m_tuple
  have G12 := ok_spare (T := [PP10, PP11]) (P := l.prog) (w := w) (base := base) (mg := mg) F12 F10.fun (G10.mono (by decide)) b10 g10 F11.fun (G11.mono (by decide)) b11 g11
  have G13 := ok__law_group (T := [PP10, PP11]) (P := l.prog) (w := w) (base := base) (mg := mg) F13 m_range m_tuple m_sorted
  have G14 := ok__law_joins (T := [PP10, PP11]) (P := l.prog) (w := w) (base := base) (mg := mg) F14 m_len F13 (G13.mono (by decide)) b13 g13
  have G15 := ok__law_spare (T := [PP10, PP11]) (P := l.prog) (w := w) (base := base) (mg := mg) F15 F14 (G14.mono (by decide)) b14 g14
  have G16 := (same_all (T := [PP10, PP11]) (P := l.prog) (w := w) (base := base) F16 m_isinstance m_tuple m_str m_int m_len m_bool m_range b16 g16 3)
  have G17 := ok_law (T := [PP10, PP11]) (P := l.prog) (w := w) (base := base) (mg := mg) F17 m_range m_isinstance m_bool F1 (G1.mono (by decide)) b1 g1 F6 (G6.mono (by decide)) b6 g6 F3 (G3.mono (by decide)) b3 g3 F8 (G8.mono (by decide)) b8 g8 F7 (G7.mono (by decide)) b7 g7 F10.fun (G10.mono (by decide)) b10 g10 F14 (G14.mono (by decide)) b14 g14 F16 (G16.mono (by decide)) b16 g16 F12 (G12.mono (by decide)) b12 g12 F15 (G15.mono (by decide)) b15 g15
  exact G17
end
end Mw

set_option Elab.async false
set_option linter.all false
set_option maxRecDepth 100000
set_option maxHeartbeats 4000000
open PySem PySem.W PyProof.Rows
set_option maxRecDepth 100000 in
set_option maxHeartbeats 0 in
theorem PySem.Challenge.cw_moatways_k01_pairs_that_are_joined_holds : PySem.Challenge.rw_moatways_k01_pairs_that_are_joined.Holds := by
  w_on; o_law; k_head; (case hw => w_witness2)
  k_fill
  refine GE.walk_tab (l := PySem.Challenge.rw_moatways_k01_pairs_that_are_joined) (n := 63) (k := 5) (x := "script") (CX := fun _ => L2.CX0) rfl (by decide) rfl ⟨rfl, by decide, by decide⟩ (fun w h Y => PySem.W.kIn_of Y) ?F (fun _ _ _ _ _ z => z)
  case F =>
    intro w mg fa h KX G hmg TT
    refine' Mw.all_mk KX G hmg TT ?a1 ?l1 ?c1 ?k1 ?a2 ?l2 ?c2 ?k2 ?a3 ?l3 ?c3 ?k3 ?a4 ?l4 ?c4 ?k4 ?a5 ?l5 ?c5 ?k5 ?a6 ?l6 ?c6 ?k6 ?a7 ?l7 ?c7 ?k7 ?a8 ?l8 ?c8 ?k8 ?a9 ?l9 ?c9 ?k9 ?a10 ?l10 ?c10 ?k10 ?a11 ?l11 ?c11 ?k11 ?a12 ?l12 ?c12 ?k12 ?a13 ?l13 ?c13 ?k13 ?a14 ?l14 ?c14 ?k14 ?a15 ?l15 ?c15 ?k15 ?a16 ?l16 ?c16 ?k16 ?a17 ?l17 ?c17 ?k17 ?z_list ?z_abs ?z_int ?z_len ?z_range ?z_tuple ?z_min ?z_max ?z_all ?z_sorted ?z_isinstance ?z_str ?z_bool ?nt ?r10 ?t10 ?r11 ?t11
    (case a1 => k_is)
    (case l1 => k_is)
    (case c1 => k_is)
    (case k1 => k_is)
    (case a2 => k_is)
    (case l2 => k_is)
    (case c2 => k_is)
    (case k2 => k_is)
    (case a3 => k_is)
    (case l3 => k_is)
    (case c3 => k_is)
    (case k3 => k_is)
    (case a4 => k_is)
    (case l4 => k_is)
    (case c4 => k_is)
    (case k4 => k_is)
    (case a5 => k_is)
    (case l5 => k_is)
    (case c5 => k_is)
    (case k5 => k_is)
    (case a6 => k_is)
    (case l6 => k_is)
    (case c6 => k_is)
    (case k6 => k_is)
    (case a7 => k_is)
    (case l7 => k_is)
    (case c7 => k_is)
    (case k7 => k_is)
    (case a8 => k_is)
    (case l8 => k_is)
    (case c8 => k_is)
    (case k8 => k_is)
    (case a9 => k_is)
    (case l9 => k_is)
    (case c9 => k_is)
    (case k9 => k_is)
    (case a10 => k_is)
    (case l10 => k_is)
    (case c10 => k_is)
    (case k10 => k_is)
    (case a11 => k_is)
    (case l11 => k_is)
    (case c11 => k_is)
    (case k11 => k_is)
    (case a12 => k_is)
    (case l12 => k_is)
    (case c12 => k_is)
    (case k12 => k_is)
    (case a13 => k_is)
    (case l13 => k_is)
    (case c13 => k_is)
    (case k13 => k_is)
    (case a14 => k_is)
    (case l14 => k_is)
    (case c14 => k_is)
    (case k14 => k_is)
    (case a15 => k_is)
    (case l15 => k_is)
    (case c15 => k_is)
    (case k15 => k_is)
    (case a16 => k_is)
    (case l16 => k_is)
    (case c16 => k_is)
    (case k16 => k_is)
    (case a17 => k_is)
    (case l17 => k_is)
    (case c17 => k_is)
    (case k17 => k_is)
    (case z_list => k_is)
    (case z_abs => k_is)
    (case z_int => k_is)
    (case z_len => k_is)
    (case z_range => k_is)
    (case z_tuple => k_is)
    (case z_min => k_is)
    (case z_max => k_is)
    (case z_all => k_is)
    (case z_sorted => k_is)
    (case z_isinstance => k_is)
    (case z_str => k_is)
    (case z_bool => k_is)
    (case nt => rfl)
    (case r10 => rfl)
    (case t10 => rfl)
    (case r11 => rfl)
    (case t11 => rfl)

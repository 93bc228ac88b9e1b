import PyProof.Rows.All
import HandS.GenList
import PyProof.Slots
import HandS.Property
import HandS.Iter
import HandS.List
import Open.Head
import HandS.Ends
import HandS.OwnEq
import HandS.DictComp
import KE.KEqNest
import HandS.ForMost
import KE.KSuper
import HandS.SetFor
import HandS.Strs
import HandS.SetKeys
import PyProof.Rows.SortShellAny
import HandS.Codes
import HandS.IsInst
import HandS.Star
import HandS.StrMore
import HandS.TupAny
import HandS.Zip
import HandS.ClsMeth
import HandS.Walk
import KE.GoesEnum
import HandS.Wide
import HandS.Small
import HandS.Conv
import HandS.Style
import HandS.WordsDict
import Wide.All
import OpenK.AllK
import Wide.FinOn
import KE.KStateDown
import PySem.Challenge.RW_mustread_k02_whole_rivals
section
set_option Elab.async false
set_option linter.all false
set_option maxRecDepth 100000
/-! A run leaves each generator that sleeps ahead of it as it was, if it goes through where none of them can be woken. -/
namespace GW
open PySem
open Sem (wp)

/-- asleep, and not to be woken; nothing to clean up -/
def dull : GenState → GenState
  | .suspended _ l c p fs _ => .suspended (fun _ => .unsupported "dull") l c p fs false
  | x => x
def sleeps : GenState → Bool
  | .suspended .. => true
  | _ => false
/-- the sleepers of G are put back -/
def mend (G a : Array GenState) : Array GenState := a.mapIdx fun i x => match G[i]? with
  | some g => if sleeps g then g else x
  | none => x
theorem mend_get (G a : Array GenState) (i : Nat) : (mend G a)[i]? = (a[i]?).map fun x => match G[i]? with
  | some g => if sleeps g then g else x
  | none => x := by
  unfold mend
  rw [Array.getElem?_mapIdx]
theorem mend_size (G a : Array GenState) : (mend G a).size = a.size := by simp [mend]
def Slp (G : Array GenState) (g : Nat) : Prop := ∃ x, G[g]? = some x ∧ sleeps x = true
theorem mend_other {G a : Array GenState} {g : Nat} (h : ¬ Slp G g) : (mend G a)[g]? = a[g]? := by
  rw [mend_get]
  cases e : a[g]? with
  | none => rfl
  | some x =>
    show some _ = some x
    congr 1
    cases q : G[g]? with
    | none => rfl
    | some y =>
      show (if sleeps y = true then y else x) = x
      rw [if_neg fun z => h ⟨y, q, z⟩]
theorem mend_at {G a : Array GenState} {g : Nat} {x : GenState} (h : G[g]? = some x) (hs : sleeps x = true) (hg : g < a.size) : (mend G a)[g]? = some x := by
  rw [mend_get, Array.getElem?_eq_getElem hg, h]
  show some (if sleeps x = true then x else _) = some x
  rw [if_pos hs]
theorem mend_set {G a : Array GenState} {g : Nat} {x : GenState} (h : ¬ Slp G g) : mend G (a.setIfInBounds g x) = (mend G a).setIfInBounds g x := by
  apply Array.ext_getElem?
  intro i
  by_cases hi : g = i
  · subst hi
    rw [mend_other h, Array.getElem?_setIfInBounds_self, Array.getElem?_setIfInBounds_self, mend_size]
  · rw [mend_get, Array.getElem?_setIfInBounds_ne hi, Array.getElem?_setIfInBounds_ne hi, mend_get]
theorem mend_push {G a : Array GenState} {x : GenState} (h : G.size ≤ a.size) : mend G (a.push x) = (mend G a).push x := by
  apply Array.ext_getElem?
  intro i
  rw [mend_get, Array.getElem?_push, Array.getElem?_push, mend_size]
  by_cases hi : i = a.size
  · rw [if_pos hi, if_pos hi]
    have : G[i]? = none := Array.getElem?_eq_none (by omega)
    rw [this]
    rfl
  · rw [if_neg hi, if_neg hi, mend_get]
def mendS (G : Array GenState) (s : Shared) : Shared := { s with gens := mend G s.gens }
/-- what stands in the table while none of G's sleepers can be woken: they are dull, all others hold no generator's frame -/
structure Dul (G : Array GenState) (s : Shared) : Prop where
  le : G.size ≤ s.gens.size
  dul : ∀ (i : Nat) (x : GenState), G[i]? = some x → sleeps x = true → s.gens[i]? = some (dull x)
  cln : ∀ (i : Nat) (k : Resume → Sem Fin) (l : List Value) (c : Code) (p : Pos) (fs : List Frame) (cl : Bool), ¬ Slp G i → s.gens[i]? = some (.suspended k l c p fs cl) → splitAtGen fs = none
theorem Dul.heap {G : Array GenState} {s : Shared} (d : Dul G s) {h : Heap} {dr : Drawn} {t : Nat} {o : OsState} : Dul G ⟨h, s.gens, dr, t, o⟩ := ⟨d.le, d.dul, d.cln⟩
theorem Dul.set {G : Array GenState} {s : Shared} (d : Dul G s) {g : Nat} {x : GenState} (hg : ¬ Slp G g) (hx : ∀ k l c p fs cl, x = .suspended k l c p fs cl → splitAtGen fs = none) : Dul G (s.setGen g x) := by
  refine ⟨?_, fun i y h1 h2 => ?_, fun i k l c p fs cl h1 h2 => ?_⟩
  · show G.size ≤ (s.gens.setIfInBounds g x).size
    rw [Array.size_setIfInBounds]; exact d.le
  · have hi : g ≠ i := fun e => hg (e ▸ ⟨y, h1, h2⟩)
    show (s.gens.setIfInBounds g x)[i]? = _
    rw [Array.getElem?_setIfInBounds_ne hi]
    exact d.dul i y h1 h2
  · have h2' : (s.gens.setIfInBounds g x)[i]? = some (.suspended k l c p fs cl) := h2
    by_cases hi : g = i
    · subst hi
      rw [Array.getElem?_setIfInBounds_self] at h2'
      split at h2'
      · exact hx k l c p fs cl (Option.some.inj h2')
      · cases h2'
    · rw [Array.getElem?_setIfInBounds_ne hi] at h2'
      exact d.cln i k l c p fs cl h1 h2'
theorem Dul.push {G : Array GenState} {s : Shared} (d : Dul G s) {c : Code} : Dul G { s with gens := s.gens.push (.fresh c) } := by
  refine ⟨?_, fun i y h1 h2 => ?_, fun i k l c' p fs cl h1 h2 => ?_⟩
  · show G.size ≤ (s.gens.push _).size
    rw [Array.size_push]; exact Nat.le_succ_of_le d.le
  · have hi : i < G.size := (Array.getElem?_eq_some_iff.mp h1).1
    show (s.gens.push _)[i]? = _
    rw [Array.getElem?_push, if_neg (by have := d.le; omega)]
    exact d.dul i y h1 h2
  · have h2' : (s.gens.push (.fresh c))[i]? = some (.suspended k l c' p fs cl) := h2
    rw [Array.getElem?_push] at h2'
    split at h2'
    · cases h2'
    · exact d.cln i k l c' p fs cl h1 h2'
theorem Dul.no {G : Array GenState} {s : Shared} (d : Dul G s) {g : Nat} {x : GenState} (e : s.gens[g]? = some x) (hx : sleeps x = false) : ¬ Slp G g := by
  rintro ⟨y, h1, h2⟩
  have := d.dul g y h1 h2
  rw [e] at this
  cases this
  cases y <;> simp_all [sleeps, dull]
theorem mendS_set {G : Array GenState} {s : Shared} {g : Nat} {x : GenState} (h : ¬ Slp G g) : mendS G (s.setGen g x) = (mendS G s).setGen g x := by
  show ({ s with gens := mend G (s.gens.setIfInBounds g x) } : Shared) = { s with gens := (mend G s.gens).setIfInBounds g x }
  rw [mend_set h]
theorem no_run {M : Model} {Γ : Ctx} {p : Pos} {x : String} {s : Shared} {e : End} {s' : Shared} : ∀ {fs : List Frame}, ¬ Runs M Γ p (.unsupported x) fs s e s' := by
  intro fs h
  cases fs with
  | nil => cases h
  | cons F fs =>
    cases h with
    | segRet h1 _ => cases h1
    | segGen h1 _ => cases h1
    | segSuspOut _ h1 => cases h1
    | segSuspGen _ h1 _ _ => cases h1
theorem split_app : ∀ {a b : List Frame}, splitAtGen a = none → splitAtGen b = none → splitAtGen (a ++ b) = none
  | [], b, _, h => h
  | .gen .. :: _, _, h, _ => by cases h
  | .ret k h g l c p kp :: a, b, h1, h2 => by
    have h1' : (splitAtGen a).map (fun (q : List Frame × (Nat × (GenResult → Sem Fin) × Code × Pos) × List Frame) => (Frame.ret k h g l c p kp :: q.1, q.2.1, q.2.2)) = none := h1
    have h3 : splitAtGen a = none := by
      cases q : splitAtGen a with
      | none => rfl
      | some z => rw [q] at h1'; cases h1'
    show (splitAtGen (a ++ b)).map _ = none
    rw [split_app h3 h2]; rfl
theorem split_tail {F : Frame} {fs : List Frame} (h : splitAtGen (F :: fs) = none) : splitAtGen fs = none := by
  cases F with
  | gen g k l c p => cases h
  | ret k h' g l c p kp =>
    cases q : splitAtGen fs with
    | none => rfl
    | some z =>
      have h1 : (splitAtGen fs).map (fun (q : List Frame × (Nat × (GenResult → Sem Fin) × Code × Pos) × List Frame) => (Frame.ret k h' g l c p kp :: q.1, q.2.1, q.2.2)) = none := h
      rw [q] at h1; cases h1
/-- a run that stops at an item holds no generator's frame -/
def EndCln : End → Prop
  | .susp _ _ _ _ _ _ fs => splitAtGen fs = none
  | _ => True
theorem endCln_gen {e : End} (h : EndCln e) : ∀ k l c p fs cl, e.genState = .suspended k l c p fs cl → splitAtGen fs = none := by
  intro k l c p fs cl q
  cases e with
  | ret r => cases q
  | susp v g l' k' c' p' fs' => cases q; exact h
theorem mend_seen {G : Array GenState} {s : Shared} (d : Dul G s) {g : Nat} {st : GenState} (h : s.gens[g]? = some st) : ∃ st', (mendS G s).gens[g]? = some st' ∧ st'.seen = st.seen := by
  have hlt : g < s.gens.size := (Array.getElem?_eq_some_iff.mp h).1
  by_cases hg : Slp G g
  · obtain ⟨x, h1, h2⟩ := hg
    refine ⟨x, mend_at h1 h2 hlt, ?_⟩
    have := d.dul g x h1 h2
    rw [h] at this
    cases this
    cases x <;> rfl
  · exact ⟨st, (mend_other hg).trans h, rfl⟩

theorem mendS_size {G : Array GenState} {s : Shared} : (mendS G s).gens.size = s.gens.size := mend_size _ _
theorem mendS_push {G : Array GenState} {s : Shared} {c : Code} (h : G.size ≤ s.gens.size) : mendS G { s with gens := s.gens.push (.fresh c) } = { mendS G s with gens := (mendS G s).gens.push (.fresh c) } := by
  show ({ s with gens := mend G (s.gens.push _) } : Shared) = { s with gens := (mend G s.gens).push _ }
  rw [mend_push h]
section
variable {M : Model} {G : Array GenState}
theorem mend_runs {Γ : Ctx} {p : Pos} {t : Sem Fin} {fs : List Frame} {s : Shared} {e : End} {s' : Shared} (h : Runs M Γ p t fs s e s') : splitAtGen fs = none → Dul G s →
    Runs M Γ p t fs (mendS G s) e (mendS G s') ∧ Dul G s' ∧ EndCln e := by
  induction h with
  | done => intro _ d; exact ⟨.done, d, trivial⟩
  | raise => intro _ d; exact ⟨.raise, d, trivial⟩
  | again hq _ ih => intro hf d; obtain ⟨r, d', k⟩ := ih hf d; exact ⟨.again hq r, d', k⟩
  | rule _ ih => intro hf d; obtain ⟨r, d', k⟩ := ih hf d; exact ⟨.rule r, d', k⟩
  | «at» _ ih => intro hf d; obtain ⟨r, d', k⟩ := ih hf d; exact ⟨.at r, d', k⟩
  | load ho _ ih => intro hf d; obtain ⟨r, d', k⟩ := ih hf d; exact ⟨.load ho r, d', k⟩
  | update ho _ ih => intro hf d; obtain ⟨r, d', k⟩ := ih hf d.heap; exact ⟨.update ho r, d', k⟩
  | loadIfAlive _ ih => intro hf d; obtain ⟨r, d', k⟩ := ih hf d; exact ⟨.loadIfAlive r, d', k⟩
  | point _ ih => intro hf d; obtain ⟨r, d', k⟩ := ih hf d; exact ⟨.point r, d', k⟩
  | alloc _ ih => intro hf d; obtain ⟨r, d', k⟩ := ih hf d.heap; exact ⟨.alloc r, d', k⟩
  | fresh _ ih => intro hf d; obtain ⟨r, d', k⟩ := ih hf d.heap; exact ⟨.fresh r, d', k⟩
  | ask _ ih => intro hf d; obtain ⟨r, d', k⟩ := ih hf d; exact ⟨.ask r, d', k⟩
  | choose hn _ ih => intro hf d; obtain ⟨r, d', k⟩ := ih hf d.heap; exact ⟨.choose hn r, d', k⟩
  | os _ ih => intro hf d; obtain ⟨r, d', k⟩ := ih hf d.heap; exact ⟨.os r, d', k⟩
  | handled _ ih => intro hf d; obtain ⟨r, d', k⟩ := ih hf d; exact ⟨.handled r, d', k⟩
  | genState hg _ ih =>
    intro hf d
    obtain ⟨r, d', k⟩ := ih hf d
    obtain ⟨st', h1, h2⟩ := mend_seen d hg
    exact ⟨.genState h1 (by rw [h2]; exact r), d', k⟩
  | stack _ ih => intro hf d; obtain ⟨r, d', k⟩ := ih hf d; exact ⟨.stack r, d', k⟩
  | thread _ ih => intro hf d; obtain ⟨r, d', k⟩ := ih hf d; exact ⟨.thread r, d', k⟩
  | newGen _ ih =>
    intro hf d
    obtain ⟨r, d', k⟩ := ih hf d.push
    rw [mendS_push d.le] at r
    exact ⟨.newGen (by rw [mendS_size]; exact r), d', k⟩
  | call _ _ ih1 ih2 =>
    intro hf d
    obtain ⟨r1, d1, _⟩ := ih1 rfl d
    obtain ⟨r2, d2, k⟩ := ih2 rfl d1
    exact ⟨.call r1 r2, d2, k⟩
  | callSusp _ ih =>
    intro hf d
    obtain ⟨r, d', k⟩ := ih rfl d
    exact ⟨.callSusp r, d', split_app k rfl⟩
  | «yield» => intro _ d; exact ⟨.yield, d, rfl⟩
  | resumeFresh hg _ hq _ ih1 ih2 =>
    intro hf d
    have n := d.no hg rfl
    obtain ⟨r1, d1, k1⟩ := ih1 rfl (d.set n fun _ _ _ _ _ _ q => nomatch q)
    obtain ⟨r2, d2, k2⟩ := ih2 rfl (d1.set n (endCln_gen k1))
    rw [mendS_set n] at r1 r2
    exact ⟨.resumeFresh ((mend_other n).trans hg) r1 hq r2, d2, k2⟩
  | @resumeSuspended Γ p g r0 l k0 s k₀ l₀ c₀ p₀ fs₀ cl e₁ s₁ e s' hg hr hq _ ih1 ih2 =>
    intro hf d
    have n : ¬ Slp G g := by
      rintro ⟨x, h1, h2⟩
      have q := d.dul g x h1 h2
      rw [hg] at q
      cases x with
      | suspended k l c p fs cl' =>
        cases q
        exact no_run hr
      | _ => cases h2
    obtain ⟨r1, d1, k1⟩ := ih1 (d.cln g k₀ l₀ c₀ p₀ fs₀ cl n hg) (d.set n fun _ _ _ _ _ _ q => nomatch q)
    obtain ⟨r2, d2, k2⟩ := ih2 rfl (d1.set n (endCln_gen k1))
    rw [mendS_set n] at r1 r2
    exact ⟨.resumeSuspended ((mend_other n).trans hg) r1 hq r2, d2, k2⟩
  | resumeJustStarted hg hv _ ih =>
    intro hf d
    obtain ⟨r, d', k⟩ := ih hf d
    exact ⟨.resumeJustStarted ((mend_other (d.no hg rfl)).trans hg) hv r, d', k⟩
  | resumeThrowFresh hg _ ih =>
    intro hf d
    have n := d.no hg rfl
    obtain ⟨r, d', k⟩ := ih hf (d.set n fun _ _ _ _ _ _ q => nomatch q)
    rw [mendS_set n] at r
    exact ⟨.resumeThrowFresh ((mend_other n).trans hg) r, d', k⟩
  | resumeRunning hg _ ih =>
    intro hf d
    obtain ⟨r, d', k⟩ := ih hf d
    exact ⟨.resumeRunning ((mend_other (d.no hg rfl)).trans hg) r, d', k⟩
  | resumeFinished hg _ ih =>
    intro hf d
    obtain ⟨r, d', k⟩ := ih hf d
    exact ⟨.resumeFinished ((mend_other (d.no hg rfl)).trans hg) r, d', k⟩
  | segRet _ _ ih1 ih2 =>
    intro hf d
    obtain ⟨r1, d1, _⟩ := ih1 rfl d
    obtain ⟨r2, d2, k⟩ := ih2 (split_tail hf) d1
    exact ⟨.segRet r1 r2, d2, k⟩
  | segGen _ _ _ _ => intro hf; cases hf
  | segSuspOut hF _ ih =>
    intro hf d
    obtain ⟨r, d', k⟩ := ih rfl d
    exact ⟨.segSuspOut hF r, d', split_app k hF⟩
  | segSuspGen hF _ _ _ _ _ => intro hf; rw [hf] at hF; cases hF
end

section
variable {M : Model} {G : Array GenState}
theorem mend_wp {α : Type} (Γ : Ctx) (t : Sem α) : ∀ (Q : α → Pos → Shared → Prop) (E : Value → Pos → Shared → Prop) (p : Pos) (s : Shared), Dul G s → wp M Γ t Q E p s →
    wp M Γ t (fun a p' s' => ∃ s1, s' = mendS G s1 ∧ Dul G s1 ∧ Q a p' s1) (fun a p' s' => ∃ s1, s' = mendS G s1 ∧ Dul G s1 ∧ E a p' s1) p (mendS G s) := by
  induction t with
  | pure a => intro Q E p s d h; exact ⟨s, rfl, d, h⟩
  | raise e => intro Q E p s d h; exact ⟨s, rfl, d, h⟩
  | unsupported _ => intro Q E p s _ h; exact h
  | finish _ => intro Q E p s _ h; exact h
  | register _ _ => intro Q E p s _ h; exact h
  | «yield» _ _ _ _ => intro Q E p s _ h; exact h
  | fork _ _ => intro Q E p s _ h; exact h
  | await _ _ _ _ _ => intro Q E p s _ h; exact h
  | rule _ k ih => intro Q E p s d h; exact ih () Q E p s d h
  | «at» p' k ih => intro Q E p s d h; exact ih () Q E p' s d h
  | load a _ k ih => intro Q E p s d h; obtain ⟨o, ho, h⟩ := h; exact ⟨o, ho, ih o Q E p s d h⟩
  | update a _ f k ih => intro Q E p s d h; exact ⟨h.1, ih () Q E p _ d.heap h.2⟩
  | loadIfAlive a k ih => intro Q E p s d h; exact ih _ Q E p s d h
  | point _ k ih => intro Q E p s d h; exact ih () Q E p s d h
  | alloc o k ih => intro Q E p s d h; exact ih _ Q E p _ d.heap h
  | fresh k ih => intro Q E p s d h; exact ih _ Q E p _ d.heap h
  | ask k ih => intro Q E p s d h; exact ih _ Q E p s d h
  | choose src m k ih => intro Q E p s d h; exact ⟨h.1, ih _ Q E p _ d.heap h.2⟩
  | os q _ k ih => intro Q E p s d h; exact ih _ Q E p _ d.heap h
  | call c hd _ _ k ih =>
    intro Q E p s d h
    obtain ⟨r, s', hr, h⟩ := h
    obtain ⟨r2, d2, _⟩ := mend_runs hr rfl d
    exact ⟨r, mendS G s', r2, ih r Q E p s' d2 h⟩
  | handled own k ih => intro Q E p s d h; exact ih _ Q E p s d h
  | genState g k ih =>
    intro Q E p s d h
    obtain ⟨st, hs, h⟩ := h
    obtain ⟨st', h1, h2⟩ := mend_seen d hs
    refine ⟨st', h1, ?_⟩
    rw [h2]
    exact ih _ Q E p s d h
  | newGen c k ih =>
    intro Q E p s d h
    have z := ih s.gens.size Q E p _ (d.push (c := c)) h
    rw [mendS_push d.le] at z
    show wp M Γ (k (mendS G s).gens.size) _ _ p _
    rw [mendS_size]
    exact z
  | resume g r _ k ih =>
    intro Q E p s d h
    obtain ⟨res, s', hw, h⟩ := h
    have key : Wakes M Γ p g r (mendS G s) res (mendS G s') ∧ Dul G s' := by
      unfold Wakes at hw
      cases e : s.gens[g]? with
      | none => rw [e] at hw; exact hw.elim
      | some st =>
        rw [e] at hw
        cases st with
        | fresh c =>
          have n := d.no e rfl
          have e' : (mendS G s).gens[g]? = some (.fresh c) := (mend_other n).trans e
          unfold Wakes
          rw [e']
          cases r with
          | throw x =>
            obtain ⟨h1, h2⟩ := hw
            rw [h2, mendS_set n]
            exact ⟨⟨h1, rfl⟩, d.set n fun _ _ _ _ _ _ q => nomatch q⟩
          | send v =>
            cases v with
            | none =>
              obtain ⟨e₁, s₁, hr, hq, h1, h2⟩ := hw
              obtain ⟨r1, d1, k1⟩ := mend_runs hr rfl (d.set n fun _ _ _ _ _ _ q => nomatch q)
              rw [mendS_set n] at r1
              rw [h2, mendS_set n]
              exact ⟨⟨e₁, mendS G s₁, r1, hq, h1, rfl⟩, d1.set n (endCln_gen k1)⟩
            | _ => obtain ⟨h1, h2⟩ := hw; rw [h2]; exact ⟨⟨h1, rfl⟩, d⟩
        | suspended k₀ l₀ c₀ p₀ fs₀ cl =>
          obtain ⟨e₁, s₁, hr, hq, h1, h2⟩ := hw
          have n : ¬ Slp G g := by
            rintro ⟨x, y1, y2⟩
            have q := d.dul g x y1 y2
            rw [e] at q
            cases x with
            | suspended k l c p fs cl' => cases q; exact no_run hr
            | _ => cases y2
          have e' : (mendS G s).gens[g]? = some (.suspended k₀ l₀ c₀ p₀ fs₀ cl) := (mend_other n).trans e
          obtain ⟨r1, d1, k1⟩ := mend_runs hr (d.cln g _ _ _ _ _ _ n e) (d.set n fun _ _ _ _ _ _ q => nomatch q)
          rw [mendS_set n] at r1
          unfold Wakes
          rw [e', h2, mendS_set n]
          exact ⟨⟨e₁, mendS G s₁, r1, hq, h1, rfl⟩, d1.set n (endCln_gen k1)⟩
        | running =>
          obtain ⟨h1, h2⟩ := hw
          have e' : (mendS G s).gens[g]? = some .running := (mend_other (d.no e rfl)).trans e
          unfold Wakes
          rw [e', h2]
          exact ⟨⟨h1, rfl⟩, d⟩
        | finished =>
          obtain ⟨h1, h2⟩ := hw
          have e' : (mendS G s).gens[g]? = some .finished := (mend_other (d.no e rfl)).trans e
          unfold Wakes
          rw [e', h2]
          exact ⟨⟨h1, rfl⟩, d⟩
    exact ⟨res, mendS G s', key.1, ih res Q E p s' key.2 h⟩
  | stack k ih => intro Q E p s d h; exact ih _ Q E p s d h
  | thread k ih => intro Q E p s d h; exact ih _ Q E p s d h

/-- the table with its sleepers dull -/
def dullS (s : Shared) : Shared := { s with gens := s.gens.map dull }
theorem dul_self (s : Shared) : Dul s.gens (dullS s) := by
  refine ⟨?_, fun i x h _ => ?_, fun i k l c p fs cl hn h => ?_⟩
  · show s.gens.size ≤ (s.gens.map dull).size
    rw [Array.size_map]; exact Nat.le_refl _
  · show (s.gens.map dull)[i]? = some (dull x)
    rw [Array.getElem?_map, h]; rfl
  · have h' : (s.gens.map dull)[i]? = some (.suspended k l c p fs cl) := h
    rw [Array.getElem?_map] at h'
    cases e : s.gens[i]? with
    | none => rw [e] at h'; cases h'
    | some x =>
      rw [e] at h'
      cases x with
      | suspended => exact absurd ⟨_, e, rfl⟩ hn
      | _ => cases h'
theorem mend_self (s : Shared) : mendS s.gens (dullS s) = s := by
  have e : mend s.gens (s.gens.map dull) = s.gens := by
    apply Array.ext_getElem?
    intro i
    rw [mend_get, Array.getElem?_map]
    cases e : s.gens[i]? with
    | none => rfl
    | some x =>
      show some (if sleeps x = true then x else dull x) = some x
      cases x <;> rfl
  show ({ s with gens := mend s.gens (s.gens.map dull) } : Shared) = s
  rw [e]
/-- a run that goes through where no sleeper can be woken: it leaves them -/
theorem wpAny_calm {α : Type} {A : Around} {t : Sem α} {Q : α → Shared → Prop} {E : Value → Shared → Prop} {s : Shared} (h : wpAny M A t Q E (dullS s)) :
    wpAny M A t (fun a s' => ∃ s1, s' = mendS s.gens s1 ∧ Dul s.gens s1 ∧ Q a s1) (fun a s' => ∃ s1, s' = mendS s.gens s1 ∧ Dul s.gens s1 ∧ E a s1) s := by
  intro Γ p hΓ
  have z := mend_wp (G := s.gens) Γ t _ _ p (dullS s) (dul_self s) (h Γ p hΓ)
  rw [mend_self] at z
  exact z
/-- each sleeper of a is in b as it was -/
def Keeps (a b : Array GenState) : Prop := ∀ (i : Nat) (x : GenState), a[i]? = some x → sleeps x = true → b[i]? = some x
theorem Keeps.refl (a : Array GenState) : Keeps a a := fun _ _ h _ => h
theorem Keeps.trans {a b c : Array GenState} (x : Keeps a b) (y : Keeps b c) : Keeps a c := fun i z h q => y i z (x i z h q) q
theorem Dul.keeps {s : Shared} (d : Dul G s) : Keeps G (mendS G s).gens := fun i x h q => mend_at h q (by have := (Array.getElem?_eq_some_iff.mp h).1; have := d.le; omega)
theorem allBare_dull {s : Shared} : PyProof.Rows.AllBare (dullS s).gens := by
  intro x hx
  have hx' : x ∈ s.gens.map dull := hx
  obtain ⟨y, hy, e⟩ := Array.mem_map.mp hx'
  rw [← e]
  cases y <;> rfl
end
end GW
end

section
set_option Elab.async false
set_option linter.all false
set_option maxRecDepth 100000
/-! Runs in which a generator sleeps within «yield from» another: the machine takes them as it takes all others while nothing listens. -/
namespace LY
open PySem

/-- nothing listens at this step -/
def Mild (s : Shared) (t : Thread) : Prop := t.calm = true ∨ ∃ v g l k fs b rest, t.cur = .yield v g l k ∧ splitAtGen t.stack = some (fs, b, rest) ∧ (s.heap.life.registered = [] → closingShows s fs t.code g = false)
theorem shows_same {s s1 : Shared} {fs fs1 : List Frame} {c : Code} {g : Bool} (hs : s.heap = s1.heap) (hf : forgetAll fs = forgetAll fs1) : closingShows s fs c g = closingShows s1 fs1 c g := by
  have e1 : fs.any Frame.guarded = fs1.any Frame.guarded := by rw [← any_guarded_forgetAll fs, hf, any_guarded_forgetAll]
  have e2 : ∀ v, delegateShows s v = delegateShows s1 v := fun v => by
    unfold delegateShows
    rw [hs]
  unfold closingShows
  rw [e1]
  congr 2
  cases c <;> try rfl
  rename_i id a
  split <;> first | rfl | (exact e2 _)
theorem Mild.same {s s1 : Shared} {t t1 : Thread} (hs : s.forget = s1.forget) (ht : t.forget = t1.forget) (h : Mild s t) : Mild s1 t1 := by
  have hh : s.heap = s1.heap := (congrArg Shared.heap hs : s.forget.heap = s1.forget.heap)
  rcases h with h | ⟨v, g, l, k, fs, b, rest, e1, e2, e3⟩
  · left
    rw [← Thread.calm_forget, ← ht, Thread.calm_forget]
    exact h
  · right
    have hc : t.cur = t1.cur := (congrArg Thread.cur ht : t.forget.cur = t1.forget.cur)
    have hd : t.code = t1.code := (congrArg Thread.code ht : t.forget.code = t1.forget.code)
    have hst : forgetAll t.stack = forgetAll t1.stack := (congrArg Thread.stack ht : t.forget.stack = t1.forget.stack)
    have z := splitAtGen_forgetAll t.stack
    rw [e2, hst, splitAtGen_forgetAll] at z
    cases q : splitAtGen t1.stack with
    | none => rw [q] at z; cases z
    | some x =>
      obtain ⟨fs1, b1, rest1⟩ := x
      rw [q] at z
      simp only [Option.map_some, Option.some.injEq, Prod.mk.injEq] at z
      exact ⟨v, g, l, k, fs1, b1, rest1, hc ▸ e1, rfl, fun z0 => by rw [← hd, ← shows_same hh z.1.symm]; exact e3 (by rw [hh]; exact z0)⟩

section
variable (den : Code → Sem PySem.Fin) (prog : Program) (w : World)
theorem life_yield {s : Shared} {v : Value} {g : Bool} {l : List Value} {k : Resume → Sem PySem.Fin} {code : Code} {pos : Pos} {stack fs : List Frame} {b : Nat × (GenResult → Sem PySem.Fin) × Code × Pos} {rest : List Frame} (others : List Value)
    (hr : s.asleep) (hsp : splitAtGen stack = some (fs, b, rest)) (hc : closingShows s fs code g = false) : lifeStep den prog w others s ⟨.yield v g l k, code, pos, stack⟩ = step den prog w s ⟨.yield v g l k, code, pos, stack⟩ := by
  have h2 : s.heap.life.counting = false := hr.2
  obtain ⟨fb1, fb2⟩ := b
  unfold lifeStep
  split
  · simp only [collectorTurn?, hsp, hc, Thread.atItsEnd, Bool.false_and, Bool.false_eq_true, if_false]
    simp [stepCounting, h2]
  · simp [stepCounting, h2]
theorem sstep_mild {s s' : Shared} {t t' : Thread} (hr : s.asleep) (h : Mild s t) (e : step den prog w s t = .go s' t') : sstep den prog w (.single s t) = .go (.single s' t') := by
  rcases h with h | ⟨v, g, l, k, fs, b, rest, e1, e2, e3⟩
  · rcases sstep_single den prog w s t h hr with q | q
    · rw [q, e]; rfl
    · rw [e] at q; cases q
  · obtain ⟨cur, code, pos, stack⟩ := t
    simp only at e1 e2 e3
    subst e1
    have hm : (Config.single s ⟨.yield v g l k, code, pos, stack⟩).moves w.params.profile = [.run 0] := by
      simp [Config.moves, Config.single, movesFrom, Thread.moves, Thread.atomic, Thread.rests, Thread.tells]
    have h1 : (Config.single s ⟨.yield v g l k, code, pos, stack⟩).collect? w.params = none := by
      simp [Config.collect?, Config.single, (nothing_to_collect _ _ _ s _ hr.1).1]
    have h2 : (Config.single s ⟨.yield v g l k, code, pos, stack⟩).collectable = [] := by
      simp [Config.collectable, Config.single, (nothing_to_collect w.params _ _ s _ hr.1).2]
    have hp : (Config.single s ⟨.yield v g l k, code, pos, stack⟩).pick w = .ok (.run 0, .single s ⟨.yield v g l k, code, pos, stack⟩) := by
      simp only [Config.pick, h1, h2, Config.pickThread, hm]
      cases w.params.lifetimes <;> simp
    have hl := fun others => life_yield den prog w (v := v) (l := l) (k := k) (pos := pos) others hr e2 (e3 hr.1)
    unfold sstep
    rw [hp]
    simp only [Config.move, Config.run, Config.single]
    simp [hl, others_single, e, Thread.finalizes]
end
end LY
end

section
set_option Elab.async false
set_option linter.all false
set_option maxRecDepth 100000
/-! What holds of a state if it holds of the next one: runs told by any such word. -/
namespace LY
open PySem
open Sem (wp)
abbrev FinS := Sem PySem.Fin

/-- one step at which nothing listens -/
def MStep (M : Model) (s : Shared) (t : Thread) (s' : Shared) (t' : Thread) : Prop := Mild s t ∧ stepK M.den M.prog M.w s t = .go s' t'
/-- a word that holds of a state if it holds of the next one -/
def Back (M : Model) (Z : Shared → Thread → Prop) : Prop := ∀ s t s' t', MStep M s t s' t' → Z s' t' → Z s t

section
variable {M : Model} {Z : Shared → Thread → Prop}
theorem mstep_of {s s' : Shared} {t t' : Thread} (h : M.step s t = .go s' t') : MStep M s t s' t' := by
  cases hl : t.loud with
  | true => rw [M.step_loud hl] at h; cases h
  | false =>
    rw [M.step_quiet hl] at h
    cases hr : t.refused with
    | true => obtain ⟨what, e⟩ := stepK_refused M.den M.prog M.w (s := s) hr; rw [e] at h; cases h
    | false => exact ⟨.inl (by rw [Thread.calm_eq, hl, hr]; rfl), h⟩
theorem Back.go (hZ : Back M Z) {s s' : Shared} {t t' : Thread} (h : M.step s t = .go s' t') (z : Z s' t') : Z s t := hZ s t s' t' (mstep_of h) z
theorem Back.comes (hZ : Back M Z) {s s' : Shared} {t t' : Thread} (h : Comes M s t s' t') (z : Z s' t') : Z s t := by
  obtain ⟨n, hn⟩ := h
  induction n generalizing s t with
  | zero =>
    have e : Run.running s t = .running s' t' := hn
    injection e with e1 e2
    subst e1 e2
    exact z
  | succ n ih =>
    rw [runN_succ] at hn
    cases hs : M.step s t with
    | go s1 t1 => rw [hs] at hn; exact hZ.go hs (ih hn)
    | halt o s1 => rw [hs] at hn; cases hn
theorem Back.reach (hZ : Back M Z) {base : List Frame} {s s' : Shared} {t : FinS} {c : Code} {p : Pos} {pre : List Frame} {e : End} (h : Reach M base s t c p pre s' e) (z : ∀ t' c' p' pre', Exits e t' c' p' pre' → Z s' ⟨t', c', p', pre' ++ base⟩) : Z s ⟨t, c, p, pre ++ base⟩ := by
  induction h with
  | exit hx => exact z _ _ _ _ hx
  | step hs _ ih => exact hZ.go hs (ih z)

/-- from here on t's answer comes to its continuation -/
def wpX {α : Type} (M : Model) (Γ : Ctx) (t : Sem α) (Q : α → Pos → Shared → Prop) (E : Value → Pos → Shared → Prop) (p : Pos) (s : Shared) : Prop :=
  ∀ (Z : Shared → Thread → Prop), Back M Z → ∀ (stk : List Frame), Γ.Fits stk → ∀ (K : α → FinS) (H : Value → FinS) (gd : Bool → Bool) (lv : List Value → List Value),
    (∀ a p' s', Q a p' s' → Z s' ⟨K a, Γ.code, p', stk⟩) → (∀ x p' s', E x p' s' → Z s' ⟨H x, Γ.code, p', stk⟩) → Z s ⟨t.wrap K H gd lv, Γ.code, p, stk⟩
/-- a code's answer comes to the frame that waits for it -/
def codeX (M : Model) (Γ : Ctx) (R : Result → Shared → Prop) (p : Pos) (s : Shared) : Prop :=
  ∀ (Z : Shared → Thread → Prop), Back M Z → ∀ (stk : List Frame), Γ.Fits stk → (∀ r c' p' s', R r s' → Z s' ⟨leafOf r, c', p', stk⟩) → Z s ⟨M.den Γ.code, Γ.code, p, stk⟩

theorem codeX_of {Γ : Ctx} {R : Result → Shared → Prop} {p : Pos} {s : Shared} (h : wpCode M Γ R p s) : codeX M Γ R p s := by
  intro Z hZ stk hf z
  obtain ⟨r, s', hr, hR⟩ := h
  refine hZ.reach (pre := []) (runs_reach hr stk hf) ?_
  rintro t' c' p' pre' ⟨rfl, rfl⟩
  exact z r c' p' s' hR

variable {α β : Type} {Γ : Ctx} {Q : α → Pos → Shared → Prop} {E : Value → Pos → Shared → Prop} {p : Pos} {s : Shared}
theorem wpX_of {t : Sem α} (h : wp M Γ t Q E p s) : wpX M Γ t Q E p s := by
  intro Z hZ stk hf K H gd lv zQ zE
  induction t generalizing p s with
  | pure a => exact zQ a p s h
  | raise x => exact zE x p s h
  | unsupported _ => exact h.elim
  | finish _ => exact h.elim
  | register _ _ => exact h.elim
  | «yield» _ _ _ _ => exact h.elim
  | fork _ _ => exact h.elim
  | await _ _ _ _ _ => exact h.elim
  | rule tag k ih => exact hZ.go (step_rule ..) (ih () h)
  | «at» p' k ih => exact hZ.go (step_at ..) (ih () h)
  | load a part k ih => obtain ⟨o, ho, h⟩ := h; exact hZ.go (step_load _ _ _ _ _ _ _ ho) (ih o h)
  | update a part f k ih => obtain ⟨ha, h⟩ := h; exact hZ.go (step_update _ _ _ _ _ _ _ _ ha) (ih () h)
  | alloc o k ih => exact hZ.go (step_alloc ..) (ih _ h)
  | loadIfAlive a k ih => exact hZ.go (step_loadIfAlive ..) (ih _ h)
  | point l k ih => exact hZ.go (step_point ..) (ih _ h)
  | fresh k ih => exact hZ.go (step_fresh ..) (ih _ h)
  | ask k ih => exact hZ.go (step_ask ..) (ih _ h)
  | choose src n k ih => obtain ⟨hn, h⟩ := h; exact hZ.go (step_choose _ _ _ _ _ _ _ hn) (ih _ h)
  | os q l k ih => exact hZ.go (step_os ..) (ih _ h)
  | call c hd g l k ih =>
    obtain ⟨r, s', hr, h⟩ := h
    refine hZ.go (step_call ..) ?_
    refine hZ.reach (pre := []) (runs_reach hr _ (hf.enter c _ hd _ _ p [])) ?_
    rintro t' c' p' pre' ⟨rfl, rfl⟩
    exact hZ.go (step_leaf_ret ..) (ih r h)
  | handled own k ih =>
    refine hZ.go (step_handled ..) ?_
    cases own
    · rw [← show Γ.handled = topHandled (if false = true then ownFrames stk else stk) from hf.handled]; exact ih _ h
    · rw [← show Γ.own = topHandled (if true = true then ownFrames stk else stk) from hf.own]; exact ih _ h
  | newGen c k ih => exact hZ.go (step_newGen ..) (ih _ h)
  | genState g k ih => obtain ⟨st, hg, h⟩ := h; exact hZ.go (step_genState _ _ _ _ _ _ hg) (ih _ h)
  | resume g r l k ih =>
    obtain ⟨res, s1, hw, h⟩ := h
    exact hZ.comes (wakes_comes hf (lv l) (fun x => (k x).wrap K H gd lv) hw) (ih res h)
  | stack k ih => exact hZ.go (step_stack ..) (by rw [← hf.below]; exact ih _ h)
  | thread k ih => exact hZ.go (step_thread ..) (ih _ h)
theorem wpX_mono {t : Sem α} {Q' : α → Pos → Shared → Prop} {E' : Value → Pos → Shared → Prop} (h : wpX M Γ t Q E p s) (hQ : ∀ a p s, Q a p s → Q' a p s) (hE : ∀ x p s, E x p s → E' x p s) : wpX M Γ t Q' E' p s :=
  fun Z hZ stk hf K H gd lv zQ zE => h Z hZ stk hf K H gd lv (fun a p s q => zQ a p s (hQ a p s q)) fun x p s q => zE x p s (hE x p s q)
theorem wpX_pure {a : α} (h : Q a p s) : wpX M Γ (.pure a) Q E p s := fun _ _ _ _ _ _ _ _ zQ _ => zQ a p s h
theorem wpX_raise {x : Value} (h : E x p s) : wpX M Γ (.raise x : Sem α) Q E p s := fun _ _ _ _ _ _ _ _ _ zE => zE x p s h
theorem wpX_wrap {t : Sem α} {K : α → Sem β} {H : Value → Sem β} {gd : Bool → Bool} {lv : List Value → List Value} {Q : β → Pos → Shared → Prop} (h : wpX M Γ t (fun a p s => wpX M Γ (K a) Q E p s) (fun x p s => wpX M Γ (H x) Q E p s) p s) : wpX M Γ (t.wrap K H gd lv) Q E p s := by
  intro Z hZ stk hf K' H' gd' lv' zQ zE
  rw [Sem.wrap_wrap]
  exact h Z hZ stk hf _ _ _ _ (fun a p s q => q Z hZ stk hf _ _ _ _ zQ zE) fun x p s q => q Z hZ stk hf _ _ _ _ zQ zE
theorem wpX_bind {t : Sem α} {f : α → Sem β} {Q : β → Pos → Shared → Prop} (h : wpX M Γ t (fun a p s => wpX M Γ (f a) Q E p s) E p s) : wpX M Γ (t >>= f) Q E p s := by
  rw [Sem.bind_eq_wrap']
  exact wpX_wrap (wpX_mono h (fun _ _ _ q => q) fun _ _ _ q => wpX_raise q)
theorem wpX_try {t : Sem α} {f : Value → Sem α} (h : wpX M Γ t Q (fun x p s => wpX M Γ (f x) Q E p s) p s) : wpX M Γ (t.tryCatch f) Q E p s := by
  rw [Sem.tryCatch_eq_wrap]
  exact wpX_wrap (wpX_mono h (fun _ _ _ q => wpX_pure q) fun _ _ _ q => q)
theorem wpX_onRaise {t : Sem α} {f : Value → Sem Unit} (h : wpX M Γ t Q (fun x p s => wpX M Γ (f x) (fun _ p s => E x p s) E p s) p s) : wpX M Γ (t.onRaise f) Q E p s := by
  rw [Sem.onRaise_eq_wrap]
  refine wpX_wrap (wpX_mono h (fun _ _ _ q => wpX_pure q) fun _ _ _ q => ?_)
  rw [show ∀ x, ((f x).bind fun _ => (Sem.raise x : Sem α)) = (f x >>= fun _ => Sem.raise x) from fun _ => rfl]
  exact wpX_bind (wpX_mono q (fun _ _ _ z => wpX_raise z) fun _ _ _ z => z)
theorem wpX_keep {t : Sem α} {vs : List Value} (h : wpX M Γ t Q E p s) : wpX M Γ (t.keep vs) Q E p s := by
  rw [Sem.keep_eq_wrap]
  exact wpX_wrap (wpX_mono h (fun _ _ _ q => wpX_pure q) fun _ _ _ q => wpX_raise q)
theorem wpX_holding {t : Sem α} {vs : List Value} (h : wpX M Γ t Q E p s) : wpX M Γ (holding vs t) Q E p s := by
  rw [holding_eq_keep]
  exact wpX_keep h
theorem wpX_call {c : Code} {hd : Option Value} {g : Bool} {l : List Value} {k : Result → Sem α} (h : codeX M (Γ.enter c hd p) (fun r s' => wpX M Γ (k r) Q E p s') p s) : wpX M Γ (.call c hd g l k) Q E p s := by
  intro Z hZ stk hf K H gd lv zQ zE
  refine hZ.go (step_call ..) (h Z hZ _ (hf.enter c _ hd _ _ p []) fun r c' p' s' q => hZ.go (step_leaf_ret ..) (q Z hZ stk hf _ _ _ _ zQ zE))
theorem wrap_id (t : FinS) : t.wrap .pure .raise id id = t := by
  induction t <;> simp only [Sem.wrap, id, *]
/-- a code by its tree -/
theorem codeX_tree {R : Result → Shared → Prop} (h : wpX M Γ (M.den Γ.code) (fun f _ s' => ∃ v, f = .done v ∧ R (.ok v) s') (fun x _ s' => R (.error x) s') p s) : codeX M Γ R p s := by
  intro Z hZ stk hf z
  have q := h Z hZ stk hf .pure .raise id id (fun a p' s' ⟨v, e, r⟩ => by subst e; exact z (.ok v) _ p' s' r) (fun x p' s' r => z (.error x) _ p' s' r)
  rw [wrap_id] at q
  exact q
end

section
variable {M : Model} {α β : Type} {A : Around} {Q : α → Shared → Prop} {E : Value → Shared → Prop} {s : Shared}
def wpZ {α : Type} (M : Model) (A : Around) (t : Sem α) (Q : α → Shared → Prop) (E : Value → Shared → Prop) (s : Shared) : Prop :=
  ∀ Γ p, Γ.In A → wpX M Γ t (fun a _ s' => Q a s') (fun e _ s' => E e s') p s
def codeZ (M : Model) (A : Around) (c : Code) (R : Result → Shared → Prop) (s : Shared) : Prop :=
  ∀ Γ p, Γ.code = c → Γ.Below A → codeX M Γ R p s
theorem wpZ_of {t : Sem α} (h : wpAny M A t Q E s) : wpZ M A t Q E s := fun Γ p hΓ => wpX_of (h Γ p hΓ)
theorem codeZ_of {c : Code} {R : Result → Shared → Prop} (h : codeAny M A c R s) : codeZ M A c R s := fun Γ p e hΓ => codeX_of (h Γ p e hΓ)
theorem wpZ_mono {t : Sem α} {Q' : α → Shared → Prop} {E' : Value → Shared → Prop} (h : wpZ M A t Q E s) (hQ : ∀ a s, Q a s → Q' a s) (hE : ∀ x s, E x s → E' x s) : wpZ M A t Q' E' s :=
  fun Γ p hΓ => wpX_mono (h Γ p hΓ) (fun a _ s q => hQ a s q) fun x _ s q => hE x s q
theorem wpZ_pure {a : α} (h : Q a s) : wpZ M A (pure a : Sem α) Q E s := fun _ _ _ => wpX_pure h
theorem wpZ_raise {x : Value} (h : E x s) : wpZ M A (.raise x : Sem α) Q E s := fun _ _ _ => wpX_raise h
theorem wpZ_bind {t : Sem α} {f : α → Sem β} {Q : β → Shared → Prop} (h : wpZ M A t (fun a s => wpZ M A (f a) Q E s) E s) : wpZ M A (t >>= f) Q E s :=
  fun Γ p hΓ => wpX_bind (wpX_mono (h Γ p hΓ) (fun a p s q => q Γ p hΓ) fun _ _ _ q => q)
theorem wpZ_try {t : Sem α} {f : Value → Sem α} (h : wpZ M A t Q (fun x s => wpZ M A (f x) Q E s) s) : wpZ M A (t.tryCatch f) Q E s :=
  fun Γ p hΓ => wpX_try (wpX_mono (h Γ p hΓ) (fun _ _ _ q => q) fun x p s q => q Γ p hΓ)
theorem wpZ_onRaise {t : Sem α} {f : Value → Sem Unit} (h : wpZ M A t Q (fun x s => wpZ M A (f x) (fun _ s => E x s) E s) s) : wpZ M A (t.onRaise f) Q E s :=
  fun Γ p hΓ => wpX_onRaise (wpX_mono (h Γ p hΓ) (fun _ _ _ q => q) fun x p s q => q Γ p hΓ)
theorem wpZ_holding {t : Sem α} {vs : List Value} (h : wpZ M A t Q E s) : wpZ M A (holding vs t) Q E s := fun Γ p hΓ => wpX_holding (h Γ p hΓ)
/-- the front of a bind, taken from what the library proves -/
theorem wpZ_lead {t : Sem α} {f : α → Sem β} {Q : β → Shared → Prop} (h : wpAny M A t (fun a s => wpZ M A (f a) Q E s) E s) : wpZ M A (t >>= f) Q E s := wpZ_bind (wpZ_of h)
end
end LY
end

section
set_option Elab.async false
set_option linter.all false
set_option maxRecDepth 100000
/-! Codes, calls, and how such a run ends in the scheduler. -/
namespace LY
open PySem
open Sem (wp)

section
variable {M : Model} {α β : Type} {A : Around} {Q : α → Shared → Prop} {E : Value → Shared → Prop} {R : Result → Shared → Prop} {s : Shared}
def codeGo (M : Model) (A : Around) (R : Result → Shared → Prop) (f : PySem.Fin) (s : Shared) : Prop := match f with
  | .done v => R (.ok v) s
  | .again c => c.quiet = true ∧ codeZ M A c R s
theorem codeZ_tree {c : Code} (h : wpZ M (A.under c) (M.den c) (codeGo M A R) (fun x s' => R (.error x) s') s) : codeZ M A c R s := by
  intro Γ p hc hΓ Z hZ stk hf z
  subst hc
  have q := h Γ p hΓ.in Z hZ stk hf .pure .raise id id (fun a p' s' r => ?_) (fun x p' s' r => z (.error x) _ p' s' r)
  · rw [wrap_id] at q
    exact q
  · cases a with
    | done v => exact z (.ok v) _ p' s' r
    | again c => exact hZ.go (step_again _ _ _ _ _ _ r.1) (r.2 (Γ.goto c) p' rfl (hΓ.goto c) Z hZ stk (hf.goto c) fun r c' p' s' q => z r c' p' s' q)
theorem wpZ_call {c : Code} {hd : Option Value} {g : Bool} {l : List Value} {k : Result → Sem α} (hnb : hd ≠ some byPass) (h : codeZ M (A.mark hd) c (fun r s' => wpZ M A (k r) Q E s') s) : wpZ M A (.call c hd g l k) Q E s := by
  intro Γ p hΓ
  refine wpX_call ?_
  intro Z hZ stk hf z
  exact h _ p rfl (hΓ.enter c hd p hnb) Z hZ stk hf fun r c' p' s' q => z r c' p' s' (q Γ p hΓ)
theorem codeZ_mono {c : Code} {R' : Result → Shared → Prop} (h : codeZ M A c R s) (hR : ∀ r s, R r s → R' r s) : codeZ M A c R' s :=
  fun Γ p hc hΓ Z hZ stk hf z => h Γ p hc hΓ Z hZ stk hf fun r c' p' s' q => z r c' p' s' (hR r s' q)
end

/-- each sleeper that has something to clean up has nothing that would listen -/
def Still (s : Shared) : Prop := ∀ (g : Nat) (k : Resume → FinS) (l : List Value) (c : Code) (p : Pos) (fs : List Frame), s.gens[g]? = some (.suspended k l c p fs true) → closingShows s fs c true = false
theorem Still.same {s s1 : Shared} (h : Still s) (e : s.forget = s1.forget) : Still s1 := by
  intro g k l c p fs hg
  have e1 : s.gens.map GenState.forget = s1.gens.map GenState.forget := (Shared.forget_eq e).2.2.2.2
  have e2 : (s.gens.map GenState.forget)[g]? = some (.suspended k l c p (forgetAll fs) true) := by rw [e1, Array.getElem?_map, hg]; rfl
  rw [Array.getElem?_map] at e2
  cases q : s.gens[g]? with
  | none => rw [q] at e2; cases e2
  | some x =>
    rw [q] at e2
    cases x with
    | suspended k2 l2 c2 p2 fs2 cl2 =>
      simp only [Option.map_some, GenState.forget_suspended, Option.some.injEq, GenState.suspended.injEq] at e2
      obtain ⟨rfl, rfl, rfl, rfl, e3, rfl⟩ := e2
      have := h g _ _ _ _ _ q
      rw [← shows_same (Shared.forget_eq e).1 e3]
      exact this
    | _ => cases e2
theorem Still.none {s : Shared} (h : Still s) (b : Bool) : leftWithCleanup (forgetSuspended b s).gens = false := by
  unfold leftWithCleanup
  rw [Array.any_eq_false']
  intro x hx
  have hx' : x ∈ s.gens.map _ := hx
  obtain ⟨y, hy, e⟩ := Array.mem_map.mp hx'
  obtain ⟨i, hi, q⟩ := Array.mem_iff_getElem.mp hy
  have hy' : s.gens[i]? = some y := by rw [Array.getElem?_eq_getElem hi, q]
  subst e
  cases y with
  | suspended k l c p fs cl =>
    cases cl with
    | false => simp
    | true =>
      have := h i k l c p fs hy'
      simp [this]
  | _ => simp

/-- from here on the machine halts so -/
def HZ (M : Model) (L : Life) (F : Outcome → Shared → Prop) (s : Shared) (t : Thread) : Prop :=
  s.heap.life = L → ∀ σ τ, σ.forget = s.forget → τ.forget = t.forget → ∃ n o σ', schedN M.den M.prog M.w n (.single σ τ) = .halted o σ' ∧ F o σ'
section
variable {M : Model} {L : Life} {F : Outcome → Shared → Prop}
theorem HZ.back (h1 : L.registered = []) (h2 : L.counting = false) : Back M (HZ M L F) := by
  intro s t s' t' ⟨hm, hs⟩ hz hl σ τ hσ hτ
  have e1 : (step M.den M.prog M.w σ τ).forget = (Step.go s' t').forget := by
    rw [step_same M.den M.prog M.w hσ hτ, ← stepK_forget, hs]
  cases e2 : step M.den M.prog M.w σ τ with
  | halt o x => rw [e2] at e1; cases e1
  | go σ1 τ1 =>
    rw [e2] at e1
    injection e1 with e3 e4
    have hσh : σ.heap = s.heap := (Shared.forget_eq hσ).1
    have hl' : s'.heap.life = L := by
      rw [← (Shared.forget_eq e3).1, step_life M.den M.prog M.w σ σ1 τ τ1 e2, hσh]; exact hl
    have ha : σ.asleep := by
      unfold Shared.asleep
      rw [hσh, hl]
      exact ⟨h1, h2⟩
    obtain ⟨n, o, σ', q, f⟩ := hz hl' σ1 τ1 e3 e4
    refine ⟨n + 1, o, σ', ?_, f⟩
    simp only [schedN, sstep_mild M.den M.prog M.w ha (hm.same hσ.symm hτ.symm) e2]
    exact q
theorem HZ.leaf (h1 : L.registered = []) (h2 : L.counting = false) {r : Result} {s : Shared} {c : Code} {p : Pos} (hst : Still s) (hF : ∀ σ b, σ.forget = s.forget → σ.heap.life = L → F (outcomeOf r) (forgetSuspended b σ)) : HZ M L F s ⟨leafOf r, c, p, []⟩ := by
  intro hl σ τ hσ hτ
  obtain ⟨cur, code, pos, stack⟩ := τ
  simp only [Thread.forget, Thread.mk.injEq, forgetAll_nil] at hτ
  obtain ⟨rfl, rfl, rfl, e4⟩ := hτ
  obtain rfl : stack = [] := by cases stack with
    | nil => rfl
    | cons f fs => cases e4
  have ha : σ.asleep := by
    unfold Shared.asleep
    rw [(Shared.forget_eq hσ).1, hl]
    exact ⟨h1, h2⟩
  have hst' : Still σ := hst.same hσ.symm
  have hc : Thread.calm ⟨leafOf r, code, pos, []⟩ = true := by cases r <;> rfl
  have hls : ∀ others, lifeStep M.den M.prog M.w others σ ⟨leafOf r, code, pos, []⟩ = .halt (outcomeOf r) (forgetSuspended (M.w.params.lifetimes == .anyTime) σ) := by
    intro others
    rw [lifeStep_calm0 _ _ _ others σ _ hc ha]
    have he : Thread.atItsEnd ⟨leafOf r, code, pos, []⟩ = true := by cases r <;> rfl
    rw [if_pos he]
    have hn := hst'.none (M.w.params.lifetimes == .anyTime)
    generalize forgetSuspended (M.w.params.lifetimes == .anyTime) σ = σ1 at hn ⊢
    obtain ⟨heap, gens, drawn, toks, os⟩ := σ1
    simp only at hn
    cases r <;> simp [leafOf, step, finish, hn, outcomeOf]
  refine ⟨1, outcomeOf r, forgetSuspended (M.w.params.lifetimes == .anyTime) σ, ?_, hF σ _ hσ ((congrArg Heap.life (Shared.forget_eq hσ).1).trans hl)⟩
  have : sstep M.den M.prog M.w (.single σ ⟨leafOf r, code, pos, []⟩) = .halt (outcomeOf r) (forgetSuspended (M.w.params.lifetimes == .anyTime) σ) := by
    simp only [sstep, pick_single M.w σ _ hc ha.1, Config.move]
    have hls := hls
    cases r <;> simp only [Config.run, Config.single, leafOf] at hls ⊢ <;> simp [others_single, hls, frozenBadly, ThreadState.insideWrite]
  simp only [schedN, this]
/-- a tree of the stub's, run to the machine's end -/
theorem wpZ_halts {A : Around} {c : Code} {t : FinS} {s : Shared} {R : Result → Shared → Prop} (hA : (Ctx.of c []).In A) (ha : s.asleep)
    (h : wpZ M A t (fun f s' => ∃ v, f = .done v ∧ R (.ok v) s' ∧ Still s') (fun x s' => R (.error x) s' ∧ Still s') s) :
    ∃ n r s' b σ, σ.forget = s'.forget ∧ R r s' ∧ schedN M.den M.prog M.w n (.single s ⟨t, c, default, []⟩) = .halted (outcomeOf r) (forgetSuspended b σ) ∧ σ.heap.life = s.heap.life := by
  have z := h (Ctx.of c []) default hA (HZ M s.heap.life fun o σ' => ∃ r s' b σ, σ.forget = s'.forget ∧ R r s' ∧ o = outcomeOf r ∧ σ' = forgetSuspended b σ ∧ σ.heap.life = s.heap.life) (HZ.back ha.1 ha.2) [] (Ctx.fits_of c []) .pure .raise id id
    (fun a p' s' ⟨v, e, r, st⟩ => by subst e; exact HZ.leaf (r := .ok v) ha.1 ha.2 st fun σ b q l => ⟨.ok v, s', b, σ, q, r, rfl, rfl, l⟩)
    fun x p' s' ⟨r, st⟩ => HZ.leaf (r := .error x) ha.1 ha.2 st fun σ b q l => ⟨.error x, s', b, σ, q, r, rfl, rfl, l⟩
  rw [wrap_id] at z
  obtain ⟨n, o, σ', hs, r, s', b, σ, e1, e2, rfl, rfl, l⟩ := z rfl s ⟨t, c, default, []⟩ rfl rfl
  exact ⟨n, r, s', b, σ, e1, e2, hs, l⟩
end
end LY
end

section
set_option Elab.async false
set_option linter.all false
set_option maxRecDepth 100000
/-! Calls of built-ins over such runs. -/
namespace LY
open PySem
section
variable {M : Model} {α β : Type} {A : Around} {Q : α → Shared → Prop} {E : Value → Shared → Prop} {R : Result → Shared → Prop} {s : Shared}
theorem wpZ_attempt {m : Sem α} {Q : Except Value α → Shared → Prop} (h : wpZ M A m (fun a => Q (.ok a)) (fun e => Q (.error e)) s) : wpZ M A m.attempt Q E s :=
  wpZ_try (wpZ_bind (t := m) (f := fun a => (.pure (.ok a) : Sem (Except Value α))) (wpZ_mono h (fun _ _ q => wpZ_pure q) fun _ _ q => wpZ_pure q))
theorem wpZ_run {c : Code} {h : Option Value} {Q : Flow → Shared → Prop} (hnb : h ≠ some byPass) (hc : codeZ M (A.mark h) c (fun r s' => match r with | .ok f => Q f s' | .error e => E e s') s) : wpZ M A (run c h) Q E s := by
  unfold run
  refine wpZ_call hnb (codeZ_mono hc fun r s' q => ?_)
  cases r with
  | ok f => exact wpZ_pure q
  | error e => exact wpZ_raise q
theorem wpZ_runValue {c : Code} {Q : Value → Shared → Prop} (hc : codeZ M A c (fun r s' => match r with | .ok (.ret v) => Q v s' | .ok _ => False | .error e => E e s') s) : wpZ M A (runValue c) Q E s := by
  unfold runValue
  refine wpZ_bind (wpZ_run (by intro x; cases x) (codeZ_mono (A := A.mark none) hc fun r s' q => ?_))
  cases r with
  | ok f => cases f with
    | ret v => exact wpZ_pure q
    | _ => exact q.elim
  | error e => exact q
theorem wpZ_callV {f : Value} {pos : List Value} {kw : List (Str × Value)} {Q : Value → Shared → Prop} (hc : codeZ M A (.call f ⟨pos, kw⟩) (fun r s' => match r with | .ok (.ret v) => Q v s' | .ok _ => False | .error e => E e s') s) : wpZ M A (PySem.call f pos kw) Q E s := wpZ_runValue hc
end
section
variable {prog : Program} {w : World} {A : Around} {E : Value → Shared → Prop} {R : Result → Shared → Prop} {s : Shared}
theorem codeZ_builtin {id : String} {args : Args} {b : Builtin} (hq : plainId id = true) (hb : entryFor table id = some b) (h : wpZ (model prog w) A.in1 (b args) (codeGo (model prog w) A R) (fun e s' => R (.error e) s') s) : codeZ (model prog w) A (.builtin id args) R s := by
  refine codeZ_tree ?_
  rw [Around.under_plainId hq args]
  show wpZ _ _ (match entryFor table id with | some b => b args | none => unsupported ((withoutEnding? id "#data").getD id)) _ _ s
  rw [hb]; exact h
theorem codeZ_call_builtin {id : String} {args : Args} {b : Builtin} (hq : plainId id = true) (hb : entryFor table id = some b)
    (h : wpAny (model prog w) A.in1 (checkBuiltinCall id args) (fun _ s₁ => wpZ (model prog w) A.in1 (b args) (codeGo (model prog w) A R) (fun e s' => R (.error e) s') s₁) (fun e s' => R (.error e) s') s) : codeZ (model prog w) A (.call (.builtin id) args) R s := by
  refine codeZ_tree ?_
  show wpZ _ A.in1 (checkBuiltinCall id args >>= fun _ => again (.builtin id args)) _ _ s
  exact wpZ_lead (wpAny_mono h (fun _ s1 q => wpZ_pure ⟨plainId_quiet hq args, codeZ_builtin hq hb q⟩) fun _ _ q => q)
theorem wpZ_call_entry {T : String} {name : Str} {id : String} {b : Builtin} {self : Value} {rest : List Value} {Q : Value → Shared → Prop} (h : Slot T name id) (hT : s.TypeIs self T) (hb : entryFor table id = some b)
    (hc : wpZ (model prog w) A.in1 (b ⟨self :: rest, []⟩) (fun fin s' => ∃ v, fin = .done (.ret v) ∧ Q v s') E s) (ha : argsOk id ⟨self :: rest, []⟩ := by rfl) : wpZ (model prog w) A (PySem.call (.builtin id) (self :: rest)) Q E s := by
  refine wpZ_callV (codeZ_call_builtin h.plain hb (h.check _ _ _ _ _ _ _ _ hT ha (wpZ_mono hc (fun fin s' h' => ?_) fun _ _ h' => h')))
  obtain ⟨v, rfl, hv⟩ := h'
  exact hv
theorem wpZ_special_slot {self : Value} {T : String} {name : Str} {id : String} {args : List Value} {kw : List (Str × Value)} {Q : Option Value → Shared → Prop} (hT : s.TypeIs self T) (h : Slot T name id)
    (hc : wpZ (model prog w) A (PySem.call (.builtin id) (self :: args) kw) (fun v => Q (some v)) E s) : wpZ (model prog w) A (callSpecial? self name args kw) Q E s := by
  simp only [callSpecial?]
  refine wpZ_lead (wpAny_specialOf hT h.lookup ?_)
  simp only [h.bind]
  exact wpZ_holding (wpZ_lead (wpAny_pure (wpZ_bind (wpZ_mono hc (fun v s' h' => wpZ_pure h') fun _ _ h' => h'))))
end
end LY
end

section
set_option Elab.async false
set_option linter.all false
set_option maxRecDepth 100000
/-! The layer's invariant where generators sleep that have something to clean up. -/
namespace GW
open PySem PySem.Spec PyProof.Rows L2 LY

/-- a generator's object -/
def GenAt (h : Heap) (a : Addr) : Prop := ∃ o n, h.get? a = some o ∧ o.genNumber? = some n
theorem gen_shows {s : Shared} {a : Addr} (g : GenAt s.heap a) (hr : s.heap.life.registered = []) : delegateShows s (.ref a) = false := by
  obtain ⟨o, n, e, q⟩ := g
  simp only [delegateShows, e, q, hr]
  rfl
theorem yf_shows {s : Shared} {a : Addr} {r : List Value} {kw : List (Str × Value)} {fs : List Frame} {b : Bool} (g : GenAt s.heap a) (hf : fs.any Frame.guarded = false) (hr : s.heap.life.registered = []) : closingShows s fs (.builtin "proto.yield_from" ⟨.ref a :: r, kw⟩) b = false := by
  simp only [closingShows, hf, gen_shows g hr]
  simp
/-- no sleeper of s has something to clean up, but those that had it already, and those at xs -/
def Nl (xs : List Nat) (g g' : Array GenState) : Prop := ∀ (i : Nat) (x : GenState), g'[i]? = some x → x.bare = false → g[i]? = some x ∨ i ∈ xs
theorem Nl.refl (g : Array GenState) : Nl [] g g := fun _ _ h _ => .inl h
theorem Nl.trans {xs : List Nat} {a b c : Array GenState} (h : Nl [] a b) (k : Nl xs b c) : Nl xs a c := fun i x e q => by
  rcases k i x e q with z | z
  · rcases h i x z q with y | y
    · exact .inl y
    · simp at y
  · exact .inr z
theorem Nl.mend {xs : List Nat} {a : Array GenState} {s s1 : Shared} (h : Nl xs a s.gens) (du : Dul s.gens s1) (b : AllBare s1.gens) : Nl xs a (mendS s.gens s1).gens := fun g x hg hx => by
  have hg' : (GW.mend s.gens s1.gens)[g]? = some x := hg
  by_cases hs : Slp s.gens g
  · obtain ⟨y, h1, h2⟩ := hs
    have lt : g < s1.gens.size := Nat.lt_of_lt_of_le (Array.getElem?_eq_some_iff.mp h1).1 du.le
    rw [mend_at h1 h2 lt] at hg'
    cases hg'
    exact h g _ h1 hx
  · rw [mend_other hs] at hg'
    have := b _ (Array.mem_of_getElem? hg')
    rw [this] at hx
    cases hx
theorem Nl.still {s s0 : Shared} (h : Nl [] s0.gens s.gens) (hb : AllBare s0.gens) : Still s := fun g k l c p fs hg => by
  rcases h g _ hg rfl with z | z
  · have := hb _ (Array.mem_of_getElem? z)
    cases this
  · simp at z
section
variable {X : Cx} {pins : List (Addr × Obj)} {σ : L2.St} {H H' : Hp} {s s' s1 : Shared}
/-- what the layer's invariant says of all but the generators' table -/
theorem Inv.gens {g : Array GenState} (I : Inv X pins σ H s) (hb : AllBare g) : Inv X pins σ H { s with gens := g } :=
  ⟨I.ok, I.os, hb, I.base, I.loc, I.cell, I.free, I.freeC, I.pin, I.hok, I.len⟩
structure InvZ (X : Cx) (pins : List (Addr × Obj)) (σ : L2.St) (H : Hp) (s : Shared) : Prop where
  inv : Inv X pins σ H (dullS s)
  nl : Nl [] X.s_0.gens s.gens
/-- code that the layer walks, where such generators sleep -/
theorem InvZ.run {α : Type} {t : Sem α} {A : Around} {Q : α → Shared → Prop} {E : Value → Shared → Prop} {M : Model} (Z : InvZ X pins σ H s)
    (h : Inv X pins σ H (dullS s) → wpAny M A t Q E (dullS s)) :
    wpAny M A t (fun a s' => ∃ s1, s' = mendS s.gens s1 ∧ Dul s.gens s1 ∧ Q a s1) (fun a s' => ∃ s1, s' = mendS s.gens s1 ∧ Dul s.gens s1 ∧ E a s1) s :=
  wpAny_calm (h Z.inv)
/-- .. and what it leaves -/
theorem InvZ.then {X' : Cx} {pins' : List (Addr × Obj)} {σ' : L2.St} (Z : InvZ X pins σ H s) (hx : X'.s_0.gens = X.s_0.gens) (du : Dul s.gens s1) (I : Inv X' pins' σ' H' s1) : InvZ X' pins' σ' H' (mendS s.gens s1) :=
  ⟨(Inv.gens (s := s1) I allBare_dull : Inv X' pins' σ' H' { s1 with gens := _ }), by rw [hx]; exact Z.nl.mend du I.bare⟩
end
end GW
end

section
set_option Elab.async false
set_option linter.all false
set_option maxRecDepth 100000
/-! One run of a generator's code, to its end or to its next item; the flag tells whether it has something to clean up there. -/
namespace GW
open PySem LY
open Sem (wp)

abbrev YP := Value → Shared → Bool → Code → (Resume → FinS) → List Frame → Prop
section
variable {M : Model} {A : Around} {R : Result → Shared → Prop} {Y : YP} {c : Code} {fs : List Frame} {s : Shared}
def Sg (M : Model) (A : Around) (R : Result → Shared → Prop) (Y : YP) (c : Code) (t : FinS) (fs : List Frame) (s : Shared) : Prop :=
  ∀ (Γ : Ctx) (p : Pos), Γ.code = c → Γ.Woken A → ∀ (Z : Shared → Thread → Prop), Back M Z → ∀ stk, Γ.Fits stk → (∀ r c' p' s', R r s' → Z s' ⟨leafOf r, c', p', stk⟩) →
    (∀ v g l k c' p' fs' s', splitAtGen fs' = none → fs'.any Frame.guarded = false → (s'.heap.life.registered = [] → closingShows s' fs' c' g = false) → Y v s' g c' k fs' → Z s' ⟨.yield v g l k, c', p', fs' ++ stk⟩) → Z s ⟨t, c, p, fs ++ stk⟩
theorem sg_wrapZ {α : Type} {m : Sem α} {K : α → FinS} {J : Value → FinS} {gd : Bool → Bool} {lv : List Value → List Value}
    (h : wpZ M (A.over c fs) m (fun a s' => Sg M A R Y c (K a) fs s') (fun x s' => Sg M A R Y c (J x) fs s') s) : Sg M A R Y c (m.wrap K J gd lv) fs s := by
  intro Γ p hc hΓ Z hZ stk hf zr zy
  subst hc
  exact h (Γ.over fs) p (hΓ.over fs) Z hZ (fs ++ stk) (hf.over fs) K J gd lv (fun a p' s' q => q Γ p' rfl hΓ Z hZ stk hf zr zy) fun x p' s' q => q Γ p' rfl hΓ Z hZ stk hf zr zy
theorem sg_wrap {α : Type} {m : Sem α} {K : α → FinS} {J : Value → FinS} {gd : Bool → Bool} {lv : List Value → List Value}
    (h : wpAny M (A.over c fs) m (fun a s' => Sg M A R Y c (K a) fs s') (fun x s' => Sg M A R Y c (J x) fs s') s) : Sg M A R Y c (m.wrap K J gd lv) fs s := sg_wrapZ (wpZ_of h)
theorem sg_bind {α : Type} {m : Sem α} {K : α → FinS}
    (h : wpAny M (A.over c fs) m (fun a s' => Sg M A R Y c (K a) fs s') (fun x s' => Sg M A R Y c (.raise x) fs s') s) : Sg M A R Y c (m >>= K) fs s := by
  rw [Sem.bind_eq_wrap']
  exact sg_wrap h
/-- the head of a bind within -/
theorem sg_bindwZ {α β : Type} {m : Sem α} {f : α → Sem β} {K : β → FinS} {J : Value → FinS} {gd : Bool → Bool} {lv : List Value → List Value}
    (h : wpZ M (A.over c fs) m (fun a s' => Sg M A R Y c ((f a).wrap K J gd lv) fs s') (fun x s' => Sg M A R Y c (J x) fs s') s) : Sg M A R Y c ((m >>= f).wrap K J gd lv) fs s := by
  rw [Sem.bind_eq_wrap', Sem.wrap_wrap]
  exact sg_wrapZ h
theorem sg_bindw {α β : Type} {m : Sem α} {f : α → Sem β} {K : β → FinS} {J : Value → FinS} {gd : Bool → Bool} {lv : List Value → List Value}
    (h : wpAny M (A.over c fs) m (fun a s' => Sg M A R Y c ((f a).wrap K J gd lv) fs s') (fun x s' => Sg M A R Y c (J x) fs s') s) : Sg M A R Y c ((m >>= f).wrap K J gd lv) fs s := sg_bindwZ (wpZ_of h)
theorem sg_at {p' : Pos} {k : Unit → FinS} (h : Sg M A R Y c (k ()) fs s) : Sg M A R Y c (.at p' k) fs s :=
  sg_wrap (m := standAt p') (K := k) (J := .raise) (gd := id) (lv := id) (wpAny_standAt h)
theorem sg_point {l : List Value} {k : Unit → FinS} (h : Sg M A R Y c (k ()) fs s) : Sg M A R Y c (.point l k) fs s :=
  sg_wrap (m := point) (K := k) (J := .raise) (gd := id) (lv := fun _ => l) (wpAny_point h)
theorem sg_call {c' : Code} {h : Option Value} {g : Bool} {l : List Value} {k : Result → FinS} (hc : ∀ p, Sg M A R Y c' (M.den c') (.ret k h g l c p [] :: fs) s) : Sg M A R Y c (.call c' h g l k) fs s := by
  intro Γ p hcd hΓ Z hZ stk hf zr zy
  subst hcd
  exact hZ.go (step_call ..) (hc p (Γ.goto c') p rfl (hΓ.goto c') Z hZ stk (hf.goto c') zr zy)
theorem sg_leaf {k : Result → FinS} {h : Option Value} {g : Bool} {l kp : List Value} {c₁ : Code} {p₁ : Pos} (r : Result) (hk : Sg M A R Y c₁ (k r) fs s) : Sg M A R Y c (leafOf r) (.ret k h g l c₁ p₁ kp :: fs) s := by
  intro Γ p hcd hΓ Z hZ stk hf zr zy
  subst hcd
  exact hZ.go (step_leaf_ret ..) (hk (Γ.goto c₁) p₁ rfl (hΓ.goto c₁) Z hZ stk (hf.goto c₁) zr zy)
theorem sg_again {c' : Code} (hq : c'.quiet = true) (hc : Sg M A R Y c' (M.den c') fs s) : Sg M A R Y c (.pure (.again c')) fs s := by
  intro Γ p hcd hΓ Z hZ stk hf zr zy
  subst hcd
  exact hZ.go (step_again _ _ _ _ _ _ hq) (hc (Γ.goto c') p rfl (hΓ.goto c') Z hZ stk (hf.goto c') zr zy)
theorem sg_end (r : Result) (h : R r s) : Sg M A R Y c (leafOf r) [] s := by
  intro Γ p hcd _ Z hZ stk hf zr zy
  subst hcd
  exact zr r _ p s h
theorem sg_yield {v : Value} {g : Bool} {l : List Value} {k : Resume → FinS} (hf : splitAtGen fs = none) (hfg : fs.any Frame.guarded = false) (hs : s.heap.life.registered = [] → closingShows s fs c g = false) (h : Y v s g c k fs) : Sg M A R Y c (.yield v g l k) fs s := by
  intro Γ p hcd _ Z hZ stk _ zr zy
  subst hcd
  exact zy v g l k _ p fs s hf hfg hs h
theorem calm_shows (hfg : fs.any Frame.guarded = false) : closingShows s fs c false = false := by simp [closingShows, hfg]
theorem sg_mono {R' : Result → Shared → Prop} {Y' : YP} {t : FinS} (h : Sg M A R Y c t fs s) (hR : ∀ r s, R r s → R' r s) (hY : ∀ v s g c k fs, Y v s g c k fs → Y' v s g c k fs) : Sg M A R' Y' c t fs s :=
  fun Γ p hcd hΓ Z hZ stk hf zr zy => h Γ p hcd hΓ Z hZ stk hf (fun r c' p' s' q => zr r c' p' s' (hR r s' q)) fun v g l k c' p' fs' s' q1 q2 q3 q4 => zy v g l k c' p' fs' s' q1 q2 q3 (hY v s' g c' k fs' q4)
end

section
variable {M : Model} {A : Around} {R : Result → Shared → Prop} {Y : YP}
/-- what a generator's state does when it is woken with nothing -/
def GoesTo (M : Model) (A : Around) (R : Result → Shared → Prop) (Y : YP) (x : GenState) (s : Shared) : Prop := match x with
  | .fresh c => Sg M A R Y c (M.den c) [] s
  | .suspended k _ c _ fs _ => Sg M A R Y c (k (.send .none)) fs s
  | _ => False
theorem back_yield {Z : Shared → Thread → Prop} (hZ : Back M Z) {v : Value} {g0 : Bool} {l0 : List Value} {k0 : Resume → FinS} {c0 : Code} {p0 : Pos} {fs0 : List Frame} {s1 : Shared} {g : Nat} {k : GenResult → FinS} {l : List Value} {c : Code} {p : Pos} {stk : List Frame}
    (h1 : splitAtGen fs0 = none) (h2 : fs0.any Frame.guarded = false) (h3 : s1.heap.life.registered = [] → closingShows s1 fs0 c0 g0 = false) (z : Z (s1.setGen g (.suspended k0 l0 c0 p0 fs0 g0)) ⟨k (.yielded v), c, p, stk⟩) :
    Z s1 ⟨.yield v g0 l0 k0, c0, p0, fs0 ++ .gen g k l c p :: stk⟩ := by
  have e : splitAtGen (fs0 ++ .gen g k l c p :: stk) = some (fs0, (g, k, c, p), stk) := by
    rw [splitAtGen_append_none _ h1, splitAtGen_gen]
    simp
  refine hZ _ _ _ _ ⟨.inr ⟨v, g0, l0, k0, fs0, _, stk, rfl, e, h3⟩, ?_⟩ z
  obtain ⟨hp, gn, dr, tk, os⟩ := s1
  simp only [stepK, step, e, h2, Bool.or_false]
  rfl
theorem wpZ_wake {E : Value → Shared → Prop} {s : Shared} {g : Nat} {x : GenState} {l : List Value} {α : Type} {k : GenResult → Sem α} {Q : α → Shared → Prop} (hg : s.gens[g]? = some x) (h : GoesTo M A R Y x (s.setGen g .running))
    (hR : ∀ r s1, R r s1 → wpZ M A (k (End.ret r).result) Q E (s1.setGen g .finished))
    (hY : ∀ v s1 fl c k' l' p fs, fs.any Frame.guarded = false → Y v s1 fl c k' fs → wpZ M A (k (.yielded v)) Q E (s1.setGen g (.suspended k' l' c p fs fl))) : wpZ M A (.resume g (.send .none) l k) Q E s := by
  intro Γ p hΓ Z hZ stk hf K H gd lv zQ zE
  have fin : ∀ r c' p' s1, R r s1 → Z s1 ⟨leafOf r, c', p', .gen g (fun x => (k x).wrap K H gd lv) (lv l) Γ.code p :: stk⟩ := fun r c' p' s1 hr =>
    hZ.go (step_leaf_gen ..) (hR r s1 hr Γ p hΓ Z hZ stk hf K H gd lv zQ zE)
  have itm : ∀ v g0 l0 k0 c0 p0 fs0 s1, splitAtGen fs0 = none → fs0.any Frame.guarded = false → (s1.heap.life.registered = [] → closingShows s1 fs0 c0 g0 = false) → Y v s1 g0 c0 k0 fs0 → Z s1 ⟨.yield v g0 l0 k0, c0, p0, fs0 ++ .gen g (fun x => (k x).wrap K H gd lv) (lv l) Γ.code p :: stk⟩ :=
    fun v g0 l0 k0 c0 p0 fs0 s1 h1 h2 h3 hy => back_yield hZ h1 h2 h3 (hY v s1 g0 c0 k0 l0 p0 fs0 h2 hy Γ p hΓ Z hZ stk hf K H gd lv zQ zE)
  cases x with
  | fresh c => exact hZ.go (step_resume_fresh _ _ _ _ _ _ _ hg) (h (Γ.wake c p) p rfl (hΓ.wake c p) Z hZ _ (hf.wake c g _ _ p) fin itm)
  | suspended k0 l0 c0 p0 fs0 cl => exact hZ.go (step_resume_suspended _ _ _ _ _ _ _ _ hg) (h (Γ.wake c0 p) p0 rfl (hΓ.wake c0 p) Z hZ _ (hf.wake c0 g _ _ p) fin itm)
  | running => exact h.elim
  | finished => exact h.elim
end
end GW
end

section
set_option Elab.async false
set_option linter.all false
set_option maxRecDepth 100000
/-! A generator def's frame, run by run: what it owns, what it asks of the heap when it is woken. -/
namespace GW
open PySem PySem.Spec PyProof.Rows L2 LY

theorem min_out {b n m : Nat} (hb : b < n) (q : ¬ b < min n m - 0) : m ≤ b := by omega
/-- the objects below n alone -/
def cut (n : Nat) (h : Heap) : Heap := { h with objs := h.objs.take n }
theorem cut_size {n : Nat} {h : Heap} (hn : n ≤ h.objs.size) : (cut n h).objs.size = n := by
  show (h.objs.take n).size = n
  simp
  omega
theorem cut_get {n : Nat} {h : Heap} {b : Addr} (hb : b < n) : (cut n h).get? b = h.get? b := by
  unfold Heap.get?
  have e : (cut n h).objs[b]? = h.objs[b]? := by
    show (h.objs.extract 0 n)[b]? = _
    rw [Array.getElem?_extract, Nat.zero_add]
    split
    · rfl
    · rename_i q
      exact (Array.getElem?_eq_none (min_out hb q)).symm
  rw [e]
theorem of_cut {n : Nat} {h : Heap} {b : Addr} {o : Obj} (e : (cut n h).get? b = some o) : b < n ∧ h.get? b = some o := by
  have lt := Heap.lt_size e
  have lt' : b < n := by
    have z : (cut n h).objs.size ≤ n := by
      show (h.objs.take n).size ≤ n
      simp
      omega
    exact Nat.lt_of_lt_of_le lt z
  exact ⟨lt', (cut_get lt').symm.trans e⟩
theorem cut_frames {n : Nat} {h base : Heap} : ∀ {l : List Env}, (∀ b ∈ frs l, b < n) → h.FunFrames base l → (cut n h).FunFrames base l
  | [], _, _ => trivial
  | env :: r, hb, hl => by
    obtain ⟨hk, ⟨L, o, hf, hn, ho, hd⟩, hr⟩ := hl
    have hL : L < n := hb L (by unfold frs; rw [List.filterMap_cons, hf]; exact List.mem_cons_self)
    exact ⟨hk, ⟨L, o, hf, hn, (cut_get hL).trans ho, hd⟩, cut_frames (fun b q => hb b (by
      unfold frs at q ⊢
      rw [List.filterMap_cons]
      cases env.frame with
      | none => exact q
      | some z => exact List.mem_cons_of_mem _ q)) hr⟩
/-- a generator def, called -/
structure GD where
  P : Program
  w : World
  K : PySem.W.Frag
  mg : Str → Option Value
  base : Heap
  N : List Str
  qual : Str
  scope : Scope
  f : Addr
  cd : Value
  A : Around
  outer : List Env
  n0 : Nat
  g0 : Nat
  os : OsState
  ga : Addr
  go0 : Obj
/-- its object, as it is but for what others note on it -/
def GD.GoAt (d : GD) (h : Heap) : Prop := ∃ sl, h.get? d.ga = some { d.go0 with slots := sl }
def GD.env (d : GD) : Env := envOfC d.qual d.scope d.n0 d.f d.cd
/-- a run's context, from the state in which it is woken -/
def GD.cx (d : GD) (s : Shared) (H : Hp) : Cx where
  prog := d.P
  w := d.w
  K := d.K
  mg := d.mg
  base := d.base
  A := d.A.deeper d.env
  N := d.N
  s_0 := { s with heap := cut d.n0 s.heap }
  H_0 := H
  env := d.env
  outer := d.outer
  stack := d.env :: d.outer
  ex := []
  calm := true
  fn := fun _ => true
  pn := pinsAt [d.ga] s.heap
  xe := fun _ _ => False
/-- what never changes -/
structure GD.Fix (d : GD) : Prop where
  mod : Mod d.K d.mg d.base
  fr : d.A.frames = some d.outer
  hd : d.A.handled = none
  bz : d.base.objs.size ≤ d.n0
  fz : ∀ b ∈ frs d.outer, b < d.n0
  kind : d.scope.kind = .function
  gon : d.n0 < d.ga
  goc : ∀ v, d.go0.data ≠ .cell v
  nocell : d.env.cells = []
  cgt : ∀ q ∈ d.env.cells, d.n0 < q.2
  named : ∀ q ∈ d.env.cells, ∃ x, d.env.cells.lookup x = some q.2
  inj : ∀ x y c, d.env.cells.lookup x = some c → d.env.cells.lookup y = some c → x = y
  has : ∀ x, (d.env.kindOf x = some .cell ∨ d.env.kindOf x = some .free) → ∃ c, d.env.cells.lookup x = some c
/-- what the heap is in which it is woken -/
structure GD.Wk (d : GD) (s : Shared) (H : Hp) : Prop where
  os : s.os = d.os
  bs : ∀ b o, d.base.get? b = some o → s.heap.get? b = some o ∧ H b = none
  funs : s.heap.FunFrames d.base d.outer
  frf : ∀ b ∈ frs d.outer, H b = none
  hok : HOk d.P d.w H s.heap
  sz : d.n0 < s.heap.objs.size
/-- its own frame and iterators -/
structure GD.Own (d : GD) (ip : List (Addr × Obj)) (σ : L2.St) (H : Hp) (s : Shared) : Prop where
  loc : ∃ m, s.heap.Ns d.n0 m ∧ ∀ (i : Nat) (x : Str) (v : V), d.N[i]? = some x → σ[i]? = some (some v) → Vis d.scope x → ∃ u, RelV v u ∧ Look d.env s.heap m x u
  cell : ∀ x c, d.env.cells.lookup x = some c → ∃ v, s.heap.IsCell c v
  free : H d.n0 = none
  freeC : ∀ x c, d.env.cells.lookup x = some c → H c = none
  pin : ∀ p ∈ ip, s.heap.get? p.1 = some p.2 ∧ H p.1 = none ∧ d.n0 < p.1 ∧ ∀ v, p.2.data ≠ .cell v
  go : d.GoAt s.heap
  gof : H d.ga = none
  len : σ.length = d.N.length
section
variable {d : GD} {ip : List (Addr × Obj)} {σ : L2.St} {H H' : Hp} {s s' : Shared}
theorem GD.Fix.ok (F : d.Fix) (W : d.Wk s H) : (d.cx s H).Ok := by
  have ne : ∀ b : Addr, b ∉ (d.cx s H).ex := fun b z => absurd (show b ∈ ([] : List Addr) from z) (by simp)
  have cs : (cut d.n0 s.heap).objs.size = d.n0 := cut_size (Nat.le_of_lt W.sz)
  refine ⟨F.mod, F.kind, rfl, rfl, Nat.le_of_eq cs, F.inj, F.has, fun x c _ h => ?_, fun _ => F.hd, Around.frames_deeper F.fr, .inr ⟨rfl, rfl⟩, fun b z => absurd z (ne b), fun b o e => ?_, ?_, fun b _ _ => ne b, fun b z => absurd z (ne b), cut_frames F.fz W.funs, W.frf⟩
  · show (cut d.n0 s.heap).objs.size ≤ c
    rw [cs]
    exact Nat.le_of_lt (F.cgt (x, c) (PySem.mem_of_lookup h))
  · obtain ⟨h1, h2⟩ := W.bs b o e
    exact ⟨(cut_get (Nat.lt_of_lt_of_le (Heap.lt_size e) F.bz)).trans h1, h2⟩
  · show d.base.objs.size ≤ (cut d.n0 s.heap).objs.size
    rw [cs]
    exact F.bz
theorem GD.Own.inv (O : d.Own ip σ H s) (F : d.Fix) (W : d.Wk s H) : InvZ (d.cx s H) ip σ H s := by
  refine ⟨⟨F.ok W, rfl, allBare_dull, Un.kept fun b u q => (of_cut q).2, O.loc, O.cell, O.free, O.freeC, fun p hp => ?_, W.hok, O.len⟩, Nl.refl _⟩
  rcases List.mem_append.mp hp with hp | hp
  · obtain ⟨e1, e2⟩ := of_pinsAt hp
    have e3 : p.1 = d.ga := List.mem_singleton.mp e1
    have e2' : s.heap.get? p.1 = some p.2 := e2
    refine ⟨e2', e3 ▸ O.gof, by rw [e3]; exact Nat.ne_of_gt F.gon, fun z => ?_, fun v => ?_⟩
    · exact absurd (Nat.lt_trans (F.fz _ z) (e3 ▸ F.gon)) (Nat.lt_irrefl _)
    · obtain ⟨sl, q⟩ := O.go
      rw [e3, q] at e2'
      rw [← Option.some.inj e2']
      exact F.goc v
  · obtain ⟨h1, h2, h3, h4⟩ := O.pin p hp
    refine ⟨h1, h2, Nat.ne_of_gt h3, fun z => ?_, h4⟩
    exact absurd (Nat.lt_trans (F.fz _ z) h3) (Nat.lt_irrefl _)
/-- what it does to the heap, from where it was woken -/
structure GD.Did (d : GD) (xs : List Nat) (s : Shared) (H : Hp) (s' : Shared) (H' : Hp) : Prop where
  os : s'.os = s.os
  nl : Nl xs s.gens s'.gens
  un : Un (frs d.outer) [] H H' (cut d.n0 s.heap) s'.heap
  hok : HOk d.P d.w H' s'.heap
  gens : ∀ (i : Nat) (x : GenState), i < d.g0 → s.gens[i]? = some x → sleeps x = true → s'.gens[i]? = some x
  go : ∀ o, s.heap.get? d.ga = some o → s'.heap.get? d.ga = some o ∧ H' d.ga = none
/-- amid a run -/
structure GD.Gi (d : GD) (s : Shared) (H : Hp) (ip : List (Addr × Obj)) (σ : L2.St) (H' : Hp) (s' : Shared) : Prop where
  inv : InvZ (d.cx s H) ip σ H' s'
  gens : ∀ (i : Nat) (x : GenState), i < d.g0 → s.gens[i]? = some x → sleeps x = true → s'.gens[i]? = some x
  gs : s.gens.size ≤ s'.gens.size
  gn : d.g0 < s.gens.size
  ipn : ∀ p ∈ ip, d.n0 < p.1 ∧ p.1 ≠ d.ga
  sz : d.n0 ≤ s.heap.objs.size
  go : d.GoAt s.heap
  os : s.os = d.os
theorem GD.Gi.did (G : d.Gi s H ip σ H' s') : d.Did [] s H s' H' := ⟨G.inv.inv.os, G.inv.nl, G.inv.inv.base, G.inv.inv.hok, G.gens, fun o e => by
    obtain ⟨h1, h2, _⟩ := G.inv.inv.pin (d.ga, o) (List.mem_append_left _ (mem_pinsAt List.mem_cons_self e))
    exact ⟨h1, h2⟩⟩
theorem GD.Gi.own (G : d.Gi s H ip σ H' s') (F : d.Fix) : d.Own ip σ H' s' :=
  ⟨G.inv.inv.loc, G.inv.inv.cell, G.inv.inv.free, G.inv.inv.freeC, fun p hp => by
    obtain ⟨h1, h2, _, _, h5⟩ := G.inv.inv.pin p (List.mem_append_right _ hp)
    exact ⟨h1, h2, (G.ipn p hp).1, h5⟩, by
      obtain ⟨sl, e⟩ := G.go
      exact ⟨sl, (G.did.go _ e).1⟩, by
      obtain ⟨sl, e⟩ := G.go
      exact (G.did.go _ e).2, G.inv.inv.len⟩
/-- any piece of code that the layer walks, within a generator's run: the sleepers stay -/
theorem gi_runD {α : Type} {t : Sem α} {Q : α → Shared → Prop} {s1 : Shared} {H1 : Hp} {A : Around} (G : d.Gi s H ip σ H1 s1)
    (h : Inv (d.cx s H) ip σ H1 (dullS s1) → wpAny (model d.P d.w) A t Q (fun _ _ => False) (dullS s1)) :
    wpAny (model d.P d.w) A t (fun a s' => ∃ s3, s' = mendS s1.gens s3 ∧ Dul s1.gens s3 ∧ Q a s3) (fun _ _ => False) s1 :=
  wpAny_mono (G.inv.run h) (fun a s' q => q) fun a s' q => by
    obtain ⟨_, _, _, q⟩ := q
    exact q
theorem Dul.ge {G : Array GenState} {s : Shared} (du : Dul G s) : G.size ≤ (mendS G s).gens.size := by
  rw [mendS_size]
  exact du.le
theorem GD.Gi.then {σ' : L2.St} {ip' : List (Addr × Obj)} {H1 H2 : Hp} {s1 s3 : Shared} (G : d.Gi s H ip σ H1 s1) (du : Dul s1.gens s3) (hi : ∀ p ∈ ip', d.n0 < p.1 ∧ p.1 ≠ d.ga) (I : Inv (d.cx s H) ip' σ' H2 s3) : d.Gi s H ip' σ' H2 (mendS s1.gens s3) :=
  ⟨G.inv.then rfl du I, fun i x h1 h2 h3 => du.keeps i x (G.gens i x h1 h2 h3) h3, Nat.le_trans G.gs du.ge, G.gn, hi, G.sz, G.go, G.os⟩
/-- an expression within -/
theorem gi_pe {e : Expr} {te : TE} {Q : V → Hp → Prop} {s1 : Shared} {H1 : Hp} (he : PE (d.cx s H) e te) (G : d.Gi s H ip σ H1 s1) (h : te σ H1 Q) :
    wpAny (model d.P d.w) (d.A.deeper d.env) (eval e d.env) (fun u s' => ∃ x H2, d.Gi s H ip σ H2 s' ∧ RelV x u ∧ Q x H2) (fun _ _ => False) s1 := by
  refine wpAny_mono (gi_runD G fun I => he.run _ _ σ H1 Q I h) (fun u s' q => ?_) fun _ _ q => q
  obtain ⟨s3, e, du, x, H2, I2, r, q⟩ := q
  subst e
  exact ⟨x, H2, G.then du G.ipn I2, r, q⟩
theorem gi_pt {e : Expr} {te : TT} {Q : Bool → Hp → Prop} {s1 : Shared} {H1 : Hp} (he : PT (d.cx s H) e te) (G : d.Gi s H ip σ H1 s1) (h : te σ H1 Q) :
    wpAny (model d.P d.w) (d.A.deeper d.env) (isTrue e d.env (eval e d.env)) (fun b s' => ∃ H2, d.Gi s H ip σ H2 s' ∧ Q b H2) (fun _ _ => False) s1 := by
  refine wpAny_mono (gi_runD G fun I => he.run _ _ σ H1 Q I h) (fun u s' q => ?_) fun _ _ q => q
  obtain ⟨s3, e, du, H2, I2, q⟩ := q
  subst e
  exact ⟨H2, G.then du G.ipn I2, q⟩
end
end GW
end

section
set_option Elab.async false
set_option linter.all false
set_option maxRecDepth 100000
/-! A generator def's body, statement by statement: what it hands out, in what heap. -/
namespace GW
open PySem PySem.Spec PyProof.Rows L2 LY

/-- how many items; what must hold of the heap when the next is asked for; the i-th item, from the heap in which it is asked for; the end -/
structure GSpec where
  n : Nat
  st : Nat → Hp → Prop
  yld : Nat → Hp → V → Hp → Prop
  fin : Hp → Hp → Prop
  qt : Bool
/-- what a sleeping generator owns: objects, other sleepers -/
structure Bag where
  obs : List (Addr × Obj)
  gns : List (Nat × GenState)
structure Bag.In (b : Bag) (H : Hp) (s : Shared) : Prop where
  obs : ∀ p ∈ b.obs, s.heap.get? p.1 = some p.2 ∧ H p.1 = none
  gns : ∀ q ∈ b.gns, s.gens[q.1]? = some q.2
structure Bag.Ok (d : GD) (b : Bag) : Prop where
  obs : ∀ p ∈ b.obs, d.n0 ≤ p.1 ∧ ∀ v, p.2.data ≠ .cell v
  gns : ∀ q ∈ b.gns, d.g0 < q.1 ∧ sleeps q.2 = true
  nga : ∀ p ∈ b.obs, p.1 ≠ d.ga
/-- the state in which it is woken for its i-th item -/
structure Woke (d : GD) (sp : GSpec) (i : Nat) (b : Bag) (s : Shared) (H : Hp) : Prop where
  wk : d.Wk s H
  bag : b.In H s
  gn : d.g0 < s.gens.size
  go : d.GoAt s.heap
  gof : H d.ga = none
  st : sp.st i H
def RR (d : GD) (sp : GSpec) (m : Nat) (s : Shared) (H : Hp) : Result → Shared → Prop := fun r s' => m = 0 ∧ (r = .ok (.ret .none) ∨ r = .ok .next) ∧ ∃ H', d.Did [] s H s' H' ∧ s.gens.size ≤ s'.gens.size ∧ sp.fin H H'
def YY (d : GD) (sp : GSpec) (nx : Bag → Code → Sem PySem.Fin → List Frame → Prop) (i : Nat) (s : Shared) (H : Hp) : YP := fun v s' fl c k fs =>
  ∃ x H' b, RelV x v ∧ sp.yld i H x H' ∧ d.Did (b.gns.map (·.1)) s H s' H' ∧ s.gens.size ≤ s'.gens.size ∧ b.Ok d ∧ b.In H' s' ∧ (sp.qt = true → fl = false ∧ b.gns = []) ∧ nx b c (k (.send .none)) fs
/-- own sleepers within: told to be no more, in the state that a run is measured from -/
def Bag.hush (b : Bag) (s : Shared) : Shared := { s with gens := s.gens.mapIdx fun i x => if b.gns.any (·.1 == i) then .finished else x }
/-- asleep, m items still to come -/
def Rdy (d : GD) (sp : GSpec) : Nat → Bag → Code → Sem PySem.Fin → List Frame → Prop
  | 0, b, c, t, fs => ∀ s H, Woke d sp (sp.n - 0) b s H → Sg (model d.P d.w) d.A (RR d sp 0 (b.hush s) H) (YY d sp (fun _ _ _ _ => False) (sp.n - 0) (b.hush s) H) c t fs s
  | m + 1, b, c, t, fs => ∀ s H, Woke d sp (sp.n - (m + 1)) b s H → Sg (model d.P d.w) d.A (RR d sp (m + 1) (b.hush s) H) (YY d sp (fun b' c' t' fs' => Rdy d sp m b' c' t' fs') (sp.n - (m + 1)) (b.hush s) H) c t fs s
def After (d : GD) (sp : GSpec) : Nat → Bag → Code → Sem PySem.Fin → List Frame → Prop
  | 0 => fun _ _ _ _ => False
  | m + 1 => fun b c t fs => Rdy d sp m b c t fs
/-- amid the run that was begun at s, H, m items to come -/
def Run (d : GD) (sp : GSpec) (m : Nat) (s : Shared) (H : Hp) (c : Code) (t : Sem PySem.Fin) (fs : List Frame) (s' : Shared) : Prop :=
  Sg (model d.P d.w) d.A (RR d sp m s H) (YY d sp (After d sp m) (sp.n - m) s H) c t fs s'
theorem rdy_iff {d : GD} {sp : GSpec} {m : Nat} {b : Bag} {c : Code} {t : Sem PySem.Fin} {fs : List Frame} : Rdy d sp m b c t fs ↔ ∀ s H, Woke d sp (sp.n - m) b s H → Run d sp m (b.hush s) H c t fs s := by
  cases m <;> exact Iff.rfl

/-- what is wanted behind a statement: the items so far, the heap of the last waking, .. -/
structure GE where
  nx : Nat → Hp → L2.St → Hp → Prop
  rt : Nat → Hp → V → Hp → Prop := fun _ _ _ _ => False
  bk : Nat → Hp → L2.St → Hp → Prop := fun _ _ _ _ => False
  ct : Nat → Hp → L2.St → Hp → Prop := fun _ _ _ _ => False
abbrev TG2 := GE → Nat → Hp → L2.St → Hp → Prop
def GE.at (D : GE) (i : Nat) (G : Hp) : Ends := { nx := D.nx i G, rt := D.rt i G, bk := D.bk i G, ct := D.ct i G }
def Post (d : GD) (ip : List (Addr × Obj)) (D : GE) (i : Nat) (s : Shared) (H : Hp) (f : Flow) (s' : Shared) : Prop := match f with
  | .next => ∃ σ H', d.Gi s H ip σ H' s' ∧ D.nx i H σ H'
  | .brk => ∃ σ H', d.Gi s H ip σ H' s' ∧ D.bk i H σ H'
  | .cont => ∃ σ H', d.Gi s H ip σ H' s' ∧ D.ct i H σ H'
  | .ret u => ∃ v σ H', d.Gi s H ip σ H' s' ∧ RelV v u ∧ D.rt i H v H'
/-- where the code stands -/
structure Plc (d : GD) (c : Code) (fs : List Frame) (gd : Bool → Bool) : Prop where
  over : d.A.over c fs = d.A.deeper d.env
  split : splitAtGen fs = none
  guard : fs.any Frame.guarded = false
  gd : gd false = false
/-- what follows -/
def Fol (d : GD) (sp : GSpec) (ip : List (Addr × Obj)) (D : GE) (c : Code) (fs : List Frame) (K : Flow → Sem PySem.Fin) : Prop :=
  ∀ m i s0 H0 f s', i + m = sp.n → Post d ip D i s0 H0 f s' → Run d sp m s0 H0 c (K f) fs s'
structure GS (d : GD) (sp : GSpec) (st : Stmt) (t : TG2) : Prop where
  run : ∀ (m i : Nat) (s0 : Shared) (H0 : Hp) (ip : List (Addr × Obj)) (σ : L2.St) (H : Hp) (s : Shared) (c : Code) (fs : List Frame) (K : Flow → Sem PySem.Fin) (J : Value → Sem PySem.Fin) (gd : Bool → Bool) (lv : List Value → List Value) (D : GE),
    Plc d c fs gd → i + m = sp.n → Fol d sp ip D c fs K → d.Gi s0 H0 ip σ H s → t D i H0 σ H → Run d sp m s0 H0 c ((exec st d.env).wrap K J gd lv) fs s
structure GSs (d : GD) (sp : GSpec) (sts : List Stmt) (t : TG2) : Prop where
  run : ∀ (m i : Nat) (s0 : Shared) (H0 : Hp) (ip : List (Addr × Obj)) (σ : L2.St) (H : Hp) (s : Shared) (c : Code) (fs : List Frame) (K : Flow → Sem PySem.Fin) (J : Value → Sem PySem.Fin) (gd : Bool → Bool) (lv : List Value → List Value) (D : GE),
    Plc d c fs gd → i + m = sp.n → Fol d sp ip D c fs K → d.Gi s0 H0 ip σ H s → t D i H0 σ H → Run d sp m s0 H0 c ((execs sts d.env).wrap K J gd lv) fs s

section
variable {d : GD} {sp : GSpec} {st : Stmt} {rest : List Stmt}
theorem post_of {ip : List (Addr × Obj)} {D : GE} {i : Nat} {s0 s s3 : Shared} {H0 H : Hp} {σ : L2.St} {f : Flow} (G : d.Gi s0 H0 ip σ H s) (du : Dul s.gens s3)
    (q : SP (d.cx s0 H0) ip (D.at i H0) f s3) : Post d ip D i s0 H0 f (mendS s.gens s3) := by
  cases f with
  | next => obtain ⟨σ2, H2, I, q⟩ := q; exact ⟨σ2, H2, G.then du G.ipn I, q⟩
  | brk => obtain ⟨σ2, H2, I, q⟩ := q; exact ⟨σ2, H2, G.then du G.ipn I, q⟩
  | cont => obtain ⟨σ2, H2, I, q⟩ := q; exact ⟨σ2, H2, G.then du G.ipn I, q⟩
  | ret u => obtain ⟨v, σ2, H2, I, r, q⟩ := q; exact ⟨v, σ2, H2, G.then du G.ipn I, r, q⟩
/-- a statement that hands out nothing -/
theorem gs_plain {t : TS} (h : ∀ s H, PS (d.cx s H) st t) : GS d sp st (fun D i G σ H => t (D.at i G) σ H) := by
  refine ⟨fun m i s0 H0 ip σ H s c fs K J gd lv D hp hm hk G ht => ?_⟩
  refine sg_wrap ?_
  rw [hp.over]
  refine wpAny_mono (gi_runD G fun I => (h s0 H0).run _ _ σ H (D.at i H0) I ht) (fun f s' q => ?_) fun _ _ q => q.elim
  obtain ⟨s3, e, du, q⟩ := q
  subst e
  exact hk m i s0 H0 f _ hm (post_of G du q)
theorem gss_plain {t : TS} (h : ∀ s H, PSs (d.cx s H) rest t) : GSs d sp rest (fun D i G σ H => t (D.at i G) σ H) := by
  refine ⟨fun m i s0 H0 ip σ H s c fs K J gd lv D hp hm hk G ht => ?_⟩
  refine sg_wrap ?_
  rw [hp.over]
  refine wpAny_mono (gi_runD G fun I => (h s0 H0).run _ _ σ H (D.at i H0) I ht) (fun f s' q => ?_) fun _ _ q => q.elim
  obtain ⟨s3, e, du, q⟩ := q
  subst e
  exact hk m i s0 H0 f _ hm (post_of G du q)
theorem gss_nil : GSs d sp [] (fun D i G σ H => D.nx i G σ H) := by
  refine ⟨fun m i s0 H0 ip σ H s c fs K J gd lv D hp hm hk G ht => ?_⟩
  exact hk m i s0 H0 .next s hm ⟨σ, H, G, ht⟩
def tThen (t u : TG2) : TG2 := fun D i G σ H => t { D with nx := u D } i G σ H
theorem gss_cons {t u : TG2} (a : GS d sp st t) (b : GSs d sp rest u) : GSs d sp (st :: rest) (tThen t u) := by
  refine ⟨fun m i s0 H0 ip σ H s c fs K J gd lv D hp hm hk G ht => ?_⟩
  rw [execs_cons_wrap]
  refine a.run m i s0 H0 ip σ H s c fs _ J gd lv { D with nx := u D } hp hm (fun m' i' s0' H0' f s' hm' q => ?_) G ht
  cases f with
  | next =>
    obtain ⟨σ', H', G', q⟩ := q
    exact b.run m' i' s0' H0' ip σ' H' s' c fs K J gd lv D hp hm' hk G' q
  | brk => exact hk m' i' s0' H0' .brk s' hm' q
  | cont => exact hk m' i' s0' H0' .cont s' hm' q
  | ret u => exact hk m' i' s0' H0' (.ret u) s' hm' q
theorem gss_one {t : TG2} (a : GS d sp st t) : GSs d sp [st] t := by
  refine ⟨fun m i s0 H0 ip σ H s c fs K J gd lv D hp hm hk G ht => ?_⟩
  rw [execs_cons_wrap]
  refine a.run m i s0 H0 ip σ H s c fs _ J gd lv D hp hm (fun m' i' s0' H0' f s' hm' q => ?_) G ht
  cases f with
  | next => exact hk m' i' s0' H0' .next s' hm' q
  | brk => exact hk m' i' s0' H0' .brk s' hm' q
  | cont => exact hk m' i' s0' H0' .cont s' hm' q
  | ret u => exact hk m' i' s0' H0' (.ret u) s' hm' q

/-! ### asleep -/
/-- the objects that are its own -/
def GD.mine (d : GD) (ip : List (Addr × Obj)) : List Addr := d.n0 :: (d.env.cells.map (·.2) ++ ip.map (·.1))
theorem lookup_mem : ∀ {l : List (Str × Addr)} {x : Str} {c : Addr}, l.lookup x = some c → c ∈ l.map (·.2) := fun {l x c} h =>
  List.mem_map.mpr ⟨(x, c), PySem.mem_of_lookup h, rfl⟩
def bagOf (d : GD) (ip : List (Addr × Obj)) (gns : List (Nat × GenState)) (s : Shared) : Bag := ⟨pinsAt (d.mine ip) s.heap, gns⟩
/-- asleep and woken: its own things as they were -/
theorem GD.Own.again {ip : List (Addr × Obj)} {gns : List (Nat × GenState)} {σ : L2.St} {H H' : Hp} {s s' : Shared} (O : d.Own ip σ H s) (b : (bagOf d ip gns s).In H' s') (go : d.GoAt s'.heap) (gof : H' d.ga = none) : d.Own ip σ H' s' := by
  have at_ : ∀ {a : Addr} {o : Obj}, a ∈ d.mine ip → s.heap.get? a = some o → s'.heap.get? a = some o ∧ H' a = none := fun {a o} ha e => b.obs (a, o) (mem_pinsAt ha e)
  have hc : ∀ {x c}, d.env.cells.lookup x = some c → c ∈ d.mine ip := fun {x c} h => List.mem_cons_of_mem _ (List.mem_append_left _ (lookup_mem h))
  have hcell : ∀ {x c v}, d.env.cells.lookup x = some c → s.heap.IsCell c v → s'.heap.IsCell c v := fun {x c v} h ⟨o, ho, hd⟩ => ⟨o, (at_ (hc h) ho).1, hd⟩
  obtain ⟨m, hn, hl⟩ := O.loc
  obtain ⟨oL, es, ep, ho, r⟩ := id hn
  refine ⟨⟨m, ⟨oL, es, ep, (at_ List.mem_cons_self ho).1, r⟩, fun i x v h1 h2 h3 => ?_⟩, fun x c h => ?_, (at_ List.mem_cons_self ho).2, fun x c h => ?_, fun p hp => ?_, go, gof, O.len⟩
  · obtain ⟨u, ru, l⟩ := hl i x v h1 h2 h3
    refine ⟨u, ru, ?_⟩
    rcases l with l | ⟨k, c, e, z⟩
    · exact .inl l
    · exact .inr ⟨k, c, e, hcell e z⟩
  · obtain ⟨v, z⟩ := O.cell x c h
    exact ⟨v, hcell h z⟩
  · obtain ⟨v, o, hoc, _⟩ := O.cell x c h
    exact (at_ (hc h) hoc).2
  · obtain ⟨h1, _, h3, h4⟩ := O.pin p hp
    obtain ⟨q1, q2⟩ := at_ (a := p.1) (List.mem_cons_of_mem _ (List.mem_append_right _ (List.mem_map.mpr ⟨p, hp, rfl⟩))) h1
    exact ⟨q1, q2, h3, h4⟩
theorem mine_ge {ip : List (Addr × Obj)} (F : d.Fix) (hi : ∀ p ∈ ip, d.n0 < p.1 ∧ p.1 ≠ d.ga) : ∀ a ∈ d.mine ip, d.n0 ≤ a := fun a ha => by
  rcases List.mem_cons.mp ha with e | ha
  · exact Nat.le_of_eq e.symm
  · rcases List.mem_append.mp ha with ha | ha
    · obtain ⟨q, hq, e⟩ := List.mem_map.mp ha
      subst e
      exact Nat.le_of_lt (F.cgt q hq)
    · obtain ⟨p, hp, e⟩ := List.mem_map.mp ha
      subst e
      exact Nat.le_of_lt (hi p hp).1
theorem bag_ok {ip : List (Addr × Obj)} {gns : List (Nat × GenState)} {σ : L2.St} {H : Hp} {s : Shared} (F : d.Fix) (O : d.Own ip σ H s) (hi : ∀ p ∈ ip, d.n0 < p.1 ∧ p.1 ≠ d.ga) (hg : ∀ q ∈ gns, d.g0 < q.1 ∧ sleeps q.2 = true) : (bagOf d ip gns s).Ok d := by
  refine ⟨fun p hp => ⟨mine_ge F hi p.1 (of_pinsAt hp).1, fun v hv => ?_⟩, hg, fun p hp => ?_⟩
  rotate_left
  · rcases List.mem_cons.mp (of_pinsAt hp).1 with e | h1
    · rw [e]; exact Nat.ne_of_lt F.gon
    · rcases List.mem_append.mp h1 with h1 | h1
      · rw [F.nocell] at h1
        simp at h1
      · obtain ⟨q, hq, e⟩ := List.mem_map.mp h1
        rw [← e]
        exact (hi q hq).2
  obtain ⟨h1, h2⟩ := of_pinsAt hp
  rcases List.mem_cons.mp h1 with e | h1
  · obtain ⟨m, ⟨o, es, ep, ho, hd, _⟩, _⟩ := O.loc
    rw [e, ho] at h2
    cases h2
    rw [hd] at hv
    cases hv
  · rcases List.mem_append.mp h1 with h1 | h1
    · rw [F.nocell] at h1
      simp at h1
    · obtain ⟨q, hq, e⟩ := List.mem_map.mp h1
      obtain ⟨q1, _, _, q4⟩ := O.pin q hq
      rw [← e, q1] at h2
      have e2 : q.2 = p.2 := Option.some.inj h2
      exact q4 v (e2 ▸ hv)
theorem bag_in {ip : List (Addr × Obj)} {gns : List (Nat × GenState)} {σ : L2.St} {H : Hp} {s : Shared} (F : d.Fix) (O : d.Own ip σ H s) (hg : ∀ q ∈ gns, s.gens[q.1]? = some q.2) : (bagOf d ip gns s).In H s := by
  refine ⟨fun p hp => ?_, hg⟩
  obtain ⟨h1, h2⟩ := of_pinsAt hp
  refine ⟨h2, ?_⟩
  rcases List.mem_cons.mp h1 with e | h1
  · rw [e]; exact O.free
  · rcases List.mem_append.mp h1 with h1 | h1
    · obtain ⟨q, hq, e⟩ := List.mem_map.mp h1
      obtain ⟨c, hc⟩ : ∃ x, d.env.cells.lookup x = some p.1 := by
        rw [← e]
        exact F.named q hq
      exact O.freeC c p.1 hc
    · obtain ⟨q, hq, e⟩ := List.mem_map.mp h1
      rw [← e]
      exact (O.pin q hq).2.1
theorem hush_nil {b : Bag} {s : Shared} (h : b.gns = []) : b.hush s = s := by
  unfold Bag.hush
  rw [h]
  have e : (s.gens.mapIdx fun i x => if ([] : List (Nat × GenState)).any (·.1 == i) then .finished else x) = s.gens := by
    apply Array.ext_getElem?
    intro i
    rw [Array.getElem?_mapIdx]
    cases s.gens[i]? <;> rfl
  rw [e]
/-- woken: amid a run again -/
theorem woke_gi {sp : GSpec} {i : Nat} {ip : List (Addr × Obj)} {gns : List (Nat × GenState)} {σ : L2.St} {H H' : Hp} {s s' : Shared} (F : d.Fix) (O : d.Own ip σ H s) (hi : ∀ p ∈ ip, d.n0 < p.1 ∧ p.1 ≠ d.ga) (W : Woke d sp i (bagOf d ip gns s) s' H') : d.Gi s' H' ip σ H' s' :=
  ⟨(O.again W.bag W.go W.gof).inv F W.wk, fun _ _ _ h _ => h, Nat.le_refl _, W.gn, hi, Nat.le_of_lt W.wk.sz, W.go, W.wk.os⟩

/-! ### yield -/
def tYield (sp : GSpec) (te : TE) : TG2 := fun D i G σ H => i < sp.n ∧ te σ H fun x H1 => sp.yld i G x H1 ∧ ∀ H2, sp.st (i + 1) H2 → D.nx (i + 1) H2 σ H2
theorem gs_yield {e : Expr} {te : TE} {yp pos : Pos} (F : d.Fix) (he : ∀ s H, PE (d.cx s H) e te) (hco : d.scope.isCoroutine = false) : GS d sp (.Expr (.Yield (some e) yp) pos) (tYield sp te) := by
  refine ⟨fun m i s0 H0 ip σ H s c fs K J gd lv D hp hm hk G ht => ?_⟩
  obtain ⟨hlt, ht⟩ := ht
  have hi : interactive d.env = false := by simp [interactive, show d.env.scope.kind = .function from F.kind]
  rw [exec_Expr d.env _ pos hi rfl]
  show Run d sp m s0 H0 c (.at pos fun _ => ((eval e d.env >>= fun v => (standAt yp >>= fun _ => yieldOut d.env v)) >>= fun x => dropValue (.Yield (some e) yp) pos x).wrap K J gd lv) fs s
  have hy : ∀ v, yieldOut d.env v = yieldValue v := fun v => by simp only [yieldOut, show d.env.scope.isCoroutine = false from hco, Bool.false_eq_true, if_false]
  simp only [hy]
  refine sg_at ?_
  rw [Sem.bind_eq_wrap', Sem.bind_eq_wrap', Sem.wrap_wrap, Sem.wrap_wrap]
  refine sg_wrap ?_
  rw [hp.over]
  refine wpAny_mono (gi_pe (he s0 H0) G ht) (fun v s1 hv => ?_) fun _ _ q => q.elim
  obtain ⟨x, H1, G1, rv, hyl, hnx⟩ := hv
  refine sg_at ?_
  refine sg_yield hp.split hp.guard (fun _ => by rw [show (fun g => gd (id g)) false = false from hp.gd]; exact calm_shows hp.guard) ?_
  refine ⟨x, H1, bagOf d ip [] s1, rv, ?_, G1.did, G1.gs, bag_ok F (G1.own F) G1.ipn fun q hq => (by simp at hq), bag_in F (G1.own F) fun q hq => (by simp at hq), fun _ => ⟨hp.gd, rfl⟩, ?_⟩
  · have e1 : sp.n - m = i := by omega
    rw [e1]
    exact hyl
  obtain ⟨m, rfl⟩ : ∃ k, m = k + 1 := ⟨m - 1, by omega⟩
  show Rdy d sp m _ _ _ _
  rw [rdy_iff]
  intro s2 H2 W
  rw [hush_nil rfl]
  have e2 : sp.n - m = i + 1 := by omega
  have hst := W.st
  rw [e2] at hst
  exact hk m (i + 1) s2 H2 .next s2 (by omega) ⟨σ, H2, woke_gi F (G1.own F) G1.ipn W, hnx H2 hst⟩
end
end GW
end

section
set_option Elab.async false
set_option linter.all false
set_option maxRecDepth 100000
/-! for, if within a generator def's body. -/
namespace GW
open PySem PySem.Spec PyProof.Rows L2 LY

theorem wpAny_mend {M : Model} {α : Type} {A : Around} {t : Sem α} {Q : α → Shared → Prop} {E : Value → Shared → Prop} {G : Array GenState} {s : Shared} (du : Dul G s) (h : wpAny M A t Q E s) :
    wpAny M A t (fun a s' => ∃ s1, s' = mendS G s1 ∧ Dul G s1 ∧ Q a s1) (fun a s' => ∃ s1, s' = mendS G s1 ∧ Dul G s1 ∧ E a s1) (mendS G s) :=
  fun Γ p hΓ => mend_wp (G := G) Γ t _ _ p s du (h Γ p hΓ)
section
variable {d : GD} {sp : GSpec} {ip : List (Addr × Obj)} {σ : L2.St} {H H1 H2 : Hp} {s s1 s3 : Shared}
/-- .. and on -/
theorem gi_onD {α : Type} {t : Sem α} {Q : α → Shared → Prop} {A : Around} (du : Dul s1.gens s3) (h : wpAny (model d.P d.w) A t Q (fun _ _ => False) s3) :
    wpAny (model d.P d.w) A t (fun a s' => ∃ s4, s' = mendS s1.gens s4 ∧ Dul s1.gens s4 ∧ Q a s4) (fun _ _ => False) (mendS s1.gens s3) :=
  wpAny_mono (wpAny_mend du h) (fun a s' q => q) fun a s' q => by
    obtain ⟨_, _, _, q⟩ := q
    exact q
/-- an iterator's object: what is true of it in every run -/
structure Mine (d : GD) (ip : List (Addr × Obj)) (b : Addr) : Prop where
  lo : d.n0 < b
  fr : b ∉ frs d.outer
  ce : ∀ x c, d.env.cells.lookup x = some c → c ≠ b
  pi : ∀ p ∈ ip, p.1 ≠ b
  pg : d.ga ≠ b
theorem Mine.of {b : Addr} (W : d.n0 ≤ s.heap.objs.size) (go : d.GoAt s.heap) (h : FpOk (d.cx s H) ip H1 b) : Mine d ip b := by
  obtain ⟨h1, h2, h3, h4, h5, h6⟩ := h
  have e : (cut d.n0 s.heap).objs.size = d.n0 := cut_size W
  refine ⟨?_, h3, h5, fun p hp => h6 p (List.mem_append_right _ hp), by
    obtain ⟨sl, e⟩ := go
    exact h6 (d.ga, _) (List.mem_append_left _ (mem_pinsAt List.mem_cons_self e))⟩
  rcases h4 with h4 | h4
  · exact absurd (show b ∈ ([] : List Addr) from h4) (by simp)
  · have h4' : (cut d.n0 s.heap).objs.size ≤ b := h4
    rw [e] at h4'
    exact Nat.lt_of_le_of_ne h4' (Ne.symm h2)
theorem Mine.fp {b : Addr} (h : Mine d ip b) (W : d.n0 ≤ s.heap.objs.size) (hn : H1 b = none) : FpOk (d.cx s H) ip H1 b := by
  have e : (cut d.n0 s.heap).objs.size = d.n0 := cut_size W
  refine ⟨hn, Nat.ne_of_gt h.lo, h.fr, .inr ?_, h.ce, fun p hp => ?_⟩
  · show (cut d.n0 s.heap).objs.size ≤ b
    rw [e]
    exact Nat.le_of_lt h.lo
  · rcases List.mem_append.mp hp with hp | hp
    · rw [List.mem_singleton.mp (of_pinsAt hp).1]
      exact h.pg
    · exact h.pi p hp

/-! ### a loop's call -/
def kOwn (c' : Code) (env : Env) (K : Flow → FinS) (J : Value → FinS) (gd : Bool → Bool) (lv : List Value → List Value) : Result → FinS :=
  match (runOwn c' env).wrap K J gd lv with
  | .call _ _ _ _ k => k
  | _ => fun _ => .unsupported ""
theorem runOwn_wrap {c' : Code} {env : Env} {K : Flow → Sem PySem.Fin} {J : Value → Sem PySem.Fin} {gd : Bool → Bool} {lv : List Value → List Value} : (runOwn c' env).wrap K J gd lv = .call c' none (gd false) (lv []) (kOwn c' env K J gd lv) := rfl
theorem kOwn_ok {c' : Code} {env : Env} {K : Flow → Sem PySem.Fin} {J : Value → Sem PySem.Fin} {gd : Bool → Bool} {lv : List Value → List Value} {f : Flow} : kOwn c' env K J gd lv (.ok f) = K f := rfl
theorem Plc.loop {c c' : Code} {fs : List Frame} {gd : Bool → Bool} {k : Result → Sem PySem.Fin} {l : List Value} {p : Pos} (h : Plc d c fs gd) (hw : c'.weight = 0) (hu : c'.cUnits = 0) : Plc d c' (.ret k none (gd false) l c p [] :: fs) (fun g => id (id g)) where
  over := (GenW.over_loop hw hu).trans h.over
  split := by
    show (splitAtGen fs).map _ = none
    rw [h.split]; rfl
  guard := by
    show (gd false || fs.any Frame.guarded) = false
    rw [h.gd, h.guard]; rfl
  gd := rfl
/-- for: W by the turn, a measure, the items so far, the heap of the last waking, .. -/
def tForG (wi : TI) (g : TG) (tb : TG2) : TG2 := fun D i G σ H => wi σ H fun J H1 => ∃ W : Nat → Nat → Nat → Hp → L2.St → Hp → Prop, (∃ m, W 0 m i G σ H1) ∧ ∀ k m i G σ H, W k m i G σ H →
  (J.stop k H ∧ D.nx i G σ H) ∨ (J.go k H ∧ ∃ N : Nat → Hp → L2.St → Hp → Prop, (∀ i' G' σ' H', N i' G' σ' H' → ∃ m', m' < m ∧ W (k + 1) m' i' G' σ' H') ∧
    ∀ x H', J.yld k H x H' → g x σ H' fun σ2 H2 => tb { nx := N, ct := N, bk := D.nx, rt := D.rt } i G σ2 H2)
theorem gs_for {sp : GSpec} {tg iter : Expr} {body : List Stmt} {pos : Pos} {wi : TI} {g : TG} {tb : TG2} (hi : ∀ s H, PI (d.cx s H) tg iter wi) (hg : ∀ s H, PG (d.cx s H) tg g) (hb : GSs d sp body tb)
    (hs : ∀ x, foldedSetIterable iter d.env x = pure x := by intro _; rfl) : GS d sp (.For tg iter body [] pos) (tForG wi g tb) := by
  refine ⟨fun m i s0 H0 ip σ H s c fs K J gd lv D hp hm hk G ht => ?_⟩
  rw [exec_For]
  refine sg_bindw (wpAny_standAt ?_)
  refine sg_bindw ?_
  rw [hp.over]
  refine wpAny_mono (gi_runD G fun I => (hi s0 H0).run _ _ σ H _ I ht) (fun v sv q => ?_) fun _ _ q => q.elim
  obtain ⟨s3, e, du, q⟩ := q
  subst e
  rw [hs v]
  refine sg_bindw (wpAny_pure ?_)
  refine sg_bindw (wpAny_standAt ?_)
  refine sg_bindw (wpAny_holding ?_)
  rw [hp.over]
  refine wpAny_mono (gi_onD du q) (fun itv si q => ?_) fun _ _ q => q.elim
  obtain ⟨s4, e, du4, it, fp, tn, Jt, H4, e2, I4, T, st4, f4, W, ⟨m0, w0⟩, turn⟩ := q
  subst e e2
  have G4 : d.Gi s0 H0 ip σ H4 (mendS s.gens s4) := G.then du4 G.ipn I4
  have mine : ∀ b ∈ fp, Mine d ip b := fun b hb => .of G.sz G.go (f4 b hb)
  rw [runOwn_wrap]
  refine sg_call fun p => ?_
  have loop : ∀ (mm k m i : Nat) (s0 : Shared) (H0 : Hp) (σ : L2.St) (H : Hp) (s : Shared), i + m = sp.n → W k mm i H0 σ H → d.Gi s0 H0 ip σ H s → tn k s.heap → (∀ b ∈ fp, H b = none) →
      Run d sp m s0 H0 (.forLoop tg (.ref it) body [] d.env) ((model d.P d.w).den (.forLoop tg (.ref it) body [] d.env)) (.ret (kOwn (.forLoop tg (.ref it) body [] d.env) d.env K J gd lv) none (gd false) (lv []) c p [] :: fs) s := by
    intro mm
    induction mm using Nat.strongRecOn with
    | ind mm ih =>
      intro k m i s0 H0 σ H s hm w G st fn
      have pl : Plc d (.forLoop tg (.ref it) body [] d.env) (.ret (kOwn (.forLoop tg (.ref it) body [] d.env) d.env K J gd lv) none (gd false) (lv []) c p [] :: fs) (fun g => id (id g)) := hp.loop rfl rfl
      have fok : ∀ b ∈ fp, FpOk (d.cx s0 H0) ip H b := fun b hb => (mine b hb).fp G.sz (fn b hb)
      show Run d sp m s0 H0 _ ((forTurn tg (.ref it) body [] d.env).onRaise (fun x => do noteFrame x d.env; theTreesLotGoes x)) _ s
      rw [Sem.onRaise_eq_wrap]
      simp only [forTurn]
      refine sg_bindw (wpAny_standAt ?_)
      refine sg_bindw ?_
      rw [pl.over]
      rcases turn k mm i H0 σ H w with ⟨stop, qn⟩ | ⟨go, N, hN, step⟩
      · refine wpAny_onRaise (wpAny_mono (gi_runD G fun I => T.done (d.cx s0 H0) rfl rfl rfl rfl k _ _ σ H _ I fok st stop) (fun r s5 q => ?_) fun _ _ q => q.elim)
        obtain ⟨s6, e, du6, hr, I6⟩ := q
        subst e hr
        refine sg_again rfl ?_
        exact sg_leaf (.ok .next) (hk m i s0 H0 .next _ hm ⟨σ, H, G.then du6 G.ipn I6, qn⟩)
      · refine wpAny_onRaise (wpAny_mono (gi_runD G fun I => T.item (d.cx s0 H0) rfl rfl rfl rfl k _ _ σ H _ I fok st go) (fun r s5 q => ?_) fun _ _ q => q.elim)
        obtain ⟨s6, e, du6, u, hr, q⟩ := q
        subst e hr
        dsimp only
        refine sg_bindw ?_
        rw [pl.over]
        refine wpAny_mono (gi_onD du6 q) (fun _ s7 q => ?_) fun _ _ q => q.elim
        obtain ⟨s8, e, du8, x, H8, I8, rx, y8, st8, fn8⟩ := q
        subst e
        have G8 : d.Gi s0 H0 ip σ H8 (mendS s.gens s8) := G.then du8 G.ipn I8
        have fok8 : ∀ b ∈ fp, FpOk (d.cx s0 H0) ip H8 b := fun b hb => (mine b hb).fp G.sz (fn8 b hb)
        have hip : ∀ p ∈ ip ++ pinsAt fp s8.heap, d.n0 < p.1 ∧ p.1 ≠ d.ga := fun p hp' => by
          rcases List.mem_append.mp hp' with z | z
          · exact G.ipn p z
          · exact ⟨(mine p.1 (of_pinsAt z).1).lo, Ne.symm (mine p.1 (of_pinsAt z).1).pg⟩
        have G9 : d.Gi s0 H0 (ip ++ pinsAt fp s8.heap) σ H8 (mendS s.gens s8) := G.then du8 hip (I8.pinned fok8 (T.obj _ _ st8))
        refine sg_bindw ?_
        rw [pl.over]
        refine wpAny_mono (gi_runD G9 fun I => (hg s0 H0).run _ _ σ H8 x u _ I rx (step x H8 y8)) (fun _ s10 q => ?_) fun _ _ q => q.elim
        obtain ⟨s11, e, du11, σ11, H11, I11, q11⟩ := q
        subst e
        rw [Sem.bind_eq_wrap', Sem.wrap_wrap]
        refine hb.run m i s0 H0 (ip ++ pinsAt fp s8.heap) σ11 H11 _ _ _ _ _ _ _ { nx := N, ct := N, bk := D.nx, rt := D.rt } pl hm (fun m' i' s0' H0' f s' hm' q => ?_) (G9.then du11 hip I11) q11
        have back : ∀ {σ' : L2.St} {H' : Hp}, d.Gi s0' H0' (ip ++ pinsAt fp s8.heap) σ' H' s' → N i' H0' σ' H' → Run d sp m' s0' H0' (.forLoop tg (.ref it) body [] d.env) (.pure (.again (.forLoop tg (.ref it) body [] d.env))) (.ret (kOwn (.forLoop tg (.ref it) body [] d.env) d.env K J gd lv) none (gd false) (lv []) c p [] :: fs) s' := fun {σ' H'} G' n' => by
          obtain ⟨mm', hlt, w'⟩ := hN _ _ _ _ n'
          have kp : ∀ b ∈ fp, ∀ o, s8.heap.get? b = some o → s'.heap.get? b = some o ∧ H' b = none := fun b hb o e => by
            obtain ⟨h1, h2, _⟩ := G'.inv.inv.pin (b, o) (List.mem_append_right _ (List.mem_append_right _ (mem_pinsAt hb e)))
            exact ⟨h1, h2⟩
          refine sg_again rfl (ih mm' hlt (k + 1) m' i' s0' H0' σ' H' s' hm' w' ⟨⟨G'.inv.inv.unpinned, G'.inv.nl⟩, G'.gens, G'.gs, G'.gn, fun p hp' => G'.ipn p (List.mem_append_left _ hp'), G'.sz, G'.go, G'.os⟩ (T.keep _ _ _ st8 fun b hb o e => (kp b hb o e).1) fun b hb => ?_)
          obtain ⟨o, e, _⟩ := T.obj _ _ st8 b hb
          exact (kp b hb o e).2
        have less : ∀ {σ' : L2.St} {H' : Hp}, d.Gi s0' H0' (ip ++ pinsAt fp s8.heap) σ' H' s' → d.Gi s0' H0' ip σ' H' s' := fun {σ' H'} G' => ⟨⟨G'.inv.inv.unpinned, G'.inv.nl⟩, G'.gens, G'.gs, G'.gn, fun p hp' => G'.ipn p (List.mem_append_left _ hp'), G'.sz, G'.go, G'.os⟩
        cases f with
        | next => obtain ⟨σ', H', G', n'⟩ := q; exact back G' n'
        | cont => obtain ⟨σ', H', G', n'⟩ := q; exact back G' n'
        | brk => obtain ⟨σ', H', G', n'⟩ := q; exact sg_leaf (.ok .next) (hk m' i' s0' H0' .next s' hm' ⟨σ', H', less G', n'⟩)
        | ret v => obtain ⟨x', σ', H', G', r', n'⟩ := q; exact sg_leaf (.ok (.ret v)) (hk m' i' s0' H0' (.ret v) s' hm' ⟨x', σ', H', less G', r', n'⟩)
  exact loop m0 0 m i s0 H0 σ H4 _ hm w0 G4 st4 fun b hb => (f4 b hb).1
end
end GW
end

section
set_option Elab.async false
set_option linter.all false
set_option maxRecDepth 100000
/-! next of such a generator. -/
namespace GW
open PySem PySem.Spec PyProof.Rows L2 LY

/-- nobody sleeps over it -/
def Clr (sl : Array (Option Value)) : Prop := sl = #[] ∨ sl = #[some (rawInt 0)]
/-- the object of a generator that is asleep, m items to come -/
structure Obj1 (d : GD) (sp : GSpec) (m : Nat) (b : Bag) (s : Shared) : Prop where
  go : ∃ sl, Clr sl ∧ s.heap.get? d.ga = some { d.go0 with slots := sl }
  shp : ∃ nm qn, d.go0.cls = .type "generator" ∧ d.go0.data = .fields #[.int d.g0 0, nm, qn]
  st : ∃ x, s.gens[d.g0]? = some x ∧ ((∃ c, x = .fresh c ∧ m = sp.n ∧ Rdy d sp m b c ((model d.P d.w).den c) []) ∨ ∃ k l c p fs cl, x = .suspended k l c p fs cl ∧ Rdy d sp m b c (k (.send .none)) fs)
theorem Obj1.ty {d : GD} {sp : GSpec} {m : Nat} {b : Bag} {s : Shared} (o : Obj1 d sp m b s) : s.TypeIs (.ref d.ga) "generator" := by
  obtain ⟨sl, _, e⟩ := o.go
  obtain ⟨_, _, h1, _⟩ := o.shp
  exact ⟨_, e, h1⟩
theorem Obj1.num {d : GD} {sp : GSpec} {m : Nat} {b : Bag} {s : Shared} {M : Model} {A : Around} {E : Value → Shared → Prop} {Q : Nat → Shared → Prop} (o : Obj1 d sp m b s) (h : Q d.g0 s) : wpAny M A (Builtin.Generator.genNumber (.ref d.ga)) Q E s := by
  obtain ⟨sl, hc, e⟩ := o.go
  obtain ⟨nm, qn, _, hd⟩ := o.shp
  unfold Builtin.Generator.genNumber
  refine wpAny_bind (wpAny_load e ?_)
  rcases hc with rfl | rfl
  · dsimp only
    rw [hd]
    show wpAny M A (pure ((d.g0 : Int).toNat)) Q E s
    rw [Int.toNat_natCast]; exact wpAny_pure h
  · dsimp only
    rw [hd]
    show wpAny M A (pure ((d.g0 : Int).toNat)) Q E s
    rw [Int.toNat_natCast]; exact wpAny_pure h
theorem obj_goes {d : GD} {sp : GSpec} {m : Nat} {b : Bag} {s : Shared} {H : Hp} {x : GenState} (h : (∃ c, x = .fresh c ∧ m = sp.n ∧ Rdy d sp m b c ((model d.P d.w).den c) []) ∨ ∃ k l c p fs cl, x = .suspended k l c p fs cl ∧ Rdy d sp m b c (k (.send .none)) fs)
    (W : Woke d sp (sp.n - m) b s H) : GoesTo (model d.P d.w) d.A (RR d sp m (b.hush s) H) (YY d sp (After d sp m) (sp.n - m) (b.hush s) H) x s := by
  rcases h with ⟨c, rfl, _, r⟩ | ⟨k, l, c, p, fs, cl, rfl, r⟩
  · exact rdy_iff.mp r s H W
  · exact rdy_iff.mp r s H W
abbrev Bag.ix (b : Bag) : List Nat := b.gns.map (·.1)
/-- what a run is measured from -/
def base0 (d : GD) (b : Bag) (s : Shared) : Shared := b.hush (s.setGen d.g0 .running)
/-- the item's side: what is known behind it -/
structure Item (d : GD) (sp : GSpec) (m : Nat) (b0 : Bag) (s : Shared) (H : Hp) (v : Value) (x : V) (s' : Shared) (H' : Hp) (b : Bag) : Prop where
  rv : RelV x v
  yl : sp.yld (sp.n - (m + 1)) H x H'
  did : d.Did (d.g0 :: b.ix) (base0 d b0 s) H s' H'
  gs : s.gens.size ≤ s'.gens.size
  ok : b.Ok d
  bag : b.In H' s'
  ob : Obj1 d sp m b s'
  qt : sp.qt = true → (∃ x, s'.gens[d.g0]? = some x ∧ x.bare = true) ∧ b.gns = []
theorem setGen_ne {s : Shared} {g i : Nat} {x : GenState} (h : g ≠ i) : (s.setGen g x).gens[i]? = s.gens[i]? := by
  show (s.gens.setIfInBounds g x)[i]? = _
  rw [Array.getElem?_setIfInBounds_ne h]
theorem setGen_at' {s : Shared} {g : Nat} {x : GenState} (h : g < s.gens.size) : (s.setGen g x).gens[g]? = some x := by
  show (s.gens.setIfInBounds g x)[g]? = some x
  rw [Array.getElem?_setIfInBounds_self, if_pos h]
theorem Did.set {d : GD} {xs : List Nat} {s s' : Shared} {H H' : Hp} {x : GenState} (h : d.Did xs s H s' H') : d.Did (d.g0 :: xs) s H (s'.setGen d.g0 x) H' :=
  ⟨h.os, fun i y h1 h2 => by
    by_cases q : d.g0 = i
    · exact .inr (q ▸ List.mem_cons_self)
    · rw [setGen_ne q] at h1
      exact (h.nl i y h1 h2).imp id (List.mem_cons_of_mem _), h.un, h.hok, fun i y h1 h2 h3 => by rw [setGen_ne (Nat.ne_of_gt h1)]; exact h.gens i y h1 h2 h3, h.go⟩
theorem Did.setB {d : GD} {xs : List Nat} {s s' : Shared} {H H' : Hp} {x : GenState} (h : d.Did xs s H s' H') (hx : x.bare = true) : d.Did xs s H (s'.setGen d.g0 x) H' :=
  ⟨h.os, fun i y h1 h2 => by
    by_cases q : d.g0 = i
    · subst q
      have h1' : (s'.gens.setIfInBounds d.g0 x)[d.g0]? = some y := h1
      rw [Array.getElem?_setIfInBounds_self] at h1'
      split at h1'
      · cases h1'
        rw [hx] at h2
        cases h2
      · cases h1'
    · rw [setGen_ne q] at h1
      exact h.nl i y h1 h2, h.un, h.hok, fun i y h1 h2 h3 => by rw [setGen_ne (Nat.ne_of_gt h1)]; exact h.gens i y h1 h2 h3, h.go⟩
theorem Bag.In.set {d : GD} {b : Bag} {s : Shared} {H : Hp} {x : GenState} (h : b.In H s) (ok : b.Ok d) : b.In H (s.setGen d.g0 x) :=
  ⟨h.obs, fun q hq => by rw [setGen_ne (Nat.ne_of_lt (ok.gns q hq).1)]; exact h.gns q hq⟩
/-- woken: the state in which its code runs on -/
theorem Woke.run {d : GD} {sp : GSpec} {i : Nat} {b : Bag} {s : Shared} {H : Hp} (h : Woke d sp i b s H) (ok : b.Ok d) : Woke d sp i b (s.setGen d.g0 .running) H :=
  ⟨⟨h.wk.os, h.wk.bs, h.wk.funs, h.wk.frf, h.wk.hok, h.wk.sz⟩, h.bag.set ok, by
    show d.g0 < (s.gens.setIfInBounds d.g0 .running).size
    rw [Array.size_setIfInBounds]; exact h.gn, h.go, h.gof, h.st⟩

section
variable {d : GD} {sp : GSpec} {m : Nat} {b : Bag} {s : Shared} {H : Hp} {B : Around} {Q : Option Value → Shared → Prop} {E : Value → Shared → Prop}
/-- the exception that ends an iterator, made and raised -/
theorem raises_stop {M : Model} {A : Around} {s : Shared} {E' : Value → Shared → Prop} {α β : Type} {f : α → Sem β} {Qx : β → Shared → Prop} (hn : A.handled = none)
    (h : ∀ a h', StopX (.ref a) h' → (∀ b o, s.heap.get? b = some o → h'.get? b = some o) → E' (.ref a) { s with heap := h' }) :
    wpAny M A (newExc (.type "StopIteration") [] >>= fun e => (raiseNew e : Sem α) >>= f) Qx E' s := by
  have made : ∀ {Q : Value → Shared → Prop}, (∀ a h' o, h'.get? a = some o → o.cls = .type "StopIteration" → (∃ vs, o.data = .fields vs ∧ vs[5]? = some Value.none) → (∀ b o, s.heap.get? b = some o → h'.get? b = some o) → Q (.ref a) { s with heap := h' }) →
      wpAny M A (newExc (.type "StopIteration") []) Q E' s := fun {Q} hq => by
    simp only [newExc, newTuple]
    refine wpAny_bind (wpAny_newObj_type (wpAny_bind (m := firstArgMember _ _) (wpAny_of_eq (a := Value.none) ?_ (wpAny_newObj_type ?_ (by size_fits)))) (by size_fits))
    · first | rfl | (simp only [firstArgMember]; rfl)
    · refine hq _ _ _ (Heap.get?_push_size _ rfl) rfl ⟨_, rfl, ?_⟩ fun b o e => Heap.get?_push_of_some _ (Heap.get?_push_of_some _ e)
      first | rfl | kernel_rfl
  refine wpAny_bind (made fun a h' o e1 e2 ⟨vs, e3, e4⟩ hk => ?_)
  simp only [raiseNew]
  refine wpAny_bind (wpAny_bind (wpAny_handled ?_))
  rw [hn]
  exact wpAny_bind (wpAny_pure (wpAny_throw (h a h' ⟨a, o, vs, rfl, e1, e2, e3, e4⟩ hk)))
theorem hush_size {b : Bag} {s : Shared} : (b.hush s).gens.size = s.gens.size := by
  show (s.gens.mapIdx _).size = _
  rw [Array.size_mapIdx]
theorem base0_size {s : Shared} : (base0 d b s).gens.size = s.gens.size := by
  unfold base0
  rw [hush_size]
  show (s.gens.setIfInBounds _ _).size = _
  rw [Array.size_setIfInBounds]
theorem gen_special {Q' : Option Value → Shared → Prop} {E' : Value → Shared → Prop} (hh : B.handled = none) (hA : d.A = B.in1) (hl : s.heap.NoLimit) (room : B.depth < recursionLimit) (ok : b.Ok d) (o : Obj1 d sp m b s) (W : Woke d sp (sp.n - m) b s H)
    (hitem : ∀ k, m = k + 1 → ∀ v x s' H' b', Item d sp k b s H v x s' H' b' → Q' (some v) s')
    (hstop : m = 0 → ∀ s' H' e h', d.Did [] (base0 d b s) H s' H' → s.gens.size ≤ s'.gens.size → sp.fin H H' → StopX e h' → (∀ a o, s'.heap.get? a = some o → h'.get? a = some o) → E' e { s' with heap := h' }) :
    wpZ (model d.P d.w) B (callSpecial? (.ref d.ga) "__next__") Q' E' s := by
  have ht := o.ty
  have o' := o
  obtain ⟨⟨sl, hcl, hgo0⟩, hsh, x, hx, hgo⟩ := o
  refine wpZ_special_slot (name := Str.ofString "__next__") ht slot_gen_next (wpZ_call_entry slot_gen_next ht entry_gen_next ?_ (args_gen_next _))
  show wpZ _ B.in1 (Builtin.Generator.genWake (.ref d.ga) (.send .none)) _ _ s
  unfold Builtin.Generator.genWake
  refine wpZ_lead (wpAny_holding (o'.num (wpZ_lead (wpAny_genState hx ?_))))
  have go := obj_goes hgo (W.run ok)
  have fin : ∀ r s1, RR d sp m (base0 d b s) H r s1 → (r = .ok (.ret .none) ∨ r = .ok .next) ∧ m = 0 ∧ ∃ H', d.Did [] (base0 d b s) H s1 H' ∧ s.gens.size ≤ s1.gens.size ∧ sp.fin H H' := fun r s1 hR => by
    obtain ⟨e0, hr, H', dd, gz, hf⟩ := hR
    rw [base0_size] at gz
    exact ⟨hr, e0, H', dd, gz, hf⟩
  have itm : ∀ v s1 fl c k fs l p, YY d sp (After d sp m) (sp.n - m) (base0 d b s) H v s1 fl c k fs → ∃ j, m = j + 1 ∧ ∃ y H' b', Item d sp j b s H v y (s1.setGen d.g0 (.suspended k l c p fs fl)) H' b' := fun v s1 fl c k fs l p hY => by
    obtain ⟨y, H', b', rv, yl, dd, gz, ok', bi, hqt, nx⟩ := hY
    rw [base0_size] at gz
    cases m with
    | zero => exact nx.elim
    | succ j =>
      refine ⟨j, rfl, y, H', b', rv, yl, Did.set dd, ?_, ok', bi.set ok', ⟨⟨sl, hcl, ?_⟩, hsh, ?_⟩, fun q => ⟨⟨_, setGen_at' (Nat.lt_of_lt_of_le W.gn gz), by rw [(hqt q).1]; rfl⟩, (hqt q).2⟩⟩
      · show s.gens.size ≤ (s1.gens.setIfInBounds _ _).size
        rw [Array.size_setIfInBounds]; exact gz
      · exact (dd.go _ hgo0).1
      · exact ⟨_, setGen_at' (Nat.lt_of_lt_of_le W.gn gz), .inr ⟨k, l, c, p, fs, fl, rfl, nx⟩⟩
  have stop : ∀ (hn : B.in1.handled = none) s1, (∃ H', d.Did [] (base0 d b s) H s1 H' ∧ s.gens.size ≤ s1.gens.size ∧ sp.fin H H') → m = 0 → ∀ {α : Type} (f : α → Sem PySem.Fin) (Qx : PySem.Fin → Shared → Prop),
      wpAny (model d.P d.w) B.in1 (newExc (.type "StopIteration") [] >>= fun e => (raiseNew e : Sem α) >>= f) Qx (fun e s' => E' e s') (s1.setGen d.g0 .finished) := fun hn s1 hf e0 {α} f Qx => by
    obtain ⟨H', dd, gz, hf⟩ := hf
    exact raises_stop hn fun a h' hs hk => hstop e0 (s1.setGen d.g0 .finished) H' _ _ (Did.setB dd rfl) (by
      show s.gens.size ≤ (s1.gens.setIfInBounds _ _).size
      rw [Array.size_setIfInBounds]; exact gz) hf hs hk
  have hn : B.in1.handled = none := hh
  rw [hA] at go
  have woken : GoesTo (model d.P d.w) B.in1 (RR d sp m (base0 d b s) H) (YY d sp (After d sp m) (sp.n - m) (base0 d b s) H) x (s.setGen d.g0 .running) := go
  have both : (x.status = .fresh ∨ x.status = .suspended) := by
    rcases hgo with ⟨c, rfl, _⟩ | ⟨k, l, c, p, fs, cl, rfl, _⟩
    · exact .inl rfl
    · exact .inr rfl
  have rest : ∀ (st : GenStatus), wpZ (model d.P d.w) B.in1 (.resume d.g0 (.send .none) [] fun r => (Pure.pure r : Sem GenResult)) (fun r s1 => (∃ v, r = .yielded v ∧ Q' (some v) s1) ∨ (r = .returned .none ∧ ∃ s2, s1 = s2.setGen d.g0 .finished ∧ m = 0 ∧ ∃ H', d.Did [] (base0 d b s) H s2 H' ∧ s.gens.size ≤ s2.gens.size ∧ sp.fin H H')) (fun e s' => E' e s') s := fun _ => by
    refine wpZ_wake hx woken (fun r s1 hR => ?_) fun v s1 fl c k l p fs _ hY => ?_
    · obtain ⟨hr, e0, hf⟩ := fin r s1 hR
      have er : End.result (.ret r) = .returned .none := by rcases hr with hr | hr <;> rw [hr] <;> rfl
      rw [er]
      exact wpZ_pure (.inr ⟨rfl, s1, rfl, e0, hf⟩)
    · obtain ⟨j, ej, y, H', b', it⟩ := itm v s1 fl c k fs l p hY
      exact wpZ_pure (.inl ⟨v, rfl, hitem j ej v y _ H' b' it⟩)
  rcases both with es | es
  all_goals
    rw [es]
    refine wpZ_lead (wpAny_roomToWake hl room ?_)
    refine wpZ_bind (t := resume d.g0 (.send .none)) (wpZ_mono (rest .fresh) (fun r s1 q => ?_) fun _ _ q => q)
    rcases q with ⟨v, rfl, q⟩ | ⟨rfl, s2, rfl, e0, hf⟩
    · exact wpZ_pure ⟨v, rfl, q⟩
    · refine wpZ_of ?_
      show wpAny _ B.in1 (newExc (.type "StopIteration") [] >>= fun e => raiseNew e >>= _) _ _ _
      exact stop hn s2 hf e0 _ _
/-- next, as a loop asks it -/
theorem gen_next (hh : B.handled = none) (hA : d.A = B.in1) (hl : s.heap.NoLimit) (room : B.depth < recursionLimit) (ok : b.Ok d) (o : Obj1 d sp m b s) (W : Woke d sp (sp.n - m) b s H)
    (hitem : ∀ k, m = k + 1 → ∀ v x s' H' b', Item d sp k b s H v x s' H' b' → Q (some v) s')
    (hstop : m = 0 → ∀ s' H' h', d.Did [] (base0 d b s) H s' H' → s.gens.size ≤ s'.gens.size → sp.fin H H' → (∀ a o, s'.heap.get? a = some o → h'.get? a = some o) → Q none { s' with heap := h' }) :
    wpZ (model d.P d.w) B (pyNext (.ref d.ga)) Q E s := by
  unfold pyNext
  refine wpZ_bind (wpZ_attempt (gen_special hh hA hl room ok o W (fun k e v x s' H' b' it => ?_) fun e s' H' x h' dd gz hf hs hk => ?_))
  · exact wpZ_pure (hitem k e v x s' H' b' it)
  · obtain ⟨a, ox, vs, rfl, ho, hc, _⟩ := hs
    refine wpZ_of (wpAny_bind (wpAny_isInstance (T := "StopIteration") (b := true) ⟨_, ho, hc⟩ isSubtype_stop ?_))
    exact wpAny_pure (hstop e s' H' h' dd gz hf hk)
end
end GW
end

section
set_option Elab.async false
set_option linter.all false
set_option maxRecDepth 100000
/-! «yield from» a generator: the notes on its object, where it stands. -/
namespace GW
open PySem PySem.Spec PyProof.Rows L2 LY GenW

theorem over_under {A : Around} {c c' : Code} {fs : List Frame} {k : Result → FinS} {g : Bool} {l kp : List Value} {p : Pos} : A.over c' (.ret k none g l c p kp :: fs) = (A.over c fs).under c' := by
  obtain ⟨hd, dp, fr, gs, un⟩ := A
  have e1 : dp + frameCount ((Frame.ret k none g l c p kp :: fs).map Frame.where_) + c'.weight = dp + frameCount (fs.map Frame.where_) + c.weight + c'.weight := by
    have z : frameCount ((Frame.ret k none g l c p kp :: fs).map Frame.where_) = frameCount ((c, p) :: fs.map Frame.where_) := rfl
    rw [z, frameCount_cons]
    omega
  have e2 : un + unitsOf ((Frame.ret k none g l c p kp :: fs).map Frame.where_) + c'.cUnits = un + unitsOf (fs.map Frame.where_) + c.cUnits + c'.cUnits := by
    have z : unitsOf ((Frame.ret k none g l c p kp :: fs).map Frame.where_) = unitsOf ((c, p) :: fs.map Frame.where_) := rfl
    rw [z, unitsOf_cons]
    omega
  have e3 : pushEnvs c'.envs (pushEnvs (envsOf ((Frame.ret k none g l c p kp :: fs).map Frame.where_)) fr) = pushEnvs c'.envs (pushEnvs c.envs (pushEnvs (envsOf (fs.map Frame.where_)) fr)) := by
    have z : envsOf ((Frame.ret k none g l c p kp :: fs).map Frame.where_) = envsOf ((c, p) :: fs.map Frame.where_) := rfl
    rw [z, envsOf_cons, pushEnvs_eq, pushEnvs_eq, pushEnvs_eq, pushEnvs_eq, pushEnvs_eq]
    cases fr <;> simp
  have e4 : pushGuards c'.guards (pushGuards (guardsOf ((Frame.ret k none g l c p kp :: fs).map Frame.where_)) gs) = pushGuards c'.guards (pushGuards c.guards (pushGuards (guardsOf (fs.map Frame.where_)) gs)) := by
    have z : guardsOf ((Frame.ret k none g l c p kp :: fs).map Frame.where_) = guardsOf ((c, p) :: fs.map Frame.where_) := rfl
    rw [z, guardsOf_cons, pushGuards_eq, pushGuards_eq, pushGuards_eq, pushGuards_eq, pushGuards_eq]
    cases gs <;> simp
  show Around.mk _ _ _ _ _ = Around.mk _ _ _ _ _
  congr 1
end GW
end

section
set_option Elab.async false
set_option linter.all false
set_option maxRecDepth 100000
/-! One who walks a generator: what stays true of him while it runs. -/
namespace GW
open PySem PySem.Spec PyProof.Rows L2 LY

/-- the addresses from n on -/
def above (n : Nat) (h : Heap) : List Addr := (List.range h.objs.size).filter fun a => decide (n ≤ a)
theorem mem_above {n : Nat} {h : Heap} {b : Addr} : b ∈ above n h ↔ b < h.objs.size ∧ n ≤ b := by
  unfold above
  rw [List.mem_filter, List.mem_range, decide_eq_true_iff]
theorem below_of {n : Nat} {h : Heap} {b : Addr} {o : Obj} (hb : b ∉ above n h) (e : h.get? b = some o) : b < n := by
  rcases Nat.lt_or_ge b n with q | q
  · exact q
  · exact absurd (mem_above.mpr ⟨Heap.lt_size e, q⟩) hb
theorem un_cut {fs : List Addr} {n : Nat} {H H' : Hp} {h h' : Heap} (u : Un fs [] H H' (cut n h) h') : Un fs (above n h) H H' h h' := by
  have c : ∀ {b o}, b ∉ above n h → h.get? b = some o → (cut n h).get? b = some o := fun {b o} hb e => (cut_get (below_of hb e)).trans e
  refine ⟨fun b o e hn hf hx => u.keep b o (c hx e) hn hf (by simp), fun b o e hn hf hx => u.slot b o (c hx e) hn hf (by simp), fun b o e hn hx => u.free b o (c hx e) hn (by simp), fun b o e hx => u.there b o (c hx e) (by simp), u.tups, u.frzs, u.tbls⟩
/-- a generator that a def of the layer's walks -/
structure Fits (X : Cx) (pins : List (Addr × Obj)) (d : GD) : Prop where
  P : d.P = X.prog
  w : d.w = X.w
  base : d.base = X.base
  outer : d.outer = X.stack
  os : d.os = X.s_0.os
  n0 : X.s_0.heap.objs.size ≤ d.n0
  loc : X.env.locals < d.n0
  cells : ∀ x c, X.env.cells.lookup x = some c → c < d.n0
  pins : ∀ p ∈ X.pn ++ pins, p.1 < d.n0
  fix : d.Fix
section
variable {X : Cx} {pins : List (Addr × Obj)} {d : GD} {σ : L2.St} {H H' : Hp} {s s' : Shared}
theorem Fits.wk (F : Fits X pins d) (I : Inv X pins σ H (dullS s)) (hz : d.n0 < s.heap.objs.size) : d.Wk s H := by
  refine ⟨I.os.trans F.os.symm, ?_, ?_, ?_, ?_, hz⟩
  · rw [F.base]; exact I.bs
  · rw [F.base, F.outer]; exact I.stack
  · rw [F.outer]; exact I.stkFree
  · rw [F.P, F.w]; exact I.hok
theorem Fits.inv (F : Fits X pins d) {xs : List Nat} {b : Bag} (I : Inv X pins σ H (dullS s)) (D : d.Did xs (base0 d b s) H s' H') : Inv X pins σ H' (dullS s') := by
  have u : Un (frs X.stack) (above d.n0 s.heap) H H' s.heap s'.heap := by
    have z := un_cut D.un
    rw [F.outer] at z
    exact z
  have hok : HOk X.prog X.w H' s'.heap := by
    have z := D.hok
    rw [F.P, F.w] at z
    exact z
  refine I.call' (s' := dullS s') D.os u hok allBare_dull fun b hb => ?_
  obtain ⟨_, hb⟩ := mem_above.mp hb
  refine ⟨.inr (Nat.le_trans F.n0 hb), Nat.ne_of_gt (Nat.lt_of_lt_of_le F.loc hb), fun x c e => Nat.ne_of_lt (Nat.lt_of_lt_of_le (F.cells x c e) hb), fun p hp => Nat.ne_of_lt (Nat.lt_of_lt_of_le (F.pins p hp) hb)⟩
theorem Fits.notfs (F : Fits X pins d) {a : Addr} (I : Inv X pins σ H s) (h : d.n0 ≤ a) : a ∉ X.fs := fun z => by
  have z' : a < d.n0 := by
    rcases I.ok.stk with e | ⟨e, _⟩
    · exact F.fix.fz a (by rw [F.outer, e]; exact z)
    · refine F.fix.fz a ?_
      rw [F.outer, e]
      unfold frs
      rw [List.filterMap_cons]
      cases X.env.frame with
      | none => exact z
      | some y => exact List.mem_cons_of_mem _ z
  exact absurd (Nat.lt_of_lt_of_le z' h) (Nat.lt_irrefl _)
/-- its own objects, pinned while the def does something else -/
theorem Fits.pin (F : Fits X pins d) (I : Inv X pins σ H s) {b : Bag} {o : Obj} (ok : b.Ok d) (bi : ∀ p ∈ b.obs, s.heap.get? p.1 = some p.2 ∧ H p.1 = none) (go : s.heap.get? d.ga = some o) (gof : H d.ga = none) (goc : ∀ v, o.data ≠ .cell v) : Inv X (pins ++ (d.ga, o) :: b.obs) σ H s := by
  refine I.pins_of fun p hp => ?_
  rcases List.mem_append.mp hp with hp | hp
  · exact I.pin p (List.mem_append_right _ hp)
  · rcases List.mem_cons.mp hp with e | hp
    · subst e
      exact ⟨go, gof, Nat.ne_of_gt (Nat.lt_trans F.loc F.fix.gon), F.notfs I (Nat.le_of_lt F.fix.gon), goc⟩
    · obtain ⟨h1, h2⟩ := bi p hp
      obtain ⟨h3, h4⟩ := ok.obs p hp
      exact ⟨h1, h2, Nat.ne_of_gt (Nat.lt_of_lt_of_le F.loc h3), F.notfs I h3, h4⟩
/-- its object, that others may note on -/
theorem Fits.fp (F : Fits X pins d) (I : Inv X pins σ H s) (gof : H d.ga = none) : FpOk X pins H d.ga :=
  ⟨gof, Nat.ne_of_gt (Nat.lt_trans F.loc F.fix.gon), F.notfs I (Nat.le_of_lt F.fix.gon), .inr (Nat.le_trans F.n0 (Nat.le_of_lt F.fix.gon)), fun x c e => Nat.ne_of_lt (Nat.lt_trans (F.cells x c e) F.fix.gon), fun p hp => Nat.ne_of_lt (Nat.lt_trans (F.pins p hp) F.fix.gon)⟩
end

/-! ### what a generator's run tells its walker -/
theorem base0_get {d : GD} {b : Bag} {s : Shared} {i : Nat} {x : GenState} (h : (base0 d b s).gens[i]? = some x) (hx : x.bare = false) : s.gens[i]? = some x ∧ i ≠ d.g0 ∧ i ∉ b.ix := by
  have h' : ((s.setGen d.g0 .running).gens.mapIdx fun i x => if b.gns.any (·.1 == i) then .finished else x)[i]? = some x := h
  rw [Array.getElem?_mapIdx] at h'
  cases q : (s.setGen d.g0 .running).gens[i]? with
  | none => rw [q] at h'; cases h'
  | some y =>
    rw [q] at h'
    have e : (if b.gns.any (·.1 == i) then GenState.finished else y) = x := Option.some.inj h'
    split at e
    · rw [← e] at hx; cases hx
    · rename_i hn
      subst e
      have hi : i ∉ b.ix := fun z => by
        obtain ⟨p, hp, e⟩ := List.mem_map.mp z
        exact hn (List.any_eq_true.mpr ⟨p, hp, by rw [e]; exact beq_self_eq_true i⟩)
      by_cases hg : d.g0 = i
      · subst hg
        have q' : (s.gens.setIfInBounds d.g0 .running)[d.g0]? = some y := q
        rw [Array.getElem?_setIfInBounds_self] at q'
        split at q'
        · cases q'; cases hx
        · cases q'
      · rw [setGen_ne hg] at q
        exact ⟨q, Ne.symm hg, hi⟩
/-- the sleepers ahead of him, measured from his own start -/
theorem Nl.woke {d : GD} {b : Bag} {xs : List Nat} {a : Array GenState} {s s' : Shared} (h : Nl (d.g0 :: b.ix) a s.gens) (k : Nl xs (base0 d b s).gens s'.gens) : Nl xs a s'.gens := fun i x e hx => by
  rcases k i x e hx with z | z
  · obtain ⟨h1, h2, h3⟩ := base0_get z hx
    rcases h i x h1 hx with y | y
    · exact .inl y
    · rcases List.mem_cons.mp y with y | y
      · exact absurd y h2
      · exact absurd y h3
  · exact .inr z
theorem Did.keeps {d : GD} {b : Bag} {xs : List Nat} {s s' : Shared} {H H' : Hp} (h : d.Did xs (base0 d b s) H s' H') (ok : b.Ok d) {i : Nat} {x : GenState} (hi : i < d.g0) (e : s.gens[i]? = some x) (hx : sleeps x = true) : s'.gens[i]? = some x := by
  refine h.gens i x hi ?_ hx
  show ((s.setGen d.g0 .running).gens.mapIdx _)[i]? = some x
  rw [Array.getElem?_mapIdx, setGen_ne (Nat.ne_of_gt hi), e]
  have hn : b.gns.any (·.1 == i) = false := by
    cases q : b.gns.any (·.1 == i) with
    | false => rfl
    | true =>
      obtain ⟨p, hp, e⟩ := List.any_eq_true.mp q
      have := (ok.gns p hp).1
      have e' : p.1 = i := eq_of_beq e
      omega
  show some (if b.gns.any (·.1 == i) then GenState.finished else x) = some x
  rw [hn]
  rfl
/-- the notes on its object -/
theorem wpAny_slept {M : Model} {A : Around} {E : Value → Shared → Prop} {Q : Unit → Shared → Prop} {s : Shared} {a : Addr} {o : Obj} {sl t : Array (Option Value)} {b : Bool} (ho : s.heap.get? a = some { o with slots := sl }) (hc : o.cls = .type "generator") {vs : Array Value} (hd : o.data = .fields vs)
    (hs : (b = true ∧ Clr sl ∧ t = #[some (rawInt 1)]) ∨ (b = false ∧ sl = #[some (rawInt 1)] ∧ t = #[some (rawInt 0)]))
    (h : ∀ h', h'.get? a = some { o with slots := t } → (∀ c u, c ≠ a → s.heap.get? c = some u → h'.get? c = some u) → h'.objs.size = s.heap.objs.size → Q () { s with heap := h' }) :
    wpAny M A (Builtin.Generator.sleptOver (.ref a) b) Q E s := by
  unfold Builtin.Generator.sleptOver
  refine wpAny_bind (wpAny_load ho ?_)
  dsimp only
  rw [if_neg (by rw [hc]; decide)]
  simp only [setSlotAt]
  rw [if_neg (by decide)]
  refine wpAny_updatePart ho ?_
  have up : ∀ f : Obj → Obj, f { o with slots := sl } = { o with slots := t } → Q () { s with heap := s.heap.update a f } := fun f hf => by
    refine h _ ?_ (fun c u hne e => (Heap.get?_update_ne _ _ _ _ hne).trans e) (Heap.size_update _ _ _)
    rw [Heap.get?_update_self f ho (by rw [hf]; exact Obj.isFreed_of_fields (vs := vs) hd), hf]
  apply up
  rcases hs with ⟨rfl, hcl, rfl⟩ | ⟨rfl, rfl, rfl⟩
  · rcases hcl with rfl | rfl <;> rfl
  · rfl
end GW
end

section
set_option Elab.async false
set_option linter.all false
set_option maxRecDepth 100000
/-! «yield from» a generator: its turns. -/
namespace GW
open PySem PySem.Spec PyProof.Rows L2 LY GenW

/-- a generator that a generator def's body walks -/
structure FitsG (d : GD) (ip : List (Addr × Obj)) (di : GD) : Prop where
  P : di.P = d.P
  w : di.w = d.w
  base : di.base = d.base
  outer : di.outer = d.env :: d.outer
  os : di.os = d.os
  n0 : d.n0 < di.n0
  g0 : d.g0 < di.g0
  ga : d.ga < di.n0
  cells : ∀ x c, d.env.cells.lookup x = some c → c < di.n0
  ip : ∀ p ∈ ip, p.1 < di.n0
  fix : di.Fix
theorem FitsG.fits {d di : GD} {ip : List (Addr × Obj)} (F : FitsG d ip di) {s0 : Shared} {H0 : Hp} (hos : s0.os = d.os) : Fits (d.cx s0 H0) ip di := by
  refine ⟨F.P, F.w, F.base, F.outer, F.os.trans hos.symm, ?_, F.n0, F.cells, fun p hp => ?_, F.fix⟩
  · show (s0.heap.objs.take d.n0).size ≤ di.n0
    have := F.n0
    simp
    omega
  · rcases List.mem_append.mp hp with hp | hp
    · rw [List.mem_singleton.mp (of_pinsAt hp).1]
      exact F.ga
    · exact F.ip p hp
/-- the context does not ask what the generators' table was -/
theorem cx_gens {d : GD} {ip : List (Addr × Obj)} {σ : L2.St} {s0 s : Shared} {H0 H : Hp} {g : Array GenState} (I : Inv (d.cx s0 H0) ip σ H s) : Inv (d.cx { s0 with gens := g } H0) ip σ H s :=
  ⟨⟨I.ok.mod, I.ok.kind, I.ok.glob, I.ok.blt, I.ok.above, I.ok.inj, I.ok.has, I.ok.cab, I.ok.hd, I.ok.frames, I.ok.stk, I.ok.exf, I.ok.bs, I.ok.bsz, I.ok.noex, I.ok.exfs, I.ok.funs, I.ok.frf⟩, I.os, I.bare, I.base, I.loc, I.cell, I.free, I.freeC, I.pin, I.hok, I.len⟩
/-- amid «yield from»: j items are out; t: the notes on its object -/
structure Yat (d di : GD) (spi : GSpec) (ip : List (Addr × Obj)) (σ : L2.St) (t : Array (Option Value)) (s0 : Shared) (H0 : Hp) (j : Nat) (b : Bag) (H : Hp) (s : Shared) : Prop where
  inv : Inv (d.cx s0 H0) ip σ H (dullS s)
  nl : Nl (di.g0 :: b.ix) s0.gens s.gens
  gens : ∀ (i : Nat) (x : GenState), i < d.g0 → s0.gens[i]? = some x → sleeps x = true → s.gens[i]? = some x
  gs : s0.gens.size ≤ s.gens.size
  gn : d.g0 < s0.gens.size
  ipn : ∀ p ∈ ip, d.n0 < p.1 ∧ p.1 ≠ d.ga
  sz : d.n0 ≤ s0.heap.objs.size
  go : d.GoAt s0.heap
  os : s0.os = d.os
  le : j ≤ spi.n
  got : s.heap.get? di.ga = some { di.go0 with slots := t }
  shp : ∃ nm qn, di.go0.cls = .type "generator" ∧ di.go0.data = .fields #[.int di.g0 0, nm, qn]
  st : ∃ x, s.gens[di.g0]? = some x ∧ ((∃ c, x = .fresh c ∧ j = 0 ∧ Rdy di spi (spi.n - j) b c ((model di.P di.w).den c) []) ∨ ∃ k l c p fs cl, x = .suspended k l c p fs cl ∧ Rdy di spi (spi.n - j) b c (k (.send .none)) fs)
  ok : b.Ok di
  bag : b.In H s
  gi : di.g0 < s.gens.size
  szi : di.n0 < s.heap.objs.size
  gof : H di.ga = none
section
variable {d di : GD} {sp spi : GSpec} {ip : List (Addr × Obj)} {σ : L2.St} {t : Array (Option Value)} {s0 s : Shared} {H0 H : Hp} {i j m : Nat} {b : Bag}
theorem Yat.ob (Y : Yat d di spi ip σ t s0 H0 j b H s) (ht : Clr t) : Obj1 di spi (spi.n - j) b s := by
  refine ⟨⟨t, ht, Y.got⟩, Y.shp, ?_⟩
  obtain ⟨x, hx, h⟩ := Y.st
  refine ⟨x, hx, h.imp (fun ⟨c, e, e0, r⟩ => ⟨c, e, by rw [e0]; rfl, r⟩) id⟩
theorem Yat.next {B : Around} {Q : Option Value → Shared → Prop} {E : Value → Shared → Prop} (F : FitsG d ip di) (hh : B.handled = none) (hA : di.A = B.in1) (room : B.depth < recursionLimit) (Y : Yat d di spi ip σ t s0 H0 j b H s) (ht : Clr t) (st : spi.st j H)
    (hitem : j < spi.n → ∀ v x s' H' b' t', Clr t' → Yat d di spi ip σ t' s0 H0 (j + 1) b' H' s' → RelV x v → spi.yld j H x H' → Q (some v) s')
    (hstop : j = spi.n → ∀ e s' H', d.Gi s0 H0 ip σ H' s' → spi.fin H H' → StopX e s'.heap → E e s') : wpZ (model d.P d.w) B (callSpecial? (.ref di.ga) "__next__") Q E s := by
  have FX := F.fits (H0 := H0) Y.os
  have W : Woke di spi (spi.n - (spi.n - j)) b s H := ⟨FX.wk Y.inv Y.szi, Y.bag, Y.gi, ⟨t, Y.got⟩, Y.gof, by rw [show spi.n - (spi.n - j) = j by have := Y.le; omega]; exact st⟩
  have z := gen_special (d := di) (sp := spi) (m := spi.n - j) (b := b) (s := s) (H := H) (B := B) (Q' := Q) (E' := E) hh hA (Inv.nolimit (s := dullS s) Y.inv) room Y.ok (Y.ob ht) W (fun k ek v x s1 H1 b1 it => ?_) fun em s1 H1 e h1 dd gz hf hs hk => ?_
  · rw [F.P, F.w] at z
    exact z
  · have e1 : spi.n - (k + 1) = j := by have := Y.le; omega
    have e2 : k = spi.n - (j + 1) := by omega
    have yl := it.yl
    rw [e1] at yl
    have ob := it.ob
    obtain ⟨⟨t', ht', got'⟩, shp', x', hx', hst'⟩ := ob
    have lt : j < spi.n := by omega
    refine hitem lt v x s1 H1 b1 t' ht' ⟨FX.inv Y.inv it.did, Y.nl.woke it.did.nl, fun i x h1 h2 h3 => Did.keeps it.did Y.ok (Nat.lt_trans h1 F.g0) (Y.gens i x h1 h2 h3) h3, Nat.le_trans Y.gs it.gs, Y.gn, Y.ipn, Y.sz, Y.go, Y.os, lt, got', shp', ⟨x', hx', ?_⟩, it.ok, it.bag, Nat.lt_of_lt_of_le Y.gi it.gs, ?_, ?_⟩ it.rv yl
    · rcases hst' with ⟨c, e, em, r⟩ | h
      · omega
      · right
        rw [e2] at h
        exact h
    · exact Nat.lt_trans F.fix.gon (Heap.lt_size got')
    · exact (it.did.go _ Y.got).2
  · have e1 : j = spi.n := by have := Y.le; omega
    have I1 : Inv (d.cx s0 H0) ip σ H1 (dullS s1) := FX.inv Y.inv dd
    refine hstop e1 e _ H1 ⟨⟨(Inv.kept (h' := h1) (t' := s1.toks) I1 hk : Inv (d.cx s0 H0) ip σ H1 { dullS s1 with heap := h1, toks := s1.toks }), Y.nl.woke dd.nl⟩, fun i x h1 h2 h3 => Did.keeps dd Y.ok (Nat.lt_trans h1 F.g0) (Y.gens i x h1 h2 h3) h3, Nat.le_trans Y.gs gz, Y.gn, Y.ipn, Y.sz, Y.go, Y.os⟩ hf hs
end
end GW
end

section
set_option Elab.async false
set_option linter.all false
set_option maxRecDepth 100000
/-! «yield from» a generator, within a generator's body. -/
namespace GW
open PySem PySem.Spec PyProof.Rows L2 LY GenW

abbrev yfC (a : Addr) : Code := .builtin "proto.yield_from" ⟨[.ref a, .bool false, .none], []⟩
section
variable {d di : GD} {sp spi : GSpec} {ip : List (Addr × Obj)} {σ : L2.St} {t : Array (Option Value)} {s0 s : Shared} {H0 H : Hp} {i j m : Nat} {b : Bag}
/-- the outer generator's bag while the inner one hands out -/
def bag2 (d di : GD) (ip : List (Addr × Obj)) (b : Bag) (x : GenState) (s : Shared) : Bag := ⟨pinsAt (d.mine ip) s.heap ++ (di.ga, { di.go0 with slots := #[some (rawInt 1)] }) :: b.obs, (di.g0, x) :: b.gns⟩
theorem hush_get {b : Bag} {s : Shared} {i : Nat} {x : GenState} (h : s.gens[i]? = some x) (hi : i ∉ b.ix) : (b.hush s).gens[i]? = some x := by
  show (s.gens.mapIdx _)[i]? = some x
  rw [Array.getElem?_mapIdx, h]
  have hn : b.gns.any (·.1 == i) = false := by
    cases q : b.gns.any (·.1 == i) with
    | false => rfl
    | true =>
      obtain ⟨p, hp, e⟩ := List.any_eq_true.mp q
      exact absurd (List.mem_map.mpr ⟨p, hp, eq_of_beq e⟩) hi
  show some (if b.gns.any (·.1 == i) then GenState.finished else x) = some x
  rw [hn]
  rfl
theorem of_hush {b : Bag} {s : Shared} {i : Nat} {x : GenState} (h : (b.hush s).gens[i]? = some x) (hx : sleeps x = true) : s.gens[i]? = some x := by
  have h' : (s.gens.mapIdx fun i x => if b.gns.any (·.1 == i) then .finished else x)[i]? = some x := h
  rw [Array.getElem?_mapIdx] at h'
  cases q : s.gens[i]? with
  | none => rw [q] at h'; cases h'
  | some y =>
    rw [q] at h'
    have e : (if b.gns.any (·.1 == i) then GenState.finished else y) = x := Option.some.inj h'
    split at e
    · rw [← e] at hx; cases hx
    · rw [e]
/-- noted on -/
theorem Yat.noted (F : FitsG d ip di) {h' : Heap} {t' : Array (Option Value)} (Y : Yat d di spi ip σ t s0 H0 j b H s) (e : h'.get? di.ga = some { di.go0 with slots := t' }) (k : ∀ c u, c ≠ di.ga → s.heap.get? c = some u → h'.get? c = some u) (hz : h'.objs.size = s.heap.objs.size) :
    Yat d di spi ip σ t' s0 H0 j b H { s with heap := h' } := by
  have FX := F.fits (H0 := H0) Y.os
  refine ⟨(Inv.turnedL (t' := s.toks) (ch := [di.ga]) Y.inv (fun c u hc e => k c u (fun z => hc (z ▸ List.mem_singleton.mpr rfl)) e) fun c hc => by rw [List.mem_singleton.mp hc]; exact FX.fp Y.inv Y.gof : Inv (d.cx s0 H0) ip σ H { dullS s with heap := h', toks := s.toks }), Y.nl, Y.gens, Y.gs, Y.gn, Y.ipn, Y.sz, Y.go, Y.os, Y.le, e, Y.shp, Y.st, Y.ok, ⟨fun p hp => ⟨k _ _ (Y.ok.nga p hp) (Y.bag.obs p hp).1, (Y.bag.obs p hp).2⟩, Y.bag.gns⟩, Y.gi, ?_, Y.gof⟩
  show di.n0 < h'.objs.size
  rw [hz]
  exact Y.szi
end
end GW
end

section
set_option Elab.async false
set_option linter.all false
set_option maxRecDepth 100000
set_option maxHeartbeats 1000000
/-! «yield from» a generator: all its turns. -/
namespace GW
open PySem PySem.Spec PyProof.Rows L2 LY GenW

theorem gen_close : typeLookup (.type "generator") (Str.ofString "close") = (pure (some (.builtin "generator.close")) : Sem (Option Value)) := by
  rw [typeLookup_type, builtinLookup_eq_fast]
  kernel_rfl
section
variable {M : Model} {A : Around} {R : Result → Shared → Prop} {Y : YP} {c : Code} {fs : List Frame} {s : Shared}
theorem sg_bindZ {α : Type} {m : Sem α} {K : α → FinS}
    (h : wpZ M (A.over c fs) m (fun a s' => Sg M A R Y c (K a) fs s') (fun x s' => Sg M A R Y c (.raise x) fs s') s) : Sg M A R Y c (m >>= K) fs s := by
  rw [Sem.bind_eq_wrap']
  exact sg_wrapZ h
end
/-- what is wanted of the inner generator's turns: j of its items are out, i of the outer one's; G: the heap of the outer one's last waking -/
def YfOk (sp spi : GSpec) (N : Nat → Hp → Hp → Prop) (C : Nat → Nat → Hp → Hp → Prop) : Prop := ∀ j i G H, C j i G H → j ≤ spi.n → spi.st j H ∧ (j = spi.n → ∀ H2, spi.fin H H2 → N i G H2) ∧
  (j < spi.n → i < sp.n ∧ ∀ x H2, spi.yld j H x H2 → sp.yld i G x H2 ∧ ∀ G', sp.st (i + 1) G' → C (j + 1) (i + 1) G' G')
section
variable {d di : GD} {sp spi : GSpec} {ip : List (Addr × Obj)} {σ : L2.St} {fs : List Frame} {N : Nat → Hp → Hp → Prop} {C : Nat → Nat → Hp → Hp → Prop}
theorem Yat.own {t : Array (Option Value)} {s0 s : Shared} {H0 H : Hp} {j : Nat} {b : Bag} (Y : Yat d di spi ip σ t s0 H0 j b H s) : d.Own ip σ H s :=
  ⟨Y.inv.loc, Y.inv.cell, Y.inv.free, Y.inv.freeC, fun p hp => by
    obtain ⟨h1, h2, _, _, h5⟩ := Y.inv.pin p (List.mem_append_right _ hp)
    exact ⟨h1, h2, (Y.ipn p hp).1, h5⟩, by
      obtain ⟨sl, e⟩ := Y.go
      exact ⟨sl, (Y.inv.pin (d.ga, _) (List.mem_append_left _ (mem_pinsAt List.mem_cons_self e))).1⟩, by
      obtain ⟨sl, e⟩ := Y.go
      exact (Y.inv.pin (d.ga, _) (List.mem_append_left _ (mem_pinsAt List.mem_cons_self e))).2.1, Y.inv.len⟩
theorem Yat.did {t : Array (Option Value)} {s0 s : Shared} {H0 H : Hp} {j : Nat} {b : Bag} (Y : Yat d di spi ip σ t s0 H0 j b H s) : d.Did (di.g0 :: b.ix) s0 H0 s H :=
  ⟨Y.inv.os, Y.nl, Y.inv.base, Y.inv.hok, Y.gens, fun o e => by
    obtain ⟨h1, h2, _⟩ := Y.inv.pin (d.ga, o) (List.mem_append_left _ (mem_pinsAt List.mem_cons_self e))
    exact ⟨h1, h2⟩⟩
theorem sg_yf (Fx : d.Fix) (F : FitsG d ip di) (room : (d.A.deeper d.env).in1.depth < recursionLimit) (hA : di.A = (d.A.deeper d.env).in1.in1) (hov : d.A.over (yfC di.ga) fs = (d.A.deeper d.env).in1) (hsp : splitAtGen fs = none) (hgd : fs.any Frame.guarded = false) (ok : YfOk sp spi N C) (hqt : sp.qt = false)
    (hend : ∀ m i s0 H0 s H, i + m = sp.n → d.Gi s0 H0 ip σ H s → N i H0 H → Run d sp m s0 H0 (yfC di.ga) (.pure (.done (.ret .none))) fs s) :
    ∀ (r j m i : Nat) (s0 : Shared) (H0 H : Hp) (s : Shared) (b : Bag) (t : Array (Option Value)), j + r = spi.n → i + m = sp.n → Clr t → C j i H0 H → Yat d di spi ip σ t s0 H0 j b H s → Run d sp m s0 H0 (yfC di.ga) ((model d.P d.w).den (yfC di.ga)) fs s := by
  have hh : (d.A.deeper d.env).in1.handled = none := Fx.hd
  intro r
  induction r with
  | zero =>
    intro j m i s0 H0 H s b t hj hm ht hC Y
    obtain ⟨st, q0, q1⟩ := ok j i H0 H hC Y.le
    show Sg _ _ _ _ _ (Builtin.«proto.yield_from» ⟨[.ref di.ga, .bool false, .none], []⟩) _ _
    unfold Builtin.«proto.yield_from»
    try dsimp only
    refine sg_bind (wpAny_pure ?_)
    try dsimp only
    refine sg_bindZ (wpZ_attempt (wpZ_holding ?_))
    rw [hov, if_neg Bool.false_ne_true, if_pos (show (Value.none == Value.none) = true from rfl)]
    refine wpZ_lead (wpAny_rule (wpZ_bind ?_))
    refine Y.next F hh hA room ht st (fun lt => absurd lt (by omega)) fun e x s' H' G hf hs => ?_
    obtain ⟨a, o, vs, rfl, hoa, hcls, hdat, h5⟩ := hs
    try dsimp only
    refine sg_bind (wpAny_endsTurn hoa hcls ?_)
    try dsimp only
    rw [if_pos rfl]
    first
      | refine sg_bind (wpAny_rule ?_)
      | (rw [if_neg Bool.false_ne_true]; refine sg_bind (wpAny_rule ?_))
      | (rw [if_neg Bool.false_ne_true]; refine sg_bind (wpAny_pure ?_); refine sg_bind (wpAny_rule ?_))
    refine sg_bind (wpAny_field hoa hdat h5 ?_)
    exact hend m i s0 H0 s' H' hm G (q0 e H' hf)
  | succ r ih =>
    intro j m i s0 H0 H s b t hj hm ht hC Y
    obtain ⟨st, q0, q1⟩ := ok j i H0 H hC Y.le
    have ljt : j < spi.n := by omega
    obtain ⟨lti, q1⟩ := q1 ljt
    obtain ⟨m, rfl⟩ : ∃ k, m = k + 1 := ⟨m - 1, by omega⟩
    show Sg _ _ _ _ _ (Builtin.«proto.yield_from» ⟨[.ref di.ga, .bool false, .none], []⟩) _ _
    unfold Builtin.«proto.yield_from»
    try dsimp only
    refine sg_bind (wpAny_pure ?_)
    try dsimp only
    refine sg_bindZ (wpZ_attempt (wpZ_holding ?_))
    rw [hov, if_neg Bool.false_ne_true, if_pos (show (Value.none == Value.none) = true from rfl)]
    refine wpZ_lead (wpAny_rule (wpZ_bind ?_))
    refine Y.next F hh hA room ht st (fun _ v x s1 H1 b1 t1 ht1 Y1 rv yl => ?_) fun e => absurd e (by omega)
    obtain ⟨yl1, cn⟩ := q1 x H1 yl
    obtain ⟨nm, qn, gcls, gdat⟩ := Y1.shp
    refine wpZ_pure ?_
    try dsimp only
    refine sg_bind (wpAny_typeOf (T := "generator") ⟨_, Y1.got, gcls⟩ ?_)
    try dsimp only
    first
      | (refine sg_bind (wpAny_of_eq gen_close ?_); refine sg_bind (wpAny_pure ?_))
      | refine sg_bind (wpAny_bind (wpAny_of_eq gen_close (wpAny_pure ?_)))
      | refine sg_bind (wpAny_of_eq gen_close ?_)
    try dsimp only
    refine sg_bind (wpAny_slept Y1.got gcls gdat (.inl ⟨rfl, ht1, rfl⟩) fun h2 e2 k2 z2 => ?_)
    have Y2 := Y1.noted F e2 k2 z2
    obtain ⟨y, hy, hsus⟩ := Y2.st
    have hsus : ∃ k l c p fs cl, y = .suspended k l c p fs cl ∧ Rdy di spi (spi.n - (j + 1)) b1 c (k (.send .none)) fs := by
      rcases hsus with ⟨_, _, e0, _⟩ | h
      · omega
      · exact h
    have hsl : sleeps y = true := by
      obtain ⟨_, _, _, _, _, _, e, _⟩ := hsus
      rw [e]; rfl
    have ei : sp.n - (m + 1) = i := by omega
    have O2 := Y2.own
    have bk := bag_ok (gns := []) Fx O2 Y2.ipn fun q hq => (by simp at hq)
    have bi := bag_in (gns := []) (ip := ip) Fx O2 fun q hq => (by simp at hq)
    have lga : d.ga < di.ga := Nat.lt_trans F.ga F.fix.gon
    refine sg_yield hsp hgd (fun hr => yf_shows ⟨_, di.g0, Y2.got, by simp [Obj.genNumber?, gcls, gdat]⟩ hgd hr) ⟨x, H1, bag2 d di ip b1 y { s1 with heap := h2 }, rv, ?_, Y2.did, Y2.gs, ⟨fun p hp => ?_, fun q hq => ?_, fun p hp => ?_⟩, ⟨fun p hp => ?_, fun q hq => ?_⟩, fun q => (by rw [hqt] at q; cases q), ?_⟩
    · rw [ei]; exact yl1
    · rcases List.mem_append.mp hp with hp | hp
      · exact bk.obs p hp
      · rcases List.mem_cons.mp hp with e | hp
        · rw [e]
          refine ⟨Nat.le_of_lt (Nat.lt_trans Fx.gon lga), fun v q => ?_⟩
          have q' : di.go0.data = .cell v := q
          rw [gdat] at q'
          cases q'
        · obtain ⟨h3, h4⟩ := Y2.ok.obs p hp
          exact ⟨Nat.le_trans (Nat.le_of_lt F.n0) h3, h4⟩
    · rcases List.mem_cons.mp hq with e | hq
      · rw [e]; exact ⟨F.g0, hsl⟩
      · exact ⟨Nat.lt_trans F.g0 (Y2.ok.gns q hq).1, (Y2.ok.gns q hq).2⟩
    · rcases List.mem_append.mp hp with hp | hp
      · exact bk.nga p hp
      · rcases List.mem_cons.mp hp with e | hp
        · rw [e]; exact Nat.ne_of_gt lga
        · exact Nat.ne_of_gt (Nat.lt_of_lt_of_le F.ga (Y2.ok.obs p hp).1)
    · rcases List.mem_append.mp hp with hp | hp
      · exact bi.obs p hp
      · rcases List.mem_cons.mp hp with e | hp
        · rw [e]; exact ⟨Y2.got, Y2.gof⟩
        · exact Y2.bag.obs p hp
    · rcases List.mem_cons.mp hq with e | hq
      · rw [e]; exact hy
      · exact Y2.bag.gns q hq
    · show Rdy d sp m _ _ _ _
      rw [rdy_iff]
      intro s5 H5 W
      have e2' : sp.n - m = i + 1 := by omega
      have hst := W.st
      rw [e2'] at hst
      have w1 : ∀ p ∈ pinsAt (d.mine ip) h2, s5.heap.get? p.1 = some p.2 ∧ H5 p.1 = none := fun p hp => W.bag.obs p (List.mem_append_left _ hp)
      have w2 := W.bag.obs (di.ga, { di.go0 with slots := #[some (rawInt 1)] }) (List.mem_append_right _ List.mem_cons_self)
      have w3 : ∀ p ∈ b1.obs, s5.heap.get? p.1 = some p.2 ∧ H5 p.1 = none := fun p hp => W.bag.obs p (List.mem_append_right _ (List.mem_cons_of_mem _ hp))
      have w4 := W.bag.gns (di.g0, y) List.mem_cons_self
      have O5 := O2.again (gns := []) ⟨w1, fun q hq => (by simp [bagOf] at hq)⟩ W.go W.gof
      have I5 := (O5.inv Fx W.wk).inv
      have Y5 : Yat d di spi ip σ #[some (rawInt 1)] ((bag2 d di ip b1 y { s1 with heap := h2 }).hush s5) H5 (j + 1) b1 H5 s5 := by
        refine ⟨cx_gens I5, fun i x e hx => ?_, fun i x h1 h3 h4 => of_hush h3 h4, Nat.le_of_eq hush_size, by rw [hush_size]; exact W.gn, Y2.ipn, Nat.le_of_lt W.wk.sz, W.go, W.wk.os, ljt, w2.1, Y1.shp, ⟨y, w4, .inr hsus⟩, Y2.ok, ⟨w3, fun q hq => W.bag.gns q (List.mem_cons_of_mem _ hq)⟩, (Array.getElem?_eq_some_iff.mp w4).1, Nat.lt_trans F.fix.gon (Heap.lt_size w2.1), w2.2⟩
        by_cases hi : i ∈ (bag2 d di ip b1 y { s1 with heap := h2 }).ix
        · exact .inr hi
        · exact .inl (hush_get e hi)
      show Sg _ _ _ _ _ (Builtin.Generator.sleptOver (.ref di.ga) false >>= fun _ => _) fs s5
      refine sg_bind (wpAny_slept w2.1 gcls gdat (.inr ⟨rfl, rfl, rfl⟩) fun h6 e6 k6 z6 => ?_)
      try dsimp only
      refine sg_bind (wpAny_pure ?_)
      exact sg_again (plainId_quiet plain_yf _) (ih (j + 1) m (i + 1) _ H5 H5 _ b1 _ (by omega) (by omega) (.inr rfl) (cn H5 hst) (Y5.noted F e6 k6 z6))
end
end GW
end

section
set_option Elab.async false
set_option linter.all false
set_option maxRecDepth 100000
set_option maxHeartbeats 1000000
/-! The statement «yield from g(..)» of a generator's body. -/
namespace GW
open PySem PySem.Spec PyProof.Rows L2 LY GenW

abbrev TGen := L2.St → Hp → (GSpec → Hp → Prop) → Prop
/-- what the expression gives: a generator that has not begun -/
def NewG (d : GD) (s0 : Shared) (H0 : Hp) (ip : List (Addr × Obj)) (σ : L2.St) (R : GSpec → Hp → Prop) (u : Value) (s' : Shared) : Prop :=
  ∃ spi H' di b, R spi H' ∧ u = .ref di.ga ∧ FitsG d ip di ∧ di.A = (d.A.deeper d.env).in1.in1 ∧ Yat d di spi ip σ #[] s0 H0 0 b H' s'
structure PGnG (d : GD) (e : Expr) (t : TGen) : Prop where
  run : ∀ (s0 : Shared) (H0 : Hp) (ip : List (Addr × Obj)) (σ : L2.St) (H : Hp) (s : Shared) (R : GSpec → Hp → Prop), d.Gi s0 H0 ip σ H s → t σ H R → wpAny (model d.P d.w) (d.A.deeper d.env) (eval e d.env) (NewG d s0 H0 ip σ R) (fun _ _ => False) s
def tYF (sp : GSpec) (t : TGen) : TG2 := fun D i G σ H => t σ H fun spi H1 => sp.qt = false ∧ ∃ C, C 0 i G H1 ∧ YfOk sp spi (fun i G H => D.nx i G σ H) C
section
variable {d : GD} {sp : GSpec} {e : Expr} {t : TGen} {yp pos : Pos}
theorem iter_gen {prog : Program} {w : World} {A : Around} {E : Value → Shared → Prop} {Q : Value → Shared → Prop} {s : Shared} {a : Addr} (ht : s.TypeIs (.ref a) "generator") (h : Q (.ref a) s) : wpAny (model prog w) A (pyIter (.ref a)) Q E s := by
  refine wpAny_pyIter_slot ht slot_gen_iter (wpAny_call_entry slot_gen_iter ht entry_gen_iter (wpAny_pure ⟨.ref a, rfl, ?_⟩) (args_gen_iter _))
  exact ⟨"generator", _, ht, slot_gen_next.lookup, h⟩
theorem gs_yieldFrom (Fx : d.Fix) (he : PGnG d e t) (room : (d.A.deeper d.env).in1.depth < recursionLimit) : GS d sp (.Expr (.YieldFrom e yp) pos) (tYF sp t) := by
  refine ⟨fun m i s0 H0 ip σ H s c fs K J gd lv D hp hm hk G ht => ?_⟩
  have hi : interactive d.env = false := by simp [interactive, show d.env.scope.kind = .function from Fx.kind]
  rw [exec_Expr d.env _ pos hi rfl]
  show Run d sp m s0 H0 c (.at pos fun _ => ((eval e d.env >>= fun v => (standAt yp >>= fun _ => yieldFrom d.env v)) >>= fun x => dropValue (.YieldFrom e yp) pos x).wrap K J gd lv) fs s
  refine sg_at ?_
  rw [Sem.bind_eq_wrap', Sem.bind_eq_wrap', Sem.wrap_wrap, Sem.wrap_wrap]
  refine sg_wrap ?_
  rw [hp.over]
  refine wpAny_mono (he.run s0 H0 ip σ H s _ G ht) (fun v s1 hv => ?_) fun _ _ q => q.elim
  obtain ⟨spi, H1, di, b, ⟨hqt, C, c0, ok⟩, rfl, F, hA, Y⟩ := hv
  have ht : s1.TypeIs (.ref di.ga) "generator" := (Y.ob (.inl rfl)).ty
  refine sg_at ?_
  show Run d sp m s0 H0 c ((yieldFrom d.env (.ref di.ga)).wrap _ _ _ _) fs s1
  unfold yieldFrom
  refine sg_bindw (wpAny_typeOf ht ?_)
  rw [if_neg (by decide)]
  refine sg_bindw (wpAny_holding (iter_gen ht ?_))
  refine sg_call fun p => ?_
  have hov : ∀ k g l, d.A.over (yfC di.ga) (.ret k none g l c p [] :: fs) = (d.A.deeper d.env).in1 := fun k g l => by
    rw [over_under, hp.over, Around.under_plainId plain_yf]
  refine sg_yf (N := fun i G H => D.nx i G σ H) (C := C) Fx F room hA (hov _ _ _) ?_ ?_ ok hqt (fun m' i' s0' H0' s' H' hm' G' q => ?_) spi.n 0 m i s0 H0 H1 s1 b #[] (by omega) hm (.inl rfl) c0 Y
  · show (splitAtGen fs).map _ = none
    rw [hp.split]; rfl
  · show (gd false || fs.any Frame.guarded) = false
    rw [hp.gd, hp.guard]; rfl
  · exact sg_leaf (.ok (.ret .none)) (hk m' i' s0' H0' .next s' hm' ⟨σ, H', G', q⟩)
end
end GW
end

section
set_option Elab.async false
set_option linter.all false
set_option maxRecDepth 100000
set_option maxHeartbeats 1000000
/-! A generator def, called. -/
namespace GW
open PySem PySem.Spec PyProof.Rows L2 LY GenW

/-- what a call gives; k: the room that its runs want -/
def MadeN (P : Program) (w : World) (base : Heap) (k : Nat) (outer : List Env) (sp : GSpec) (H : Hp) (s : Shared) (u : Value) (s' : Shared) : Prop :=
  ∃ a, u = .ref a ∧ s'.os = s.os ∧ AllBare s'.gens ∧ (∀ b o, s.heap.get? b = some o → s'.heap.get? b = some o) ∧ (∀ (i : Nat) (x : GenState), s.gens[i]? = some x → s'.gens[i]? = some x) ∧ s.gens.size ≤ s'.gens.size ∧
    ∀ A', Room k A' → A'.frames = some outer → ∃ d b c, d.ga = a ∧ d.P = P ∧ d.w = w ∧ d.base = base ∧ d.outer = outer ∧ d.A = A' ∧ d.os = s.os ∧ d.n0 = s.heap.objs.size ∧ d.g0 = s.gens.size ∧ d.Fix ∧ b.Ok d ∧ b.gns = [] ∧ b.In H s' ∧
      s'.heap.get? d.ga = some { d.go0 with slots := #[] } ∧ (∃ nm qn, d.go0.cls = .type "generator" ∧ d.go0.data = .fields #[.int d.g0 0, nm, qn]) ∧ H d.ga = none ∧ s'.gens[d.g0]? = some (.fresh c) ∧ Rdy d sp sp.n b c ((model d.P d.w).den c) []
/-- a generator def keeps its promise: pr arguments heap spec -/
structure GFnN (P : Program) (w : World) (K : PySem.W.Frag) (mg : Str → Option Value) (base : Heap) (k : Nat) (f : Addr) (fd : FuncData) (ps : List Str) (pr : List V → Hp → GSpec → Prop) : Prop where
  len : ∀ vs H sp, pr vs H sp → vs.length = ps.length
  run : ∀ (A : Around) (outer : List Env) (s : Shared) (H : Hp) (args : Args) (us : List Value) (vs : List V) (sp : GSpec), Room k A → Env0 P w K mg base A outer s H → BindsTo s fd args (ps.zip us) → Vals vs us → pr vs H sp →
    codeAny (model P w) A (.call (.ref f) args) (fun r s' => ∃ u, r = .ok (.ret u) ∧ MadeN P w base k outer sp H s u s') s
/-- a def's code: its body -/
theorem sg_func {P : Program} {w : World} {A : Around} {R : Result → Shared → Prop} {Y : YP} {fs : List Frame} {s : Shared} {body : List Stmt} {env : Env}
    (h : Sg (model P w) A R Y (.func body env) ((execs body env).wrap (fun f => .pure (.done (.ret (match f with | .ret v => v | _ => .none)))) (fun e => (leaving env e).wrap (fun _ => .raise e) .raise id id) id id) fs s) :
    Sg (model P w) A R Y (.func body env) ((model P w).den (.func body env)) fs s := by
  show Sg _ A R Y _ (.point [] fun _ => ((execs body env).onRaise (leaving env)) >>= _) fs s
  refine sg_point ?_
  rw [Sem.onRaise_eq_wrap, Sem.bind_eq_wrap', Sem.wrap_wrap]
  rw [Sem.wrap_congr (execs body env) _ _ (K' := fun f => (.pure (.done (.ret (match f with | .ret v => v | _ => .none))) : Sem PySem.Fin)) (H' := fun e => (leaving env e).wrap (fun _ => (.raise e : Sem PySem.Fin)) .raise id id) (fun f => by cases f <;> rfl) (fun e => by
    rw [Sem.bind_eq_wrap, Sem.wrap_wrap]
    rfl)]
  exact h
def endG (sp : GSpec) : GE := { nx := fun i G _ H => i = sp.n ∧ sp.fin G H, rt := fun i G v H => v = .non ∧ i = sp.n ∧ sp.fin G H }
theorem gfnN {P : Program} {w : World} {K : PySem.W.Frag} {mg : Str → Option Value} {base : Heap} {k : Nat} {f : Addr} {name qual : Str} {params : Arguments} {body : List Stmt} {scope : Scope} {dV kV doc pm cdv ct oc : Value} {an od : Option Addr}
    {osl : Array (Option Value)} {N ps : List Str} {pr : List V → Hp → GSpec → Prop} (lk : K.lookup f = some ⟨oc, od, .func (PySem.W.fnOf name qual params body scope dV kV doc pm an cdv ct), osl⟩) (hcd : PySem.W.codeIn K cdv qual = true) (S : GScope N ps scope)
    (hcell : ∀ n, cellsFrom n scope.names [] = []) (len : ∀ vs H sp, pr vs H sp → vs.length = ps.length)
    (hbody : ∀ (A : Around) (outer : List Env) (n0 g0 : Nat) (os : OsState) (ga : Addr) (go : Obj) (vs : List V) (H : Hp) (sp : GSpec), Room k (A.deeper (envOfC qual scope n0 f cdv)) → (GD.mk P w K mg base N qual scope f cdv A outer n0 g0 os ga go).Fix → pr vs H sp →
      ∃ t, GSs (GD.mk P w K mg base N qual scope f cdv A outer n0 g0 os ga go) sp body t ∧ ∀ H0, sp.st 0 H0 → t (endG sp) 0 H0 (start N vs) H0) :
    GFnN P w K mg base (k + 1) f (PySem.W.fnOf name qual params body scope dV kV doc pm an cdv ct) ps pr := by
  refine ⟨len, fun A outer s H args us vs sp hr e0 hb r hpr => ?_⟩
  have hl := len _ _ _ hpr
  have KX : K.In s.heap := e0.mod.kin.keeps fun b o e => (e0.bs b o e).1
  have lim : s.heap.NoLimit := e0.mod.nolimit.keeps fun b o e => (e0.bs b o e).1
  have hk : ∀ y ∈ ps.zip us, scope.names.lookup y.1 = some .local ∨ (scope.names.lookup y.1 = some .cell ∧ ((cellsFrom (s.heap.objs.size + 1) scope.names []).lookup y.1).isSome = true) := fun y hy => by
    rcases S.par y.1 (List.of_mem_zip (show (y.1, y.2) ∈ _ from hy)).1 with q | q
    · exact .inl q
    · exact .inr ⟨q, PySem.W.cellsFrom_some _ _ _ (.inl q)⟩
  refine codeAny_call_generator hr.depth (KX _ _ lk) rfl S.co S.gen rfl (PySem.W.codeRec_of KX hcd) (hb _ _ _ _ ?_)
  refine wpAny_newFunctionEnv_cells S.kind hk fun env he s1 x => ?_
  subst he
  have k1 : ∀ b o, s.heap.get? b = some o → s1.heap.get? b = some o := x.toInCall.keep
  refine ⟨lim.keeps k1, ?_⟩
  have I1 : Inv (gcxOf P w K mg base N qual scope f cdv A outer s H (fun _ _ _ => True) []) [] (start N vs) H s1 := inv_startG S hr.hd e0 hl r x
  obtain ⟨h1, tk, es1, _⟩ := x.done
  have os1 : s1.os = s.os := by rw [es1]
  have gen1 : s1.gens = s.gens := by rw [es1]
  have lt1 : s.heap.objs.size < s1.heap.objs.size := x.toInCall.ns.lt
  generalize hgo : ({ cls := .type "generator", data := .fields #[.int s1.gens.size 0, .str name s1.toks, .str qual (s1.toks + 1)] } : Obj) = go
  have gcls : go.cls = .type "generator" := by rw [← hgo]
  have gdat : go.data = .fields #[.int s1.gens.size 0, .str name s1.toks, .str qual (s1.toks + 1)] := by rw [← hgo]
  have gslo : go.slots = #[] := by rw [← hgo]
  have gget : (s1.heap.push go).get? s1.heap.objs.size = some go := by
    rw [← hgo]
    exact Heap.get?_push_size _ rfl
  have k2 : ∀ b o, s1.heap.get? b = some o → (s1.heap.push go).get? b = some o := fun b o e => Heap.get?_push_of_some _ e
  have fresh1 : H s1.heap.objs.size = none := I1.hok.fresh (Nat.le_refl _)
  refine ⟨_, rfl, s1.heap.objs.size, rfl, os1, ?_, fun b o e => k2 b o (k1 b o e), fun i y h2 => ?_, ?_, fun A' hr' hf' => ?_⟩
  · exact AllBare.push (by rw [gen1]; exact e0.bare) rfl
  · show (s1.gens.push _)[i]? = some y
    rw [gen1, Array.getElem?_push, if_neg (by have := (Array.getElem?_eq_some_iff.mp h2).1; omega)]
    exact h2
  · show s.gens.size ≤ (s1.gens.push _).size
    rw [gen1, Array.size_push]
    exact Nat.le_succ _
  let d : GD := GD.mk P w K mg base N qual scope f cdv A' outer s.heap.objs.size s1.gens.size s.os s1.heap.objs.size go
  have cl : d.env.cells = [] := hcell _
  have Fx : d.Fix := by
    refine ⟨e0.mod, hf', hr'.hd, e0.bsz, fun b hb => ?_, S.kind, lt1, fun v q => ?_, cl, fun q hq => ?_, fun q hq => ?_, fun y z c h2 _ => ?_, fun y hy => ?_⟩
    · obtain ⟨_, o, ho, _⟩ := e0.funs.mem hb
      exact Heap.lt_size ho
    · have q' : go.data = .cell v := q
      rw [gdat] at q'
      cases q'
    · rw [cl] at hq; simp at hq
    · rw [cl] at hq; simp at hq
    · rw [cl] at h2; simp at h2
    · have hy' : scope.names.lookup y = some .cell ∨ scope.names.lookup y = some .free := hy
      rcases hy' with hy' | hy'
      · exact cell_has hy'
      · exact absurd rfl (S.nofree _ (PySem.mem_of_lookup hy'))
  let s2 : Shared := { s1 with gens := s1.gens.push (.fresh (.func body d.env)), toks := s1.toks + 1 + 1, heap := s1.heap.push go }
  have gsl : ({ go with slots := #[] } : Obj) = go := by
    rw [← gslo]
  have ggo : s2.heap.get? d.ga = some { d.go0 with slots := #[] } := by
    show (s1.heap.push go).get? s1.heap.objs.size = some { go with slots := #[] }
    rw [gsl]
    exact gget
  have O : d.Own [] (start N vs) H s2 := by
    obtain ⟨m, hn, hlk⟩ := I1.loc
    obtain ⟨oL, es, ep, ho, hrest⟩ := id hn
    refine ⟨⟨m, ⟨oL, es, ep, k2 _ _ ho, hrest⟩, fun i y v q1 q2 q3 => ?_⟩, fun y c h2 => ?_, I1.free, fun y c h2 => ?_, fun p hp => (by simp at hp), ⟨#[], ggo⟩, fresh1, I1.len⟩
    · obtain ⟨u, ru, l⟩ := hlk i y v q1 q2 q3
      refine ⟨u, ru, ?_⟩
      rcases l with l | ⟨kk, c, e, o, ho', hd'⟩
      · exact .inl l
      · exact .inr ⟨kk, c, e, o, k2 _ _ ho', hd'⟩
    · rw [cl] at h2; simp at h2
    · rw [cl] at h2; simp at h2
  obtain ⟨t, ht, hq⟩ := hbody A' outer s.heap.objs.size s1.gens.size s.os s1.heap.objs.size go vs H sp (hr'.deeper _) Fx hpr
  have g2 : s2.gens[d.g0]? = some (.fresh (.func body d.env)) := Array.getElem?_push_size ..
  refine ⟨d, bagOf d [] [] s2, .func body d.env, rfl, rfl, rfl, rfl, rfl, rfl, rfl, rfl, by show s1.gens.size = _; rw [gen1], Fx, bag_ok Fx O (fun p hp => by simp at hp) (fun q hq => by simp at hq), rfl, bag_in Fx O (fun q hq => by simp at hq), ggo, ⟨_, _, gcls, gdat⟩, fresh1, g2, ?_⟩
  · rw [rdy_iff]
    intro s3 H3 W
    rw [hush_nil rfl]
    refine sg_func ?_
    have st0 : sp.st 0 H3 := by
      have z := W.st
      rwa [Nat.sub_self] at z
    refine ht.run sp.n 0 s3 H3 [] (start N vs) H3 s3 (.func body d.env) [] _ _ id id (endG sp) ⟨GenW.over_func, rfl, rfl, rfl⟩ (Nat.zero_add _) (fun m i s4 H4 fl s5 hm q => ?_) (woke_gi Fx O (fun p hp => by simp at hp) W) (hq H3 st0)
    cases fl with
    | next =>
      obtain ⟨σ5, H5, G5, e5, hf5⟩ := q
      exact sg_end (.ok (.ret .none)) ⟨by omega, .inl rfl, H5, G5.did, G5.gs, hf5⟩
    | brk => obtain ⟨_, _, _, q⟩ := q; exact q.elim
    | cont => obtain ⟨_, _, _, q⟩ := q; exact q.elim
    | ret u =>
      obtain ⟨v5, σ5, H5, G5, rv5, ev5, e5, hf5⟩ := q
      subst ev5
      have eu : u = Value.none := rv5
      subst eu
      exact sg_end (.ok (.ret .none)) ⟨by omega, .inl rfl, H5, G5.did, G5.gs, hf5⟩

/-- an expression of the layer's whose value is a generator that has not begun -/
def NewN (X : Cx) (k : Nat) (pins : List (Addr × Obj)) (σ : L2.St) (s : Shared) (R : GSpec → Hp → Prop) (u : Value) (s' : Shared) : Prop :=
  ∃ sp H1 s1, R sp H1 ∧ Inv X pins σ H1 s1 ∧ s.gens.size ≤ s1.gens.size ∧ MadeN X.prog X.w X.base k X.stack sp H1 s1 u s'
structure PGn (X : Cx) (k : Nat) (e : Expr) (t : TGen) : Prop where
  run : ∀ (pins : List (Addr × Obj)) (s : Shared) (σ : L2.St) (H : Hp) (R : GSpec → Hp → Prop), Inv X pins σ H s → t σ H R → wpAny (model X.prog X.w) X.A (eval e X.env) (NewN X k pins σ s R) X.xe s
section
variable {X : Cx} {k : Nat} {f : Addr} {fd : FuncData} {ps : List Str} {pr : List V → Hp → GSpec → Prop} {ds : List Value} {dvs : List V} {o : Expr} {m : Str} {apos pos' : Pos} {ta : TE}
theorem run_gfnN {pins : List (Addr × Obj)} {σ : L2.St} {H : Hp} {s0 s : Shared} {us : List Value} {vs : List V} {R : GSpec → Hp → Prop} {sp : GSpec} {E1 : Value → Shared → Prop} (F : GFnN X.prog X.w X.K X.mg X.base k f fd ps pr) (hr : Room k X.A) (hb : Binds X.K fd ps ds) (hd : Vals dvs ds)
    (I : Inv X pins σ H s) (r : Vals vs us) (hz : s0.gens.size ≤ s.gens.size) (h : pr (vs ++ dvs) H sp) (hR : R sp H) : wpAny (model X.prog X.w) X.A (call (.ref f) us) (NewN X k pins σ s0 R) E1 s := by
  have r2 : Vals (vs ++ dvs) (us ++ ds) := r.append hd
  have hl2 : (us ++ ds).length = ps.length := by
    rw [← r2.length]
    exact F.len _ _ _ h
  refine wpAny_call (codeAny_mono (F.run X.A X.stack s H ⟨us, []⟩ (us ++ ds) (vs ++ dvs) sp hr I.env0 (hb s us I.kIn hl2) r2 h) fun r s' hq => ?_)
  obtain ⟨u, rfl, hq⟩ := hq
  exact ⟨sp, H, s, hR, I, hz, hq⟩
/-- o.m(), m a generator method, o of one of some classes -/
def tMethN (K : PySem.W.Frag) (f : Addr) (m : Str) (pr : List V → Hp → GSpec → Prop) (dvs : List V) (ta : TE) : TGen := fun σ H R => ta σ H fun x H1 => ∃ a C dx fs, x = .ref a ∧ H1 a = some (.ins C dx fs) ∧ Cls K C ∧ Meth K C m f ∧ fs.lookup m = none ∧ ∃ sp, pr (x :: dvs) H1 sp ∧ R sp H1
theorem pgn_meth0 {pl : Sem Bool} (he : PE X o ta) (F : GFnN X.prog X.w X.K X.mg X.base k f fd ps pr) (hr : Room k X.A) (hb : Binds X.K fd ps ds) (hd : Vals dvs ds)
    (ht : eval (.Call (.Attribute o m apos) [] [] pos') X.env = (do let ov ← eval o X.env; standAt apos.atName; let (f, first) ← holding [ov] (getMethod ov m pl); callWith pos' f first (backTo pos' (starEach [] X.env)) (backToKw pos' (keywordEach [] X.env))) := by rfl) :
    PGn X k (.Call (.Attribute o m apos) [] [] pos') (tMethN X.K f m pr dvs ta) := by
  refine ⟨fun pins s σ H R I h => ?_⟩
  refine PySem.W.methodCall_KW (pl := pl) (wpAny_gsz (n := s.gens.size) (Nat.le_refl _) (wpAny_mono (he.run pins s σ H _ I h) (fun u s1 q hz => ?_) fun e s' q _ => q)) ht
  obtain ⟨x, H1, I1, rx, a, C, dx, fs, ex, ea, c, hm, l, sp, hp, hR⟩ := q
  subst ex
  obtain rfl : u = Value.ref a := rx
  refine getmeth_ok I1 ea c hm l ?_
  exact PySem.W.callWith_K0 (first := [.ref a]) I1.kIn hm.kp (run_gfnN (us := [.ref a]) (vs := [.ref a]) F hr hb hd I1 (.cons rfl .nil) hz hp hR)
end
end GW
end

section
set_option Elab.async false
set_option linter.all false
set_option maxRecDepth 100000
set_option maxHeartbeats 1000000
/-! A generator that a generator's body makes. -/
namespace GW
open PySem PySem.Spec PyProof.Rows L2 LY GenW

theorem Nl.more {xs : List Nat} {a b : Array GenState} (h : Nl [] a b) : Nl xs a b := fun i x e q => (h i x e q).imp id fun z => by simp at z
section
variable {d : GD} {k : Nat} {e : Expr} {t : TGen}
theorem pgng_of (Fx : d.Fix) (hr : Room k (d.A.deeper d.env).in1.in1) (h : ∀ s H, PGn (d.cx s H) k e t) : PGnG d e t := by
  refine ⟨fun s0 H0 ip σ H s R G ht => ?_⟩
  refine wpAny_mono (gi_runD G fun I => (h s0 H0).run ip _ σ H R I ht) (fun u s' q => ?_) fun _ _ q => q
  obtain ⟨s3, rfl, du, spi, H1, s1, hR, I1, hz, a, rfl, hos, hba, hk, hg, hgz, mk⟩ := q
  obtain ⟨di, b, c, rfl, eP, ew, eb, eo, eA, eos, en, eg, FI, ok, egn, bi, got, shp, gof, gst, rdy⟩ := mk (d.A.deeper d.env).in1.in1 hr (Around.frames_deeper Fx.fr)
  have I3 : Inv (d.cx s0 H0) ip σ H1 s3 := I1.call' (ch := []) hos (Un.kept hk) (I1.hok.kept hk) hba fun b z => by simp at z
  have lt0 : d.g0 < s1.gens.size := by
    have h1 := G.gn
    have h2 := G.gs
    have h3 : (dullS s).gens.size = s.gens.size := by
      show (s.gens.map dull).size = _
      rw [Array.size_map]
    omega
  have g3 : (mendS s.gens s3).gens[di.g0]? = some (.fresh c) := (mend_other (du.no gst rfl)).trans gst
  refine ⟨spi, H1, di, b, hR, rfl, ⟨eP, ew, eb, eo, ?_, ?_, by rw [eg]; exact lt0, ?_, fun x c h => ?_, fun p hp => ?_, FI⟩, eA, ⟨(Inv.gens (s := s3) I3 allBare_dull : Inv (d.cx s0 H0) ip σ H1 { s3 with gens := _ }), (G.inv.nl.mend du hba).more, fun i x h1 h2 h3 => du.keeps i x (G.gens i x h1 h2 h3) h3, Nat.le_trans G.gs du.ge, G.gn, G.ipn, G.sz, G.go, G.os, Nat.zero_le _, got, shp, ⟨.fresh c, g3, .inl ⟨c, rfl, rfl, rdy⟩⟩, ok, ⟨bi.obs, fun q hq => ?_⟩, (Array.getElem?_eq_some_iff.mp g3).1, Nat.lt_trans FI.gon (Heap.lt_size got), gof⟩⟩
  · exact eos.trans (I1.os.trans G.os)
  · rw [en]; exact I1.lt
  · rw [en]
    obtain ⟨sl, e⟩ := G.go
    exact Heap.lt_size (I1.pin (d.ga, _) (List.mem_append_left _ (mem_pinsAt List.mem_cons_self e))).1
  · rw [Fx.nocell] at h
    simp at h
  · rw [en]
    exact Heap.lt_size (I1.pin p (List.mem_append_right _ hp)).1
  · rw [egn] at hq
    simp at hq
end
end GW
end

section
set_option Elab.async false
set_option linter.all false
set_option maxRecDepth 100000
set_option maxHeartbeats 1000000
/-! Plain defs over such runs: expressions, tests, statements; a def's promise. -/
namespace GW
open PySem PySem.Spec PyProof.Rows L2 LY GenW

def EPz (X : Cx) (pins : List (Addr × Obj)) (σ : L2.St) (Q : VK) (u : Value) (s' : Shared) : Prop := ∃ v H', InvZ X pins σ H' s' ∧ RelV v u ∧ Q v H'
def TPz (X : Cx) (pins : List (Addr × Obj)) (σ : L2.St) (Q : Bool → Hp → Prop) (b : Bool) (s' : Shared) : Prop := ∃ H', InvZ X pins σ H' s' ∧ Q b H'
def SPz (X : Cx) (pins : List (Addr × Obj)) (D : Ends) (f : Flow) (s' : Shared) : Prop := match f with
  | .next => ∃ σ' H', InvZ X pins σ' H' s' ∧ D.nx σ' H'
  | .brk => ∃ σ' H', InvZ X pins σ' H' s' ∧ D.bk σ' H'
  | .cont => ∃ σ' H', InvZ X pins σ' H' s' ∧ D.ct σ' H'
  | .ret u => ∃ v σ' H', InvZ X pins σ' H' s' ∧ RelV v u ∧ D.rt v H'
abbrev noE : Value → Shared → Prop := fun _ _ => False
structure PEz (X : Cx) (e : Expr) (t : TE) : Prop where
  run : ∀ (pins : List (Addr × Obj)) (s : Shared) (σ : L2.St) (H : Hp) (Q : VK), InvZ X pins σ H s → t σ H Q → wpZ (model X.prog X.w) X.A (eval e X.env) (EPz X pins σ Q) noE s
structure PTz (X : Cx) (e : Expr) (t : TT) : Prop where
  run : ∀ (pins : List (Addr × Obj)) (s : Shared) (σ : L2.St) (H : Hp) (Q : Bool → Hp → Prop), InvZ X pins σ H s → t σ H Q → wpZ (model X.prog X.w) X.A (isTrue e X.env (eval e X.env)) (TPz X pins σ Q) noE s
structure PSz (X : Cx) (st : Stmt) (t : TS) : Prop where
  run : ∀ (pins : List (Addr × Obj)) (s : Shared) (σ : L2.St) (H : Hp) (D : Ends), InvZ X pins σ H s → t D σ H → wpZ (model X.prog X.w) X.A (exec st X.env) (SPz X pins D) noE s
structure PSsz (X : Cx) (sts : List Stmt) (t : TS) : Prop where
  run : ∀ (pins : List (Addr × Obj)) (s : Shared) (σ : L2.St) (H : Hp) (D : Ends), InvZ X pins σ H s → t D σ H → wpZ (model X.prog X.w) X.A (execs sts X.env) (SPz X pins D) noE s

section
variable {X : Cx} {pins : List (Addr × Obj)} {σ : L2.St} {H : Hp} {s : Shared}
/-- what the layer walks, in a context where nothing is raised -/
theorem InvZ.lead {α : Type} {t : Sem α} {A : Around} {Q Q' : α → Shared → Prop} {M : Model} {E : Value → Shared → Prop} (Z : InvZ X pins σ H s) (hE : ∀ v s, ¬ E v s) (h : Inv X pins σ H (dullS s) → wpAny M A t Q E (dullS s))
    (hQ : ∀ a s1, Dul s.gens s1 → Q a s1 → Q' a (mendS s.gens s1)) {E' : Value → Shared → Prop} : wpAny M A t Q' E' s :=
  wpAny_mono (Z.run h) (fun a s' ⟨s1, e, du, q⟩ => by subst e; exact hQ a s1 du q) fun a s' ⟨s1, _, _, q⟩ => (hE _ _ q).elim
theorem ep_mend {Q : VK} {u : Value} {s1 : Shared} (Z : InvZ X pins σ H s) (du : Dul s.gens s1) (h : EP X.nox pins σ Q u s1) : EPz X pins σ Q u (mendS s.gens s1) := by
  obtain ⟨v, H', I, r, q⟩ := h
  exact ⟨v, H', Z.then rfl du I.unwish, r, q⟩
theorem pez_of {e : Expr} {t : TE} (h : PE X.nox e t) : PEz X e t :=
  ⟨fun pins s σ H Q Z ht => wpZ_of (InvZ.lead Z (E := X.nox.xe) (fun _ _ q => q) (fun I => h.run pins _ σ H Q (I.wish _) ht) fun u s1 du q => ep_mend Z du q)⟩
theorem ptz_of {e : Expr} {t : TT} (h : PT X.nox e t) : PTz X e t :=
  ⟨fun pins s σ H Q Z ht => wpZ_of (InvZ.lead Z (E := X.nox.xe) (fun _ _ q => q) (fun I => h.run pins _ σ H Q (I.wish _) ht) fun u s1 du ⟨H', I, q⟩ => ⟨H', Z.then rfl du I.unwish, q⟩)⟩
theorem sp_mend {D : Ends} {f : Flow} {s1 : Shared} (Z : InvZ X pins σ H s) (du : Dul s.gens s1) (h : SP X.nox pins D f s1) : SPz X pins D f (mendS s.gens s1) := by
  cases f with
  | next => obtain ⟨σ', H', I, q⟩ := h; exact ⟨σ', H', Z.then rfl du I.unwish, q⟩
  | brk => obtain ⟨σ', H', I, q⟩ := h; exact ⟨σ', H', Z.then rfl du I.unwish, q⟩
  | cont => obtain ⟨σ', H', I, q⟩ := h; exact ⟨σ', H', Z.then rfl du I.unwish, q⟩
  | ret u => obtain ⟨v, σ', H', I, r, q⟩ := h; exact ⟨v, σ', H', Z.then rfl du I.unwish, r, q⟩
theorem psz_of {st : Stmt} {t : TS} (h : PS X.nox st t) : PSz X st t :=
  ⟨fun pins s σ H D Z ht => wpZ_of (InvZ.lead Z (E := X.nox.xe) (fun _ _ q => q) (fun I => h.run pins _ σ H D (I.wish _) ht) fun u s1 du q => sp_mend Z du q)⟩
theorem pssz_of {sts : List Stmt} {t : TS} (h : PSs X.nox sts t) : PSsz X sts t :=
  ⟨fun pins s σ H D Z ht => wpZ_of (InvZ.lead Z (E := X.nox.xe) (fun _ _ q => q) (fun I => h.run pins _ σ H D (I.wish _) ht) fun u s1 du q => sp_mend Z du q)⟩
end
end GW
end

section
set_option Elab.async false
set_option linter.all false
set_option maxRecDepth 100000
set_option maxHeartbeats 1000000
/-! Statements; a def by its body; calls. -/
namespace GW
open PySem PySem.Spec PyProof.Rows L2 LY GenW

theorem Inv.s0gens {X : Cx} {pins : List (Addr × Obj)} {σ : L2.St} {H : Hp} {s : Shared} {g : Array GenState} (I : Inv X pins σ H s) : Inv { X with s_0 := { X.s_0 with gens := g } } pins σ H s :=
  ⟨⟨I.ok.mod, I.ok.kind, I.ok.glob, I.ok.blt, I.ok.above, I.ok.inj, I.ok.has, I.ok.cab, I.ok.hd, I.ok.frames, I.ok.stk, I.ok.exf, I.ok.bs, I.ok.bsz, I.ok.noex, I.ok.exfs, I.ok.funs, I.ok.frf⟩, I.os, I.bare, I.base, I.loc, I.cell, I.free, I.freeC, I.pin, I.hok, I.len⟩
section
variable {X : Cx} {st : Stmt} {rest : List Stmt} {t u : TS} {e : Expr} {te : TE} {pos : Pos}
theorem pssz_nil : PSsz X [] (fun D σ H => D.nx σ H) := ⟨fun _ _ σ H _ Z h => wpZ_pure ⟨σ, H, Z, h⟩⟩
theorem pssz_cons (a : PSz X st t) (b : PSsz X rest u) : PSsz X (st :: rest) (tSeq t u) := by
  refine ⟨fun pins s σ H D Z h => ?_⟩
  rw [execs_cons]
  refine wpZ_bind (wpZ_mono (a.run pins s σ H { D with nx := u D } Z h) (fun f s1 q => ?_) fun _ _ q => q)
  cases f with
  | next => obtain ⟨σ', H', Z', q⟩ := q; exact b.run pins s1 σ' H' D Z' q
  | brk => exact wpZ_pure q
  | cont => exact wpZ_pure q
  | ret v => exact wpZ_pure q
theorem pssz_one (a : PSz X st t) : PSsz X [st] t := by
  refine ⟨fun pins s σ H D Z h => ?_⟩
  rw [execs_cons]
  refine wpZ_bind (wpZ_mono (a.run pins s σ H D Z h) (fun f s1 q => ?_) fun _ _ q => q)
  cases f with
  | next => exact wpZ_pure q
  | brk => exact wpZ_pure q
  | cont => exact wpZ_pure q
  | ret v => exact wpZ_pure q
theorem psz_ret (he : PEz X e te) : PSz X (.Return (some e) pos) (tRet te) := by
  refine ⟨fun pins s σ H D Z h => ?_⟩
  rw [exec_Return_some]
  exact wpZ_lead (wpAny_standAt (wpZ_bind (wpZ_mono (he.run pins s σ H _ Z h) (fun v s1 ⟨x, H1, Z1, r, q⟩ => wpZ_pure ⟨x, σ, H1, Z1, r, q⟩) fun _ _ q => q)))
theorem psz_if {c : Expr} {a b : List Stmt} {tc : TT} (hc : PTz X c tc) (ha : PSsz X a t) (hb : PSsz X b u) : PSz X (.If c a b pos) (tIfS tc t u) := by
  refine ⟨fun pins s σ H D Z h => ?_⟩
  rw [exec_If]
  refine wpZ_lead (wpAny_standAt (wpZ_bind (wpZ_mono (hc.run pins s σ H _ Z h) (fun d s1 ⟨H1, Z1, q⟩ => ?_) fun _ _ q => q)))
  cases d with
  | true => exact ha.run pins s1 σ H1 D Z1 q
  | false => exact hb.run pins s1 σ H1 D Z1 q
theorem psz_set {i : Nat} {x : Str} {pos' : Pos} (hN : X.N.Nodup) (hi : X.N[i]? = some x) (hx : Loc X.env.scope x) (he : PEz X e te) (hs : swapsWith e (some (.Name x pos')) pos.line X.env = pure false := by rfl)
    (hf : X.fn x = true ∨ X.env.scope.names.lookup x = some .local := by first | exact .inl rfl | exact .inr rfl | assumption) : PSz X (.Assign [.Name x pos'] e pos) (tAsg te (gName i)) := by
  refine ⟨fun pins s σ H D Z h => ?_⟩
  rw [exec_Assign_Name X.env x pos' e pos hs]
  refine wpZ_lead (wpAny_standAt (wpZ_bind (wpZ_mono (he.run pins s σ H _ Z h) (fun v s1 ⟨y, H1, Z1, r, q⟩ => ?_) fun _ _ q => q)))
  refine wpZ_of (wpAny_bind (wpAny_standAt (wpAny_bind ?_)))
  refine InvZ.lead Z1 (E := fun _ _ => False) (fun _ _ q => q) (fun I => wpAny_bindName (store_ok (Q := fun _ s2 => Inv X pins (σ.set i (some y)) H1 s2) I hN hi hx r (fun s2 I2 => I2) hf)) fun _ s2 du I2 => ?_
  exact wpAny_pure ⟨_, H1, Z1.then rfl du I2, q⟩
end
end GW
end

section
set_option Elab.async false
set_option linter.all false
set_option maxRecDepth 100000
set_option maxHeartbeats 1000000
/-! A def by its body, a def called. -/
namespace GW
open PySem PySem.Spec PyProof.Rows L2 LY GenW

def CEz (outer : List Env) (P : Program) (w : World) (H : Hp) (s : Shared) (Q : VK) (u : Value) (s' : Shared) : Prop :=
  ∃ v H', s'.os = s.os ∧ Nl [] s.gens s'.gens ∧ Un (frs outer) [] H H' s.heap s'.heap ∧ HOk P w H' s'.heap ∧ RelV v u ∧ Q v H'
/-- a def keeps its promise, where generators may sleep loudly -/
structure FnZ (P : Program) (w : World) (K : PySem.W.Frag) (mg : Str → Option Value) (base : Heap) (k : Nat) (f : Addr) (fd : FuncData) (ps : List Str) (sp : Sp) : Prop where
  len : ∀ vs H Q E, sp vs H Q E → vs.length = ps.length
  run : ∀ (A : Around) (outer : List Env) (s : Shared) (H : Hp) (args : Args) (us : List Value) (vs : List V) (Q : VK) (E : XK), Room k A → Env0 P w K mg base A outer (dullS s) H → BindsTo s fd args (ps.zip us) → Vals vs us → sp vs H Q E →
    codeZ (model P w) A (.call (.ref f) args) (fun r s' => ∃ u, r = .ok (.ret u) ∧ CEz outer P w H s Q u s') s
section
variable {P : Program} {w : World} {A : Around} {R : Result → Shared → Prop} {s : Shared}
theorem codeZ_func {body : List Stmt} {env : Env} (h : wpZ (model P w) (A.deeper env) (execs body env) (fun f s' => R (.ok (.ret (match f with | .ret v => v | _ => .none))) s') noE s) : codeZ (model P w) A (.func body env) R s := by
  refine codeZ_tree ?_
  show wpZ _ (A.deeper env) (point >>= fun _ => (execs body env).onRaise (leaving env) >>= fun f => match f with | .ret v => ret v | _ => ret .none) _ _ s
  refine wpZ_lead (wpAny_point (wpZ_bind (wpZ_onRaise (wpZ_mono h (fun f s' q => ?_) fun _ _ q => q.elim))))
  cases f <;> exact wpZ_pure q
theorem codeZ_call_def {a : Addr} {args : Args} {o : Obj} {fd : FuncData} {body : List Stmt} (hroom : A.depth < recursionLimit) (ho : s.heap.get? a = some o) (hd : o.data = .func fd) (hco : fd.scope.isCoroutine = false) (hgen : fd.scope.isGenerator = false)
    (hbody : fd.body = .stmts body) (hcd : s.heap.CodeRec fd.code fd.qualname)
    (h : wpAny (model P w) A.in1 (bindArgs fd args) (fun binds s1 => wpAny (model P w) A.in1 (newFunctionEnv fd.scope fd.globals fd.closure binds (fd.qualname ++ ".<locals>.") (some a) fd.code none fd.builtins)
      (fun env s2 => s2.heap.NoLimit ∧ codeZ (model P w) A (.func body env) R s2) noE s1) noE s) : codeZ (model P w) A (.call (.ref a) args) R s := by
  refine codeZ_tree ?_
  show wpZ _ A.in1 (callAny (.ref a) args) _ _ s
  simp only [callAny]
  refine wpZ_lead (wpAny_load ho ?_)
  obtain ⟨c, oc, vs, tq, hc, hoc, hdc, hq⟩ := hcd
  simp only [hd, callFunction, hco, hgen, hbody, hc]
  rw [hc] at h
  refine wpZ_lead (t := field (.ref c) 1) (wpAny_field hoc hdc hq (wpZ_lead (wpAny_pure (wpZ_lead (wpAny_mono h (fun b s1 h1 => ?_) fun _ _ q => q.elim)))))
  refine wpZ_lead (wpAny_mono h1 (fun env s2 h2 => ?_) fun _ _ q => q.elim)
  exact wpZ_lead (wpAny_enterFrame h2.1 hroom (wpZ_pure ⟨rfl, h2.2⟩))
end
theorem InCallC.dull {s0 s : Shared} {L : Addr} {m cm : Str → Option Value} {cs : List (Str × Addr)} (x : InCallC s0 L m cs cm s) : InCallC (dullS s0) L m cs cm (dullS s) := by
  obtain ⟨⟨⟨h, tk, e⟩, ns, keep, fresh⟩, c, a, b⟩ := x
  subst e
  exact ⟨⟨⟨h, tk, rfl⟩, ns, keep, fresh⟩, c, a, b⟩
theorem fnz_of {P : Program} {w : World} {K : PySem.W.Frag} {mg : Str → Option Value} {base : Heap} {k : Nat} {f : Addr} {name qual : Str} {params : Arguments} {body : List Stmt} {scope : Scope} {dV kV doc pm cdv ct oc : Value} {an od : Option Addr}
    {osl : Array (Option Value)} {N ps : List Str} {sp : Sp} (lk : K.lookup f = some ⟨oc, od, .func (PySem.W.fnOf name qual params body scope dV kV doc pm an cdv ct), osl⟩) (hcd : PySem.W.codeIn K cdv qual = true) (S : FnScope N ps scope) (len : ∀ vs H Q E, sp vs H Q E → vs.length = ps.length)
    (hbody : ∀ (A : Around) (outer : List Env) (s : Shared) (H : Hp) (vs : List V) (Q : VK) (E : XK), Room k (A.deeper (envOfC qual scope s.heap.objs.size f cdv)) → sp vs H Q E →
      ∃ t, PSsz (cxOf CX0 P w K mg base N qual scope f cdv A outer s H E) body t ∧ t { nx := fun _ H' => Q .non H', rt := Q } (start N vs) H) :
    FnZ P w K mg base (k + 1) f (PySem.W.fnOf name qual params body scope dV kV doc pm an cdv ct) ps sp := by
  refine ⟨len, fun A outer s H args us vs Q E hr e0 hb r hsp => ?_⟩
  have hl := len _ _ _ _ hsp
  have KX : K.In s.heap := e0.mod.kin.keeps fun b o e => (e0.bs b o e).1
  have lim : s.heap.NoLimit := e0.mod.nolimit.keeps fun b o e => (e0.bs b o e).1
  have hkind : ∀ y ∈ ps.zip us, scope.names.lookup y.1 = some .local ∨ (scope.names.lookup y.1 = some .cell ∧ ((cellsFrom (s.heap.objs.size + 1) scope.names []).lookup y.1).isSome = true) := fun y hy => by
    rcases S.par y.1 (List.of_mem_zip (show (y.1, y.2) ∈ _ from hy)).1 with q | q
    · exact .inl q
    · exact .inr ⟨q, PySem.W.cellsFrom_some _ _ _ (.inl q)⟩
  refine codeZ_call_def hr.depth (KX _ _ lk) rfl S.co S.gen rfl (PySem.W.codeRec_of KX hcd) (hb _ _ _ _ ?_)
  refine wpAny_newFunctionEnv_cells S.kind hkind fun env he s1 x => ?_
  subst he
  refine ⟨lim.keeps x.toInCall.keep, codeZ_func ?_⟩
  obtain ⟨t, ht, hq⟩ := hbody A outer s H vs Q E (hr.deeper _) hsp
  have I0 : Inv (cxOf CX0 P w K mg base N qual scope f cdv A outer (dullS s) H E) [] (start N vs) H (dullS s1) := inv_start S hr.hd e0 hl r (InCallC.dull x)
  have I : Inv (cxOf CX0 P w K mg base N qual scope f cdv A outer s H E) [] (start N vs) H (dullS s1) := ⟨⟨I0.ok.mod, I0.ok.kind, I0.ok.glob, I0.ok.blt, I0.ok.above, I0.ok.inj, I0.ok.has, I0.ok.cab, I0.ok.hd, I0.ok.frames, I0.ok.stk, I0.ok.exf, I0.ok.bs, I0.ok.bsz, I0.ok.noex, I0.ok.exfs, I0.ok.funs, I0.ok.frf⟩, I0.os, I0.bare, I0.base, I0.loc, I0.cell, I0.free, I0.freeC, I0.pin, I0.hok, I0.len⟩
  obtain ⟨h1, tk, es1, _⟩ := x.done
  have gen1 : s1.gens = s.gens := by rw [es1]
  have Z : InvZ (cxOf CX0 P w K mg base N qual scope f cdv A outer s H E) [] (start N vs) H s1 := ⟨I, by
    rw [gen1]
    exact Nl.refl _⟩
  refine wpZ_mono (ht.run [] s1 (start N vs) H _ Z hq) (fun fl s' hs => ?_) fun _ _ q => q
  have fin : ∀ {σ' : L2.St} {H' : Hp} {v : V} {u : Value}, InvZ (cxOf CX0 P w K mg base N qual scope f cdv A outer s H E) [] σ' H' s' → RelV v u → Q v H' → ∃ u', (Except.ok (Flow.ret u) : Result) = .ok (.ret u') ∧ CEz outer P w H s Q u' s' :=
    fun {σ' H' v u} J rv q => ⟨u, rfl, v, H', J.inv.os, J.nl, J.inv.base, J.inv.hok, rv, q⟩
  cases fl with
  | ret u => obtain ⟨v, σ', H', J, rv, q⟩ := hs; exact fin J rv q
  | next => obtain ⟨σ', H', J, q⟩ := hs; exact fin (v := V.non) (u := Value.none) J rfl q
  | brk => obtain ⟨_, _, _, q⟩ := hs; exact q.elim
  | cont => obtain ⟨_, _, _, q⟩ := hs; exact q.elim
section
variable {X : Cx} {pins : List (Addr × Obj)} {σ : L2.St} {H : Hp} {s : Shared} {k : Nat} {f : Addr} {fd : FuncData} {ps : List Str} {sp : Sp} {ds : List Value} {dvs : List V}
theorem InvZ.env0 (Z : InvZ X pins σ H s) : Env0 X.prog X.w X.K X.mg X.base X.A X.stack (dullS s) H := Inv.env0 (s := dullS s) Z.inv
theorem InvZ.after {Q : VK} {u : Value} {s' : Shared} (Z : InvZ X pins σ H s) (h : CEz X.stack X.prog X.w H s Q u s') : EPz X pins σ Q u s' := by
  obtain ⟨v, H', os, nl, un, hok, r, q⟩ := h
  exact ⟨v, H', ⟨Inv.call' (s' := dullS s') (ch := []) Z.inv os un hok allBare_dull fun b z => (by simp at z), Z.nl.trans nl⟩, r, q⟩
theorem run_fnz {Q : VK} {us : List Value} {vs : List V} {E : XK} (F : FnZ X.prog X.w X.K X.mg X.base k f fd ps sp) (hr : Room k X.A) (hb : Binds X.K fd ps ds) (hd : Vals dvs ds) (Z : InvZ X pins σ H s) (r : Vals vs us) (h : sp (vs ++ dvs) H Q E) :
    wpZ (model X.prog X.w) X.A (call (.ref f) us) (EPz X pins σ Q) noE s := by
  have r2 : Vals (vs ++ dvs) (us ++ ds) := r.append hd
  have hl : (us ++ ds).length = ps.length := by
    rw [← r2.length]
    exact F.len _ _ _ _ h
  refine wpZ_callV (codeZ_mono (F.run X.A X.stack s H ⟨us, []⟩ (us ++ ds) (vs ++ dvs) Q E hr Z.env0 (hb s us (Inv.kIn (s := dullS s) Z.inv) hl) r2 h) fun r s' hq => ?_)
  obtain ⟨u, rfl, hq⟩ := hq
  exact Z.after hq
end
end GW
end

section
set_option Elab.async false
set_option linter.all false
set_option maxRecDepth 100000
set_option maxHeartbeats 1000000
/-! Calls in expressions: f(..), o.m(..); not, and, or as tests. -/
namespace GW
open PySem PySem.Spec PyProof.Rows L2 LY GenW

section
variable {M : Model} {A : Around} {E : Value → Shared → Prop} {s : Shared} {K : PySem.W.Frag} {env : Env} {pos : Pos} {f : Value} {first : List Value} {Q : Value → Shared → Prop}
theorem wpZ_keep {α : Type} {t : Sem α} {vs : List Value} {Q : α → Shared → Prop} (h : wpZ M A t Q E s) : wpZ M A (t.keep vs) Q E s := fun Γ p hΓ => wpX_keep (h Γ p hΓ)
theorem callZ_of {args : List (Bool × Sem Value)} {kws : List (Option Str × Sem Value)} (hp : (args.any (·.1) || kws.any (·.1.isNone)) = false) (hk : PySem.W.keepIn K f = true)
    (h : wpAny M A (evalArgs f true args kws) (fun a s1 => K.In s1.heap ∧ wpZ M A (call f (first ++ a.pos) a.kw) Q E s1) E s) : wpZ M A (callWith pos f first args kws) Q E s := by
  unfold callWith
  refine wpZ_lead (wpAny_holding (wpAny_mono h (fun a s1 h1 => wpZ_lead (wpAny_standAt ?_)) fun _ _ x => x))
  obtain ⟨k, hk', L⟩ := PySem.W.looks_keep (M := M) hk h1.1
  simp only [hp]
  refine wpZ_lead (L.here ?_)
  have tail : ∀ {t : Sem Value}, wpZ M A t Q E s1 → wpZ M A (t >>= fun r => holding [r] point >>= fun _ => pure r) Q E s1 := fun ht => wpZ_bind (wpZ_mono ht (fun r s2 hr => wpZ_of (wpAny_bind (wpAny_holding (wpAny_point (wpAny_pure hr))))) fun _ _ x => x)
  have marked (mk : Value) : wpZ M A (callMarked mk f (first ++ a.pos) a.kw) Q E s1 := by
    unfold callMarked
    exact wpZ_keep h1.2
  rcases hk' with rfl | rfl
  · dsimp only
    split
    · exact tail h1.2
    · exact tail (marked _)
  · exact tail h1.2
end
section
variable {X : Cx} {k : Nat} {f : Addr} {fd : FuncData} {ps : List Str} {sp : Sp} {ds : List Value} {dvs : List V} {E : XK} {e o : Expr} {es : List Expr} {t : TA} {ta : TE} {x m : Str} {p pos apos : Pos} {pins : List (Addr × Obj)} {σ : L2.St} {H : Hp} {s : Shared}
/-- what only reads -/
theorem InvZ.look {α : Type} {q : Sem α} {A : Around} {a : α} {Q : α → Shared → Prop} {M : Model} {E : Value → Shared → Prop} (Z : InvZ X pins σ H s) (h : wpAny M A q (fun b s1 => b = a ∧ s1 = dullS s) (fun _ _ => False) (dullS s)) (hQ : Q a s) : wpAny M A q Q E s :=
  InvZ.lead Z (E := fun _ _ => False) (fun _ _ z => z) (fun _ => h) fun b s1 _ ⟨e1, e2⟩ => by
    subst e1 e2
    rw [mend_self]
    exact hQ
theorem argsZ {Q : List V → Hp → Prop} {R : List Value → Shared → Prop} (ha : PA X.nox es t) (Z : InvZ X pins σ H s) (h : t σ H Q) (hR : ∀ us vs s1 H1, InvZ X pins σ H1 s1 → Vals vs us → Q vs H1 → R us s1) {E' : Value → Shared → Prop} :
    wpAny (model X.prog X.w) X.A (spliced (backTo pos (starEach es X.env))) R E' s :=
  InvZ.lead Z (E := X.nox.xe) (fun _ _ z => z) (fun I => ha.run pos pins _ σ H _ (I.wish _) h) fun us s1 du ⟨vs, H1, I1, r, q⟩ => hR us vs _ H1 (Z.then rfl du I1.unwish) r q
theorem pez_call (F : FnZ X.prog X.w X.K X.mg X.base k f fd ps sp) (hr : Room k X.A) (hg : Gl X x) (hm : X.mg x = some (.ref f)) (hk : PySem.W.keepIn X.K (.ref f) = true) (hb : Binds X.K fd ps ds) (hd : Vals dvs ds) (ha : PA X.nox (e :: es) t)
    (hdb : (x == ("__debug__" : Str)) = false := by decide) (he : starEach (e :: es) X.env = (false, eval e X.env) :: starEach es X.env := by rfl) (hpl : (backTo pos (starEach es X.env)).any (·.1) = false := by rfl) : PEz X (.Call (.Name x p) (e :: es) [] pos) (tCall sp dvs E t) := by
  refine ⟨fun pins s σ H Q Z h => ?_⟩
  rw [arm_eval_Call_Name']
  refine wpZ_lead (Z.look (ld_glob Z.inv hg hm ⟨rfl, rfl⟩ hdb) ?_)
  refine callZ_of (K := X.K) (by rw [he]; show ((false || (backTo pos (starEach es X.env)).any (·.1)) || false) = false; rw [hpl]; rfl) hk ?_
  have z := argsZ (pos := pos) (R := fun us s1 => X.K.In s1.heap ∧ wpZ (model X.prog X.w) X.A (call (.ref f) ([] ++ us)) (EPz X pins σ Q) noE s1) (E' := noE) ha Z h fun us vs s1 H1 Z1 r q => ⟨Inv.kIn (s := dullS s1) Z1.inv, run_fnz F hr hb hd Z1 r q⟩
  rw [he] at z ⊢
  exact Calls.evalArgs_plain z
theorem pez_meth (he : PE X.nox o ta) (F : FnZ X.prog X.w X.K X.mg X.base k f fd ps sp) (hr : Room k X.A) (hb : Binds X.K fd ps ds) (hd : Vals dvs ds) {C : Addr} (c : Cls X.K C) (hm : Meth X.K C m f) (ha : PA X.nox (e :: es) t) {pl : Sem Bool}
    (hst : starEach (e :: es) X.env = (false, eval e X.env) :: starEach es X.env := by rfl) (hpl : (backTo pos (starEach es X.env)).any (·.1) = false := by rfl)
    (ht : eval (.Call (.Attribute o m apos) (e :: es) [] pos) X.env = (do let ov ← eval o X.env; standAt apos.atName; let (f, first) ← holding [ov] (getMethod ov m pl); callWith pos f first (backTo pos (starEach (e :: es) X.env)) (backToKw pos (keywordEach [] X.env))) := by rfl) :
    PEz X (.Call (.Attribute o m apos) (e :: es) [] pos) (tMeth C m sp dvs E ta t) := by
  refine ⟨fun pins s σ H Q Z h => ?_⟩
  rw [ht]
  refine wpZ_lead (InvZ.lead Z (E := X.nox.xe) (fun _ _ z => z) (fun I => he.run pins _ σ H _ (I.wish _) h) fun u s1 du q => ?_)
  obtain ⟨y, H1, I1, ry, a, dx, fs, ey, ea, l, q⟩ := q
  subst ey
  obtain rfl : u = Value.ref a := ry
  have Z1 : InvZ X pins σ H1 (mendS s.gens s1) := Z.then rfl du I1.unwish
  refine wpZ_lead (wpAny_standAt (wpZ_lead (wpAny_holding (Z1.look (getmeth_ok Z1.inv ea c hm l ⟨rfl, rfl⟩) ?_))))
  refine callZ_of (K := X.K) (by rw [hst]; show ((false || (backTo pos (starEach es X.env)).any (·.1)) || false) = false; rw [hpl]; rfl) hm.kp ?_
  have z := argsZ (pos := pos) (R := fun us s1 => X.K.In s1.heap ∧ wpZ (model X.prog X.w) X.A (call (.ref f) ([.ref a] ++ us)) (EPz X pins σ Q) noE s1) (E' := noE) ha Z1 q fun us vs s1 H1 Z1 r q => ⟨Inv.kIn (s := dullS s1) Z1.inv, run_fnz F hr hb hd (us := .ref a :: us) (vs := .ref a :: vs) Z1 (.cons rfl r) q⟩
  rw [hst] at z ⊢
  exact Calls.evalArgs_plain z
end
end GW
end

section
set_option Elab.async false
set_option linter.all false
set_option maxRecDepth 100000
set_option maxHeartbeats 1000000
/-! for: over what the layer walks, with any body; over a generator. -/
namespace GW
open PySem PySem.Spec PyProof.Rows L2 LY GenW

section
variable {P : Program} {w : World} {A : Around} {R : Result → Shared → Prop} {tg : Expr} {itv : Value} {body : List Stmt} {env : Env}
theorem codeZ_block {s : Shared} (h : R (.ok .next) s) : codeZ (model P w) A (.block [] env) R s := by
  refine codeZ_tree ?_
  rw [Around.under_of_weight rfl]
  show wpZ _ A ((execs [] env).onRaise _ >>= fun f => (pure (PySem.Fin.done f) : FinS)) _ _ s
  exact wpZ_bind (wpZ_onRaise (wpZ_pure (wpZ_pure h)))
def Turned (R : Result → Shared → Prop) (I : Nat → Shared → Prop) (n : Nat) (f : Flow) (s : Shared) : Prop := match f with
  | .next | .cont => ∃ m, m < n ∧ I m s
  | .brk => R (.ok .next) s
  | .ret v => R (.ok (.ret v)) s
theorem codeZ_forLoop (I : Nat → Shared → Prop) (turn : ∀ n s, I n s → wpZ (model P w) A (pyNext itv) (fun r s1 => match r with
      | none => R (.ok .next) s1
      | some v => wpZ (model P w) A (letOwnedTupleGo tg itv v) (fun _ s2 => wpZ (model P w) A (assign tg env v) (fun _ s3 => wpZ (model P w) A (execs body env) (Turned R I n) noE s3) noE s2) noE s1) noE s) :
    ∀ n s, I n s → codeZ (model P w) A (.forLoop tg itv body [] env) R s := by
  intro n
  induction n using Nat.strongRecOn with
  | ind n ih =>
    intro s hI
    refine codeZ_tree ?_
    rw [Around.under_of_weight rfl]
    show wpZ _ A ((forTurn tg itv body [] env).onRaise _) _ _ s
    refine wpZ_onRaise (wpZ_mono (E := noE) (Q := codeGo (model P w) A R) ?_ (fun _ _ q => q) fun _ _ q => q.elim)
    simp only [forTurn]
    refine wpZ_lead (wpAny_standAt (wpZ_bind (wpZ_onRaise (wpZ_mono (turn n s hI) (fun r s1 h1 => ?_) fun _ _ q => q.elim))))
    cases r with
    | none => exact wpZ_pure ⟨rfl, codeZ_block h1⟩
    | some v =>
      refine wpZ_bind (wpZ_mono h1 (fun _ s2 h2 => wpZ_bind (wpZ_mono h2 (fun _ s3 h3 => wpZ_bind (wpZ_mono h3 (fun f s4 h4 => ?_) fun _ _ q => q.elim)) fun _ _ q => q.elim)) fun _ _ q => q.elim)
      cases f with
      | next => obtain ⟨m, lt, hm⟩ := h4; exact wpZ_pure ⟨rfl, ih m lt s4 hm⟩
      | cont => obtain ⟨m, lt, hm⟩ := h4; exact wpZ_pure ⟨rfl, ih m lt s4 hm⟩
      | brk => exact wpZ_pure h4
      | ret v => exact wpZ_pure h4
theorem wpZ_For {iter : Expr} {pos : Pos} {Q : Flow → Shared → Prop} {s : Shared} (hs : ∀ x, foldedSetIterable iter env x = pure x)
    (h : wpZ (model P w) A (eval iter env) (fun v s1 => wpZ (model P w) A (pyIter v) (fun itv s2 => codeZ (model P w) A (.forLoop tg itv body [] env) (fun r s' => ∃ f, r = .ok f ∧ Q f s') s2) noE s1) noE s) : wpZ (model P w) A (exec (.For tg iter body [] pos) env) Q noE s := by
  rw [exec_For]
  refine wpZ_lead (wpAny_standAt (wpZ_bind (wpZ_mono h (fun v s1 h1 => ?_) fun _ _ q => q)))
  rw [hs v]
  refine wpZ_lead (wpAny_pure (wpZ_lead (wpAny_standAt (wpZ_bind (wpZ_holding (wpZ_mono h1 (fun itv s2 h2 => ?_) fun _ _ q => q))))))
  unfold runOwn
  refine wpZ_onRaise (wpZ_mono (E := noE) (Q := Q) (wpZ_run (by intro x; cases x) (codeZ_mono (A := A.mark none) h2 fun r s3 q => ?_)) (fun _ _ q => q) fun _ _ q => q.elim)
  obtain ⟨f, rfl, q⟩ := q
  exact q
end
end GW
end

section
set_option Elab.async false
set_option linter.all false
set_option maxRecDepth 100000
set_option maxHeartbeats 1000000
/-! for over a generator, in a plain def. -/
namespace GW
open PySem PySem.Spec PyProof.Rows L2 LY GenW

/-- between two turns of a walk over a generator: i items are out -/
structure BtwZ (X : Cx) (pins : List (Addr × Obj)) (d : GD) (sp : GSpec) (i : Nat) (σ : L2.St) (H : Hp) (s : Shared) (b : Bag) : Prop where
  inv : Inv X pins σ H (dullS s)
  nl : Nl (d.g0 :: b.ix) X.s_0.gens s.gens
  le : i ≤ sp.n
  ob : Obj1 d sp (sp.n - i) b s
  ok : b.Ok d
  bag : b.In H s
  gn : d.g0 < s.gens.size
  sz : d.n0 < s.heap.objs.size
  gof : H d.ga = none
  qt : i ≠ 0 → sp.qt = true → Nl [] X.s_0.gens s.gens
section
variable {X : Cx} {pins : List (Addr × Obj)} {d : GD} {sp : GSpec} {i : Nat} {σ : L2.St} {H H' : Hp} {s s' : Shared} {b : Bag}
theorem BtwZ.next {A : Around} {Q : Option Value → Shared → Prop} {E : Value → Shared → Prop} (F : Fits X pins d) (hh : A.handled = none) (hA : d.A = A.in1) (room : A.depth < recursionLimit) (B : BtwZ X pins d sp i σ H s b) (st : sp.st i H)
    (hitem : i < sp.n → ∀ v x s' H' b', BtwZ X pins d sp (i + 1) σ H' s' b' → RelV x v → sp.yld i H x H' → Q (some v) s')
    (hstop : i = sp.n → ∀ s' H', InvZ X pins σ H' s' → sp.fin H H' → Q none s') : wpZ (model X.prog X.w) A (pyNext (.ref d.ga)) Q E s := by
  obtain ⟨sl, hcl, hgo⟩ := B.ob.go
  have W : Woke d sp (sp.n - (sp.n - i)) b s H := ⟨F.wk B.inv B.sz, B.bag, B.gn, ⟨sl, hgo⟩, B.gof, by rw [show sp.n - (sp.n - i) = i by have := B.le; omega]; exact st⟩
  have z := gen_next (d := d) (sp := sp) (m := sp.n - i) (b := b) (s := s) (H := H) (B := A) (Q := Q) (E := E) hh hA (Inv.nolimit (s := dullS s) B.inv) room B.ok B.ob W (fun k ek v x s1 H1 b1 it => ?_) fun em s1 H1 h1 dd gz hf hk => ?_
  · rw [F.P, F.w] at z
    exact z
  · have e1 : sp.n - (k + 1) = i := by have := B.le; omega
    have yl := it.yl
    rw [e1] at yl
    have lt : i < sp.n := by omega
    have ob := it.ob
    have e2 : k = sp.n - (i + 1) := by omega
    rw [e2] at ob
    refine hitem lt v x s1 H1 b1 ⟨F.inv B.inv it.did, B.nl.woke it.did.nl, lt, ob, it.ok, it.bag, Nat.lt_of_lt_of_le B.gn it.gs, ?_, (it.did.go _ hgo).2, fun _ q => ?_⟩ it.rv yl
    · exact Nat.lt_trans F.fix.gon (Heap.lt_size (it.did.go _ hgo).1)
    · obtain ⟨⟨y, hy, hb⟩, hn⟩ := it.qt q
      intro j z e hz
      rcases B.nl.woke it.did.nl j z e hz with w | w
      · exact .inl w
      · rcases List.mem_cons.mp w with w | w
        · subst w
          rw [hy] at e
          cases e
          rw [hb] at hz
          cases hz
        · rw [show b1.ix = [] from by unfold Bag.ix; rw [hn]; rfl] at w
          simp at w
  · have e1 : i = sp.n := by have := B.le; omega
    have I1 : Inv X pins σ H1 (dullS s1) := F.inv B.inv dd
    exact hstop e1 _ H1 ⟨(Inv.kept (h' := h1) (t' := s1.toks) I1 hk : Inv X pins σ H1 { dullS s1 with heap := h1, toks := s1.toks }), B.nl.woke dd.nl⟩ hf
/-- what the expression gives -/
theorem newN_btw {k : Nat} {R : GSpec → Hp → Prop} {u : Value} {s1 : Shared} {A' : Around} (hr : Room k A') (hfr : A'.frames = some X.stack) (Z : InvZ X pins σ H s) (du : Dul s.gens s1) (h : NewN X k pins σ (dullS s) R u s1) :
    ∃ sp H1 d b, R sp H1 ∧ u = .ref d.ga ∧ d.A = A' ∧ Fits X pins d ∧ BtwZ X pins d sp 0 σ H1 (mendS s.gens s1) b := by
  obtain ⟨sp, H1, sc, hR, I1, hz, a, rfl, hos, hba, hk, hg, hgz, mk⟩ := h
  obtain ⟨d, b, c, rfl, eP, ew, eb, eo, eA, eos, en, eg, FI, ok, egn, bi, got, shp, gof, gst, rdy⟩ := mk A' hr hfr
  have I3 : Inv X pins σ H1 s1 := I1.call' (ch := []) hos (Un.kept hk) (I1.hok.kept hk) hba fun b z => by simp at z
  have g3 : (mendS s.gens s1).gens[d.g0]? = some (.fresh c) := (mend_other (du.no gst rfl)).trans gst
  refine ⟨sp, H1, d, b, hR, rfl, eA, ⟨eP, ew, eb, eo, eos.trans I1.os, ?_, ?_, fun x c h => ?_, fun p hp => ?_, FI⟩, (Inv.gens (s := s1) I3 allBare_dull : Inv X pins σ H1 { s1 with gens := _ }), (Z.nl.mend du hba).more, Nat.zero_le _, ⟨⟨#[], .inl rfl, got⟩, shp, .fresh c, g3, .inl ⟨c, rfl, rfl, rdy⟩⟩, ok, ⟨bi.obs, fun q hq => ?_⟩, (Array.getElem?_eq_some_iff.mp g3).1, Nat.lt_trans FI.gon (Heap.lt_size got), gof, fun h => absurd rfl h⟩
  · rw [en]; exact I1.sz
  · rw [en]; exact I1.lt
  · rw [en]
    obtain ⟨v, q⟩ := I1.cell x c h
    exact q.lt
  · rw [en]; exact Heap.lt_size (I1.pin p hp).1
  · rw [egn] at hq; simp at hq
end
end GW
end

section
set_option Elab.async false
set_option linter.all false
set_option maxRecDepth 100000
set_option maxHeartbeats 1000000
/-! The statements for x in g(..), for x in xs, of a plain def over such runs. -/
namespace GW
open PySem PySem.Spec PyProof.Rows L2 LY GenW

section
variable {X : Cx} {pins : List (Addr × Obj)} {d : GD} {sp : GSpec} {i : Nat} {σ : L2.St} {H H' : Hp} {s s' : Shared} {b : Bag}
theorem NewN.unwish {E : Value → Shared → Prop} {k : Nat} {R : GSpec → Hp → Prop} {u : Value} (h : NewN (X.wish E) k pins σ s R u s') : NewN X k pins σ s R u s' := by
  obtain ⟨sp, H1, s1, hR, I, hz, m⟩ := h
  exact ⟨sp, H1, s1, hR, I.unwish, hz, m⟩
/-- for over a generator that is walked to its end -/
def tForZ (tg : TGen) (g : TG) (tb : TS) : TS := fun D σ H => tg σ H fun sp H1 => ∃ W : Nat → L2.St → Hp → Prop, W 0 σ H1 ∧ ∀ i σ H, W i σ H → i ≤ sp.n → sp.st i H ∧
  (i = sp.n → ∀ H', sp.fin H H' → D.nx σ H') ∧ (i < sp.n → ∀ x H', sp.yld i H x H' → g x σ H' fun σ2 H2 => tb { nx := W (i + 1), ct := W (i + 1), bk := fun σ H => sp.qt = true ∧ D.nx σ H, rt := fun v H => sp.qt = true ∧ D.rt v H } σ2 H2)
theorem Obj1.keepZ {m : Nat} {s2 : Shared} {o : Obj} (ob : Obj1 d sp m b s) (e : s.heap.get? d.ga = some o) (e2 : s2.heap.get? d.ga = some o) (hm : m ≠ sp.n) (k : Keeps s.gens s2.gens) : Obj1 d sp m b s2 := by
  obtain ⟨⟨sl, hc, h1⟩, h2, x, hx, h⟩ := ob
  rw [h1] at e
  cases e
  refine ⟨⟨sl, hc, e2⟩, h2, x, k d.g0 x hx ?_, h⟩
  rcases h with ⟨c, rfl, e, _⟩ | ⟨_, _, _, _, _, _, rfl, _⟩
  · exact absurd e hm
  · rfl
theorem psz_forN {k : Nat} {tg iter : Expr} {body : List Stmt} {t : TGen} {g : TG} {tb : TS} {pos : Pos} (hc : X.calm = true) (hr : Room (k + 1) X.A) (hi : PGn X.nox k iter t) (hg : PG X.nox tg g) (hb : PSs X.nox body tb)
    (hs : ∀ x, foldedSetIterable iter X.env x = pure x := by intro _; rfl) : PSz X (.For tg iter body [] pos) (tForZ t g tb) := by
  refine ⟨fun pins s σ H D Z h => ?_⟩
  refine wpZ_For hs ?_
  refine wpZ_of (InvZ.lead Z (E := X.nox.xe) (fun _ _ q => q) (fun I => hi.run pins _ σ H _ (I.wish _) h) fun u s1 du q => ?_)
  obtain ⟨sp, H1, d, b, ⟨W, w0, turn⟩, rfl, hA, F, B⟩ := newN_btw (hr.in1) Z.inv.ok.frames Z du (NewN.unwish q)
  refine wpZ_of (iter_gen B.ob.ty ?_)
  refine codeZ_forLoop (fun n s' => ∃ i σ' H' b', n = sp.n - i ∧ BtwZ X pins d sp i σ' H' s' b' ∧ W i σ' H') ?_ _ _ ⟨0, σ, H1, b, rfl, B, w0⟩
  rintro n s2 ⟨i, σ2, H2, b2, rfl, B2, w2⟩
  obtain ⟨st, q0, q1⟩ := turn i σ2 H2 w2 B2.le
  refine B2.next F (B2.inv.ok.hd hc) hA hr.depth st (fun lt v x s3 H3 b3 B3 rv yl => ?_) fun e s3 H3 Z3 hf => ⟨.next, rfl, σ2, H3, Z3, q0 e H3 hf⟩
  obtain ⟨nm, qn, hcls, hdat⟩ := B3.ob.shp
  obtain ⟨sl, hcl, hgo⟩ := B3.ob.go
  have goc : ∀ v, ({ d.go0 with slots := sl } : Obj).data ≠ .cell v := fun v q => by
    have q' : d.go0.data = .cell v := q
    rw [hdat] at q'
    cases q'
  refine wpZ_of (go_of hgo hcls hdat (by decide) ?_)
  have I3 := F.pin B3.inv B3.ok B3.bag.obs hgo B3.gof goc
  refine wpZ_of (wpAny_mono (wpAny_calm (hg.run _ _ σ2 H3 x v _ (I3.wish _) rv (q1 lt x H3 yl))) (fun _ s4 q => ?_) fun _ s4 q => ?_)
  · obtain ⟨s5, rfl, du5, σ5, H5, I5, q5⟩ := q
    refine wpZ_of (wpAny_mono (wpAny_mend du5 (hb.run _ s5 σ5 H5 _ I5 q5)) (fun f s6 q => ?_) fun _ s6 q => ?_)
    · obtain ⟨s7, rfl, du7, q⟩ := q
      have again : ∀ {σ7 : L2.St} {H7 : Hp}, Inv X.nox (pins ++ (d.ga, { d.go0 with slots := sl }) :: b3.obs) σ7 H7 s7 → W (i + 1) σ7 H7 → ∃ m, m < sp.n - i ∧ ∃ i' σ' H' b', m = sp.n - i' ∧ BtwZ X pins d sp i' σ' H' (mendS s3.gens s7) b' ∧ W i' σ' H' := fun {σ7 H7} J w7 => by
        have J2 : Inv X (pins ++ (d.ga, { d.go0 with slots := sl }) :: b3.obs) σ7 H7 s7 := J.unwish
        have pk : ∀ p ∈ (d.ga, ({ d.go0 with slots := sl } : Obj)) :: b3.obs, s7.heap.get? p.1 = some p.2 ∧ H7 p.1 = none := fun p hp' => by
          obtain ⟨y1, y2, _⟩ := J2.pin p (List.mem_append_right _ (List.mem_append_right _ hp'))
          exact ⟨y1, y2⟩
        have eg := (pk _ List.mem_cons_self).1
        refine ⟨sp.n - (i + 1), by omega, i + 1, σ7, H7, b3, rfl, ⟨(Inv.gens (s := s7) J2.unpinned allBare_dull : Inv X pins σ7 H7 { s7 with gens := _ }), B3.nl.mend du7 J2.bare, lt, B3.ob.keepZ hgo eg (by omega) du7.keeps, B3.ok, ⟨fun p hp => pk p (List.mem_cons_of_mem _ hp), fun q hq => du7.keeps q.1 q.2 (B3.bag.gns q hq) (B3.ok.gns q hq).2⟩, Nat.lt_of_lt_of_le B3.gn du7.ge, Nat.lt_trans F.fix.gon (Heap.lt_size eg), (pk _ List.mem_cons_self).2, fun hi q => (B3.qt hi q).mend du7 J2.bare⟩, w7⟩
      cases f with
      | next => obtain ⟨σ7, H7, J, w7⟩ := q; exact again J w7
      | cont => obtain ⟨σ7, H7, J, w7⟩ := q; exact again J w7
      | brk =>
        obtain ⟨σ7, H7, J, hq, w7⟩ := q
        have J2 : Inv X (pins ++ (d.ga, { d.go0 with slots := sl }) :: b3.obs) σ7 H7 s7 := J.unwish
        exact ⟨.next, rfl, σ7, H7, ⟨(Inv.gens (s := s7) J2.unpinned allBare_dull : Inv X pins σ7 H7 { s7 with gens := _ }), (B3.qt (by omega) hq).mend du7 J2.bare⟩, w7⟩
      | ret y =>
        obtain ⟨x7, σ7, H7, J, r7, hq, w7⟩ := q
        have J2 : Inv X (pins ++ (d.ga, { d.go0 with slots := sl }) :: b3.obs) σ7 H7 s7 := J.unwish
        exact ⟨.ret y, rfl, x7, σ7, H7, ⟨(Inv.gens (s := s7) J2.unpinned allBare_dull : Inv X pins σ7 H7 { s7 with gens := _ }), (B3.qt (by omega) hq).mend du7 J2.bare⟩, r7, w7⟩
    · obtain ⟨_, _, _, q⟩ := q
      exact q.elim
  · obtain ⟨_, _, _, q⟩ := q
    exact q.elim
end
end GW
end

section
set_option Elab.async false
set_option linter.all false
set_option maxRecDepth 100000
set_option maxHeartbeats 1000000
/-! for over what the layer walks, with a body over such runs; calls without written arguments; tests. -/
namespace GW
open PySem PySem.Spec PyProof.Rows L2 LY GenW

section
variable {X : Cx} {pins : List (Addr × Obj)} {σ : L2.St} {H : Hp} {s : Shared}
theorem psz_for {tg iter : Expr} {body : List Stmt} {wi : TI} {g : TG} {tb : TS} {pos : Pos} (hc : X.calm = true) (hi : PI X.nox tg iter wi) (hg : PG X.nox tg g) (hb : PSsz X body tb) (hs : ∀ x, foldedSetIterable iter X.env x = pure x := by intro _; rfl) :
    PSz X (.For tg iter body [] pos) (tFor wi g tb) := by
  refine ⟨fun pins s σ H D Z h => ?_⟩
  refine wpZ_For hs ?_
  refine wpZ_of (InvZ.lead Z (E := X.nox.xe) (fun _ _ q => q) (fun I => hi.run pins _ σ H _ (I.wish _) h) fun v s1 du q => ?_)
  refine wpZ_of (wpAny_mono (wpAny_mend du q) (fun itv s2 q => ?_) fun _ s2 q => ?_)
  rotate_left
  · obtain ⟨_, _, _, q⟩ := q
    exact (q : False).elim
  obtain ⟨s3, rfl, du3, it, fp, tn, J, H2, e, I2, T, st2, f2, W, ⟨m0, w0⟩, turn⟩ := q
  subst e
  have Z2 : InvZ X pins σ H2 (mendS s.gens s3) := Z.then rfl du3 I2.unwish
  have stat : ∀ {H' : Hp}, (∀ b ∈ fp, H' b = none) → ∀ b ∈ fp, FpOk X pins H' b := fun hn b hb => ⟨hn b hb, (f2 b hb).2⟩
  refine codeZ_forLoop (fun n s' => ∃ i σ' H', InvZ X pins σ' H' s' ∧ tn i s'.heap ∧ (∀ b ∈ fp, H' b = none) ∧ W i n σ' H') ?_ m0 _ ⟨0, σ, H2, Z2, st2, fun b hb => (f2 b hb).1, w0⟩
  rintro n s4 ⟨i, σ4, H4, Z4, st4, fr4, w4⟩
  rcases turn i n σ4 H4 w4 with ⟨stop, qn⟩ | ⟨go, N, hN, step⟩
  · refine wpZ_of (InvZ.lead Z4 (E := noE) (fun _ _ q => q) (fun I => T.done X rfl rfl rfl hc i pins _ σ4 H4 noE I (stat fr4) st4 stop) fun r s5 du5 q => ?_)
    obtain ⟨rfl, I5⟩ := q
    exact ⟨.next, rfl, σ4, H4, Z4.then rfl du5 I5, qn⟩
  · refine wpZ_of (InvZ.lead Z4 (E := noE) (fun _ _ q => q) (fun I => T.item X rfl rfl rfl hc i pins _ σ4 H4 noE I (stat fr4) st4 go) fun r s5 du5 q => ?_)
    obtain ⟨u, rfl, q⟩ := q
    refine wpZ_of (wpAny_mono (wpAny_mend du5 q) (fun _ s6 q => ?_) fun _ s6 q => ?_)
    rotate_left
    · obtain ⟨_, _, _, q⟩ := q
      exact q.elim
    obtain ⟨s7, rfl, du7, x, H7, I7, r7, y7, st7, fr7⟩ := q
    have I7' : Inv X (pins ++ pinsAt fp s7.heap) σ4 H7 s7 := I7.pinned (stat fr7) (T.obj _ _ st7)
    have Z7 : InvZ X (pins ++ pinsAt fp s7.heap) σ4 H7 (mendS s4.gens s7) := Z4.then rfl du7 I7'
    refine wpZ_of (InvZ.lead Z7 (E := X.nox.xe) (fun _ _ q => q) (fun I => hg.run _ _ σ4 H7 x u _ (I.wish _) r7 (step x H7 y7)) fun _ s8 du8 q => ?_)
    obtain ⟨σ8, H8, I8, q8⟩ := q
    refine wpZ_mono (hb.run _ _ σ8 H8 _ (Z7.then rfl du8 I8.unwish) q8) (fun f s9 q9 => ?_) fun _ _ q => q
    have again : ∀ {σ9 : L2.St} {H9 : Hp}, InvZ X (pins ++ pinsAt fp s7.heap) σ9 H9 s9 → N σ9 H9 → ∃ m, m < n ∧ ∃ i σ' H', InvZ X pins σ' H' s9 ∧ tn i s9.heap ∧ (∀ b ∈ fp, H' b = none) ∧ W i m σ' H' := fun {σ9 H9} Z9 n9 => by
      obtain ⟨m', hm, w9⟩ := hN σ9 H9 n9
      have pk : ∀ b ∈ fp, ∀ o, s7.heap.get? b = some o → s9.heap.get? b = some o ∧ H9 b = none := fun b hb o e => by
        obtain ⟨h1, h2, _⟩ := Z9.inv.pin (b, o) (List.mem_append_right _ (List.mem_append_right _ (mem_pinsAt hb e)))
        exact ⟨h1, h2⟩
      refine ⟨m', hm, i + 1, σ9, H9, ⟨Z9.inv.unpinned, Z9.nl⟩, T.keep _ _ _ st7 fun b hb o e => (pk b hb o e).1, fun b hb => ?_, w9⟩
      obtain ⟨o, e, _⟩ := T.obj _ _ st7 b hb
      exact (pk b hb o e).2
    have less : ∀ {σ9 : L2.St} {H9 : Hp}, InvZ X (pins ++ pinsAt fp s7.heap) σ9 H9 s9 → InvZ X pins σ9 H9 s9 := fun Z9 => ⟨Z9.inv.unpinned, Z9.nl⟩
    cases f with
    | next => obtain ⟨σ9, H9, Z9, n9⟩ := q9; exact again Z9 n9
    | cont => obtain ⟨σ9, H9, Z9, n9⟩ := q9; exact again Z9 n9
    | brk => obtain ⟨σ9, H9, Z9, q9⟩ := q9; exact ⟨.next, rfl, σ9, H9, less Z9, q9⟩
    | ret v => obtain ⟨x9, σ9, H9, Z9, r9, q9⟩ := q9; exact ⟨.ret v, rfl, x9, σ9, H9, less Z9, r9, q9⟩
end
end GW
end

section
set_option Elab.async false
set_option linter.all false
set_option maxRecDepth 100000
set_option maxHeartbeats 1000000
/-! Tests and values of not, and, or; calls without written arguments. -/
namespace GW
open PySem PySem.Spec PyProof.Rows L2 LY GenW

section
variable {X : Cx} {e a b o : Expr} {rest es : List Expr} {te ta tb : TE} {tA tB' : TT} {pos p apos : Pos}
/-- all of some tests, in turn -/
structure PAllz (X : Cx) (op : BoolOp) (es : List Expr) (t : TT) : Prop where
  run : ∀ (pins : List (Addr × Obj)) (s : Shared) (σ : L2.St) (H : Hp) (Q : Bool → Hp → Prop), InvZ X pins σ H s → t σ H Q → wpZ (model X.prog X.w) X.A (allTrue op es X.env) (TPz X pins σ Q) noE s
theorem pallz_and_nil : PAllz X .And [] (fun _ H Q => Q true H) := ⟨fun pins s σ H Q Z h => wpZ_pure ⟨H, Z, h⟩⟩
theorem pallz_or_nil : PAllz X .Or [] (fun _ H Q => Q false H) := ⟨fun pins s σ H Q Z h => wpZ_pure ⟨H, Z, h⟩⟩
theorem pallz_and (ha : PTz X a tA) (hb : PAllz X .And rest tB') : PAllz X .And (a :: rest) (tAnd tA tB') := by
  refine ⟨fun pins s σ H Q Z h => ?_⟩
  rw [arm_allTrue_cons]
  refine wpZ_bind (wpZ_mono (ha.run pins s σ H _ Z h) (fun c s1 ⟨H1, Z1, q⟩ => ?_) fun _ _ q => q)
  cases c with
  | true => exact hb.run pins s1 σ H1 Q Z1 q
  | false => exact wpZ_pure ⟨H1, Z1, q⟩
theorem pallz_or (ha : PTz X a tA) (hb : PAllz X .Or rest tB') : PAllz X .Or (a :: rest) (tOr tA tB') := by
  refine ⟨fun pins s σ H Q Z h => ?_⟩
  rw [arm_allTrue_cons]
  refine wpZ_bind (wpZ_mono (ha.run pins s σ H _ Z h) (fun c s1 ⟨H1, Z1, q⟩ => ?_) fun _ _ q => q)
  cases c with
  | true => exact wpZ_pure ⟨H1, Z1, q⟩
  | false => exact hb.run pins s1 σ H1 Q Z1 q
theorem ptz_bool {op : BoolOp} {t : TT} (h : PAllz X op es t) : PTz X (.BoolOp op es pos) t := by
  refine ⟨fun pins s σ H Q Z ht => ?_⟩
  rw [arm_isTrue_BoolOp]
  exact h.run pins s σ H Q Z ht
theorem ptz_not (ha : PTz X a tA) : PTz X (.UnaryOp .Not a pos) (tNot tA) := by
  refine ⟨fun pins s σ H Q Z h => ?_⟩
  rw [arm_isTrue_UnaryOp]
  exact wpZ_bind (wpZ_mono (ha.run pins s σ H (fun c H1 => Q (!c) H1) Z h) (fun c s1 q => wpZ_pure q) fun _ _ q => q)
/-- a bool as a test -/
theorem ptz_val (h : PEz X e te) (he : ∀ whole, isTrue e X.env whole = (do let v ← whole; standAt e.pos; holding [v] (truthy v)) := by intro _; rfl) : PTz X e (tB te) := by
  refine ⟨fun pins s σ H Q Z hw => ?_⟩
  rw [he]
  refine wpZ_bind (wpZ_mono (h.run pins s σ H _ Z hw) (fun v s1 ⟨x, H1, Z1, r, q⟩ => ?_) fun _ _ q => q)
  obtain ⟨d, rfl, q⟩ := q
  cases r
  exact wpZ_of (wpAny_bind (wpAny_standAt (wpAny_holding (wpAny_truthy_bool ⟨H1, Z1, q⟩))))
/-- a and b, as values that are bools -/
theorem pez_and2 (ha : PEz X a ta) (hb : PEz X b tb) : PEz X (.BoolOp .And [a, b] pos) (tAndV ta tb) := by
  refine ⟨fun pins s σ H Q Z h => ?_⟩
  rw [arm_eval_BoolOp]
  show wpZ _ _ (eval a X.env >>= fun v => standAt pos >>= fun _ => holding [v] (truthy v) >>= fun t => match BoolOp.And, t with
    | .And, false | .Or, true => pure v
    | _, _ => boolOp pos .And [eval b X.env]) _ _ s
  refine wpZ_bind (wpZ_mono (ha.run pins s σ H _ Z h) (fun v s1 ⟨x, H1, Z1, r, q⟩ => ?_) fun _ _ q => q)
  obtain ⟨c, rfl, q⟩ := q
  cases r
  refine wpZ_lead (wpAny_standAt (wpZ_lead (wpAny_holding (wpAny_truthy_bool ?_))))
  cases c with
  | true => exact hb.run pins s1 σ H1 Q Z1 q
  | false => exact wpZ_pure ⟨.bl false, H1, Z1, rfl, q⟩
variable {k : Nat} {f : Addr} {fd : FuncData} {ps : List Str} {sp : Sp} {ds : List Value} {dvs : List V} {E : XK} {x m : Str}
theorem call0Z {pins : List (Addr × Obj)} {σ : L2.St} {H : Hp} {s : Shared} {g : Value} {first : List Value} {Q : VK} (Z : InvZ X pins σ H s) (hk : PySem.W.keepIn X.K g = true) (h : wpZ (model X.prog X.w) X.A (call g (first ++ [])) (EPz X pins σ Q) noE s) :
    wpZ (model X.prog X.w) X.A (callWith pos g first (backTo pos (starEach [] X.env)) (backToKw pos (keywordEach [] X.env))) (EPz X pins σ Q) noE s :=
  callZ_of (K := X.K) rfl hk (evalArgs_nil3 ⟨Inv.kIn (s := dullS s) Z.inv, h⟩)
theorem pez_call0 (F : FnZ X.prog X.w X.K X.mg X.base k f fd ps sp) (hr : Room k X.A) (hg : Gl X x) (hm : X.mg x = some (.ref f)) (hk : PySem.W.keepIn X.K (.ref f) = true) (hb : Binds X.K fd ps ds) (hd : Vals dvs ds) (hdb : (x == ("__debug__" : Str)) = false := by decide) :
    PEz X (.Call (.Name x p) [] [] pos) (tCall sp dvs E tNil) := by
  refine ⟨fun pins s σ H Q Z h => ?_⟩
  rw [arm_eval_Call_Name']
  refine wpZ_lead (Z.look (ld_glob Z.inv hg hm ⟨rfl, rfl⟩ hdb) (call0Z Z hk ?_))
  exact run_fnz F hr hb hd (us := []) (vs := []) Z .nil h
theorem pez_meth0 (he : PE X.nox o ta) (F : FnZ X.prog X.w X.K X.mg X.base k f fd ps sp) (hr : Room k X.A) (hb : Binds X.K fd ps ds) (hd : Vals dvs ds) {C : Addr} (c : Cls X.K C) (hm : Meth X.K C m f) {pl : Sem Bool}
    (ht : eval (.Call (.Attribute o m apos) [] [] pos) X.env = (do let ov ← eval o X.env; standAt apos.atName; let (f, first) ← holding [ov] (getMethod ov m pl); callWith pos f first (backTo pos (starEach [] X.env)) (backToKw pos (keywordEach [] X.env))) := by rfl) :
    PEz X (.Call (.Attribute o m apos) [] [] pos) (tMeth C m sp dvs E ta tNil) := by
  refine ⟨fun pins s σ H Q Z h => ?_⟩
  rw [ht]
  refine wpZ_lead (InvZ.lead Z (E := X.nox.xe) (fun _ _ z => z) (fun I => he.run pins _ σ H _ (I.wish _) h) fun u s1 du q => ?_)
  obtain ⟨y, H1, I1, ry, a, dx, fs, ey, ea, l, q⟩ := q
  subst ey
  obtain rfl : u = Value.ref a := ry
  have Z1 : InvZ X pins σ H1 (mendS s.gens s1) := Z.then rfl du I1.unwish
  refine wpZ_lead (wpAny_standAt (wpZ_lead (wpAny_holding (Z1.look (getmeth_ok Z1.inv ea c hm l ⟨rfl, rfl⟩) (call0Z Z1 hm.kp ?_)))))
  exact run_fnz F hr hb hd (us := [.ref a]) (vs := [.ref a]) Z1 (.cons rfl .nil) q
end
end GW
end

section
set_option Elab.async false
set_option linter.all false
set_option maxRecDepth 100000
set_option maxHeartbeats 1000000
/-! C(..) of a class whose __init__ runs so. -/
namespace GW
open PySem PySem.Spec PyProof.Rows PySem.W L2 LY GenW

section
variable {prog : Program} {w : World} {A : Around} {C : Addr} {R : Result → Shared → Prop} {h : Heap} {g : Array GenState} {d : Drawn} {t : Nat} {os : OsState} {s : Shared}
theorem codeZ_call_builtin_at {id : String} {args : Args} {b : Builtin} (hq : (Code.builtin id args).quiet = true) (hb : entryFor table id = some b)
    (h : wpAny (model prog w) A.in1 (checkBuiltinCall id args) (fun _ s1 => wpZ (model prog w) (A.under (.builtin id args)) (b args) (codeGo (model prog w) A R) (fun e s' => R (.error e) s') s1) (fun e s' => R (.error e) s') s) : codeZ (model prog w) A (.call (.builtin id) args) R s := by
  refine codeZ_tree ?_
  show wpZ _ A.in1 (checkBuiltinCall id args >>= fun _ => again (.builtin id args)) _ _ s
  refine wpZ_lead (wpAny_mono h (fun _ s1 q => wpZ_pure ⟨hq, codeZ_tree ?_⟩) fun _ _ q => q)
  show wpZ _ _ (match entryFor table id with | some b => b args | none => unsupported ((withoutEnding? id "#data").getD id)) _ _ s1
  rw [hb]; exact q
theorem makeZ {rest : List Value} {kw : List (Str × Value)} {init : Value} (Y : Makes (model prog w) h C) (hi : Looks (model prog w) h (typeLookup (.ref C) "__init__") (some init)) (hb : ∀ self, Looks (model prog w) h (bindSpecial init self) (init, [self])) (hne : (some init != some (Value.builtin "object.__init__")) = true)
    (hq : codeZ (model prog w) (A.under (.builtin "type.__call__" ⟨.ref C :: rest, kw⟩)) (.call init ⟨.ref (h.objs.size + 1) :: rest, kw⟩) (fun r s' => r = .ok (.ret .none) ∧ R (.ok (.ret (.ref (h.objs.size + 1)))) s') ⟨(h.push emptyDict).push (instObj C h.objs.size), g, d, t, os⟩) :
    codeZ (model prog w) A (.call (.ref C) ⟨rest, kw⟩) R ⟨h, g, d, t, os⟩ := by
  have Y' := Y
  obtain ⟨⟨oc, od, cd, sl, hC, e1, e2, e4⟩, made, base, self, top, call, typ⟩ := Y
  have k : ∀ b o, h.get? b = some o → ((h.push emptyDict).push (instObj C h.objs.size)).get? b = some o := fun b o e => Heap.get?_push_of_some _ (Heap.get?_push_of_some _ e)
  have hx : ((h.push emptyDict).push (instObj C h.objs.size)).get? (h.objs.size + 1) = some (instObj C h.objs.size) := by heap_get
  have t1 : Looks (model prog w) ((h.push emptyDict).push (instObj C h.objs.size)) (typeOf (.ref (h.objs.size + 1))) (.ref C) := (Looks.ld hx).andThen .now
  have s1 := self.keeps k
  have i1 := hi.keeps k
  have b1 := (hb (.ref (h.objs.size + 1))).keeps k
  have hm : Looks (model prog w) h (mroOf (.ref C)) cd.mro := ((Looks.ld (part := none) hC).andThen .now).andThen .now
  refine codeZ_tree (wpZ_of ?_)
  show wpAny _ _ (callAny (.ref C) _) _ _ _
  refine nd_load hC ?_
  show wpAny _ _ (callAny.viaDunder (.ref C) _) _ _ _
  unfold callAny.viaDunder
  refine wpAny_bind (call.at ?_)
  dsimp only
  rw [tc_bind]
  refine wpAny_bind (wpAny_pure (wpAny_bind (wpAny_pure ?_)))
  refine wpAny_pure (a := PySem.Fin.again (.call (.builtin "type.__call__") ⟨.ref C :: rest, kw⟩)) ⟨rfl, ?_⟩
  refine codeZ_call_builtin_at (Code.quiet_builtin _ (by decide +kernel)) entry_typeCall (check_slot tc_kind tc_split typ (tc_args _ _ _) ?_)
  unfold Builtin.«type.__call__»
  have inst : Looks (model prog w) ((h.push emptyDict).push (instObj C h.objs.size)) (isInstance (.ref (h.objs.size + 1)) (.ref C)) true := by
    unfold isInstance
    exact t1.andThen s1
  have spec : Looks (model prog w) ((h.push emptyDict).push (instObj C h.objs.size)) (specialOf (.ref (h.objs.size + 1)) "__init__") (some init) := by
    unfold specialOf
    exact t1.andThen i1
  try dsimp only
  rw [if_neg (show ¬ ((Value.ref C == Value.type "type") = true) from Bool.false_ne_true)]
  refine wpZ_lead (hm.here ?_)
  rw [if_neg (by rw [e4]; decide)]
  refine wpZ_lead (made.here ?_)
  try dsimp only
  refine wpZ_lead (wpAny_pure (wpZ_lead (wpAny_holding (wpAny_call (new_K Y' hi (.inl hne) ?_)))))
  refine wpZ_lead (inst.here ?_)
  rw [if_neg (by decide)]
  refine wpZ_bind (wpZ_holding ?_)
  simp only [callSpecial?]
  refine wpZ_lead (spec.here ?_)
  dsimp only
  refine wpZ_holding (wpZ_lead (b1.here ?_))
  dsimp only
  refine wpZ_bind (wpZ_callV (codeZ_mono hq fun r s2 q => ?_))
  obtain ⟨rfl, q⟩ := q
  refine wpZ_pure ?_
  dsimp only
  rw [if_neg (show ¬ ((Value.none != Value.none) = true) by decide)]
  exact wpZ_pure q
end
section
variable {X : Cx} {k : Nat} {C f : Addr} {fd : FuncData} {ps : List Str} {sp : Sp} {ds : List Value} {dvs : List V} {E : XK} {e : Expr} {es : List Expr} {t : TA} {x : Str} {p pos : Pos} {pins : List (Addr × Obj)} {σ : L2.St} {H : Hp} {s : Shared}
theorem run_makeZ {Q : VK} {us : List Value} {vs : List V} (M : Mk X.K C f) (F : FnZ X.prog X.w X.K X.mg X.base k f fd ps sp) (hr : Room (k + 1) X.A) (hb : Binds X.K fd ps ds) (hd : Vals dvs ds) (Z : InvZ X pins σ H s) (r : Vals vs us)
    (h : ∀ x dx, H x = none → H dx = none → dx ≠ x → sp (.ref x :: (vs ++ dvs)) (upd (upd H dx (.own x)) x (.ins C dx [])) (fun v H2 => v = .non ∧ Q (.ref x) H2) E) : wpZ (model X.prog X.w) X.A (call (.ref C) us) (EPz X pins σ Q) noE s := by
  have hok : HOk X.prog X.w H s.heap := Z.inv.hok
  have hq := h (s.heap.objs.size + 1) s.heap.objs.size (hok.fresh (Nat.le_succ _)) (hok.fresh (Nat.le_refl _)) (Nat.ne_of_lt (Nat.lt_succ_self _))
  have I2 := Inv.made (C := C) Z.inv
  have r2 : Vals (V.ref (s.heap.objs.size + 1) :: (vs ++ dvs)) (Value.ref (s.heap.objs.size + 1) :: (us ++ ds)) := .cons rfl (r.append hd)
  have hl : (Value.ref (s.heap.objs.size + 1) :: us ++ ds).length = ps.length := by
    have e := r2.length
    rw [F.len _ _ _ _ hq] at e
    exact e.symm
  have kin : X.K.In s.heap := Inv.kIn (s := dullS s) Z.inv
  obtain ⟨hh, g, d, tk, os⟩ := s
  have Z2 : InvZ X pins σ (upd (upd H hh.objs.size (.own (hh.objs.size + 1))) (hh.objs.size + 1) (.ins C hh.objs.size [])) ⟨(hh.push emptyDict).push (instObj C hh.objs.size), g, d, tk, os⟩ := ⟨I2, Z.nl⟩
  refine wpZ_callV (makeZ (makes_of kin M.makes) (looks_findIn kin M.init) (fun self => bind_fn kin self (beq_iff_eq.mp M.fn)) rfl (codeZ_mono (F.run _ X.stack _ _ ⟨Value.ref (hh.objs.size + 1) :: us, []⟩ (Value.ref (hh.objs.size + 1) :: (us ++ ds)) _ _ E (hr.make C us [])
    (Z2.env0.make C us []) (hb _ (Value.ref (hh.objs.size + 1) :: us) (Inv.kIn (s := dullS ⟨(hh.push emptyDict).push (instObj C hh.objs.size), g, d, tk, os⟩) Z2.inv) hl) r2 hq) fun r s' hq' => ?_))
  obtain ⟨u, rfl, hq'⟩ := hq'
  obtain ⟨v, H', Z3, rv, ev, q3⟩ := Z2.after hq'
  subst ev
  have eu : u = Value.none := rv
  subst eu
  exact ⟨rfl, V.ref (hh.objs.size + 1), H', Z3, rfl, q3⟩
theorem pez_make (M : Mk X.K C f) (F : FnZ X.prog X.w X.K X.mg X.base k f fd ps sp) (hr : Room (k + 1) X.A) (hg : Gl X x) (hm : X.mg x = some (.ref C)) (hb : Binds X.K fd ps ds) (hd : Vals dvs ds) (ha : PA X.nox (e :: es) t)
    (hdb : (x == ("__debug__" : Str)) = false := by decide) (he : starEach (e :: es) X.env = (false, eval e X.env) :: starEach es X.env := by rfl) (hpl : (backTo pos (starEach es X.env)).any (·.1) = false := by rfl) : PEz X (.Call (.Name x p) (e :: es) [] pos) (tMake C sp dvs E t) := by
  refine ⟨fun pins s σ H Q Z h => ?_⟩
  rw [arm_eval_Call_Name']
  refine wpZ_lead (Z.look (ld_glob Z.inv hg hm ⟨rfl, rfl⟩ hdb) ?_)
  refine callZ_of (K := X.K) (by rw [he]; show ((false || (backTo pos (starEach es X.env)).any (·.1)) || false) = false; rw [hpl]; rfl) M.kp ?_
  have z := argsZ (pos := pos) (R := fun us s1 => X.K.In s1.heap ∧ wpZ (model X.prog X.w) X.A (PySem.call (.ref C) ([] ++ us)) (EPz X pins σ Q) noE s1) (E' := noE) ha Z h fun us vs s1 H1 Z1 r q => ⟨Inv.kIn (s := dullS s1) Z1.inv, run_makeZ M F hr hb hd Z1 r q⟩
  rw [he] at z ⊢
  exact Calls.evalArgs_plain z
end
end GW
end

section
set_option Elab.async false
set_option linter.all false
set_option maxRecDepth 100000
set_option maxHeartbeats 1000000
/-! a op b as a test, as a value; raise that no one comes to; an expression as a statement. -/
namespace GW
open PySem PySem.Spec PyProof.Rows L2 LY GenW

section
variable {X : Cx} {e a b : Expr} {te ta tb : TE} {pos : Pos} {r : R2} {pins : List (Addr × Obj)} {σ : L2.St} {H : Hp} {s : Shared}
/-- an operation of the layer's on two values -/
theorem opZ {f : Value → Value → Sem Value} {x y : V} {v u : Value} {Q : VK} (ho : OpR X.nox f r) (Z : InvZ X pins σ H s) (rx : RelV x v) (ry : RelV y u) (h : r x y H Q) {E' : Value → Shared → Prop} : wpAny (model X.prog X.w) X.A (f v u) (EPz X pins σ Q) E' s :=
  InvZ.lead Z (E := X.nox.xe) (fun _ _ q => q) (fun I => ho pins _ σ H x y v u Q (I.wish _) rx ry h) fun c s1 du q => ep_mend Z du q
theorem ptz_cmp {op : CmpOp} (ho : OpR X.nox (compareOp op) r) (ha : PEz X a ta) (hb : PEz X b tb) (hm : behindInMarks op b = false) : PTz X (.Compare a [op] [b] pos) (tTest (tOp r ta tb)) := by
  refine ⟨fun pins s σ H Q Z h => ?_⟩
  rw [isTrue_Compare1]
  refine wpZ_bind (wpZ_mono (ha.run pins s σ H _ Z h) (fun v s1 ⟨x, H1, Z1, rx, q1⟩ => ?_) fun _ _ q => q)
  rw [markedBehindIn_of_false hm]
  refine wpZ_bind (wpZ_holding (wpZ_mono (hb.run pins s1 σ H1 _ Z1 q1) (fun u s2 ⟨y, H2, Z2, ry, q2⟩ => ?_) fun _ _ q => q))
  refine wpZ_of (wpAny_bind (wpAny_standAt (wpAny_bind (wpAny_operate' (wpAny_mono (opZ ho Z2 rx ry q2) (fun c s3 ⟨z, H3, Z3, rz, k, e, q3⟩ => ?_) fun _ _ q => q)))))
  subst e
  cases rz
  exact wpAny_holding (wpAny_truthy_bool ⟨H3, Z3, q3⟩)
theorem pez_op {op : Operator} (ho : OpR X.nox (binaryOp op) r) (ha : PEz X a ta) (hb : PEz X b tb) : PEz X (.BinOp a op b pos) (tOp r ta tb) := by
  refine ⟨fun pins s σ H Q Z h => ?_⟩
  rw [arm_eval_BinOp]
  refine wpZ_bind (wpZ_mono (ha.run pins s σ H _ Z h) (fun v s1 ⟨x, H1, Z1, rx, q1⟩ => ?_) fun _ _ q => q)
  refine wpZ_bind (wpZ_holding (wpZ_mono (hb.run pins s1 σ H1 _ Z1 q1) (fun u s2 ⟨y, H2, Z2, ry, q2⟩ => ?_) fun _ _ q => q))
  exact wpZ_of (wpAny_bind (wpAny_standAt (wpAny_operate' (opZ ho Z2 rx ry q2))))
/-- code that the proof never comes to -/
theorem psz_never {st : Stmt} : PSz X st (fun _ _ _ => False) := ⟨fun _ _ _ _ _ _ h => h.elim⟩
theorem pssz_never {sts : List Stmt} : PSsz X sts (fun _ _ _ => False) := ⟨fun _ _ _ _ _ _ h => h.elim⟩
end
end GW
end

section
set_option Elab.async false
set_option linter.all false
set_option maxRecDepth 100000
set_option maxHeartbeats 1000000
/-! list(g). -/
namespace GW
open PySem PySem.Spec PyProof.Rows L2 LY GenW

section
variable {prog : Program} {w : World} {A : Around} {s : Shared} {R : Result → Shared → Prop}
theorem codeZ_builtin_at {id : String} {args : Args} {b : Builtin} (hb : entryFor table id = some b) (h : wpZ (model prog w) (A.under (.builtin id args)) (b args) (codeGo (model prog w) A R) (fun e s' => R (.error e) s') s) : codeZ (model prog w) A (.builtin id args) R s := by
  refine codeZ_tree ?_
  show wpZ _ _ (match entryFor table id with | some b => b args | none => unsupported ((withoutEnding? id "#data").getD id)) _ _ s
  rw [hb]; exact h
theorem list_callZ {u : Value} (h : wpZ (model prog w) A.in1.in1 (Builtin.«list.__init__» ⟨[.ref s.heap.objs.size, u], []⟩) (codeGo (model prog w) A.in1 (fun r s' => r = .ok (.ret .none) ∧ R (.ok (.ret (.ref s.heap.objs.size))) s')) (fun e s' => False)
      { s with heap := s.heap.push { cls := .type "list", data := .seq #[] } }) : codeZ (model prog w) A (.call (.type "list") ⟨[u], []⟩) R s := by
  have ft := F.called_list
  obtain ⟨c, tl, hmro⟩ := ft.mro
  have hmade := ft.made
  have hsub := ft.sub
  have h1 := ft.notType
  have h2 := ft.canCreate
  refine codeZ_tree (wpZ_of ?_)
  show wpAny _ _ (callAny (.type "list") _) _ _ _
  refine wpAny_pure (a := PySem.Fin.again (.builtin "type.__call__" ⟨.type "list" :: [u], []⟩)) ⟨Code.quiet_builtin _ (by decide +kernel), codeZ_builtin_at F.entry_type_call ?_⟩
  rw [Around.under_plain (weight_type_call_type "list" [u] []) rfl]
  unfold Builtin.«type.__call__»
  try dsimp only
  rw [if_neg (by first | exact h1 | simpa using h1)]
  rw [if_neg (by rw [h2]; decide)]
  refine wpZ_lead (wpAny_of_eq (F.typeCall_list_1 u) ?_)
  refine wpZ_lead (wpAny_of_eq hmro ?_)
  rw [if_neg (by simp)]
  refine wpZ_lead (wpAny_of_eq hmade ?_)
  try dsimp only
  refine wpZ_lead (wpAny_pure (wpZ_lead (wpAny_holding (wpAny_call (codeAny_mono (code_list_new (A := A.in1) (E := noE) u (Q₁ := fun v s1 => v = .ref s.heap.objs.size ∧ s1 = { s with heap := s.heap.push { cls := .type "list", data := .seq #[] } }) ⟨rfl, rfl⟩) fun r s1 hr => ?_)))))
  cases r with
  | error e => exact (hr : False).elim
  | ok fl =>
    cases fl with
    | ret obj =>
      obtain ⟨rfl, rfl⟩ := (hr : obj = .ref s.heap.objs.size ∧ s1 = { s with heap := s.heap.push { cls := .type "list", data := .seq #[] } })
      have hS : (s.heap.push { cls := .type "list", data := .seq #[] }).get? s.heap.objs.size = some { cls := .type "list", data := .seq #[] } := Heap.get?_push_size _ rfl
      have hT : ({ s with heap := s.heap.push { cls := .type "list", data := .seq #[] } } : Shared).TypeIs (.ref s.heap.objs.size) "list" := ⟨_, hS, rfl⟩
      show wpZ _ A.in1 (isInstance (.ref s.heap.objs.size) (.type "list") >>= _) _ _ _
      refine wpZ_lead (wpAny_isInstance (T := "list") (b := true) hT hsub ?_)
      rw [if_neg (by decide)]
      refine wpZ_bind (wpZ_holding (wpZ_special_slot hT ft.init (wpZ_callV (codeZ_call_builtin ft.init.plain F.entry_list_init (ft.init.check _ _ _ _ _ _ _ _ hT (F.args_list_init_2 _ _) ?_)))))
      refine wpZ_mono h (fun f s2 q => ?_) fun _ _ q => q.elim
      cases f with
      | done v =>
        obtain ⟨e, q⟩ := q
        cases e
        exact wpZ_pure q
      | again c =>
        refine ⟨q.1, codeZ_mono q.2 fun r s3 q => ?_⟩
        obtain ⟨e, q⟩ := q
        subst e
        exact wpZ_pure q
    | next => exact (hr : False).elim
    | brk => exact (hr : False).elim
    | cont => exact (hr : False).elim
end
end GW
end

section
set_option Elab.async false
set_option linter.all false
set_option maxRecDepth 100000
set_option maxHeartbeats 1000000
/-! list(g): the loop that drains it. -/
namespace GW
open PySem PySem.Spec PyProof.Rows L2 LY GenW

section
variable {X : Cx} {pins : List (Addr × Obj)} {d : GD} {sp : GSpec} {σ : L2.St} {S : Addr} {W : Nat → List V → Hp → Prop} {Rz : List V → Hp → Prop} {R : Result → Shared → Prop}
/-- the walk's side: W by the items that are out, the list so far, the heap -/
def Drains (sp : GSpec) (S : Addr) (W : Nat → List V → Hp → Prop) (Rz : List V → Hp → Prop) : Prop := ∀ i ys H, W i ys H → i ≤ sp.n → sp.st i H ∧ (i = sp.n → ∀ H', sp.fin H H' → Rz ys H') ∧
  (i < sp.n → ys.length < sizeLine ∧ ∀ x H', sp.yld i H x H' → H' S = some (.lst ys) ∧ W (i + 1) (ys ++ [x]) (upd H' S (.lst (ys ++ [x]))))
theorem drainZ (FX : Fits X pins d) (hh : X.A.handled = none) (hA : d.A = X.A.in1.in1.in1) (room : X.A.in1.in1.depth < recursionLimit) (turn : Drains sp S W Rz) (hend : ∀ ys H s, InvZ X pins σ H s → Rz ys H → R (.ok (.ret .none)) s) :
    ∀ (r i : Nat) (ys : List V) (H : Hp) (s : Shared) (b : Bag), i + r = sp.n → W i ys H → BtwZ X pins d sp i σ H s b → codeZ (model X.prog X.w) X.A.in1 (.builtin "list.extend.loop" ⟨[.ref S, .ref d.ga, .none], []⟩) R s := by
  intro r
  induction r with
  | zero =>
    intro i ys H s b hi w B
    obtain ⟨st, q0, _⟩ := turn i ys H w B.le
    refine codeZ_builtin F.plain_extend_loop F.entry_extend_loop ?_
    show wpZ _ X.A.in1.in1 (pyNext (.ref d.ga) >>= _) _ _ s
    refine wpZ_bind (B.next FX hh hA room st (fun lt => absurd lt (by omega)) fun e s3 H3 Z3 hf => ?_)
    exact wpZ_pure (hend ys H3 s3 Z3 (q0 e H3 hf))
  | succ r ih =>
    intro i ys H s b hi w B
    obtain ⟨st, _, q1⟩ := turn i ys H w B.le
    obtain ⟨hz, q1⟩ := q1 (by omega)
    refine codeZ_builtin F.plain_extend_loop F.entry_extend_loop ?_
    show wpZ _ X.A.in1.in1 (pyNext (.ref d.ga) >>= _) _ _ s
    refine wpZ_bind (B.next FX hh hA room st (fun lt v x s3 H3 b3 B3 rv yl => ?_) fun e => absurd e (by omega))
    obtain ⟨hS, w3⟩ := q1 x H3 yl
    obtain ⟨z, its, n, rvs, hl, e⟩ := Inv.lstM (s := dullS s3) B3.inv hS
    have e' : s3.heap.get? S = some { cls := .type "list", data := .seq its.toArray n } := e
    have hlen : (ys ++ [x]).length ≤ sizeLine := by
      rw [List.length_append, List.length_singleton]
      omega
    have I4 : Inv X pins σ (upd H3 S (.lst (ys ++ [x]))) { dullS s3 with heap := s3.heap.update S (Obj.mapSeq (·.push v)), toks := s3.toks } := Inv.lset (s := dullS s3) (its' := its ++ [v]) B3.inv hS e (by simp) (rvs.append (.cons rv .nil)) hlen
    have ne : ∀ {c : Addr}, H3 c = none → c ≠ S := fun {c} hc q => by
      rw [q, hS] at hc
      cases hc
    have kp : ∀ {c : Addr} {u : Obj}, H3 c = none → s3.heap.get? c = some u → (s3.heap.update S (Obj.mapSeq (·.push v))).get? c = some u := fun {c u} hc q => (Heap.get?_update_other _ _ (Ne.symm (ne hc))).trans q
    show wpZ _ X.A.in1.in1 (updateSeq S (·.push v) >>= _) _ _ s3
    refine wpZ_lead (wpAny_updateSeq e' rfl (wpZ_pure ⟨plainId_quiet F.plain_extend_loop _, ?_⟩) (by rw [List.size_toArray]; omega) (by show (its.toArray.push v).size ≤ sizeLine + 1; rw [Array.size_push, List.size_toArray]; omega))
    obtain ⟨sl, hcl, hgo⟩ := B3.ob.go
    obtain ⟨y, hy, hst⟩ := B3.ob.st
    refine ih (i + 1) (ys ++ [x]) _ { s3 with heap := s3.heap.update S (Obj.mapSeq (·.push v)) } b3 (by omega) w3 ⟨I4, B3.nl, lt, ⟨⟨sl, hcl, kp B3.gof hgo⟩, B3.ob.shp, y, hy, hst⟩, B3.ok, ⟨fun p hp => ?_, B3.bag.gns⟩, B3.gn, ?_, ?_, B3.qt⟩
    · obtain ⟨h1, h2⟩ := B3.bag.obs p hp
      exact ⟨kp h2 h1, by rw [upd_ne (ne h2)]; exact h2⟩
    · show d.n0 < (s3.heap.update S _).objs.size
      rw [Heap.size_update]
      exact B3.sz
    · rw [upd_ne (ne B3.gof)]
      exact B3.gof
end
end GW
end

section
set_option Elab.async false
set_option linter.all false
set_option maxRecDepth 100000
set_option maxHeartbeats 1000000
/-! The expression list(g). -/
namespace GW
open PySem PySem.Spec PyProof.Rows L2 LY GenW

section
variable {X : Cx} {pins : List (Addr × Obj)} {d : GD} {sp : GSpec} {σ : L2.St} {S : Addr} {H : Hp} {s : Shared} {b : Bag} {i : Nat} {xs ys : List V} {its its' : List Value} {n : Nat} {f : Array Value → Array Value}
theorem BtwZ.lset (B : BtwZ X pins d sp i σ H s b) (hS : H S = some (.lst xs)) (e : s.heap.get? S = some { cls := .type "list", data := .seq its.toArray n }) (hf : f its.toArray = its'.toArray) (hv : Vals ys its') (hz : ys.length ≤ sizeLine) :
    BtwZ X pins d sp i σ (upd H S (.lst ys)) { s with heap := s.heap.update S (Obj.mapSeq f) } b := by
  have I4 : Inv X pins σ (upd H S (.lst ys)) { dullS s with heap := s.heap.update S (Obj.mapSeq f), toks := s.toks } := Inv.lset (s := dullS s) B.inv hS e hf hv hz
  have ne : ∀ {c : Addr}, H c = none → c ≠ S := fun {c} hc q => by
    rw [q, hS] at hc
    cases hc
  have kp : ∀ {c : Addr} {u : Obj}, H c = none → s.heap.get? c = some u → (s.heap.update S (Obj.mapSeq f)).get? c = some u := fun {c u} hc q => (Heap.get?_update_other _ _ (Ne.symm (ne hc))).trans q
  obtain ⟨sl, hcl, hgo⟩ := B.ob.go
  obtain ⟨y, hy, hst⟩ := B.ob.st
  refine ⟨I4, B.nl, B.le, ⟨⟨sl, hcl, kp B.gof hgo⟩, B.ob.shp, y, hy, hst⟩, B.ok, ⟨fun p hp => ?_, B.bag.gns⟩, B.gn, ?_, ?_, B.qt⟩
  · obtain ⟨h1, h2⟩ := B.bag.obs p hp
    exact ⟨kp h2 h1, by rw [upd_ne (ne h2)]; exact h2⟩
  · show d.n0 < (s.heap.update S _).objs.size
    rw [Heap.size_update]
    exact B.sz
  · rw [upd_ne (ne B.gof)]
    exact B.gof
theorem BtwZ.lnew (B : BtwZ X pins d sp i σ H s b) : BtwZ X pins d sp i σ (upd H s.heap.objs.size (.lst [])) { s with heap := s.heap.push { cls := .type "list", data := .seq #[] } } b := by
  have I4 : Inv X pins σ (upd H s.heap.objs.size (.lst [])) { dullS s with heap := s.heap.push { cls := .type "list", data := .seq #[] }, toks := s.toks } := Inv.lnew (s := dullS s) (its := []) (ys := []) B.inv .nil (Nat.zero_le _)
  have kp : ∀ {c : Addr} {u : Obj}, s.heap.get? c = some u → (s.heap.push { cls := .type "list", data := .seq #[] }).get? c = some u := fun {c u} q => Heap.get?_push_of_some _ q
  obtain ⟨sl, hcl, hgo⟩ := B.ob.go
  obtain ⟨y, hy, hst⟩ := B.ob.st
  refine ⟨I4, B.nl, B.le, ⟨⟨sl, hcl, kp hgo⟩, B.ob.shp, y, hy, hst⟩, B.ok, ⟨fun p hp => ?_, B.bag.gns⟩, B.gn, ?_, ?_, B.qt⟩
  · obtain ⟨h1, h2⟩ := B.bag.obs p hp
    exact ⟨kp h1, by rw [upd_ne (Nat.ne_of_lt (Heap.lt_size h1))]; exact h2⟩
  · show d.n0 < (s.heap.push _).objs.size
    rw [Heap.size_push]
    exact Nat.lt_succ_of_lt B.sz
  · rw [upd_ne (Nat.ne_of_lt (Heap.lt_size hgo))]
    exact B.gof
theorem list_initZ {W : Nat → List V → Hp → Prop} {Rz : List V → Hp → Prop} {R : Result → Shared → Prop} (FX : Fits X pins d) (hh : X.A.handled = none) (hA : d.A = X.A.in1.in1.in1) (room : X.A.in1.in1.depth < recursionLimit) (turn : Drains sp s.heap.objs.size W Rz)
    (hend : ∀ ys H s, InvZ X pins σ H s → Rz ys H → R (.ok (.ret .none)) s) (w0 : W 0 [] (upd H s.heap.objs.size (.lst []))) (B : BtwZ X pins d sp 0 σ H s b) :
    wpZ (model X.prog X.w) X.A.in1.in1 (Builtin.«list.__init__» ⟨[.ref s.heap.objs.size, .ref d.ga], []⟩) (codeGo (model X.prog X.w) X.A.in1 R) (fun _ _ => False) { s with heap := s.heap.push { cls := .type "list", data := .seq #[] } } := by
  have hSa : s.heap.objs.size ≠ d.ga := by
    obtain ⟨sl, _, hgo⟩ := B.ob.go
    exact Nat.ne_of_gt (Heap.lt_size hgo)
  have hS : (s.heap.push { cls := .type "list", data := .seq #[] }).get? s.heap.objs.size = some { cls := .type "list", data := .seq #[] } := Heap.get?_push_size _ rfl
  have B1 := B.lnew
  show wpZ _ X.A.in1.in1 (Builtin.List.listItems (.ref s.heap.objs.size) >>= fun old => Builtin.List.listUpdate (.ref s.heap.objs.size) (fun _ => #[]) >>= fun _ => letGo old.toList.reverse >>= fun _ => Builtin.List.listExtendWith (.ref s.heap.objs.size) (.ref d.ga) .none) _ _ _
  refine wpZ_lead ?_
  unfold Builtin.List.listItems
  refine wpAny_bind (wpAny_seqItems hS rfl (wpAny_pure ?_))
  show wpZ _ X.A.in1.in1 (updateSeq s.heap.objs.size (fun _ => #[]) >>= _) _ _ _
  refine wpZ_lead (wpAny_updateSeq hS rfl ?_)
  have hS2 := Heap.get?_update_self (Obj.mapSeq (fun _ => (#[] : Array Value))) hS rfl
  have B2 := B1.lset (its := []) (its' := []) (ys := []) (n := 0) (f := fun _ => #[]) upd_same hS rfl .nil (Nat.zero_le _)
  rw [upd_upd] at B2
  refine wpZ_lead (wpAny_letGo ?_)
  unfold Builtin.List.listExtendWith
  have ht := B2.ob.ty
  refine wpZ_lead (wpAny_typeOf ht ?_)
  have h1 : Builtin.List.listSameRef (.ref s.heap.objs.size) (.ref d.ga) = false := by simp [Builtin.List.listSameRef, hSa]
  have h2 : (Value.type "generator" == Value.type "list") = false := by decide
  have h3 : (Value.type "generator" == Value.type "tuple") = false := by decide
  simp only [h1, h2, h3, Bool.or_false, Bool.false_eq_true, if_false]
  refine wpZ_lead (iter_gen ht ?_)
  refine wpZ_lead (wpAny_holding ?_)
  unfold Builtin.List.listLengthHint
  refine wpAny_bind (wpAny_specialOf ht F.gen_no_len ?_)
  show wpAny _ X.A.in1.in1 (specialOf (Value.ref d.ga) (Str.ofString "__length_hint__") >>= _) _ _ _
  refine wpAny_bind (wpAny_specialOf ht F.gen_no_hint ?_)
  refine wpAny_pure ?_
  show wpZ _ X.A.in1.in1 (rule "list.extend.makes-room" >>= fun _ => (updateSeq s.heap.objs.size (·.push .none) >>= fun _ => updateSeq s.heap.objs.size (·.pop)) >>= fun _ => again (.builtin "list.extend.loop" ⟨[.ref s.heap.objs.size, .ref d.ga, .none], []⟩)) _ _ _
  refine wpZ_lead (wpAny_rule (wpZ_lead (wpAny_bind ?_)))
  refine wpAny_updateSeq hS2 rfl ?_
  have hS3 := Heap.get?_update_self (Obj.mapSeq (·.push Value.none)) hS2 rfl
  have B3 := B2.lset (its := []) (its' := [.none]) (ys := [.non]) (f := (·.push Value.none)) upd_same hS2 rfl (.cons rfl .nil) (by decide)
  rw [upd_upd] at B3
  refine wpAny_updateSeq (hz := by seq_fits) hS3 rfl ?_
  have B4 := B3.lset (its := [.none]) (its' := []) (ys := []) (f := (·.pop)) upd_same hS3 rfl .nil (Nat.zero_le _)
  rw [upd_upd] at B4
  exact wpZ_pure ⟨plainId_quiet F.plain_extend_loop _, drainZ FX hh hA room turn hend sp.n 0 [] _ _ b (Nat.zero_add _) w0 B4⟩
end
/-- list(g) -/
def tListZ (tg : TGen) : TE := fun σ H Q => tg σ H fun sp H1 => ∀ S, H1 S = none → ∃ W, W 0 [] (upd H1 S (.lst [])) ∧ Drains sp S W fun ys H' => Q (.ref S) H'
theorem pez_list {X : Cx} {k : Nat} {e : Expr} {tg : TGen} {nm : Str} {p pos : Pos} (hc : X.calm = true) (hi : PGn X.nox k e tg) (hr : Room (k + 3) X.A) (hg : Gl X nm) (hmg : X.mg nm = none) (hv : bootBuiltins nm = some (.type "list"))
    (hnm : nm ≠ "__name__" := by decide) (hdb : (nm == ("__debug__" : Str)) = false := by decide) (he : starEach [e] X.env = (false, eval e X.env) :: starEach [] X.env := by rfl) : PEz X (.Call (.Name nm p) [e] [] pos) (tListZ tg) := by
  refine ⟨fun pins s σ H Q Z h => ?_⟩
  rw [arm_eval_Call_Name', he]
  refine wpZ_lead (Z.look (ld_blt Z.inv hg hmg hv ⟨rfl, rfl⟩ hnm hdb) ?_)
  unfold callWith
  refine wpZ_lead (wpAny_holding (Calls.evalArgs_plain (Calls.spliced_cons (InvZ.lead Z (E := X.nox.xe) (fun _ _ q => q) (fun I => hi.run pins _ σ H _ (I.wish _) h) fun u s1 du q => ?_))))
  refine Calls.spliced_nil ?_
  obtain ⟨sp, H1, d, b, hR, rfl, hA, FX, B⟩ := newN_btw (A' := X.A.in1.in1.in1) hr.in1.in1.in1 Z.inv.ok.frames Z du (NewN.unwish q)
  have fresh : H1 (mendS s.gens s1).heap.objs.size = none := B.inv.hok.fresh (Nat.le_refl _)
  obtain ⟨W, w0, dr⟩ := hR _ fresh
  refine wpZ_lead (wpAny_standAt ?_)
  refine wpZ_lead (wpAny_pure ?_)
  show wpZ _ X.A (PySem.call (.type "list") [.ref d.ga] >>= fun r => holding [r] point >>= fun _ => pure r) _ _ _
  have room : X.A.in1.in1.depth < recursionLimit := hr.depth
  refine wpZ_bind (wpZ_callV (list_callZ ?_))
  refine wpZ_mono (list_initZ (R := fun r s' => r = .ok (.ret .none) ∧ ∃ H', InvZ X pins σ H' s' ∧ Q (.ref (mendS s.gens s1).heap.objs.size) H') FX (Z.inv.ok.hd hc) hA room dr (fun ys H s Z hq => ⟨rfl, H, Z, hq⟩) w0 B) (fun f s2 q => ?_) fun _ _ q => q
  have fin : ∀ {s3 : Shared}, (∃ H', InvZ X pins σ H' s3 ∧ Q (.ref (mendS s.gens s1).heap.objs.size) H') → wpZ (model X.prog X.w) X.A (holding [Value.ref (mendS s.gens s1).heap.objs.size] point >>= fun _ => pure (Value.ref (mendS s.gens s1).heap.objs.size)) (EPz X pins σ Q) noE s3 :=
    fun ⟨H', Z', hq⟩ => wpZ_of (wpAny_bind (wpAny_holding (wpAny_point (wpAny_pure ⟨.ref _, H', Z', rfl, hq⟩))))
  cases f with
  | done v =>
    obtain ⟨e, q⟩ := q
    exact ⟨e, fin q⟩
  | again c => exact ⟨q.1, codeZ_mono q.2 fun r s3 q => ⟨q.1, fin q.2⟩⟩
end GW
end

section
set_option Elab.async false
set_option linter.all false
set_option maxRecDepth 100000
set_option maxHeartbeats 1000000
/-! a, b = x, y where x runs so. -/
namespace GW
open PySem PySem.Spec PyProof.Rows L2 LY GenW

section
variable {M : Model} {A : Around} {E : Value → Shared → Prop} {s : Shared}
theorem splicedZ_cons {x : Sem Value} {rest : List (Bool × Sem Value)} {Q : List Value → Shared → Prop} (h : wpZ M A x (fun v s1 => wpZ M A (spliced rest) (fun vs s2 => Q (v :: vs) s2) E s1) E s) : wpZ M A (spliced ((false, x) :: rest)) Q E s := by
  unfold spliced
  refine wpZ_bind (wpZ_mono h (fun v s1 h1 => ?_) fun _ _ q => q)
  rw [if_neg Bool.false_ne_true]
  refine wpZ_lead (wpAny_pure (wpZ_bind (wpZ_holding (wpZ_mono h1 (fun vs s2 q => ?_) fun _ _ q => q))))
  exact wpZ_pure q
end
section
variable {X : Cx}
/-- a, b = x, y with plain local names -/
def tParZ (i j : Nat) (ta tb : TE) : TS := fun D σ H => ta σ H fun v H1 => tb σ H1 fun w H2 => D.nx ((σ.set i (some v)).set j (some w)) H2
theorem psz_par {i j : Nat} {x y : Str} {a b : Expr} {ta tb : TE} {px py pt pos : Pos} {kt k2 : Nat} {pt2 : Pos} (hc : X.calm = true) (hN : X.N.Nodup) (hi : X.N[i]? = some x) (hj : X.N[j]? = some y) (hij : i ≠ j) (hx : X.env.scope.names.lookup x = some .local) (hy : X.env.scope.names.lookup y = some .local)
    (ha : PEz X a ta) (hb : PEz X b tb) (hbk : backTo pt2 (starEach [a, b] X.env) = [(false, eval a X.env), (false, eval b X.env)] := by rfl)
    (hw : swappedStores [.Tuple [.Name x px, .Name y py] kt pt] (.Tuple [a, b] k2 pt2) X.env = pure (some [x, y])) (hs : swapsWithSole [.Tuple [.Name x px, .Name y py] kt pt] (.Tuple [a, b] k2 pt2) pos.line X.env = pure false := by rfl) :
    PSz X (.Assign [.Tuple [.Name x px, .Name y py] kt pt] (.Tuple [a, b] k2 pt2) pos) (tParZ i j ta tb) := by
  refine ⟨fun pins s σ H D Z h => ?_⟩
  rw [exec_Assign_arm, hs, hw]
  refine wpZ_lead (wpAny_standAt (wpZ_lead (wpAny_pure ?_)))
  rw [if_neg (by decide)]
  rw [arm_eval_Tuple]
  have both : wpZ (model X.prog X.w) X.A (spliced (backTo pt2 (starEach [a, b] X.env))) (fun us s' => ∃ u1 u2 v w H2, us = [u1, u2] ∧ InvZ X pins σ H2 s' ∧ RelV v u1 ∧ RelV w u2 ∧ D.nx ((σ.set i (some v)).set j (some w)) H2) noE s := by
    have last : ∀ {u1 : Value} {v : V} {s1 : Shared} {H1 : Hp}, InvZ X pins σ H1 s1 → RelV v u1 → tb σ H1 (fun w H2 => D.nx ((σ.set i (some v)).set j (some w)) H2) → wpZ (model X.prog X.w) X.A (eval b X.env) (fun u2 s2 => wpZ (model X.prog X.w) X.A (spliced []) (fun vs s3 => ∃ w1 w2 v w H2, u1 :: u2 :: vs = [w1, w2] ∧ InvZ X pins σ H2 s3 ∧ RelV v w1 ∧ RelV w w2 ∧ D.nx ((σ.set i (some v)).set j (some w)) H2) noE s2) noE s1 :=
      fun {u1 v s1 H1} Z1 rv q => wpZ_mono (hb.run pins s1 σ H1 _ Z1 q) (fun u2 s2 ⟨w, H2, Z2, rw', q2⟩ => wpZ_pure ⟨u1, u2, v, w, H2, rfl, Z2, rv, rw', q2⟩) fun _ _ q => q
    rw [hbk]
    refine splicedZ_cons (wpZ_mono (ha.run pins s σ H _ Z h) (fun u1 s1 ⟨v, H1, Z1, rv, q1⟩ => ?_) fun _ _ q => q)
    exact splicedZ_cons (last Z1 rv q1)
  refine wpZ_bind (wpZ_lead (wpAny_standAt (wpZ_bind (wpZ_mono both (fun us s1 q => ?_) fun _ _ q => q))))
  obtain ⟨u1, u2, v, w, H2, rfl, Z1, rv, rw', q⟩ := q
  refine wpZ_of (wpAny_newObj_type ?_ (by show 2 ≤ sizeLine; decide))
  have Z2 : InvZ X pins σ H2 { s1 with heap := s1.heap.push { cls := .type "tuple", data := .seq [u1, u2].toArray } } := ⟨(Inv.kept (s := dullS s1) (t' := s1.toks) Z1.inv fun b o e => Heap.get?_push_of_some _ e : Inv X pins σ H2 { dullS s1 with heap := s1.heap.push _, toks := s1.toks }), Z1.nl⟩
  refine wpZ_lead (wpAny_pure ?_)
  show wpZ (model X.prog X.w) X.A (rule "assign.swapped-stores" >>= fun _ => unpackItems (.ref s1.heap.objs.size) 2 none >>= fun items => assignInOrder [fun v => bindName X.env y v, fun v => bindName X.env x v] items.reverse >>= fun _ => pure Flow.next) _ _ _
  refine wpZ_lead (wpAny_rule (wpZ_lead (unpackItems_tuple (items := #[u1, u2]) (Z1.inv.ok.hd hc) (IsTup.new s1.heap _) fun h' hx' => ?_)))
  have Z3 : InvZ X pins σ H2 { s1 with heap := h' } := ⟨(Inv.kept (s := dullS { s1 with heap := s1.heap.push { cls := .type "tuple", data := .seq [u1, u2].toArray } }) (t' := s1.toks) Z2.inv fun b o e => ?_ : Inv X pins σ H2 { dullS s1 with heap := h', toks := s1.toks }), Z1.nl⟩
  · show wpZ _ _ (assignInOrder [fun v => bindName X.env y v, fun v => bindName X.env x v] [u2, u1] >>= fun _ => pure Flow.next) _ _ _
    refine wpZ_lead (InvZ.lead Z3 (E := noE) (Q := fun _ s3 => Inv X pins ((σ.set i (some v)).set j (some w)) H2 s3) (fun _ _ q => q) (fun I3 => assignInOrder_cons (wpAny_bindName (store_ok I3 hN hj (.inl hy) rw' (fun s2 I4 => ?_) (.inr hy)))) fun _ s3 du I5 => wpZ_pure ⟨_, H2, Z3.then rfl du I5, q⟩)
    refine assignInOrder_cons (wpAny_bindName (store_ok I4 hN hi (.inl hx) rv (fun s3 I5 => assignInOrder_nil ?_) (.inr hx)))
    rw [List.set_comm _ _ (Ne.symm hij)] at I5
    exact I5
  · exact hx' b o (Nat.ne_of_lt (Heap.lt_size e)) e
end
end GW
end

section
set_option Elab.async false
set_option linter.all false
set_option maxRecDepth 100000
set_option maxHeartbeats 1000000
/-! o.f = x, x as a statement, where x runs so. -/
namespace GW
open PySem PySem.Spec PyProof.Rows L2 LY GenW

theorem wpAny_putAttr {M : Model} {A : Around} {E : Value → Shared → Prop} {s : Shared} {env : Env} {o : Expr} {f : Str} {pos : Pos} {v : Value} {Q : Unit → Shared → Prop} (h : wpAny M A (eval o env) (fun ov s2 => wpAny M A (setAttr ov f v) (fun _ => Q ()) E s2) E s) :
    wpAny M A (assign (.Attribute o f pos) env v) Q E s := fun Γ p hΓ => by
  simp only [assign_Attribute, Sem.wp_bind', Sem.wp_holding, Sem.wp_cmd_standAt, Sem.wp_release, Sem.wp_pure']
  exact Sem.wp_mono M Γ _ (fun ov _ s2 h2 => h2 Γ _ hΓ) (fun _ _ _ q => q) _ _ (h Γ _ hΓ)
section
variable {X : Cx} {o e value : Expr} {f : Str} {pos pos' : Pos} {te ta tv : TE}
theorem psz_fld (ha : PE X.nox o ta) (hv : PEz X value tv) (hs : swapsWith value (some (.Attribute o f pos')) pos.line X.env = pure false := by rfl) : PSz X (.Assign [.Attribute o f pos'] value pos) (sFld X.K ta tv f) := by
  refine ⟨fun pins s σ H D Z h => ?_⟩
  rw [plainObj_exec_Assign_Attribute o f pos' value pos hs]
  refine wpZ_lead (wpAny_standAt (wpZ_bind (wpZ_mono (hv.run pins s σ H _ Z h) (fun u s1 ⟨y, H1, Z1, ry, q⟩ => ?_) fun _ _ q => q)))
  refine wpZ_lead (InvZ.lead Z1 (E := X.nox.xe) (Q := fun _ s3 => ∃ H3, Inv X.nox pins σ H3 s3 ∧ D.nx σ H3) (fun _ _ q => q) (fun I => wpAny_putAttr (thn (ha.run pins _ σ H1 _ (I.wish _) q) fun ov s2 ⟨x, H2, I2, rx, a, C, dx, fs, ex, ea, c, n, l, q2⟩ => ?_)) fun _ s3 du ⟨H3, I3, q3⟩ => wpZ_pure ⟨σ, H3, Z1.then rfl du I3.unwish, q3⟩)
  subst ex
  obtain rfl : ov = Value.ref a := rx
  exact setattr_ok I2 ea c n l ry fun s3 I3 => ⟨_, I3, q2⟩
theorem psz_expr (he : PEz X e te) (hk : X.env.scope.kind = .function) (hs : swapsWith e none pos.line X.env = pure false := by rfl) : PSz X (.Expr e pos) (tDrop te) := by
  refine ⟨fun pins s σ H D Z h => ?_⟩
  have hi : interactive X.env = false := by simp [interactive, hk]
  rw [exec_Expr X.env e pos hi hs]
  exact wpZ_lead (wpAny_standAt (wpZ_bind (wpZ_mono (he.run pins s σ H _ Z h) (fun v s1 ⟨x, H1, Z1, r, q⟩ => wpZ_of (wpAny_dropValue ⟨σ, H1, Z1, q⟩)) fun _ _ q => q)))
end
end GW
end

section
set_option Elab.async false
set_option linter.all false
set_option maxRecDepth 100000
set_option maxHeartbeats 1000000
/-! A comparison as a value, one side of it loud. -/
namespace GW
open PySem PySem.Spec PyProof.Rows L2 LY GenW
section
variable {X : Cx} {a b : Expr} {ta tb : TE} {pos : Pos} {r : R2}
theorem pez_cmp {op : CmpOp} (ho : OpR X.nox (compareOp op) r) (ha : PEz X a ta) (hb : PEz X b tb) (hm : behindInMarks op b = false) : PEz X (.Compare a [op] [b] pos) (tOp r ta tb) := by
  refine ⟨fun pins s σ H Q Z h => ?_⟩
  rw [eval_Compare1]
  refine wpZ_bind (wpZ_mono (ha.run pins s σ H _ Z h) (fun v s1 ⟨x, H1, Z1, rx, q1⟩ => ?_) fun _ _ q => q)
  rw [markedBehindIn_of_false hm]
  refine wpZ_bind (wpZ_holding (wpZ_mono (hb.run pins s1 σ H1 _ Z1 q1) (fun u s2 ⟨y, H2, Z2, ry, q2⟩ => ?_) fun _ _ q => q))
  exact wpZ_of (wpAny_bind (wpAny_standAt (wpAny_operate' (opZ ho Z2 rx ry q2))))
end
end GW
end

section
set_option Elab.async false
set_option linter.all false
set_option maxRecDepth 100000
set_option maxHeartbeats 1000000
/-! The statement, from a run of the law's call over such runs. -/
namespace GW
open PySem PySem.Spec PyProof.Rows PySem.W L2 LY

theorem thread_endsZ {prog : Program} {w : World} {t : FinS} {s : Shared} {R : Result → Shared → Prop} (hreg : s.asleep)
    (h : wpZ (model prog w) callerA t (fun fin s' => ∃ f, fin = .done f ∧ (R (.ok f) s' ∧ Still s')) (fun e s' => R (.error e) s' ∧ Still s') s) :
    ∃ n r s' s'', schedN (denote table) prog w n (.single s ⟨t, .builtin "claim.caller" {}, default, []⟩) = .halted (outcomeOf r) s' ∧ s'.heap = s''.heap ∧ s'.os = s''.os ∧ s'.heap.life = s.heap.life ∧ R r s'' := by
  obtain ⟨n, r, s'', b, σ, e1, hR, hs, hl⟩ := wpZ_halts (M := model prog w) (c := .builtin "claim.caller" {}) (R := R) caller_in hreg h
  exact ⟨n, r, forgetSuspended b σ, s'', hs, (Shared.forget_eq e1).1, (Shared.forget_eq e1).2.2.2.1, hl, hR⟩
theorem callFromZ {c : ClaimW} {tree : List Value → FinS} {w : World} {s : Shared} {free : Addr → Prop} {gens : Prop} {kept : Heap → Prop} (hz : s.asleep) (hgens : s.gens = #[])
    (hspec : ∀ args, c.pre args = true → WData.layableAll args = true → ∀ ord : List DictEntry → List DictEntry, (∀ l, (ord l).Perm l) → ∃ vs s1, layAllW c.records (classAt s.heap) w.params ord args s = some (vs, s1) ∧
      wpZ (model c.prog w) callerA (tree vs) (fun fin s' => ∃ f, fin = .done f ∧ ((c.Ends s args vs s1 (.ok f) s' ∧ s'.os = s.os ∧ kept s'.heap) ∧ Still s')) (fun e s' => (c.Ends s args vs s1 (.error e) s' ∧ s'.os = s.os ∧ kept s'.heap) ∧ Still s') s1) :
    c.CallFrom (fun vs => ⟨tree vs, .builtin "claim.caller" {}, default, []⟩) w free gens kept s := by
  intro args hpre hlay ord hord
  obtain ⟨vs, s1, hlaid, hcode⟩ := hspec args hpre hlay ord hord
  have hal := layAllW_rest _ _ _ hlaid
  obtain ⟨k, r, s', s'', hsched, eh, eo, hl, hcase, hos, hkp⟩ := thread_endsZ (prog := c.prog) (w := w) (t := tree vs) (s := s1) (R := fun r s' => c.Ends s args vs s1 r s' ∧ s'.os = s.os ∧ kept s'.heap) (Shared.asleep_of_life hal.2.2.2 hz) hcode
  have hcase := hcase.congr eh
  rw [← eh] at hkp
  rw [← eo] at hos
  have hlife : s'.heap.life = s.heap.life := hl.trans hal.2.2.2
  refine ⟨vs, s1, hlaid, k, _, s', hsched, ?_, (fun _ i x hx => by rw [hgens] at hx; simp at hx), hkp, by rw [hlife], Shared.rest_eq hos⟩
  rcases hcase with ⟨v, rfl, d1, d2, d3, d4, d5⟩ | ⟨e, ob, cls, rfl, d1, d2, d3, d4, d5⟩
  · exact .inl ⟨v, rfl, d1, d2, d3, fun b o y _ => d4 b o y, d5⟩
  · exact .inr ⟨e, ob, cls, rfl, d1, d2, d3, d4, fun b o y _ => d5 b o y⟩
end GW
end

section
set_option Elab.async false
set_option linter.all false
set_option maxRecDepth 100000
set_option maxHeartbeats 1000000
/-! The law's call over such runs. -/
namespace GW
open PySem PySem.Spec PyProof.Rows L2 LY

theorem bare_of_nl {g g' : Array GenState} (h : Nl [] g g') (e : g = #[]) : AllBare g' := fun y hy => by
  obtain ⟨i, hi, q⟩ := Array.mem_iff_getElem.mp hy
  cases hb : y.bare with
  | true => rfl
  | false =>
    rcases h i y (by rw [Array.getElem?_eq_getElem hi, q]) hb with z | z
    · rw [e] at z; simp at z
    · simp at z
theorem dull_none {s : Shared} (e : s.gens = #[]) : dullS s = s := by
  obtain ⟨h, g, d, t, o⟩ := s
  have e' : g = #[] := e
  subst e'
  show Shared.mk h (#[].map dull) d t o = _
  rw [Array.map_empty]
/-- the abstract heap of the law's call: the script alone, if it is none of the module's own -/
theorem script_hp {P : Program} {w : World} {K : PySem.W.Frag} {a : Addr} {h : Heap} {vs : List Value} {ns : List Int} (KX : K.In h) (ha : h.get? a = some { cls := .type "list", data := .seq vs.toArray }) (hi : IntsAre vs ns) (hl : ns.length ≤ sizeLine) :
    ∃ H : Hp, Only H ∧ SqL K H a (ns.map V.int) ∧ HOk P w H h ∧ (∀ b, H b ≠ none → b = a) ∧ (H a ≠ none → K.lookup a = none) := by
  have rv := vals_ints hi
  have lenV := hi.length
  cases hk : K.lookup a with
  | some o =>
    have e := KX a o hk
    rw [ha] at e
    cases e
    refine ⟨fun _ => none, fun _ => .inl rfl, .inr ⟨_, vs.toArray, _, hk, rfl, rfl, rfl, by rw [List.size_toArray, lenV]; exact hl, by simpa using rv⟩, fun b u z => ?_, fun b z => absurd rfl z, fun z => absurd rfl z⟩
    cases (show (none : Option HO) = some u from z)
  | none =>
    refine ⟨fun b => if b = a then some (.frz { cls := .type "list", data := .seq vs.toArray } (.lst (ns.map V.int))) else none, fun b => ?_, .inl (.inr ⟨{ cls := .type "list", data := .seq vs.toArray }, if_pos rfl⟩), fun b u z => ?_, fun b z => ?_, fun _ => rfl⟩
    · by_cases hb : b = a
      · exact .inr ⟨_, _, if_pos hb⟩
      · exact .inl (if_neg hb)
    · by_cases hb : b = a
      · cases (if_pos hb).symm.trans z
        subst hb
        exact ⟨ha, by rw [List.length_map]; exact hl, vs, _, rv, ha⟩
      · cases (if_neg hb).symm.trans z
    · by_cases hb : b = a
      · exact hb
      · exact absurd (if_neg hb) z
theorem law_callZ {P : Program} {w : World} {K : PySem.W.Frag} {mg mb : Str → Option Value} {k : Nat} {fa a : Addr} {fd : FuncData} {x : Str} {sp : Sp} {s1 : Shared} {vs : List Value} {ns : List Int}
    (KX : K.In s1.heap) (hns : s1.heap.Ns mainGlobals mg) (hb : s1.heap.Ns builtinsNs mb) (hbb : ∀ x : Str, x ≠ "__name__" → mb x = bootBuiltins x) (hlim : s1.heap.NoLimit) (hg : s1.gens = #[])
    (ha : s1.heap.get? a = some { cls := .type "list", data := .seq vs.toArray }) (hi : IntsAre vs ns) (hl : ns.length ≤ sizeLine) (hr : Room k callerA)
    (F : ∀ base : Heap, K.In base → base.Ns mainGlobals mg → FnZ P w K mg base k fa fd [x] sp) (hbind : ∀ (s : Shared) (u : Value), BindsTo s fd ⟨[u], []⟩ [(x, u)])
    (hsp : ∀ H : Hp, Only H → SqL K H a (ns.map V.int) → sp [.ref a] H (fun v _ => v = .bl true) fun _ _ _ => False) :
    codeZ (model P w) callerA (.call (.ref fa) ⟨[.ref a], []⟩) (fun r s' => r = .ok (.ret (.bool true)) ∧ OldK s1.heap s'.heap ∧ s'.os = s1.os ∧ AllBare s'.gens) s1 := by
  obtain ⟨H, hO, hS, hok, hA, hK⟩ := script_hp (P := P) (w := w) KX ha hi hl
  have base_of : ∀ {b : Addr} {o : Obj}, s1.heap.get? b = some o → H b = none → (hidT s1.heap H).get? b = some o := fun e n => hidT_get e n
  have noA : ∀ {b : Addr} {o : Obj} {es : Array DictEntry} {ep : Nat}, s1.heap.get? b = some o → o.data = .dict es ep → H b = none := fun {b o es ep} e d => by
    cases q : H b with
    | none => rfl
    | some u =>
      obtain rfl : b = a := hA b (by rw [q]; simp)
      rw [ha] at e
      cases e
      cases (show Data.seq vs.toArray _ = Data.dict es ep from d)
  have nsK : ∀ {b : Addr} {m : Str → Option Value}, s1.heap.Ns b m → (hidT s1.heap H).Ns b m := fun {b m} ⟨o, es, ep, e, d, r⟩ => ⟨o, es, ep, base_of e (noA e d), d, r⟩
  have hKb : K.In (hidT s1.heap H) := fun b o e => base_of (KX b o e) (by
    cases q : H b with
    | none => rfl
    | some u =>
      obtain rfl : b = a := hA b (by rw [q]; simp)
      rw [hK (by rw [q]; simp)] at e
      cases e)
  have hM : Mod K mg (hidT s1.heap H) := ⟨hKb, nsK hns, ⟨mb, nsK hb, hbb⟩, let ⟨mc, h1, h2⟩ := hlim; ⟨mc, nsK h1, h2⟩⟩
  have e0 : Env0 P w K mg (hidT s1.heap H) callerA [] s1 H := ⟨rfl, hM, fun b o e => of_hidT e, Nat.le_of_eq (hidT_size _ _), trivial, fun b z => absurd (show b ∈ ([] : List Addr) from z) (by simp), hok, .of_eq hg⟩
  refine codeZ_mono ((F _ hKb (nsK hns)).run callerA [] s1 H ⟨[.ref a], []⟩ [.ref a] [.ref a] _ _ hr (by rw [dull_none hg]; exact e0) (hbind s1 (.ref a)) (.cons rfl .nil) (hsp H hO hS)) fun r s' h => ?_
  obtain ⟨u, rfl, v, H', os, nl, un, hok', r', q⟩ := h
  have q' : v = .bl true := q
  subst q'
  obtain rfl : u = Value.bool true := r'
  refine ⟨rfl, OldK.of_keep fun b o e => ?_, os, bare_of_nl nl hg⟩
  cases q : H b with
  | none => exact un.keep b o e q (by intro z; exact absurd (show b ∈ ([] : List Addr) from z) (by simp)) (by simp)
  | some u =>
    rcases hO b with z | ⟨ob, xs, z⟩
    · rw [q] at z; cases z
    · have z2 := un.frzs b ob _ z
      obtain ⟨e1, _⟩ := hok b _ z
      obtain ⟨e2, _⟩ := hok' b _ z2
      rw [e] at e1
      cases e1
      exact e2
end GW
end

section
set_option Elab.async false
set_option linter.all false
set_option maxRecDepth 100000
set_option maxHeartbeats 1000000
/-! The end: the row holds, from the law's call over such runs. -/
namespace GW
open PySem PySem.Calls PySem.Spec PyProof.Rows PySem.W L2 LY

abbrev WalkZ (q : Program) (loose : List Str) (XP : (Str → Option Value) → Heap → Prop) (YP : World → Heap → Prop) (r : RowW) (d : DefRec) (kwd : List (Str × Expr)) : Prop :=
  ∀ (w : World) (s0 s1 : Shared) (mg mb : Str → Option Value), Ground q loose r.records XP w s0 mg mb s1.heap → YP w s1.heap → ∀ (a : Addr) (o : Obj) (pm cd doc dV kV : Value), s1.heap.get? a = some o →
    o.data = .func { docDef d.name d.params d.body d.scope pm cd doc with defaults := dV, kwdefaults := kV } → s1.heap.CodeRec cd d.name → Dflts mg s1.heap d.params kwd dV kV → mg d.name = some (.ref a) → s1.gens = #[] →
    ∀ (args : List WData) (vals : List Value) (as : List Addr), r.claim.pre args = true → WData.layableAll args = true → ReadsAllW r.records (classAt s0.heap) s1.heap vals args as → WellAll w.params s1.heap vals args → (∀ a ∈ as, (a == sysModules) = false) →
      wpZ (model r.prog w) callerA (PySem.call (.ref a) vals) (fun v s' => GoodWG r.claim (classAt s0.heap) (ExcName.means s0.heap) args s1 (.ok (.ret v)) s') (fun e s' => GoodWG r.claim (classAt s0.heap) (ExcName.means s0.heap) args s1 (.error e) s') s1
theorem good_still {c : ClaimW} {cl : Str → Option Addr} {mean : ExcName → Option Value} {args : List WData} {s1 s' : Shared} {res : Result} (g : GoodWG c cl mean args s1 res s') : Still s' := Nl.still (s0 := s') (Nl.refl _) g.2.2.2
theorem holds_openZ {r : OpenRow} {q : Program} {loose : List Str} {Xt : Shared → Bool} {XP : (Str → Option Value) → Heap → Prop} {α : Type} {Yf : Shared → α} {Ya : World → α} {YP : World → Heap → Prop} {d : DefRec} {kwd : List (Str × Expr)} {N : Nat}
    (left : LeftO r.prog q loose Xt Yf Ya N) (hY : ∀ w s, Yf s = Ya w → YP w s.heap) (hYk : ∀ w h h', YP w h → (∀ b o, h.get? b = some o → h'.get? b = some o) → YP w h')
    (hX : ∀ s, Xt s = true → XP (s.heap.nsMap mainGlobals) s.heap) (hXk : ∀ mg h h', XP mg h → (∀ b o, h.get? b = some o → h'.get? b = some o) → XP mg h')
    (hdef : defOf q r.name = some (d, kwd)) (hp : r.prog.theDef r.name = some (d.params, d.body, d.scope)) (hk : kwWritten? d.params.kwonlyargs d.params.kw_defaults = some kwd) (hRf : ∀ s, Xt s = true → RecFacts r.records s.heap) (hwr : (!r.writes || r.records.isEmpty) = true)
    (k1 : r.wellSaid = true) (ok : (chainsOk q && opensWell r.prog && (frees r.toRowW && r.within.isEmpty)) = true) (hb : r.prog.bare) (hw : r.toRowW.promised) (call : WalkZ q loose XP YP r.toRowW d kwd) : r.Holds := by
  obtain ⟨ok, k5⟩ := Bool.and_eq_true_iff.mp ok
  obtain ⟨hch, o1⟩ := Bool.and_eq_true_iff.mp ok
  obtain ⟨k5, k6⟩ := Bool.and_eq_true_iff.mp k5
  obtain ⟨hsame, hu, ha, hap, hm⟩ := frees_parts k5
  refine ⟨k1, hw, ⟨hb, o1, by show r.toRowW.makers.map _ = []; rw [hm]; rfl⟩, hw.witness, fun w => ⟨(left.behind hX hch w).1, fun s' hs' => ?_⟩⟩
  obtain ⟨s0, hf, hg0, s, hT, hz, hgens, hg, G00, y⟩ := (left.behind (XP := fun mg h => XP mg h ∧ RecFacts r.records h) (fun s hs => ⟨hX s hs, hRf s hs⟩) hch w).2 s' hs'
  have G0 : Ground q loose [] XP w s (s.heap.nsMap mainGlobals) (s.heap.nsMap builtinsNs) s.heap := ⟨G00.T, G00.B, G00.D, G00.TE, G00.TD, G00.W, G00.X.1, G00.cls, G00.has, G00.apart, G00.once, G00.K⟩
  have RF := G00.X.2
  have hgens : s.gens = #[] := Array.eq_empty_of_size_eq_zero (beq_iff_eq.mp hgens)
  refine ⟨s0, hf, hg0, s, hT, fun n hn => ?_, RF.1, RF.2.1, callFromZ (c := r.toRowW.claim) hz hgens fun args hpre hlay ord hord => ?_⟩
  · obtain rfl : n = r.name := by
      first
        | (split at hn <;> simp_all; done)
        | simp_all
    exact pinned_of_view hg G0 hdef hp hk
  · have G : Ground q loose r.toRowW.records XP w s _ _ s.heap := RF.ground G0
    obtain ⟨⟨vs, s1⟩, hlaid⟩ := Option.isSome_iff_exists.mp (layAllW_isSome (P := w.params) (ord := ord) G.has args r.toRowW.args s (pre_splitW hpre).1)
    have keeps := layAllW_keeps _ _ _ hlaid
    have hal := layAllW_rest _ _ _ hlaid
    obtain ⟨as, hrd, hin, hold⟩ := reads_layAllW hord _ _ _ hlaid hlay s1.heap (fun _ _ e => e)
    have L : Laid r.toRowW.records w s s1 args vs as := ⟨⟨ord, hord, hlaid⟩, hrd, hin, hold, keeps, hal.1.trans hgens, hal.2.2.1⟩
    have G1 := G.keeps hXk keeps
    obtain ⟨a, o, pm, cd, doc, dV, kV, h1, h2, h3, h4, h5⟩ := G1.fn hdef
    have z := call w s s1 _ _ G1 (hYk _ _ _ (hY w s y) keeps) a o pm cd doc dV kV h2 h3 h4 h5 (defOf_name hdef ▸ h1) L.gens args vs as hpre hlay L.reads L.well (L.low G.low)
    have hi := ident_freeW hu ha hap
    have hwi : r.toRowW.claim.within = [] := List.isEmpty_iff.mp k6
    refine ⟨vs, s1, hlaid, ?_⟩
    have fin : ∀ {res : Result} {s' : Shared}, GoodWG r.toRowW.claim (classAt s.heap) (ExcName.means s.heap) args s1 res s' → _ ∧ Still s' := fun {res s'} g =>
      have z := g.laid (c := r.toRowW.claim) hsame hwi hi L
      ⟨(⟨z.1, z.2.1, fun q => ⟨namesKept_of hT hg _ keeps g.2.1.old, noTable hwr q⟩⟩ : r.toRowW.claim.Ends s args vs s1 res s' ∧ s'.os = s.os ∧ (r.writes = true → namesKept r.prog r.keeps s.heap s'.heap ∧ ∀ x ∈ r.toRowW.records, ∀ a, classAt s.heap x.1 = some a → recordClass s'.heap a x.1 (x.2.map (·.1)) = true)), good_still g⟩
    show wpZ _ callerA (nsGet mainNs r.name >>= fun f => match f with
      | some f => (PySem.call f vs >>= fun v => ret v)
      | none => unsupported "claim.caller:no-such-global") _ _ s1
    refine wpZ_lead (wpAny_nsGet G1.T.g ?_)
    rw [h1]
    exact wpZ_bind (wpZ_mono z (fun v s2 g => wpZ_pure ⟨_, rfl, fin g⟩) fun e s2 g => fin g)
end GW
end

section
set_option Elab.async false
set_option linter.all false
set_option maxRecDepth 100000
set_option maxHeartbeats 1000000
/-! From the promise of the law's def to the walk that holds_openZ asks for. -/
namespace GW
open PySem PySem.Calls PySem.Spec PyProof.Rows PySem.W L2 LY Att

theorem walkZ_of {l : OpenLaw} {n k : Nat} {q : Program} {loose : List Str} {XP : (Str → Option Value) → Heap → Prop} {YP : World → Heap → Prop} {d : DefRec} {K : Params → Frag} {sp : Frag → Sp} {x : Str} (hn : l.most = some n) (hn2 : n ≤ sizeLine) (hdf : d.params.defaults = []) (hr : Room k callerA)
    (hY : ∀ (w : World) (h : Heap), YP w h → (K w.params).In h)
    (F : ∀ (w : World) (mg : Str → Option Value) (fa : Addr) (h : Heap), (K w.params).In h → h.Ns mainGlobals mg → mg d.name = some (.ref fa) → ∃ fd : FuncData, (∀ (s : Shared) (u : Value), BindsTo s fd ⟨[u], []⟩ [(x, u)]) ∧
      ∀ base : Heap, (K w.params).In base → base.Ns mainGlobals mg → FnZ l.prog w (K w.params) mg base k fa fd [x] (sp (K w.params)))
    (hsp : ∀ (K : Frag) (H : Hp) (a : Addr) (ns : List Int), ns.length ≤ n → Only H → SqL K H a (ns.map V.int) → sp K [.ref a] H (fun v _ => v = .bl true) fun _ _ _ => False) : WalkZ q loose XP YP l.row.toRowW d [] := by
  intro w s0 s1 mg mb G Y fa o pm cd doc dV kV ho hd hcd hD hmg hg args vals as hpre hlay hrd hwl hlo
  obtain ⟨a, vs, ns, rfl, rfl, hobj, hints, hlen⟩ := script_of hn hpre hwl
  have KX := hY w _ Y
  obtain ⟨fd, hb, hF⟩ := F w mg fa _ KX G.T.g hmg
  refine wpZ_callV (codeZ_mono (law_callZ KX G.T.g G.T.b G.T.builtins G.T.nolimit hg hobj hints (Nat.le_trans hlen hn2) hr hF hb fun H hO hS => hsp _ H a ns hlen hO hS) fun r s' z => ?_)
  obtain ⟨rfl, h2, h3, h4⟩ := z
  exact ⟨.inl ⟨.bool true, .bool true, [], rfl, fun _ => rfl, .bool true, post_true l _, fun _ => ⟨List.Pairwise.nil, fun _ hm => (nomatch hm)⟩⟩, h2, h3, h4⟩
end GW
end

section
set_option Elab.async false
set_option linter.all false
set_option maxRecDepth 100000
set_option maxHeartbeats 1000000
/-! == by an own __eq__, both answers: instances, tuples, dicts; != of instances. -/
namespace GQ
open PySem PySem.SeqAt
open AutoSeq1 (wpAny_loadPart')
open MeetsSeq MeetsSeq2 MeetsSeq3 SeqRoads2
section
variable {prog : Program} {w : World} {A : Around} {R : Result → Shared → Prop}
theorem tuple_eqB (l b : Addr) (items items2 : Array Value) (n n2 : Nat) (dd dd2 : Option Addr) (sl sl2 : Array (Option Value)) (I : List (Value × Value) → Shared → Prop)
    (turn : ∀ x y rest s, I ((x, y) :: rest) s → wpAny (model prog w) A.in1 (eqBool x y) (fun r s' => (r = true ∧ I rest s') ∨ (r = false ∧ R (.ok (.ret (.bool false))) s')) (fun e s' => R (.error e) s') s)
    (fin : ∀ s, I [] s → R (.ok (.ret (.bool (items.size == items2.size)))) s) {s : Shared} (hl1 : s.heap.get? l = some { cls := .type "tuple", dict := dd, data := .seq items n, slots := sl }) (hb1 : s.heap.get? b = some { cls := .type "tuple", dict := dd2, data := .seq items2 n2, slots := sl2 }) (h : I (items.toList.zip items2.toList) s) :
    wpAny (model prog w) A.in1 (Builtin.«tuple.__eq__» ⟨[.ref l, .ref b], []⟩) (FinOf prog w A R) (fun e s' => R (.error e) s') s := by
  have f2 := AutoSeq1.sub_tuple_tuple
  have h0 := h
  obtain ⟨hp, g, d, tk, os⟩ := s
  wp_walk using wpAny_loadPart' hl1, wpAny_loadPart' hb1, wpAny_forIn_list _ (fun rest b s' => b.1 = none ∧ I rest s') _
  case turn =>
    rintro ⟨y, x⟩ rest b s' ⟨hb', hI⟩
    refine wpAny_bind (wpAny_mono (turn _ _ _ _ hI) (fun r s2 q2 => ?_) fun _ _ x => x)
    rcases q2 with ⟨hr, q2⟩ | ⟨hr, q2⟩
    · subst hr
      wp_walk
      exact ⟨rfl, q2⟩
    · subst hr
      wp_walk
      exact q2
  case fin =>
    rintro ⟨b1, b2⟩ s' ⟨hb', hI⟩
    simp only at hb'
    subst hb'
    have hR := fin s' hI
    wp_walk
    simpa [Builtin.Tuple.tupleCompareSizes] using hR
  case h =>
    exact ⟨rfl, h0⟩
end
end GQ
namespace GQ
open PySem PySem.SeqAt
open AutoSeq1 (wpAny_loadPart')
section
variable {prog : Program} {w : World} {A : Around} {E : Value → Shared → Prop} {s : Shared}
theorem rc_tupB {l b : Addr} {items items2 : Array Value} {Q : Value → Shared → Prop} (hu : A.units < cLine) (I : List (Value × Value) → Shared → Prop)
    (hl : s.heap.IsTuple l items) (hb : s.heap.IsTuple b items2)
    (turn : ∀ x y rest s, I ((x, y) :: rest) s → wpAny (model prog w) A.in1 (eqBool x y) (fun r s' => (r = true ∧ I rest s') ∨ (r = false ∧ Q (.bool false) s')) E s)
    (fin : ∀ s, I [] s → Q (.bool (items.size == items2.size)) s) (h : I (items.toList.zip items2.toList) s) : wpAny (model prog w) A (richCompare .Eq (.ref l) (.ref b)) Q E s := by
  obtain ⟨⟨cls, dd, data, sl⟩, ho, hc, n, hd⟩ := id hl
  obtain ⟨⟨cls2, dd2, data2, sl2⟩, ho2, hc2, n2, hd2⟩ := id hb
  simp only at hc hd hc2 hd2
  subst hc hd hc2 hd2
  refine wpAny_richCompare_same_room (op := .Eq) ⟨_, ho, rfl⟩ ⟨_, ho2, rfl⟩ F.slot_tuple_eq (call_here F.slot_tuple_eq ⟨_, ho, rfl⟩ F.entry_tuple_eq (F.args_tuple_eq_2 _ _) ?_) hu
  refine tuple_eqB (R := wants (fun v s' => v ≠ .notImplemented ∧ Q v s') E) l b items items2 n n2 dd dd2 sl sl2 I (fun x y rest s q => wpAny_mono (turn x y rest s q) (fun r s' z => ?_) fun _ _ x => x) (fun s' q => ⟨(fun x => nomatch x), fin s' q⟩) ho ho2 h
  rcases z with z | ⟨z, q⟩
  · exact .inl z
  · exact .inr ⟨z, (fun x => nomatch x), q⟩
end
end GQ
namespace PySem.W
open Lean Elab Tactic Meta PySem PySem.Calls PyProof.Rows PyProof.V PySem.Spec
section
variable {prog : Program} {w : World} {K : Type} [DecidableEq K] {knd : KeyKind prog w K} {A : Around} {E : Value → Shared → Prop} {s : Shared}
/-- two dicts compared, the state moving on while the two stay: W says of the pairs that are left that they may be asked -/
theorem keq_samePairsB {nm : String} {a b : Addr} {ka kb : List (K × Value)} {oa ob : Obj} {Q : Bool → Shared → Prop} (ha : (a == sysModules) = false) (hb : (b == sysModules) = false)
    (da : s.heap.DictOf knd a ka) (db : s.heap.DictOf knd b kb) (ga : s.heap.get? a = some oa) (gb : s.heap.get? b = some ob)
    (W : List (K × Value) → Shared → Prop) (st : ∀ l s, W l s → s.heap.get? a = some oa ∧ s.heap.get? b = some ob)
    (turn : ∀ k v rest s, W ((k, v) :: rest) s → (valueAt kb k = none ∧ Q false s) ∨ ∃ y, valueAt kb k = some y ∧ wpAny (model prog w) A (eqBool v y) (fun r s' => (r = true ∧ W rest s') ∨ (r = false ∧ Q false s')) E s)
    (fin : ∀ s, W [] s → Q true s) (hne : ka.length ≠ kb.length → Q false s) (h : ka.length = kb.length → W ka s) :
    wpAny (model prog w) A (Builtin.Dict.samePairs nm a b) Q E s := by
  obtain ⟨oa1, es, ep, hoa, _, hda, hka, hpa, _⟩ := da
  obtain ⟨ob1, es', ep', hob, _, hdb, hkb, hpb, _⟩ := db
  obtain rfl : oa = oa1 := Option.some.inj (ga.symm.trans hoa)
  obtain rfl : ob = ob1 := Option.some.inj (gb.symm.trans hob)
  have hla : ka.length = es.size := by rw [← hpa.length]; exact Array.length_toList
  have hlb : kb.length = es'.size := by rw [← hpb.length]; exact Array.length_toList
  have hfind : ∀ k, findBy knd.is es' k = valueAt kb k := fun k => by
    rw [← hpb.find k]
    clear hlb hpb hkb hdb
    obtain ⟨l⟩ := es'
    simp [findBy]
  unfold Builtin.Dict.samePairs Builtin.Dict.showsAll
  rw [if_neg (show ¬ (a == sysModules) = true by rw [ha]; exact Bool.false_ne_true), if_neg (show ¬ (b == sysModules) = true by rw [hb]; exact Bool.false_ne_true)]
  refine wpAny_bind (wpAny_pure (wpAny_bind (wpAny_pure ?_)))
  refine wpAny_bind (wpAny_dictEntries hoa hda ?_)
  dsimp only
  refine wpAny_bind (wpAny_dictEntries hob hdb ?_)
  by_cases hsz : es.size = es'.size
  case neg =>
    rw [if_pos (by simpa using hsz)]
    exact wpAny_bind (wpAny_rule (wpAny_pure (hne (by rw [hla, hlb]; exact hsz))))
  case pos =>
    have h' := h (by rw [hla, hlb]; exact hsz)
    rw [if_neg (by rw [hsz]; simp)]
    refine wpAny_bind (wpAny_dictEpoch hoa hda ?_)
    refine wpAny_bind ?_
    rw [Std.Legacy.Range.forIn_eq_forIn_range']
    simp only [Std.Legacy.Range.size, Nat.sub_zero, Nat.add_sub_cancel, Nat.div_one]
    refine wpAny_forIn_list _
      (fun rest q s' => q = (none, ()) ∧ ∃ i, rest = List.range' i (es.size - i) ∧ i ≤ es.size ∧ W (ka.drop i) s')
      _ ?_ ?_ _ _ ⟨rfl, 0, by simp, Nat.zero_le _, h'⟩
    · rintro x rest q s' ⟨rfl, i, hr, hi, hW⟩
      obtain ⟨hoa, hob⟩ := st _ _ hW
      have hlt : i < es.size := by
        rcases Nat.lt_or_ge i es.size with h | h
        · exact h
        · rw [Nat.sub_eq_zero_of_le h] at hr; simp at hr
      obtain ⟨rfl, hrest⟩ : x = i ∧ rest = List.range' (i + 1) (es.size - (i + 1)) := by
        have e : es.size - i = (es.size - (i + 1)) + 1 := by omega
        rw [e, List.range'_succ] at hr
        injection hr with h1 h2
        exact ⟨h1, h2⟩
      refine wpAny_bind (wpAny_dictEntries hoa hda ?_)
      rw [Array.getElem?_eq_getElem hlt]
      have hlt' : x < ka.length := by rw [hla]; exact hlt
      obtain ⟨k, v, hkv⟩ : ∃ k v, ka[x] = (k, v) := ⟨_, _, rfl⟩
      have hdrop : ka.drop x = (k, v) :: ka.drop (x + 1) := by rw [← hkv]; exact List.drop_eq_getElem_cons hlt'
      obtain ⟨hkey, hval⟩ := hpa.get? (i := x) (e := es[x]) (k := k) (v := v) (by rw [Array.getElem?_toList]; exact Array.getElem?_eq_getElem hlt) (by rw [List.getElem?_eq_getElem hlt', hkv])
      obtain ⟨k', hk', hh⟩ := hka es[x] (Array.getElem_mem hlt)
      have ekk : k' = k := knd.inj _ _ _ hk' hkey
      rw [ekk] at hh
      rw [hdrop] at hW
      show wpAny _ _ (holding [es[x].key, es[x].val] _ >>= _) _ _ _
      rw [hh]
      refine wpAny_bind (wpAny_holding (wpAny_bind (wpAny_dictFind_of hkey hob hdb hkb ?_)))
      cases hj : es'.findIdx? fun e => knd.is k e.key with
      | none =>
        have hn : valueAt kb k = none := by rw [← hfind k, findBy_of_findIdx?, hj]
        rcases turn _ _ _ _ hW with ⟨_, q⟩ | ⟨y, hy, _⟩
        · refine wpAny_pure ?_
          show wpAny _ _ (if (!false) = true then _ else _) _ _ _
          rw [if_pos (by decide)]
          exact wpAny_pure (wpAny_pure q)
        · rw [hn] at hy; exact nomatch hy
      | some j =>
        obtain ⟨hjlt, _, _⟩ := Array.findIdx?_eq_some_iff_getElem.mp hj
        have hv' : valueAt kb k = some es'[j].val := by
          rw [← hfind k, findBy_of_findIdx?, hj]
          simp [Array.getElem?_eq_getElem hjlt]
        refine wpAny_bind (wpAny_dictEntries hob hdb ?_)
        rw [Array.getElem?_eq_getElem hjlt]
        rcases turn _ _ _ _ hW with ⟨hn, _⟩ | ⟨y, hy, he⟩
        · rw [hv'] at hn; exact nomatch hn
        · have ey : es'[j].val = y := Option.some.inj (hv'.symm.trans hy)
          rw [← ey, ← hval] at he
          refine wpAny_holding (wpAny_mono he (fun r s2 z => ?_) fun _ _ x => x)
          rcases z with ⟨hr', z⟩ | ⟨hr', z⟩
          · subst hr'
            obtain ⟨hoa2, _⟩ := st _ _ z
            show wpAny _ _ (if (!true) = true then _ else _) _ _ _
            rw [if_neg (by decide)]
            refine wpAny_bind (wpAny_dictEpoch hoa2 hda ?_)
            rw [if_neg (by simp)]
            exact wpAny_pure ⟨rfl, x + 1, hrest, hlt, z⟩
          · subst hr'
            show wpAny _ _ (if (!false) = true then _ else _) _ _ _
            rw [if_pos (by decide)]
            exact wpAny_pure (wpAny_pure z)
    · rintro q s' ⟨rfl, i, hr, hi, hW⟩
      have hin : i = es.size := by
        rcases Nat.lt_or_ge i es.size with h | h
        · have e : es.size - i = (es.size - (i + 1)) + 1 := by omega
          rw [e, List.range'_succ] at hr; exact nomatch hr
        · exact Nat.le_antisymm hi h
      refine wpAny_pure ?_
      rw [hin, ← hla, List.drop_length] at hW
      exact fin _ hW
theorem keq_eqB {a b : Addr} {ka kb : List (K × Value)} {oa ob : Obj} {Q : Value → Shared → Prop} (hu : A.units < cLine) (ha : (a == sysModules) = false) (hb : (b == sysModules) = false)
    (da : s.heap.DictOf knd a ka) (db : s.heap.DictOf knd b kb) (ga : s.heap.get? a = some oa) (gb : s.heap.get? b = some ob)
    (W : List (K × Value) → Shared → Prop) (st : ∀ l s, W l s → s.heap.get? a = some oa ∧ s.heap.get? b = some ob)
    (turn : ∀ k v rest s, W ((k, v) :: rest) s → (valueAt kb k = none ∧ Q (.bool false) s) ∨ ∃ y, valueAt kb k = some y ∧ wpAny (model prog w) A.in1 (eqBool v y) (fun r s' => (r = true ∧ W rest s') ∨ (r = false ∧ Q (.bool false) s')) E s)
    (fin : ∀ s, W [] s → Q (.bool true) s) (hne : ka.length ≠ kb.length → Q (.bool false) s) (h : ka.length = kb.length → W ka s) :
    wpAny (model prog w) A (richCompare .Eq (.ref a) (.ref b)) Q E s := by
  refine wpAny_richCompare_same_room (op := .Eq) da.typeIs db.typeIs PySem.F.slot_dict_eq (wpAny_call_entry PySem.F.slot_dict_eq da.typeIs PySem.F.entry_dict_eq ?_ (PySem.F.args_dict_eq_2 _ _)) hu
  show wpAny _ _ (Builtin.Dict.dictSlotArgs "__eq__" ⟨[.ref a, .ref b], []⟩ >>= _) _ _ s
  refine wpAny_bind ?_
  unfold Builtin.Dict.dictSlotArgs
  refine wpAny_bind (wpAny_notOrdered_dict da.typeIs ?_)
  show wpAny _ _ (pure (Value.ref a, Value.ref b)) _ _ s
  refine wpAny_pure ?_
  refine wpAny_bind (wpAny_isInstance (T := "dict") db.typeIs PySem.F.sub_dict_dict ?_)
  simp only [Bool.not_true, Bool.false_eq_true, if_false]
  refine wpAny_bind (wpAny_pure (wpAny_bind (wpAny_pure ?_)))
  have out : ∀ (r : Bool) s', Q (.bool r) s' → wpAny (model prog w) A.in1 (ret (.bool (r == true))) (fun fin s' => ∃ v, fin = .done (.ret v) ∧ v ≠ .notImplemented ∧ Q v s') E s' := fun r s' q => by
    cases r <;> exact wpAny_pure ⟨_, rfl, (fun x => nomatch x), q⟩
  refine wpAny_bind (keq_samePairsB ha hb da db ga gb W st (fun k v rest s' z => ?_) (fun s' z => ?_) (fun z => ?_) h)
  · rcases turn k v rest s' z with ⟨z1, q⟩ | ⟨y, z1, q⟩
    · exact .inl ⟨z1, out false _ q⟩
    · refine .inr ⟨y, z1, wpAny_mono q (fun r s2 z => ?_) fun _ _ x => x⟩
      rcases z with z | ⟨z, q⟩
      · exact .inl z
      · exact .inr ⟨z, out false _ q⟩
  · exact out true _ (fin _ z)
  · exact out false _ (hne z)
end
end PySem.W
end

section
set_option Elab.async false
set_option linter.all false
set_option maxRecDepth 100000
set_option maxHeartbeats 1000000
namespace L2
open PySem PySem.Spec PyProof.Rows
/-- how two values compare, by the abstract heap: == gives b -/
abbrev Eqb := V → V → Bool → Hp → Prop
def MonB (D : Eqb) : Prop := ∀ x y b H H', Ext H H' → D x y b H → D x y b H'
def EqB (X : Cx) (n : Nat) (D : Eqb) : Prop :=
  ∀ (A : Around) (pins : List (Addr × Obj)) (s : Shared) (σ : St) (H : Hp) (x y : V) (u v : Value) (b : Bool), Sub X n A → Inv X pins σ H s → RelV x u → RelV y v → D x y b H →
    wpAny (model X.prog X.w) A (eqBool u v) (fun r s' => r = b ∧ ∃ H', Inv X pins σ H' s' ∧ Ext H H') X.xe s
def RcB (X : Cx) (n : Nat) (op : CmpOp) (D : Eqb) : Prop :=
  ∀ (A : Around) (pins : List (Addr × Obj)) (s : Shared) (σ : St) (H : Hp) (x y : V) (u v : Value) (b : Bool), Sub X n A → Inv X pins σ H s → RelV x u → RelV y v → D x y b H →
    wpAny (model X.prog X.w) A (richCompare op u v) (fun r s' => r = .bool b ∧ ∃ H', Inv X pins σ H' s' ∧ Ext H H') X.xe s
section
variable {X : Cx} {n m : Nat} {D D' : Eqb} {op : CmpOp}
theorem EqB.mono (h : EqB X n D) (hn : n ≤ m) : EqB X m D := fun A pins s σ H x y u v b sb => h A pins s σ H x y u v b (sb.mono hn)
theorem RcB.mono (h : RcB X n op D) (hn : n ≤ m) : RcB X m op D := fun A pins s σ H x y u v b sb => h A pins s σ H x y u v b (sb.mono hn)
theorem EqB.imp (h : EqB X n D) (hd : ∀ x y b H, D' x y b H → D x y b H) : EqB X n D' := fun A pins s σ H x y u v b sb I rx ry d => h A pins s σ H x y u v b sb I rx ry (hd x y b H d)
theorem RcB.imp (h : RcB X n op D) (hd : ∀ x y b H, D' x y b H → D x y b H) : RcB X n op D' := fun A pins s σ H x y u v b sb I rx ry d => h A pins s σ H x y u v b sb I rx ry (hd x y b H d)
theorem RcB.or (h : RcB X n op D) (h' : RcB X n op D') : RcB X n op (fun x y b H => D x y b H ∨ D' x y b H) := fun A pins s σ H x y u v b sb I rx ry d =>
  d.elim (h A pins s σ H x y u v b sb I rx ry) (h' A pins s σ H x y u v b sb I rx ry)
/-- flat values -/
def DFlatB : Eqb := fun x y b _ => flatV x = true ∧ flatV y = true ∧ eqV x y = b
theorem eqB_flat : EqB X 0 DFlatB := by
  intro A pins s σ H x y u v b sb I rx ry d
  obtain ⟨fx, fy, e⟩ := d
  have q := eqAt_V (A := A) (s := s) rx ry fx fy
  rw [e] at q
  exact q X.prog X.w X.xe _ ⟨rfl, H, I, Ext.rfl'⟩
/-- from a rich comparison of references to == inside a tuple or dict: the same object is equal to itself -/
theorem RcB.eqB (h : RcB X n .Eq D) (hr : ∀ x y b H, D x y b H → ∃ p q, x = .ref p ∧ y = .ref q ∧ (p = q → b = true)) : EqB X n D := by
  intro A pins s σ H x y u v b sb I rx ry d
  obtain ⟨p, q, rfl, rfl, hs⟩ := hr _ _ _ _ d
  cases rx
  cases ry
  by_cases hab : p = q
  · subst hab
    obtain rfl := hs rfl
    exact SeqAt.EqAt.same (A := A) (s := s) (.ref p) X.prog X.w X.xe _ ⟨rfl, H, I, Ext.rfl'⟩
  · refine GQ.eqBool_refG hab (wpAny_mono (h A pins s σ H (.ref p) (.ref q) _ _ b sb I rfl rfl d) (fun r s' q => ?_) fun _ _ x => x)
    obtain ⟨hr', q⟩ := q
    exact ⟨b, hr', rfl, q⟩

/-! ### tuples -/
inductive PrsB (D : Eqb) (H : Hp) : List V → List V → Bool → Prop
  | nil : PrsB D H [] [] true
  | left {x : V} {xs : List V} : PrsB D H (x :: xs) [] false
  | right {y : V} {ys : List V} : PrsB D H [] (y :: ys) false
  | cons {x y : V} {xs ys : List V} {b c : Bool} : D x y b H → PrsB D H xs ys c → PrsB D H (x :: xs) (y :: ys) (b && c)
theorem PrsB.mon (hD : MonB D) {H H' : Hp} (e : Ext H H') {xs ys : List V} {b : Bool} (p : PrsB D H xs ys b) : PrsB D H' xs ys b := by
  induction p with
  | nil => exact .nil
  | left => exact .left
  | right => exact .right
  | cons h _ ih => exact .cons (hD _ _ _ _ _ e h) ih
def DTupB (K : PySem.W.Frag) (D : Eqb) : Eqb := fun x y b H => ∃ p q xs ys, x = .ref p ∧ y = .ref q ∧ SqT K H p xs ∧ SqT K H q ys ∧ PrsB D H xs ys b
theorem rcB_tup (hD : MonB D) (h : EqB X n D) : RcB X (n + 1) .Eq (DTupB X.K D) := by
  intro A pins s σ H x y u v b sb I rx ry d
  obtain ⟨p, q, xs, ys, rfl, rfl, ha, hb, pr⟩ := d
  cases rx
  cases ry
  obtain ⟨its, r, e, z⟩ := I.tuple ha
  obtain ⟨its2, r2, e2, z2⟩ := I.tuple hb
  refine GQ.rc_tupB sb.room.units0 (fun l s' => ∃ xs' ys' us vs, l = us.zip vs ∧ Vals xs' us ∧ Vals ys' vs ∧ ∃ H', Inv X pins σ H' s' ∧ Ext H H' ∧ PrsB D H' xs' ys' (if xs'.length = ys'.length then b else b) ∧ (xs'.length = ys'.length ↔ xs.length = ys.length)) e e2 (fun x y rest s1 q1 => ?_) (fun s1 q1 => ?_) ⟨xs, ys, its, its2, by simp, r, r2, H, I, Ext.rfl', by simpa using pr, Iff.rfl⟩
  · obtain ⟨xs', ys', us, vs, hl, r1, r2', H1, I1, e1, pr1, hlen⟩ := q1
    cases r1 with
    | nil => simp at hl
    | @cons a u as us' ra ras =>
      cases r2' with
      | nil => simp at hl
      | @cons a2 v2 bs vs' rb rbs =>
        simp only [List.zip_cons_cons, List.cons.injEq, Prod.mk.injEq] at hl
        obtain ⟨⟨rfl, rfl⟩, rfl⟩ := hl
        simp only [ite_self] at pr1
        generalize hbb : b = bb at pr1
        cases pr1 with
        | @cons _ _ _ _ b1 c1 hd pr2 =>
          refine wpAny_mono (h A.in1 pins s1 σ H1 _ _ _ _ _ sb.in1 I1 ra rb hd) (fun r s2 z => ?_) fun _ _ x => x
          obtain ⟨hr, H2, I2, e2⟩ := z
          cases b1 with
          | true => exact .inl ⟨hr, _, _, _, _, rfl, ras, rbs, H2, I2, e1.trans e2, by simpa [hbb] using pr2.mon hD e2, by simpa using hlen⟩
          | false => exact .inr ⟨hr, by simp [hbb], H2, I2, e1.trans e2⟩
  · obtain ⟨xs', ys', us, vs, hl, r1, r2', H1, I1, e1, pr1, hlen⟩ := q1
    refine ⟨?_, H1, I1, e1⟩
    simp only [ite_self] at pr1
    have hsz : (its.toArray.size == its2.toArray.size) = decide (xs.length = ys.length) := by
      rw [Bool.eq_iff_iff]
      simp [← r.length, ← r2.length]
    rw [hsz]
    cases r1 with
    | nil =>
      cases r2' with
      | nil =>
        cases pr1
        simp at hlen
        simp [hlen]
      | cons rb rbs =>
        cases pr1
        simp at hlen
        simp [hlen]
    | cons ra ras =>
      cases r2' with
      | nil =>
        cases pr1
        simp at hlen
        simp [hlen]
      | cons rb rbs => simp at hl
theorem eqB_tup (hD : MonB D) (h : EqB X n D) (hs : ∀ p b H, DTupB X.K D (.ref p) (.ref p) b H → b = true) : EqB X (n + 1) (DTupB X.K D) :=
  (rcB_tup hD h).eqB fun _ _ b H d => let ⟨p, q, _, _, hx, hy, _⟩ := d; ⟨p, q, hx, hy, fun e => by subst hx hy e; exact hs _ _ _ d⟩

/-! ### instances -/
/-- what the own == promises -/
def spEqB (R : V → V → Bool → Hp → Prop) : Sp := fun vs H Q _ => ∃ x y b, vs = [x, y] ∧ R x y b H ∧ ∀ H', Ext H H' → Q (.bl b) H'
/-- an instance of the class at C beside an instance of some class that is not below C -/
def DInsB (K : PySem.W.Frag) (C : Addr) (R : Eqb) : Eqb := fun x y b H => ∃ p q C' dx dy fs gs, x = .ref p ∧ y = .ref q ∧ H p = some (.ins C dx fs) ∧ H q = some (.ins C' dy gs) ∧ Cls K C' ∧ PySem.W.notFirst K C (.ref C') = true ∧ R x y b H
section
variable {CX : CXT} {C f : Addr} {fd : FuncData} {ps : List Str} {R : Eqb} {E : XK}
theorem own_call (F : FnOk X.prog X.w X.K X.mg X.base CX n f fd ps (spEqB R)) (hb : Binds X.K fd ps []) (hx : Passes CX X E) {A : Around} {pins : List (Addr × Obj)} {s : Shared} {σ : St} {H : Hp} {x y : V} {u v : Value} {b : Bool} (sb : Sub X n A) (I : Inv X pins σ H s) (rx : RelV x u) (ry : RelV y v) (hr : R x y b H) :
    wpAny (model X.prog X.w) A (call (.ref f) [u, v]) (fun r s' => r = .bool b ∧ ∃ H', Inv X pins σ H' s' ∧ Ext H H') X.xe s := by
  have hsp : spEqB R [x, y] H (fun v H' => v = .bl b ∧ Ext H H') E := ⟨x, y, b, rfl, hr, fun H' e => ⟨rfl, e⟩⟩
  have e0 : Env0 X.prog X.w X.K X.mg X.base A X.stack s H := by
    have e := I.env0
    exact ⟨by rw [sb.fr]; exact e.frames, e.mod, e.bs, e.bsz, e.funs, e.frf, e.hok, e.bare⟩
  have hl := F.len _ _ _ _ hsp
  have r2 : Vals [x, y] [u, v] := .cons rx (.cons ry .nil)
  refine wpAny_call (codeAny_mono (F.run A X.stack s H ⟨[u, v], []⟩ [u, v] [x, y] _ E sb.room e0 (by
    have := hb s [u, v] I.kIn (by simpa using hl)
    simpa using this) r2 hsp) fun r s' hq => ?_)
  cases r with
  | error e => exact hx pins σ H s e s' I hq
  | ok fl =>
    cases fl with
    | ret w =>
      obtain ⟨z, H', I', rz, ez, ex⟩ := I.after hq
      subst ez
      cases rz
      exact ⟨rfl, H', I', ex⟩
    | next => exact False.elim hq
    | brk => exact False.elim hq
    | cont => exact False.elim hq
theorem rcB_ins (F : FnOk X.prog X.w X.K X.mg X.base CX n f fd ps (spEqB R))
    (hs : PySem.W.findIn X.K (.ref C) "__eq__" = some (some (.ref f))) (hf : PySem.W.isFn X.K (.ref f) = true) (hb : Binds X.K fd ps []) (hx : Passes CX X E) : RcB X n .Eq (DInsB X.K C R) := by
  intro A pins s σ H x y u v b sb I rx ry d
  obtain ⟨p, q, C', dx, dy, fs, gs, rfl, rfl, ha, hb', hc', hn, hr⟩ := d
  cases rx
  cases ry
  obtain ⟨mA, J, _⟩ := ins_get I.hok ha
  obtain ⟨mB, J', _⟩ := ins_get I.hok hb'
  obtain ⟨od, J, _⟩ := J.look
  obtain ⟨od', J', _⟩ := J'.look
  obtain ⟨m, hF⟩ := I.fr
  refine PySem.W.cmp_K (op := .Eq) (tb := .ref C') sb.room.units0 hF I.ok.mod.kin J J'.type hn hs hf ?_
  refine wpAny_mono (own_call (x := .ref p) (y := .ref q) F hb hx sb I rfl rfl hr) (fun r s' z => ?_) fun _ _ x => x
  obtain ⟨rfl, z⟩ := z
  exact ⟨rfl, z⟩
end
end
end L2
end

section
set_option Elab.async false
set_option linter.all false
set_option maxRecDepth 100000
set_option maxHeartbeats 1000000
namespace PySem.W
open PySem PySem.Calls PyProof.Rows
section
variable {prog : Program} {w : World} {A A₀ : Around} {E : Value → Shared → Prop} {s : Shared} {K : Frag} {x C L f : Addr} {h₀ : Heap} {m : Str → Option Value} {ox : Obj} {od : Option Obj} {name : Str} {b tb : Value}
/-- object.__ne__ of an instance with an own __eq__ -/
theorem call_ne_K {Q : Value → Shared → Prop} (hu : A.units + 1 < cLine) (X : K.In s.heap) (I : InstAt s.heap x ox C od) (ho : mroIn K C (.type "object") = some true)
    (hs : findIn K (.ref C) "__eq__" = some (some (.ref f))) (hf : isFn K (.ref f) = true)
    (h : wpAny (model prog w) A.in1 (call (.ref f) [.ref x, b]) (fun v s' => ∃ r, v = .bool r ∧ Q (.bool (!r)) s') E s) : wpAny (model prog w) A (call (.builtin "object.__ne__") [.ref x, b]) Q E s := by
  have sub : W.Looks (model prog w) s.heap (isInstance (.ref x) (.type "object")) true := I.type.andThen (looks_mroIn X ho)
  refine wpAny_call (codeAny_call_builtin F.cmp_object.ne.plain F.cmpEntry_ne (check_slot F.cmpKind_ne F.cmpSplit_ne sub (F.cmpArgs_ne _ _) ?_))
  have hu' : A.in1.units < cLine := hu
  show wpAny _ _ (Builtin.«object.__ne__» ⟨[.ref x, b], []⟩) _ _ _
  unfold Builtin.«object.__ne__»
  refine wpAny_bind (wpAny_pure ?_)
  show wpAny _ _ (cRoomFor _ _ >>= _) _ _ _
  refine wpAny_bind (wpAny_cRoomFor hu' ?_)
  refine wpAny_bind (ifBound_K X I hs hf (wpAny_mono h (fun v s' z => ?_) fun _ _ e => e))
  obtain ⟨r, rfl, q⟩ := z
  show wpAny _ _ (truthy (.bool r) >>= _) _ _ _
  exact wpAny_bind (wpAny_truthy_bool (wpAny_pure q))
theorem ifBound_ne {M : Model} {args : List Value} {Q : Option Value → Shared → Prop} (X : K.In s.heap) (I : InstAt s.heap x ox C od) (hs : findIn K (.ref C) "__ne__" = some (some (.builtin "object.__ne__")))
    (h : wpAny M A (call (.builtin "object.__ne__") (.ref x :: args)) (fun v => Q (some v)) E s) : wpAny M A (callSpecialIfBound? (.ref x) "__ne__" args) Q E s := by
  simp only [callSpecialIfBound?, bindSpecialIfBound?]
  refine wpAny_holding (wpAny_bind (wpAny_bind (wpAny_bind (I.type.here ((looks_findIn X hs).here ?_)))))
  simp only [F.cmp_object.ne.bind]
  refine wpAny_bind (wpAny_askSetting (wpAny_ite ?_))
  have fin : wpAny M A (call (.builtin "object.__ne__") ([.ref x] ++ args) >>= fun v => pure (some v)) Q E s := wpAny_bind (wpAny_mono h (fun v s' h' => wpAny_pure h') fun _ _ h' => h')
  split
  · exact wpAny_bind (wpAny_pure (wpAny_pure fin))
  · exact wpAny_tryCatch (wpAny_bind (wpAny_pure (wpAny_pure fin)))
theorem ne_K {Q : Value → Shared → Prop} (hu : A.units + 1 < cLine) (F : Fr h₀ L s.heap m) (X₀ : K.In h₀) (I : InstAt s.heap x ox C od) (hb : Looks (model prog w) s.heap (typeOf b) tb) (hn : notFirst K C tb = true) (ho : mroIn K C (.type "object") = some true)
    (hne : findIn K (.ref C) "__ne__" = some (some (.builtin "object.__ne__"))) (hs : findIn K (.ref C) "__eq__" = some (some (.ref f))) (hf : isFn K (.ref f) = true)
    (h : wpAny (model prog w) A.in1 (call (.ref f) [.ref x, b]) (fun v s' => ∃ r, v = .bool r ∧ Q (.bool (!r)) s') E s) : wpAny (model prog w) A (richCompare .NotEq (.ref x) b) Q E s := by
  have X := X₀.keeps F.keep
  have one : wpAny (model prog w) A (tryCompare (.ref x) "__ne__" b) (fun r s' => ∃ v, r = some v ∧ Q v s') E s := by
    unfold tryCompare
    refine wpAny_bind (ifBound_ne X I hne (call_ne_K hu X I ho hs hf (wpAny_mono h (fun v s' hv => ?_) fun _ _ e => e)))
    obtain ⟨r, rfl, q⟩ := hv
    exact ⟨r, rfl, wpAny_pure ⟨_, rfl, q⟩⟩
  unfold richCompare
  simp only [oneThing_ref]
  refine wpAny_holding (wpAny_bind (wpAny_cRoomFor (Nat.lt_of_succ_lt hu) ?_))
  refine wpAny_bind (I.type.here (wpAny_bind (hb.here ?_)))
  split
  · rename_i q
    have e : subIn K tb (.ref C) = some false := by
      rcases Bool.or_eq_true_iff.mp hn with e | e
      · rw [beq_iff_eq.mp e] at q; simp at q
      · exact beq_iff_eq.mp e
    refine wpAny_bind ((looks_subIn X e).here ?_)
    simp only [Bool.false_eq_true, if_false]
    refine wpAny_bind (wpAny_mono one (fun r s' z => ?_) fun _ _ e => e)
    obtain ⟨v, rfl, hq⟩ := z
    exact wpAny_pure hq
  · refine wpAny_bind (wpAny_pure ?_)
    simp only [Bool.false_eq_true, if_false]
    refine wpAny_bind (wpAny_mono one (fun r s' z => ?_) fun _ _ e => e)
    obtain ⟨v, rfl, hq⟩ := z
    exact wpAny_pure hq
end
end PySem.W
namespace L2
open PySem PySem.Spec PyProof.Rows
section
variable {X : Cx} {n m : Nat} {D D' : Eqb}
section
variable {CX : CXT} {C f : Addr} {fd : FuncData} {ps : List Str} {R : Eqb} {E : XK}
theorem rcB_insNe (F : FnOk X.prog X.w X.K X.mg X.base CX n f fd ps (spEqB R))
    (hs : PySem.W.findIn X.K (.ref C) "__eq__" = some (some (.ref f))) (hne : PySem.W.findIn X.K (.ref C) "__ne__" = some (some (.builtin "object.__ne__"))) (ho : PySem.W.mroIn X.K C (.type "object") = some true) (hf : PySem.W.isFn X.K (.ref f) = true) (hb : Binds X.K fd ps []) (hx : Passes CX X E) : RcB X (n + 1) .NotEq (fun x y b H => DInsB X.K C R x y (!b) H) := by
  intro A pins s σ H x y u v b sb I rx ry d
  obtain ⟨p, q, C', dx, dy, fs, gs, rfl, rfl, ha, hb', hc', hn, hr⟩ := d
  cases rx
  cases ry
  obtain ⟨mA, J, _⟩ := ins_get I.hok ha
  obtain ⟨mB, J', _⟩ := ins_get I.hok hb'
  obtain ⟨od, J, _⟩ := J.look
  obtain ⟨od', J', _⟩ := J'.look
  obtain ⟨m, hF⟩ := I.fr
  have hu : A.units + 1 < cLine := hu_of sb.room
  refine PySem.W.ne_K (tb := .ref C') hu hF I.ok.mod.kin J J'.type hn ho hne hs hf ?_
  refine wpAny_mono (own_call (x := .ref p) (y := .ref q) F hb hx sb.in1 I rfl rfl hr) (fun r s' z => ?_) fun _ _ x => x
  obtain ⟨rfl, z⟩ := z
  exact ⟨_, rfl, by simp, z⟩
end
/-! ### dicts -/
/-- pair by pair, in the order of the first -/
inductive PrsD (D : Eqb) (H : Hp) (ls : List (Key × V)) : List (Key × V) → Bool → Prop
  | nil : PrsD D H ls [] true
  | miss {k : Key} {v : V} {r : List (Key × V)} : valV ls k = none → PrsD D H ls ((k, v) :: r) false
  | hit {k : Key} {v y : V} {r : List (Key × V)} {b c : Bool} : valV ls k = some y → D v y b H → PrsD D H ls r c → PrsD D H ls ((k, v) :: r) (b && c)
theorem PrsD.mon (hD : MonB D) {H H' : Hp} (e : Ext H H') {ls ks : List (Key × V)} {b : Bool} (p : PrsD D H ls ks b) : PrsD D H' ls ks b := by
  induction p with
  | nil => exact .nil
  | miss h => exact .miss h
  | hit h d _ ih => exact .hit h (hD _ _ _ _ _ e d) ih
def DDictB (D : Eqb) : Eqb := fun x y b H => ∃ p q ks ls, x = .ref p ∧ y = .ref q ∧ p ≠ q ∧ H p = some (.dK ks) ∧ H q = some (.dK ls) ∧ (ks.length ≠ ls.length → b = false) ∧
  (ks.length = ls.length → ∀ oa ob, PrsD D (upd (upd H p (.frz oa (.dK ks))) q (.frz ob (.dK ls))) ls ks b)
theorem upd_back {H H' : Hp} {p : Addr} {o u : HO} (hp : H p = some u) (e : Ext (upd H p o) H') : Ext H (upd H' p u) := fun a v h => by
  by_cases z : a = p
  · subst z
    rw [upd_same]
    exact hp.symm.trans h
  · rw [upd_ne z]
    exact e a v (by rw [upd_ne z]; exact h)
theorem rcB_dict (hD : MonB D) (h : EqB X n D) : RcB X (n + 1) .Eq (DDictB D) := by
  intro A pins s σ H x y u v b sb I rx ry d
  obtain ⟨p, q, ks, ls, rfl, rfl, hpq, hp, hq, hne, hpr⟩ := d
  cases rx
  cases ry
  obtain ⟨oa, I1⟩ := I.lock hp (show Mut (some (.dK ks)) from trivial)
  have hq1 : (upd H p (.frz oa (.dK ks))) q = some (.dK ls) := by rw [upd_ne (Ne.symm hpq)]; exact hq
  obtain ⟨ob, I2⟩ := I1.lock hq1 (show Mut (some (.dK ls)) from trivial)
  have fz1 := I.nofrz hp (show Mut (some (.dK ks)) from trivial)
  have fz2 := I1.nofrz hq1 (show Mut (some (.dK ls)) from trivial)
  have back : ∀ {s' : Shared} {H' : Hp}, Inv X pins σ H' s' → Ext (upd (upd H p (.frz oa (.dK ks))) q (.frz ob (.dK ls))) H' → ∃ H', Inv X pins σ H' s' ∧ Ext H H' := fun {s' H'} I' e => by
    have e2 := upd_back hq1 e
    have I3 := I'.unlock (e q _ upd_same) fz2
    have hp3 : (upd H' q (.dK ls)) p = some (.frz oa (.dK ks)) := e2 p _ upd_same
    exact ⟨_, I3.unlock hp3 fz1, upd_back hp e2⟩
  obtain ⟨_, ya, va, ra, da⟩ := (show ObjOk X.prog X.w H s.heap p (.dK ks) from I.hok p _ hp)
  obtain ⟨_, yb, vb, rb, db⟩ := (show ObjOk X.prog X.w H s.heap q (.dK ls) from I.hok q _ hq)
  have ga : s.heap.get? p = some oa := (show ObjOk X.prog X.w _ s.heap p (.frz oa (.dK ks)) from I2.hok p _ (by rw [upd_ne hpq]; exact upd_same)).1
  have gb : s.heap.get? q = some ob := (show ObjOk X.prog X.w _ s.heap q (.frz ob (.dK ls)) from I2.hok q _ upd_same).1
  have hlen : va.length = vb.length ↔ ks.length = ls.length := by rw [← ra.length, ← rb.length]
  refine PySem.W.keq_eqB sb.room.units0 ya yb da db ga gb
    (fun l s' => ∃ ks', KV ks' l ∧ ∃ H', Inv X pins σ H' s' ∧ Ext (upd (upd H p (.frz oa (.dK ks))) q (.frz ob (.dK ls))) H' ∧ PrsD D H' ls ks' b)
    (fun l s' z => ?_) (fun k v rest s' z => ?_) (fun s' z => ?_) (fun z => ?_) (fun z => ⟨ks, ra, _, I2, Ext.rfl', hpr (hlen.mp z) oa ob⟩)
  · obtain ⟨ks', _, H', I', e, _⟩ := z
    exact ⟨(show ObjOk X.prog X.w _ s'.heap p (.frz oa (.dK ks)) from I'.hok p _ (e _ _ (by rw [upd_ne hpq]; exact upd_same))).1, (show ObjOk X.prog X.w _ s'.heap q (.frz ob (.dK ls)) from I'.hok q _ (e _ _ upd_same)).1⟩
  · obtain ⟨ks', r, H', I', e, pr⟩ := z
    cases r with
    | @cons a _ as _ hv hr =>
      obtain ⟨k', v'⟩ := a
      obtain ⟨rfl, rv⟩ := hv
      generalize hbb : b = bb at pr
      cases pr with
      | miss hm =>
        refine .inl ⟨?_, rfl, back I' e⟩
        have z := rb.val k'
        rw [hm] at z
        cases hz : PySem.valueAt vb k' with
        | none => rfl
        | some u => rw [hz] at z; exact False.elim z
      | @hit _ _ y _ b1 c1 hy hd pr2 =>
        have z := rb.val k'
        rw [hy] at z
        cases hz : PySem.valueAt vb k' with
        | none => rw [hz] at z; exact False.elim z
        | some u =>
          rw [hz] at z
          refine .inr ⟨u, rfl, wpAny_mono (h A.in1 pins s' σ H' v' y v u b1 sb.in1 I' rv z hd) (fun r s2 z => ?_) fun _ _ x => x⟩
          obtain ⟨rfl, H2, I2, e2⟩ := z
          cases r with
          | true => exact .inl ⟨rfl, _, hr, H2, I2, e.trans e2, by simpa [hbb] using pr2.mon hD e2⟩
          | false => exact .inr ⟨rfl, by simp [hbb], back I2 (e.trans e2)⟩
  · obtain ⟨ks', r, H', I', e, pr⟩ := z
    cases r with
    | nil =>
      cases pr
      exact ⟨rfl, back I' e⟩
  · exact ⟨by rw [hne (fun q => z (hlen.mpr q))], H, I, Ext.rfl'⟩
theorem eqB_dict (hD : MonB D) (h : EqB X n D) : EqB X (n + 1) (DDictB D) :=
  (rcB_dict hD h).eqB fun _ _ b H d => let ⟨p, q, _, _, hx, hy, hn, _⟩ := d; ⟨p, q, hx, hy, fun e => absurd e hn⟩
/-- x == y, x != y as an expression -/
def rEqB (D : Eqb) : R2 := fun x y H Q => ∃ b, D x y b H ∧ ∀ H', Ext H H' → Q (.bl b) H'
theorem op_eqB (h : RcB X n .Eq D) (hr : Room n X.A) : OpR X (compareOp .Eq) (rEqB D) := by
  intro pins s σ H x y v u Q I rx ry hq
  obtain ⟨b, d, q⟩ := hq
  show wpAny (model X.prog X.w) X.A (richCompare .Eq v u) (EP X pins σ Q) X.xe s
  refine wpAny_mono (h X.A pins s σ H x y v u b ⟨hr, rfl⟩ I rx ry d) (fun r s' z => ?_) fun _ _ x => x
  obtain ⟨hr', H', I', e⟩ := z
  subst hr'
  exact ⟨.bl b, H', I', rfl, q H' e⟩
theorem op_neB (h : RcB X n .NotEq D) (hr : Room n X.A) : OpR X (compareOp .NotEq) (rEqB D) := by
  intro pins s σ H x y v u Q I rx ry hq
  obtain ⟨b, d, q⟩ := hq
  show wpAny (model X.prog X.w) X.A (richCompare .NotEq v u) (EP X pins σ Q) X.xe s
  refine wpAny_mono (h X.A pins s σ H x y v u b ⟨hr, rfl⟩ I rx ry d) (fun r s' z => ?_) fun _ _ x => x
  obtain ⟨hr', H', I', e⟩ := z
  subst hr'
  exact ⟨.bl b, H', I', rfl, q H' e⟩
end
end L2
end

section
set_option Elab.async false
set_option linter.all false
set_option maxRecDepth 100000
set_option maxHeartbeats 1000000
/-! super().__init__(..) within an __init__ of a plain class. -/
namespace L2
open PySem PySem.Spec PyProof.Rows
/-- the context of a def's body that sees the class through a cell from without -/
def cxS (CX : CXT) (P : Program) (w : World) (K : PySem.W.Frag) (mg : Str → Option Value) (base : Heap) (N : List Str) (qual : Str) (scope : Scope) (f : Addr) (cd : Value) (cc : Addr) (A : Around) (outer : List Env) (s : Shared) (H : Hp) (E : XK) : Cx where
  prog := P
  w := w
  K := K
  mg := mg
  base := base
  A := A.deeper (PySem.W.ksEnv qual scope s.heap.objs.size f cd cc)
  N := N
  s_0 := s
  H_0 := H
  env := PySem.W.ksEnv qual scope s.heap.objs.size f cd cc
  outer := outer
  stack := PySem.W.ksEnv qual scope s.heap.objs.size f cd cc :: outer
  ex := []
  calm := true
  fn := fun _ => false
  pn := []
  xe := fun e s' => wpAny (model P w) (A.deeper (PySem.W.ksEnv qual scope s.heap.objs.size f cd cc)) (leaving (PySem.W.ksEnv qual scope s.heap.objs.size f cd cc) e) (fun _ s'' => CX outer H s E e s'') (fun e' s'' => CX outer H s E e' s'') s'
structure SupScope (N P : List Str) (sc : Scope) : Prop where
  kind : sc.kind = .function
  co : sc.isCoroutine = false
  gen : sc.isGenerator = false
  nd : N.Nodup
  pre : N.take P.length = P
  par : ∀ x ∈ P, sc.names.lookup x = some .local
  nocell : ∀ y ∈ sc.names, y.2 ≠ .cell
  free : ∀ y ∈ sc.names, y.2 = .free → y.1 = "__class__"
theorem rev_lookup : ∀ {l : List (Str × Value)} {y : Str} {u : Value}, (l.map Prod.fst).Nodup → (y, u) ∈ l → l.reverse.lookup y = some u
  | [], _, _, _, h => by cases h
  | (a, b) :: r, y, u, nd, h => by
    rw [List.reverse_cons, List.lookup_append]
    have nd' : a ∉ r.map Prod.fst ∧ (r.map Prod.fst).Nodup := List.nodup_cons.mp nd
    rcases List.mem_cons.mp h with e | e
    · obtain ⟨e1, e2⟩ := Prod.mk.inj e
      subst e1 e2
      have z : r.reverse.lookup y = none := by
        rw [List.lookup_eq_none_iff]
        intro p hp
        have : p.1 ∈ r.map Prod.fst := List.mem_map_of_mem (List.mem_reverse.mp hp)
        have : ¬ y = p.1 := fun q => nd'.1 (q ▸ this)
        simpa using this
      rw [z]
      simp [List.lookup]
    · rw [rev_lookup nd'.2 e]
      rfl
theorem inv_startS {CX : CXT} {P : Program} {w : World} {K : PySem.W.Frag} {mg : Str → Option Value} {base : Heap} {N ps : List Str} {qual : Str} {scope : Scope} {f cc : Addr} {cd : Value} {A : Around} {outer : List Env} {s : Shared} {H : Hp} {E : XK} {us : List Value} {vs : List V} {h1 : Heap} {tk : Nat}
    (S : SupScope N ps scope) (hd : A.handled = none) (e0 : Env0 P w K mg base A outer s H) (hl : vs.length = ps.length) (r : Vals vs us) {ccl : Value} {ccd : Option Addr} {ccv : Option Value} {ccs : Array (Option Value)} (hcc : K.lookup cc = some ⟨ccl, ccd, .cell ccv, ccs⟩)
    (hn : h1.Ns s.heap.objs.size (fun y => (ps.zip us).reverse.lookup y)) (hk : ∀ b o, s.heap.get? b = some o → h1.get? b = some o) :
    Inv (cxS CX P w K mg base N qual scope f cd cc A outer s H E) [] (start N vs) H { s with heap := h1, toks := tk } := by
  have hpl : ps.length ≤ N.length := by have := congrArg List.length S.pre; rw [List.length_take] at this; omega
  have noA : ∀ b : Addr, b ∉ (cxS CX P w K mg base N qual scope f cd cc A outer s H E).ex := fun b z => absurd (show b ∈ ([] : List Addr) from z) (by simp)
  have one : ∀ x c, List.lookup x ([("__class__", cc)] : List (Str × Addr)) = some c → x = "__class__" ∧ c = cc := fun x c h => by
    rw [List.lookup_cons] at h
    split at h
    · rename_i q
      exact ⟨by simpa using q, (Option.some.inj h).symm⟩
    · simp at h
  have bcc := e0.mod.kin _ _ hcc
  have scc := e0.bs _ _ bcc
  refine ⟨⟨e0.mod, S.kind, rfl, rfl, Nat.le_refl _, fun y z c h1 h2 => ?_, fun y hy => ?_, fun y c z _ => Bool.noConfusion z, fun _ => hd, Around.frames_deeper e0.frames, .inr ⟨rfl, rfl⟩, fun b z => absurd z (noA b), e0.bs, e0.bsz, fun b _ _ => noA b, fun b z => absurd z (noA b), e0.funs, e0.frf⟩,
    rfl, e0.bare, Un.kept hk, ⟨_, hn, fun i y v h1 h2 h3 => ?_⟩, fun y c h => ?_, e0.hok.fresh (Nat.le_refl _), fun y c h => ?_, fun p hp => absurd (show p ∈ ([] : List (Addr × Obj)) from hp) (by simp), e0.hok.kept hk, ?_⟩
  · exact (one _ _ h1).1.trans (one _ _ h2).1.symm
  · have hy : scope.names.lookup y = some .cell ∨ scope.names.lookup y = some .free := hy
    rcases hy with hy | hy
    · exact absurd rfl (S.nocell _ (PySem.mem_of_lookup hy))
    · have := S.free _ (PySem.mem_of_lookup hy) rfl
      exact ⟨cc, by
        show List.lookup y ([("__class__", cc)] : List (Str × Addr)) = some cc
        have e : y = "__class__" := this
        rw [e]
        rfl⟩
  · have hi : i < vs.length := by
      unfold start at h2
      by_cases hi : i < vs.length
      · exact hi
      · rw [List.getElem?_append_right (by simpa using hi)] at h2
        rw [List.getElem?_replicate] at h2
        split at h2 <;> cases h2
    have ha : vs[i]? = some v := by
      unfold start at h2
      rw [List.getElem?_append_left (by simpa using hi), List.getElem?_map] at h2
      cases e : vs[i]? with
      | none => rw [e] at h2; cases h2
      | some a => rw [e] at h2; cases h2; rfl
    obtain ⟨u, hu, rv⟩ := r.get ha
    have hp : ps[i]? = some y := by
      rw [← S.pre, List.getElem?_take_of_lt (by omega)]; exact h1
    have ndP : ps.Nodup := by rw [← S.pre]; exact S.nd.sublist (List.take_sublist _ _)
    have lus : us.length = ps.length := r.length.symm.trans hl
    refine ⟨u, rv, .inl ⟨S.par y (List.mem_of_getElem? hp), ?_⟩⟩
    refine rev_lookup ?_ ?_
    · rw [List.map_fst_zip (by omega)]
      exact ndP
    · refine List.mem_of_getElem? (i := i) ?_
      rw [List.getElem?_zip_eq_some]
      exact ⟨hp, hu⟩
  · obtain ⟨_, rfl⟩ := one _ _ h
    exact ⟨ccv, ⟨_, hk _ _ scc.1, rfl⟩⟩
  · obtain ⟨_, rfl⟩ := one _ _ h
    exact scc.2
  · unfold start
    show _ = N.length
    rw [List.length_append, List.length_map, List.length_replicate]
    omega
/-- statements of a def, the def's own code on top of the stack -/
structure PSsA (X : Cx) (c : Code) (sts : List Stmt) (t : TS) : Prop where
  run : ∀ pins s σ H D, Inv X pins σ H s → t D σ H → _root_.PySem.wpAt (model X.prog X.w) X.A c (execs sts X.env) (SP X pins D) X.xe s
section
variable {X : Cx} {c : Code}
theorem PSsA.of {sts : List Stmt} {t : TS} (h : PSs X sts t) : PSsA X c sts t := ⟨fun pins s σ H D I q => wpAt_of_wpAny (h.run pins s σ H D I q)⟩
theorem pssA_cons {st : Stmt} {rest : List Stmt} {t u : TS} (h : PS X st t) (h2 : PSsA X c rest u) : PSsA X c (st :: rest) (tSeq t u) := by
  refine ⟨fun pins s σ H D I q => ?_⟩
  refine ks_wpAt_execs_cons (wpAt_of_wpAny (wpAny_mono (h.run pins s σ H _ I q) (fun fl s' z => ?_) fun _ _ x => x))
  cases fl with
  | next =>
    obtain ⟨σ', H', I', z⟩ := z
    exact h2.run pins s' σ' H' D I' z
  | _ => exact z
/-- super().m(e, ..), a statement of an __init__ (or method) in the class at D; slf is the first parameter, an instance of D itself or of a class below -/
structure SupAt (X : Cx) (c : Code) (D : Addr) (slf : Str) : Prop where
  code : ∃ body, c = .func body X.env
  sup : Gl X "super"
  mgs : X.mg "super" = none
  cell : ∃ cc cl cld csl, X.env.cells.lookup ("__class__" : Str) = some cc ∧ X.K.lookup cc = some ⟨cl, cld, .cell (some (.ref D)), csl⟩
  free : X.env.kindOf "__class__" = some .free
  fu : ∃ f oc od osl fd ar, X.env.func = some f ∧ X.K.lookup f = some ⟨oc, od, .func fd, osl⟩ ∧ (fd.params.posonlyargs ++ fd.params.args).head? = some ar ∧ ar.arg = slf
  co : ∃ cda ccl cdd ccs, ∃ (vs : Array Value) (file : Str) (tf : Tok), X.env.code = .ref cda ∧ X.K.lookup cda = some ⟨ccl, cdd, .fields vs, ccs⟩ ∧ vs[2]? = some (.str file tf) ∧ ((X.prog.main.file : Str) == file) = true
  top : (X.prog.main.scope.names.lookup ("super" : Str)).isSome = false
  isD : ∃ cdD, PySem.W.clsIn X.K D = some cdD
  opq : PySem.W.nsIn X.K cStatics "thirdparty.any" = some none
/-- what super().m of an instance of C finds behind D -/
structure SupM (K : PySem.W.Frag) (C D : Addr) (m : Str) (g : Addr) : Prop where
  sub : PySem.W.mroIn K C (.ref D) = some true
  at_ : PySem.W.ks_superIn K C D m = some (some (.ref g))
  ty : PySem.W.typeIn K (.ref g) = some (.type "function")
  fn : PySem.W.fnIn K g = true
def tSup (K : PySem.W.Frag) (D g : Addr) (m : Str) (i : Nat) (sp : Sp) (E : XK) (t : TA) : TS := fun N σ H => ∃ a C dx fs, σ[i]? = some (some (.ref a)) ∧ H a = some (.ins C dx fs) ∧ SupM K C D m g ∧ t σ H fun vs H1 => sp (.ref a :: vs) H1 (fun _ H2 => N.nx σ H2) E
theorem pssA_super {CX : CXT} {slf : Str} {i k : Nat} {D g : Addr} {fd : FuncData} {ps : List Str} {sp : Sp} {E : XK} {m : Str} {p0 p1 apos pos : Pos} {spos : Pos} {e0 : Expr} {es : List Expr} {rest : List Stmt} {t : TA} {u : TS} {pl : Sem Bool}
    (Z : SupAt X c D slf) (hN : X.N[i]? = some slf) (hv : X.env.kindOf slf = some .local) (F : FnOk X.prog X.w X.K X.mg X.base CX k g fd ps sp) (hr : Room k X.A) (hb : Binds X.K fd ps []) (hx : Passes CX X E)
    (hm : (m == ("__class__" : Str)) = false) (ha : PA X (e0 :: es) t) (h2 : PSsA X c rest u)
    (he : eval (.Call (.Attribute (.Call (.Name "super" p0) [] [] p1) m apos) (e0 :: es) [] pos) X.env = (do
      let ov ← attributeBase (.Call (.Name "super" p0) [] [] p1) m X.env (eval (.Call (.Name "super" p0) [] [] p1) X.env)
      standAt apos.atName
      let (f, first) ← holding [ov] (getMethod ov m pl)
      callWith pos f first (backTo pos (starEach (e0 :: es) X.env)) []) := by rfl)
    (hst : starEach (e0 :: es) X.env = (false, eval e0 X.env) :: starEach es X.env := by rfl) (hpl : (backTo pos (starEach es X.env)).any (·.1) = false := by rfl) (hi : interactive X.env = false := by rfl)
    (hsw : swapsWith (.Call (.Attribute (.Call (.Name "super" p0) [] [] p1) m apos) (e0 :: es) [] pos) none spos.line X.env = pure false := by rfl) :
    PSsA X c (.Expr (.Call (.Attribute (.Call (.Name "super" p0) [] [] p1) m apos) (e0 :: es) [] pos) spos :: rest) (fun N σ H => tSup X.K D g m i sp E t { N with nx := u N } σ H) := by
  refine ⟨fun pins s σ H N I q => ?_⟩
  obtain ⟨a, C, dx, fs, hs, hH, M, q⟩ := q
  obtain ⟨body, hcode⟩ := Z.code
  subst hcode
  have hint : interactive X.env = false := hi
  refine ks_wpAt_execs_cons (ks_wpAt_Expr_any (Q := fun f s' => match f with | .next => _root_.PySem.wpAt (model X.prog X.w) X.A (.func body X.env) (execs rest X.env) (SP X pins N) X.xe s' | f => SP X pins N f s') ?_ hint hsw)
  refine ks_wpAt_MethodCall (pl := pl) ?_ he
  obtain ⟨f, oc, od, osl, fd0, ar, hfu, hf, hp, har⟩ := Z.fu
  obtain ⟨cda, ccl, cdd, ccs, vs, file, tf, hco, hcc, hvs, hfile⟩ := Z.co
  obtain ⟨cc, cl, cld, csl, hcell, hck⟩ := Z.cell
  obtain ⟨cdD, hD⟩ := Z.isD
  have KX : X.K.In s.heap := I.kIn
  obtain ⟨oD, hD1, hD2⟩ : ∃ oD, s.heap.get? D = some oD ∧ oD.data = .cls cdD := by
    unfold PySem.W.clsIn at hD
    split at hD
    · rename_i c d cd' sl ho
      cases hD
      exact ⟨_, KX _ _ ho, rfl⟩
    · cases hD
  obtain ⟨mb, hb1, hb2⟩ := I.mod.blt
  obtain ⟨ml, hml, hvar⟩ := I.loc
  obtain ⟨u1, ru1, lk⟩ := hvar i slf _ hN hs (.inl hv)
  obtain rfl : u1 = Value.ref a := ru1
  have hself : ml slf = some (.ref a) := by
    rcases lk with ⟨_, q⟩ | ⟨q, _⟩
    · exact q
    · rw [hv] at q
      rcases q with q | q <;> cases q
  obtain ⟨mA, J0, _⟩ := ins_get I.hok hH
  obtain ⟨odx, J, _⟩ := J0.look
  cases hc : PySem.W.clsIn X.K C with
  | none =>
    have q := M.at_
    unfold PySem.W.ks_superIn at q
    rw [hc] at q
    cases q
  | some cd =>
  have hal := M.at_
  unfold PySem.W.ks_superIn at hal
  rw [hc, Option.bind_some] at hal
  refine ks_wpAt_super_base Z.sup Z.free hm hfu (KX _ _ hf) rfl hp hco (KX _ _ hcc) rfl hvs hfile Z.top ?_
  refine PySem.W.ks_loadName_global I.ok.kind Z.sup (Calls.loadGlobal_builtin (by rw [I.ok.glob]; exact I.mod.glob.keeps I.bk) Z.mgs (by rw [I.ok.blt]; exact hb1.keeps I.bk) ((hb2 "super" (by decide)).trans (by decide +kernel : bootBuiltins "super" = some (.type "super"))) ⟨rfl, ?_⟩)
  refine wpAny_loadName_free I.ok.kind Z.free hcell ⟨_, KX _ _ hck, rfl⟩ ?_
  rw [har]
  refine wpAny_loadName_local I.ok.kind hv hml hself ?_
  refine ks_wpAny_isType_cls hD1 hD2 ⟨rfl, ?_⟩
  refine ks_wpAny_call_super hD1 hD2 J.at_ J.cls (fun c e => ?_) (PySem.W.looks_mroIn KX M.sub) (fun h' e k => ?_)
  · have := J.no
    unfold PySem.W.notCls at this
    rw [e] at this
    exact Bool.noConfusion this
  have I1 : Inv X pins σ H ⟨h', s.gens, s.drawn, s.toks, s.os⟩ := I.kept k
  obtain ⟨of, hof, hofc⟩ : ∃ of, h'.get? g = some of ∧ of.cls = .type "function" := by
    have ht' : (X.K.lookup g).map (·.cls) = some (.type "function") := M.ty
    cases z : X.K.lookup g with
    | none => rw [z] at ht'; cases ht'
    | some of => rw [z] at ht'; exact ⟨of, I1.kIn _ _ z, Option.some.inj ht'⟩
  refine ks_wpAny_getMethod_super e (PySem.W.looks_opaque I1.kIn Z.opq) (l₀ := cd.mro) (fun A Q E s k q => wpAny_bind ((PySem.W.looks_clsIn I1.kIn hc) A _ E s k (wpAny_pure q))) rfl I1.kIn hal hof hofc (PySem.W.ks_ne KX J hc) hm ?_
  -- the bound method
  have I2 : Inv X pins σ H ⟨h'.push (PySem.W.methodObj (.ref g) (.ref a)), s.gens, s.drawn, s.toks + 1, s.os⟩ := I1.kept fun b o e => Heap.get?_push_of_some _ e
  have hq0 : H h'.objs.size = none := I1.hok.fresh (Nat.le_refl _)
  have hqq : (h'.push (PySem.W.methodObj (.ref g) (.ref a))).get? h'.objs.size = some (PySem.W.methodObj (.ref g) (.ref a)) := Heap.get?_push_at rfl rfl
  have hfp : FpOk X pins H h'.objs.size := I1.fpOk (Nat.le_refl _) hq0
  have one : ∀ b ∈ [h'.objs.size], b = h'.objs.size := fun b hb => by simpa using hb
  have I3 := I2.pinned (fp := [h'.objs.size]) (fun b hb => (one b hb) ▸ hfp) (fun b hb => (one b hb) ▸ ⟨_, hqq, fun v z => nomatch z⟩)
  show wpAny _ _ (callWith pos (.ref h'.objs.size) [] _ []) _ _ _
  suffices hA : wpAny (model X.prog X.w) X.A (spliced (backTo pos (starEach (e0 :: es) X.env))) (fun vs s₁ => PySem.W.MethP X.K h'.objs.size g (.ref a) s₁.heap ∧ wpAny (model X.prog X.w) X.A (call (.ref h'.objs.size) ([] ++ vs)) (fun _ s' => _root_.PySem.wpAt (model X.prog X.w) X.A (.func body X.env) (execs rest X.env) (SP X pins N) X.xe s') X.xe s₁) X.xe ⟨h'.push (PySem.W.methodObj (.ref g) (.ref a)), s.gens, s.drawn, s.toks + 1, s.os⟩ by
    rw [hst] at hA ⊢
    exact PySem.W.callWith_of (by show ((false || (backTo pos (starEach es X.env)).any (·.1)) || false) = false; rw [hpl]; rfl) (PySem.W.keeps_M M.fn) (PySem.Calls.evalArgs_plain hA)
  refine thn (ha.run pos _ _ σ H _ I3 q) fun us s1 ⟨ws, H1, I4, r, q1⟩ => ?_
  have hm4 : s1.heap.get? h'.objs.size = some (PySem.W.methodObj (.ref g) (.ref a)) := (I4.pin (h'.objs.size, PySem.W.methodObj (.ref g) (.ref a)) (List.mem_append_right _ (List.mem_append_right _ (mem_pinsAt (by simp) hqq)))).1
  refine ⟨⟨hm4, I4.kIn⟩, ?_⟩
  have I5 : Inv X pins σ H1 s1 := I4.unpinned
  have r2 : Vals (.ref a :: ws) (.ref a :: us) := .cons rfl r
  have hl : (Value.ref a :: us).length = ps.length := by rw [← r2.length]; exact F.len _ _ _ _ q1
  have hbb := hb s1 (.ref a :: us) I5.kIn (by simpa using hl)
  refine wpAny_call (ks_codeAny_call_bound (a := ⟨us, []⟩) hm4 (codeAny_mono (F.run X.A X.stack s1 H1 ⟨.ref a :: us, []⟩ (.ref a :: us) (.ref a :: ws) _ E hr I5.env0 (by simpa using hbb) r2 q1) fun r s' hq => ?_))
  cases r with
  | error e => exact hx pins σ H1 s1 e s' I5 hq
  | ok fl =>
    cases fl with
    | ret w =>
      obtain ⟨z, H', I', rz, ez⟩ := I5.after hq
      exact h2.run pins s' σ H' N I' ez
    | next => exact False.elim hq
    | brk => exact False.elim hq
    | cont => exact False.elim hq
end

/-- THE RULE: a def that sees its class -/
theorem fn_sup {CX : CXT} {P : Program} {w : World} {K : PySem.W.Frag} {mg : Str → Option Value} {base : Heap} {k : Nat} {f cc : Addr} {name qual : Str} {params : Arguments} {body : List Stmt} {scope : Scope} {dV kV doc pm cdv ct oc : Value} {an od : Option Addr}
    {osl : Array (Option Value)} {N ps : List Str} {sp : Sp} {ccl : Value} {ccd : Option Addr} {ccv : Option Value} {ccs : Array (Option Value)} (lk : K.lookup f = some ⟨oc, od, .func (PySem.W.ksFn name qual params body scope dV kV doc pm an cdv ct cc), osl⟩) (hcd : PySem.W.codeIn K cdv qual = true) (hcc : K.lookup cc = some ⟨ccl, ccd, .cell ccv, ccs⟩) (S : SupScope N ps scope)
    (len : ∀ vs H Q E, sp vs H Q E → vs.length = ps.length)
    (hbody : ∀ (A : Around) (outer : List Env) (s : Shared) (H : Hp) (vs : List V) (Q : VK) (E : XK), Room k (A.deeper (PySem.W.ksEnv qual scope s.heap.objs.size f cdv cc)) → sp vs H Q E →
      ∃ t, PSsA (cxS CX P w K mg base N qual scope f cdv cc A outer s H E) (.func body (PySem.W.ksEnv qual scope s.heap.objs.size f cdv cc)) body t ∧ t { nx := fun _ H' => Q .non H', rt := Q } (start N vs) H) :
    FnOk P w K mg base CX (k + 1) f (PySem.W.ksFn name qual params body scope dV kV doc pm an cdv ct cc) ps sp := by
  refine ⟨len, fun A outer s H args us vs Q E hr e0 hb r hsp => ?_⟩
  have hl := len _ _ _ _ hsp
  have KX : K.In s.heap := e0.mod.kin.keeps fun b o e => (e0.bs b o e).1
  have lim : s.heap.NoLimit := e0.mod.nolimit.keeps fun b o e => (e0.bs b o e).1
  refine ks_codeAny_call_defAt (fd := PySem.W.ksFn name qual params body scope dV kV doc pm an cdv ct cc) (body := body) (binds := ps.zip us) hr.depth (KX _ _ lk) rfl lim (PySem.W.codeRec_of KX hcd) rfl hb S.nocell (fun x hx => S.par x.1 (List.of_mem_zip (a := x.1) (b := x.2) hx).1) (fun h₁ hns hk₁ => ?_) S.co S.gen S.kind
  obtain ⟨t, ht, hq⟩ := hbody A outer s H vs Q E (hr.deeper _) hsp
  have I : Inv (cxS CX P w K mg base N qual scope f cdv cc A outer s H E) [] (start N vs) H { s with heap := h₁, toks := s.toks + (ps.zip us).length } := inv_startS S hr.hd e0 hl r hcc hns hk₁
  refine ks_wpAt_mono (ht.run [] _ (start N vs) H _ I hq) (fun fl s' hs => ?_) fun e s' hs => hs
  have fin : ∀ {σ' : St} {H' : Hp} {v : V} {u : Value}, Inv (cxS CX P w K mg base N qual scope f cdv cc A outer s H E) [] σ' H' s' → RelV v u → Q v H' → CE outer P w H s Q u s' :=
    fun {σ' H' v u} J rv q => ⟨v, H', J.os, J.bare, J.base, J.hok, rv, q⟩
  cases fl with
  | ret u =>
    obtain ⟨v, σ', H', J, rv, q⟩ := hs
    exact fin J rv q
  | next =>
    obtain ⟨σ', H', J, q⟩ := hs
    exact fin (v := V.non) (u := Value.none) J rfl q
  | brk =>
    obtain ⟨_, _, _, q⟩ := hs
    exact False.elim q
  | cont =>
    obtain ⟨_, _, _, q⟩ := hs
    exact False.elim q
/-- weaken: without exceptions -/
theorem PSsA.nox {X : Cx} {c : Code} {sts : List Stmt} {t : TS} (h : PSsA X.nox c sts t) : PSsA X c sts t := by
  exact ⟨fun pins s σ H D I q => ks_wpAt_mono (h.run pins s σ H D (I.wish _) q) (fun _ _ q => q.unwish) fun _ _ z => False.elim z⟩
end L2
end

section
set_option Elab.async false
set_option linter.all false
set_option maxRecDepth 100000
set_option maxHeartbeats 1000000
/-! Sets of any kind of key whose values may be scanned (texts): set(list), sorted(set). -/
namespace L2
open PySem PySem.Spec PyProof.Rows
section
variable {P : Program} {w : World} {K : Type} [DecidableEq K]
/-- an entry for the key k -/
def EntG (knd : KeyKind P w K) (k : K) (e : Int × Value) : Prop := knd.is k e.2 = true ∧ e.1 = knd.hash k ∧ e.2.scannable = true
/-- the set at a has these keys; its table rises and may be walked -/
def SetG (knd : KeyKind P w K) (h : Heap) (a : Addr) (l : List K) : Prop :=
  ∃ o es ep t, h.get? a = some o ∧ o.ExactSet ∧ o.data = .set es ep t ∧ (∀ e ∈ es.toList, ∃ k ∈ l, EntG knd k e) ∧ (∀ k ∈ l, ∃ e ∈ es.toList, EntG knd k e) ∧ l.Nodup ∧ es.size = l.length ∧
    es.size < scanBound ∧ t.fits es.size = true ∧ Ris t.place.toList ∧ (w.params.followText "set-order" = true ∨ t.led = true)
variable {knd : KeyKind P w K} {h h' : Heap} {a : Addr} {l : List K}
theorem SetG.at (R : SetG knd h a l) (k : ∀ o, h.get? a = some o → h'.get? a = some o) : SetG knd h' a l :=
  let ⟨o, es, ep, t, ho, r⟩ := R
  ⟨o, es, ep, t, k o ho, r⟩
theorem elems_G {es : List (Int × Value)} (g : ∀ e ∈ es, ∃ k ∈ l, EntG knd k e) : ElemsOf knd es := fun e he =>
  let ⟨k, _, h1, h2, h3⟩ := g e he
  ⟨⟨k, h1, h2⟩, h3⟩
theorem ent_key {k k' : K} {e : Int × Value} (h : EntG knd k e) (q : knd.is k' e.2 = true) : k' = k := knd.inj _ _ _ q h.1
end
section
variable {P : Program} {w : World} {K : Type} [DecidableEq K] {knd : KeyKind P w K} {A : Around} {E : Value → Shared → Prop} {s : Shared} {a : Addr} {l : List K}
theorem setG_tail {g : Bool → Sem Unit} (hg : ∀ (b : Bool) (s₁ : Shared) (Q' : Unit → Shared → Prop), Q' () s₁ → wpAny (model P w) A (g b) Q' E s₁)
    {o : Obj} {es : Array (Int × Value)} {ep : Nat} {t : SetTable} (ho : s.heap.get? a = some o) (hex : o.ExactSet) (hd : o.data = .set es ep t)
    {es1 : Array (Int × Value)} {t2 : SetTable} (g1 : ∀ e ∈ es1.toList, ∃ k ∈ l, EntG knd k e) (g2 : ∀ k ∈ l, ∃ e ∈ es1.toList, EntG knd k e) (nd : l.Nodup) (hn : es1.size = l.length)
    (hb1 : es1.size < scanBound) (hf2 : t2.fits es1.size = true) (hr : Ris t2.place.toList) (hl : w.params.followText "set-order" = true ∨ t2.led = true) {wasDummy : Bool} {R : Option Bool → Shared → Prop}
    (hR : ∀ h', Heap.SameBut a s.heap h' → SetG knd h' a l → R (some true) { s with heap := h' }) :
    wpAny (model P w) A (do
        storeSet a es1 t2
        if (!wasDummy && t2.tooFull) = true then do
            g (relayAll t2 es1 (SetTable.grown es1.size)).2.2
            storeSet a (relayAll t2 es1 (SetTable.grown es1.size)).1 (relayAll t2 es1 (SetTable.grown es1.size)).2.1
            pure (some true)
          else pure (some true)) R E s := by
  refine wpAny_bind (wpAny_storeSet_of ho hd ?_ (fits_of_scanBound hb1))
  have ho1 := store_at (es' := es1) (t' := t2) ho hd
  have sb1 := Heap.SameBut.update s.heap a (Obj.putSet es1 t2)
  by_cases hfull : (!wasDummy && t2.tooFull) = true
  · rw [if_pos hfull]
    have pm := relayAll_perm t2 es1 (SetTable.grown es1.size)
    have hf3 := relayAll_fits t2 es1 (SetTable.grown es1.size)
    have hr3 := relayAll_ris t2 es1 (SetTable.grown es1.size)
    have hl3 := relayAll_led t2 es1 (SetTable.grown es1.size)
    revert pm hf3 hr3 hl3
    generalize relayAll t2 es1 (SetTable.grown es1.size) = Z
    obtain ⟨es2, t3, gave⟩ := Z
    intro pm hf3 hr3 hl3
    have hsz : es2.size = es1.size := by simpa using pm.length_eq
    refine wpAny_bind (hg _ _ _ ?_)
    refine wpAny_bind (wpAny_storeSet_of ho1 rfl ?_ (fits_of_scanBound (hsz ▸ hb1)))
    exact wpAny_pure (hR _ (sb1.trans (Heap.SameBut.update _ a _)) ⟨_, es2, _, t3, store_at ho1 rfl, hex, rfl, fun e he => g1 e (pm.mem_iff.mp he), fun k hk => let ⟨e, he, q⟩ := g2 k hk; ⟨e, pm.mem_iff.mpr he, q⟩, nd, hsz.trans hn, hsz ▸ hb1, hf3, hr3,
      hl.imp id fun z => hl3.trans z⟩)
  · rw [if_neg hfull]
    exact wpAny_pure (hR _ sb1 ⟨_, es1, _, t2, ho1, hex, rfl, g1, g2, nd, hn, hb1, hf2, hr, hl⟩)
theorem setG_add {k : K} {v : Value} {Q : Bool → Shared → Prop} (R : SetG knd s.heap a l) (hk : knd.is k v = true) (hsc : v.scannable = true) (room : l.length + 1 < scanBound)
    (hQ : ∀ h' b, Heap.SameBut a s.heap h' → SetG knd h' a (if k ∈ l then l else k :: l) → Q b { s with heap := h' }) :
    wpAny (model P w) A (setAddHashed a v (knd.hash k)) Q E s := by
  obtain ⟨o, es, ep, t, ho, hex, hd, g1, g2, nd, hn, hb, hf, hr, hl⟩ := R
  have hel : ElemsOf knd es.toList := elems_G g1
  have stays : k ∈ l → Q false s := fun hm => hQ s.heap false (Heap.SameBut.refl a s.heap) (by rw [if_pos hm]; exact ⟨o, es, ep, t, ho, hex, hd, g1, g2, nd, hn, hb, hf, hr, hl⟩)
  unfold setAddHashed setAddHashedIn
  refine wpAny_holding (wpAny_bind (wpAny_setState_of ho hd hf ?_))
  dsimp only
  rw [byScan_of hsc hb hel]
  simp only [↓reduceIte]
  unfold setAddByScan
  refine wpAny_bind (wpAny_bind (wpAny_rule (wpAny_bind (wpAny_setScan_of hk ho hd hf hel ?_))))
  cases hfi : List.findIdx? (fun e => knd.is k e.2) es.toList with
  | some j =>
    obtain ⟨hj, pj, _⟩ := List.findIdx?_eq_some_iff_getElem.mp hfi
    obtain ⟨k', hk', q⟩ := g1 _ (List.getElem_mem hj)
    have : k = k' := ent_key q pj
    exact wpAny_pure (wpAny_pure (stays (this ▸ hk')))
  | none =>
    have hkl : k ∉ l := fun z => by
      obtain ⟨e, he, q⟩ := g2 k z
      exact absurd q.1 (by simpa using List.findIdx?_eq_none_iff.mp hfi e he)
    have gave : ∀ (b : Bool) {s₁ : Shared} {Q' : Unit → Shared → Prop}, Q' () s₁ → wpAny (model P w) A (match b with | true => rule "set.scan.the-table-gave-way" | false => pure ()) Q' E s₁ :=
      fun b s₁ Q' q => by cases b <;> first | exact wpAny_pure q | exact wpAny_rule q
    dsimp only
    have pm := layNew_perm t es (knd.hash k) v
    have hf1 := layNew_fits t es (knd.hash k) v
    have hr1 := layNew_ris t es (knd.hash k) v hr
    have hl1 := layNew_led t es (knd.hash k) v
    revert pm hf1 hr1 hl1
    generalize layNew t es (knd.hash k) v = Z
    obtain ⟨es1, t1, wasDummy, gv⟩ := Z
    intro pm hf1 hr1 hl1
    dsimp only at pm hf1 hr1 hl1 ⊢
    rw [Array.toList_push] at pm
    have mem : ∀ e, e ∈ es1.toList ↔ e = (knd.hash k, v) ∨ e ∈ es.toList := fun e => by rw [pm.mem_iff, List.mem_append, List.mem_singleton]; exact Or.comm
    have hsz : es1.size = (k :: l).length := by
      have := pm.length_eq
      simp at this
      rw [List.length_cons, this, ← hn]
    have h1 : ∀ e ∈ es1.toList, ∃ j ∈ k :: l, EntG knd j e := fun e he => by
      rcases (mem e).mp he with z | z
      · rw [z]; exact ⟨k, List.mem_cons_self, hk, rfl, hsc⟩
      · obtain ⟨j, hj, q⟩ := g1 e z
        exact ⟨j, List.mem_cons_of_mem _ hj, q⟩
    have h2 : ∀ j ∈ k :: l, ∃ e ∈ es1.toList, EntG knd j e := fun j hj => by
      rcases List.mem_cons.mp hj with z | z
      · rw [z]; exact ⟨_, (mem _).mpr (.inl rfl), hk, rfl, hsc⟩
      · obtain ⟨e, he, q⟩ := g2 j z
        exact ⟨e, (mem _).mpr (.inr he), q⟩
    have nd1 : (k :: l).Nodup := List.nodup_cons.mpr ⟨hkl, nd⟩
    have hb1 : es1.size < scanBound := by rw [hsz]; exact room
    have hled : w.params.followText "set-order" = true ∨ t1.led = true := hl.imp id fun z => hl1.trans z
    have fin : ∀ h', Heap.SameBut a s.heap h' → SetG knd h' a (k :: l) → Q true { s with heap := h' } := fun h' sb r => hQ h' true sb (by rw [if_neg hkl]; exact r)
    refine wpAny_bind (gave _ ?_)
    split
    · refine wpAny_bind ?_
      rw [hashByValue_scannable 8 hsc]
      refine wpAny_pure ?_
      refine setG_tail ?_ ho hex hd h1 h2 nd1 hsz hb1 ?_ ?_ ?_ ?_
      · intro b s₁ Q' q; cases b <;> first | exact wpAny_pure q | exact wpAny_rule q
      · first | (split <;> first | exact hf1 | exact SetTable.fits_plain_off hf1) | exact hf1
      · first | (split <;> exact hr1) | exact hr1
      · first | (split <;> exact hled) | exact hled
      · intro h' sb r
        exact wpAny_pure (fin h' sb r)
    · refine wpAny_bind (wpAny_pure ?_)
      simp only [↓reduceIte]
      refine setG_tail ?_ ho hex hd h1 h2 nd1 hsz hb1 hf1 hr1 hled ?_
      · intro b s₁ Q' q; cases b <;> first | exact wpAny_pure q | exact wpAny_rule q
      · intro h' sb r
        exact wpAny_pure (fin h' sb r)
theorem setG_fresh {h : Heap} (ho : h.get? a = some { cls := .type "set", dict := none, data := .set #[] 0 (.fresh 0 0 (!w.params.followText "set-order")) }) : SetG knd h a [] :=
  ⟨_, #[], 0, _, ho, ⟨rfl, rfl, rfl⟩, rfl, (fun e he => by simp at he), (fun k hk => by simp at hk), List.nodup_nil, rfl, (by decide), rfl, List.Pairwise.nil, by
    show _ ∨ (!w.params.followText "set-order") = true
    cases w.params.followText "set-order" <;> simp⟩
/-- the keys met so far -/
structure Met (ks : List K) (i : Nat) (l : List K) : Prop where
  len : l.length ≤ i
  sub : ∀ k, k ∈ l ↔ k ∈ ks.take i
  nd : l.Nodup
theorem SetG.nodup {h : Heap} (R : SetG knd h a l) : l.Nodup := let ⟨_, _, _, _, _, _, _, _, _, nd, _⟩ := R; nd
theorem setG_loop {I : Addr} {fp wr : List Addr} {G : Array GenState → Array GenState → Prop} {n : Nat} {Pv : Nat → Value → Prop} {St : Nat → Shared → Prop} {R : Result → Shared → Prop}
    (W : WalksS P w A.in1 I fp wr G n Pv St) (S : Addr) (hSf : S ∉ fp) (ks : List K) (hn : n = ks.length) (hb : ks.length + 1 < scanBound) (hval : ∀ i v, Pv i v → ∃ k, ks[i]? = some k ∧ knd.is k v = true ∧ v.scannable = true) (m : Nat) :
    ∀ (i : Nat) (s : Shared), n - i = m → i ≤ n → St i s → (∃ l, Met ks i l ∧ SetG knd s.heap S l) →
      (∀ s' l, Moved (S :: wr) G s s' → Met ks n l → SetG knd s'.heap S l → R (.ok (.ret .none)) s') →
      codeAny (model P w) A (.builtin "set.update.loop" ⟨[.ref S, .ref I], []⟩) R s := by
  have hSw : S ∉ wr := fun h => hSf (W.sub _ h)
  have hsub : ∀ b ∈ wr, b ∈ S :: wr := fun b hb => List.mem_cons_of_mem _ hb
  induction m with
  | zero =>
    rintro i s hm0 hi hst ⟨l, hl, hS⟩ hR
    obtain rfl : i = n := by omega
    refine codeAny_builtin F.entry_set_update_loop ?_
    rw [Around.under_plainId F.plain_set_update_loop _]
    refine wpAny_bind (m := pyNext (.ref I)) (W.done s _ _ hst fun s' hm => ?_)
    exact wpAny_pure (hR s' l (hm.mono hsub) hl (hS.at fun o e => hm.heap S o hSw e))
  | succ m ih =>
    rintro i s hm0 hi hst ⟨l, hl, hS⟩ hR
    have hlt : i < n := by omega
    refine codeAny_builtin F.entry_set_update_loop ?_
    rw [Around.under_plainId F.plain_set_update_loop _]
    refine wpAny_bind (m := pyNext (.ref I)) (W.item i s _ _ hlt hst fun v s' hP hst' hm => ?_)
    obtain ⟨k, hz, hk, hsc⟩ := hval i v hP
    refine wpAny_bind (m := holding [v] (setAdd S v)) (wpAny_holding ?_)
    unfold setAdd
    refine wpAny_holding (wpAny_bind (knd.pyHash hk ?_))
    refine setG_add (s := { s' with toks := s'.toks + 1 }) (hS.at fun o e => hm.heap S o hSw e) hk hsc (by have := hl.len; omega) fun h' bb hsb hS2 => ?_
    have keep : ∀ b o, b ≠ S → s'.heap.get? b = some o → h'.get? b = some o := fun b o hne e => (hsb.2 b hne).trans e
    have hmet : Met ks (i + 1) (if k ∈ l then l else k :: l) := by
      have tk : ks.take (i + 1) = ks.take i ++ [k] := by rw [List.take_add_one, hz]; rfl
      refine ⟨?_, fun j => ?_, hS2.nodup⟩
      · have := hl.len
        split <;> (try rw [List.length_cons]) <;> omega
      · rw [tk, List.mem_append, List.mem_singleton, ← hl.sub j]
        split
        · rename_i hkl
          exact ⟨.inl, fun z => z.elim id fun e => e ▸ hkl⟩
        · rw [List.mem_cons]
          exact Or.comm
    refine wpAny_pure ⟨plainId_quiet F.plain_set_update_loop _, ih (i + 1) _ (by omega) hlt (W.frame _ s' _ _ hst' (Nat.le_succ _) fun b hb o e => keep b o (fun z => hSf (z ▸ hb)) e) ⟨_, hmet, hS2⟩ fun s'' l2 hm'' hl2 hS'' => hR s'' l2 ?_ hl2 hS''⟩
    exact Moved.trans W.gtrans ((hm.mono hsub).then_heap (Nat.le_succ _) fun b o hb e => keep b o (fun z => hb (z ▸ List.mem_cons_self)) e) hm''

abbrev newSet (w : World) : Obj := { cls := .type "set", dict := none, data := .set #[] 0 (.fresh 0 0 (!w.params.followText "set-order")) }
set_option maxHeartbeats 3200000 in
/-- set(list) -/
theorem call_setG {b : Addr} {items : Array Value} (ks : List K) {Q : Value → Shared → Prop} (hh : A.handled = none) (hl : s.heap.IsList b items) (hsz : items.size = ks.length)
    (hit : ∀ (i : Nat) (v : Value), items[i]? = some v → ∃ k : K, ks[i]? = some k ∧ knd.is k v = true ∧ v.scannable = true) (hb : ks.length + 1 < scanBound)
    (h : ∀ (h' : Heap) (tk : Nat) (l : List K), Met ks ks.length l → SetG knd h' s.heap.objs.size l → (∀ c o, s.heap.get? c = some o → h'.get? c = some o) → Q (.ref s.heap.objs.size) { s with heap := h', toks := tk }) :
    wpAny (model P w) A (call (.type "set") [.ref b]) Q E s := by
  obtain ⟨c, tl, hmro⟩ := F.called_set.mro
  have hmade := F.called_set.made
  have hsub := F.called_set.sub
  have h1 := F.called_set.notType
  have h2 := F.called_set.canCreate
  have hct := F.typeCall_set_1 (.ref b)
  refine wpAny_call (codeAny_of_tree ?_)
  show wpAny _ _ (callAny (.type "set") _) _ _ _
  refine wpAny_pure ⟨Code.quiet_builtin _ (by decide +kernel), codeAny_builtin F.entry_type_call ?_⟩
  rw [Around.under_plain (weight_type_call_type "set" [.ref b] []) rfl]
  repeat (any_goals (first | assumption | wp_step))
  refine codeAny_mono (code_set_led1 (.ref b) (E := E) (Q₁ := fun obj s₁ => obj = .ref s.heap.objs.size ∧ s₁ = { s with heap := s.heap.push (newSet w) }) ⟨rfl, rfl⟩) fun r s₁ hr => ?_
  cases r with
  | error e => exact hr
  | ok fl =>
  cases fl with
  | next => exact hr.elim
  | brk => exact hr.elim
  | cont => exact hr.elim
  | ret obj =>
  obtain ⟨rfl, rfl⟩ := hr
  have hS : (s.heap.push (newSet w)).get? s.heap.objs.size = some (newSet w) := Heap.get?_push_size _ rfl
  have hT : Shared.TypeIs { s with heap := s.heap.push (newSet w) } (.ref s.heap.objs.size) "set" := ⟨_, hS, rfl⟩
  have hli := F.called_set.init.lookup
  have hbi := F.called_set.init.bind (.ref s.heap.objs.size)
  repeat (any_goals (first | assumption | wp_step))
  refine codeAny_mono (codeAny_call_builtin (R := wants (fun r s₂ => r = .none ∧ ∃ h' tk l, s₂ = { s with heap := h', toks := tk } ∧ Met ks ks.length l ∧ SetG knd h' s.heap.objs.size l ∧ (∀ c o, s.heap.get? c = some o → h'.get? c = some o)) E)
    F.called_set.init.plain F.entry_set_init (check_set_init_1 hT ?_)) fun r₂ s₂ hr₂ => ?_
  · obtain ⟨⟨ocls, odict, odata, oslots⟩, hol, hcl, nl, hdl⟩ := hl
    simp only at hcl hdl
    subst hcl hdl
    have hlS : b < s.heap.objs.size := Heap.lt_size hol
    have hol' := Heap.get?_push_of_some (newSet w) hol
    have hl1 : (s.heap.push (newSet w)).IsList b items := ⟨_, hol', rfl, nl, rfl⟩
    have hsls := F.sub_list_set
    have hslf := F.sub_list_frozenset
    have hne : (Value.type "list" == Value.type "dict") = false := by decide
    unfold Builtin.«set.__init__» noKeywords Builtin.Frozenset.updateFrom
    generalize hPI : pyIter = PI
    wp_walk
    subst hPI
    refine wpAny_pyIter_list hl1 (wpAny_bind (wpAny_runValue ?_))
    have hz1 : (s.heap.push (newSet w)).objs.size = s.heap.objs.size + 1 := Heap.size_push ..
    have hneI : b ≠ (s.heap.push (newSet w)).objs.size := by rw [hz1]; exact Nat.ne_of_lt (Nat.lt_succ_of_lt hlS)
    have hSf : s.heap.objs.size ∉ [(s.heap.push (newSet w)).objs.size, b] := fun z => by
      rw [hz1] at z
      rcases List.mem_cons.mp z with z | z
      · exact absurd z (Nat.ne_of_lt (Nat.lt_succ_self _))
      · exact absurd (List.mem_singleton.mp z) (Nat.ne_of_gt hlS)
    refine setG_loop (knd := knd) (Walks.list (by simp [hh]) _ b hneI items).toS s.heap.objs.size hSf ks hsz hb hit (items.size - 0) 0 _ rfl (Nat.zero_le _) ⟨⟨_, Heap.get?_push_size _ rfl, rfl, rfl⟩, (hl1.push _)⟩ ?hS0 ?hR
    case hS0 => exact ⟨[], ⟨Nat.le_refl 0, fun k => by simp, List.nodup_nil⟩, setG_fresh (Heap.get?_push_of_some _ hS)⟩
    case hR =>
      rintro ⟨h', g2, d', tk', os'⟩ l hm hl hS'
      obtain rfl : g2 = s.gens := hm.gens
      obtain rfl : d' = s.drawn := hm.drawn
      obtain rfl : os' = s.os := hm.os
      show wpAny _ _ _ _ _ _
      refine wpAny_pure ?_
      show wpAny _ _ (ret Value.none) _ _ _
      rw [hsz] at hl
      refine wpAny_pure ⟨rfl, h', tk', l, rfl, hl, hS', fun c o e => ?_⟩
      have hc : c < s.heap.objs.size := Heap.lt_size e
      refine hm.heap c o (fun z => ?_) (Heap.get?_push_of_some _ (Heap.get?_push_of_some _ e))
      rw [hz1] at z
      rcases List.mem_cons.mp z with z | z
      · exact absurd z (Nat.ne_of_lt hc)
      · exact absurd (List.mem_singleton.mp z) (Nat.ne_of_lt (Nat.lt_succ_of_lt hc))
  · cases r₂ with
    | error e => exact hr₂
    | ok fl₂ =>
      cases fl₂ with
      | ret r =>
        obtain ⟨rfl, h', tk, l, rfl, hl', hS', hk'⟩ := hr₂
        repeat (any_goals (first | assumption | wp_step))
        exact h _ _ _ hl' hS' hk'
      | _ => exact hr₂.elim
end
/-! ### texts -/
theorem perm_of_nodup {α : Type} [BEq α] [LawfulBEq α] : ∀ {l ys : List α}, l.Nodup → (∀ k ∈ l, k ∈ ys) → ys.length ≤ l.length → l.Perm ys
  | [], ys, _, _, h => by
    have : ys = [] := List.length_eq_zero_iff.mp (by simpa using h)
    rw [this]
  | a :: l, ys, nd, sub, h => by
    obtain ⟨na, nd'⟩ := List.nodup_cons.mp nd
    have ha := sub a List.mem_cons_self
    refine ((perm_of_nodup (ys := ys.erase a) nd' (fun k hk => ?_) ?_).cons a).trans (List.perm_cons_erase ha).symm
    · have hne : k ≠ a := fun e => na (by rw [← e]; exact hk)
      exact (List.mem_erase_of_ne hne).mpr (sub k (List.mem_cons_of_mem _ hk))
    · rw [List.length_erase_of_mem ha]
      simp only [List.length_cons] at h
      omega
def strOf (v : Value) : Str := match v with
  | .str k _ => k
  | _ => Str.empty
theorem strs_of : ∀ (vs : List Value), (∀ v ∈ vs, ∃ k t, v = Value.str k t) → StrsAre vs (vs.map strOf)
  | [], _ => .nil
  | v :: vs, h => by
    obtain ⟨k, t, rfl⟩ := h v List.mem_cons_self
    exact .cons k t (strs_of vs fun u hu => h u (List.mem_cons_of_mem _ hu))
section
variable {P : Program} {w : World} {A : Around} {E : Value → Shared → Prop} {s : Shared} {a : Addr} {l : List Str}
abbrev SK (P : Program) (w : World) : PySem.KeyKind P w Str := PySem.strKind P w
/-- sorted(set of texts) -/
theorem sorted_setS {Q : Value → Shared → Prop} (R : SetG (SK P w) s.heap a l) (hh : A.handled = none)
    (hQ : ∀ s' p (out : Array Value) (c : Nat) (ys : List Str), (∀ b o, s.heap.get? b = some o → s'.heap.get? b = some o) → s'.gens = s.gens → s'.os = s.os → s.heap.objs.size ≤ p →
      s'.heap.get? p = some (seqObj "list" out c) → StrsAre out.toList ys → ys.Perm l → sortedS ys = true → Q (.ref p) s') :
    wpAny (model P w) A (call (.builtin "sorted") [.ref a]) Q E s := by
  obtain ⟨o, es, ep, t, ho, hex, hd, g1, g2, nd, hn, hb, hf, hr, hl⟩ := R
  refine Calls.call_function_entry kind_sorted plain_sorted entry_sorted (args_sorted1 _) ?_
  unfold Builtin.«sorted»
  refine wpAny_bind (m := checkCount "sorted" 1 1 _) (wpAny_pure ?_)
  refine wpAny_bind (collect_set (A := A.in1) hh ⟨o, ho, hex.1, hd⟩ hf hb hr hl fun s1 vs k1 hz e1 o1 pm => ?_)
  have hvl : vs.length = l.length := by rw [pm.length_eq, List.length_map, Array.length_toList]; exact hn
  have hstr : ∀ v ∈ vs, ∃ k ∈ l, ∃ t, v = Value.str k t := fun v hv => by
    obtain ⟨e, he, rfl⟩ := List.mem_map.mp (pm.mem_iff.mp hv)
    obtain ⟨k, hk, q, _⟩ := g1 e he
    obtain ⟨t, ht⟩ := Value.isStrOf_shape q
    exact ⟨k, hk, t, ht⟩
  have hS : StrsAre vs (vs.map strOf) := strs_of vs fun v hv => let ⟨k, _, t, e⟩ := hstr v hv; ⟨k, t, e⟩
  have pk : l.Perm (vs.map strOf) := perm_of_nodup nd (fun k hk => by
    obtain ⟨e, he, q, _⟩ := g2 k hk
    obtain ⟨t, ht⟩ := Value.isStrOf_shape q
    exact List.mem_map.mpr ⟨e.2, pm.mem_iff.mpr (List.mem_map_of_mem he), by rw [ht]; rfl⟩) (by rw [List.length_map, hvl]; exact Nat.le_refl _)
  have hfit : vs.length ≤ sizeLine := by rw [hvl, ← hn]; exact fits_of_scanBound hb
  refine wpAny_bind (wpAny_newList ?_ hfit)
  have hoL : (s1.heap.push (seqObj "list" vs.toArray 0)).get? s1.heap.objs.size = some (seqObj "list" vs.toArray 0) := Heap.get?_push_size _ rfl
  refine wpAny_bind (wpAny_holding (wpAny_call_entry slot_list_sort ⟨_, hoL, rfl⟩ entry_list_sort
    (list_sort_treeKAny strKind_oneLt hoL hS.keysOf (fun v₁ v₂ rest e => keyKind_strs (by rw [← e]; exact hS)) hfit fun st' hp hs => ⟨_, rfl, ?_⟩) (args_list_sort _)))
  obtain ⟨ys, a1, a2, a3⟩ := sorted_out_str hS hp hs
  obtain ⟨c, hc⟩ := sortedHeap_at (vs := vs) (out := (arrOf st').map (·.2)) hoL
  refine wpAny_pure ⟨_, rfl, hQ _ s1.heap.objs.size _ c ys (fun b u e => ?_) e1 o1 hz hc a1 (a2.trans pk.symm) a3⟩
  have q := k1 b u e
  have hlt := Heap.lt_size q
  exact (sortedHeap_old (Nat.ne_of_lt hlt) (by rw [size_push']; exact Nat.lt_succ_of_lt hlt)).trans (Heap.get?_push_of_some _ q)
end
/-! ### over the layer -/
def SetSO (P : Program) (w : World) (a : Addr) (l : List Str) : HO := .ext fun h => SetG (SK P w) h a l
theorem setSO_new {P : Program} {w : World} {H : Hp} {h : Heap} {a : Addr} {l : List Str} (R : SetG (SK P w) h a l) : ObjOk P w H h a (SetSO P w a l) :=
  ⟨R, let ⟨o, _, _, _, ho, _⟩ := R; ⟨o, ho⟩, fun _ _ q k => q.at k⟩
section
variable {X : Cx}
/-- set(list of texts) -/
def rSetS (K : PySem.W.Frag) (P : Program) (w : World) : List V → Hp → VK → Prop := fun vs H Q => ∃ (b : Addr) (ks : List Str), vs = [.ref b] ∧ SqL K H b (ks.map V.str) ∧ ks.length ≤ 1000 ∧
  ∀ a l, H a = none → l.Nodup → (∀ k, k ∈ l ↔ k ∈ ks) → Q (.ref a) (upd H a (SetSO P w a l))
theorem cr_setS (hc : X.calm = true) : CallR X (.type "set") (rSetS X.K X.prog X.w) := by
  intro pins s σ H vs us Q I r h
  obtain ⟨b, ks, rfl, hs, h1000, q⟩ := h
  obtain ⟨its, rv, hl, hz⟩ := I.list hs
  rw [Vals.ref1 r]
  have hn : H s.heap.objs.size = none := I.hok.fresh (Nat.le_refl _)
  have hlen : its.length = ks.length := by have := rv.length; simpa using this.symm
  refine call_setG (knd := SK X.prog X.w) ks (I.ok.hd hc) hl.isList (by simpa using hlen) (fun i v hv => ?_) (by unfold scanBound; omega) fun h' tk l hl' R k => ?_
  · have hv' : its[i]? = some v := by simpa using hv
    have hi : i < ks.length := by rw [← hlen]; exact (List.getElem?_eq_some_iff.mp hv').1
    obtain ⟨u, hu, ru⟩ := rv.get (i := i) (x := V.str ks[i]) (by rw [List.getElem?_map, List.getElem?_eq_getElem hi]; rfl)
    rw [hv'] at hu
    cases hu
    obtain ⟨t, rfl⟩ := ru
    exact ⟨ks[i], List.getElem?_eq_getElem hi, by simp [SK, PySem.strKind, Value.isStrOf], rfl⟩
  · exact ⟨.ref s.heap.objs.size, upd H s.heap.objs.size (SetSO X.prog X.w s.heap.objs.size l), I.laid (t' := tk) k (Nat.le_refl _) (setSO_new R), rfl, q _ l hn hl'.nd fun j => by rw [hl'.sub j, List.take_length]⟩
/-- sorted(set of texts) -/
def rSortedSO (P : Program) (w : World) : List V → Hp → VK → Prop := fun vs H Q => ∃ (a : Addr) (l : List Str), vs = [V.ref a] ∧ H a = some (SetSO P w a l) ∧
  ∀ (ys : List Str) (p : Addr), ys.Perm l → sortedS ys = true → H p = none → Q (.ref p) (upd H p (.lst (ys.map V.str)))
theorem cr_sortedSO (hc : X.calm = true) : CallR X (.builtin "sorted") (rSortedSO X.prog X.w) := by
  intro pins s σ H vs us Q I r h
  obtain ⟨a, l, rfl, ha, q⟩ := h
  have R : SetG (SK X.prog X.w) s.heap a l := (I.hok a _ ha).1
  rw [Vals.ref1 r]
  refine sorted_setS R (I.ok.hd hc) fun s' p out c ys k g o hp hg hi pm hs => ?_
  have hlen : (ys.map V.str).length ≤ sizeLine := by
    obtain ⟨_, es, _, _, _, _, _, _, _, _, hn, hb, _⟩ := R
    rw [List.length_map, pm.length_eq, ← hn]
    exact fits_of_scanBound hb
  have hn : H p = none := I.hok.fresh hp
  have J : Inv X pins σ (upd H p (.lst (ys.map V.str))) { s with heap := s'.heap, gens := s'.gens, drawn := s'.drawn, toks := s'.toks } :=
    I.call (ch := []) (Un.laid k hp hn) (I.hok.laid k hp ⟨hlen, out.toList, c, vals_of_strs hi, hg⟩) (by rw [g]; exact I.bare) (fun _ z => nomatch z)
  have e : s' = { s with heap := s'.heap, gens := s'.gens, drawn := s'.drawn, toks := s'.toks } := by
    obtain ⟨_, _, _, _, _⟩ := s'
    obtain ⟨_, _, _, _, _⟩ := s
    cases o
    rfl
  rw [e]
  exact ⟨.ref p, _, J, rfl, q ys p pm hs hn⟩
end
end L2
end

section
set_option Elab.async false
set_option linter.all false
set_option maxRecDepth 100000
set_option maxHeartbeats 1000000
/-! max of a tuple of ints; a method of an object whose class is told by the reading. -/
namespace L2
open PySem PySem.Spec PyProof.Rows
section
variable {prog : Program} {w : World} {A : Around} {E : Value → Shared → Prop} {s : Shared} {l : Addr} {its : List Value} {ns : List Int} {Q : Value → Shared → Prop}
theorem max_tup (hh : A.handled = none) (hl : s.heap.IsTuple l its.toArray) (hi : IntsAre its ns) (hne : 0 < ns.length)
    (h : ∀ h' tk M t', (∀ b o, s.heap.get? b = some o → h'.get? b = some o) → M ∈ ns → (∀ a, a ∈ ns → a ≤ M) → Q (.int M t') { s with heap := h', toks := tk }) : wpAny (model prog w) A (call (.builtin "max") [.ref l]) Q E s := by
  obtain ⟨xs, e⟩ := hi.allInts.items
  have hn : numsOf (intItems xs).toList = ns := by rw [← e]; exact hi.numsOf
  rw [nums_intItems] at hn
  subst hn
  rw [e] at hl
  have hsz : 0 < xs.size := by simpa using hne
  have hlt : l < s.heap.objs.size := by obtain ⟨_, e, _⟩ := hl; exact Heap.lt_size e
  refine PySem.call_max_walk (wpAny_pyIter_tuple hl ?_)
  refine ⟨_, _, _, _, _, _, _, rfl, Walks.tuple (A := A.in1) hh _ l (Nat.ne_of_lt hlt) (intItems xs), ⟨⟨_, Heap.get?_push_size _ rfl, rfl, rfl⟩, hl.push _⟩, fun b hb => ?_, by simpa [intItems] using hsz, CmpOf.ints_gt (numAt xs) (fun _ _ => intItems_at), fun v h' tk hP hk => ?_⟩
  · show b < (s.heap.push _).objs.size
    rw [Heap.size_push]
    rcases List.mem_cons.mp hb with rfl | hb
    · exact Nat.lt_succ_self _
    · rw [List.mem_singleton.mp hb]
      exact Nat.lt_succ_of_lt hlt
  · have hv : (intItems xs)[argBest (fun i j => decide (numAt xs i > numAt xs j)) (xs.size - 1)]? = some v := by simpa [intItems] using hP
    obtain ⟨t, rfl⟩ := intItems_at hv
    obtain ⟨h1, h2⟩ := argBest_gt (numAt xs) (xs.size - 1)
    refine h h' tk _ t (fun b o e => hk b o (fun hm => ?_) (Heap.get?_push_of_some _ e)) ?_ fun a ha => ?_
    · rw [List.mem_singleton.mp hm] at e
      exact absurd (Heap.lt_size e) (Nat.lt_irrefl _)
    · rw [numAt_eq]; exact PySem.getD_mem (by rw [List.length_map, Array.length_toList]; omega)
    · obtain ⟨j, hj, rfl⟩ := mem_getD ha
      rw [List.length_map, Array.length_toList] at hj
      rw [← numAt_eq]; exact h2 j (by omega)
end
section
variable {X : Cx}
def rMaxT (K : PySem.W.Frag) : List V → Hp → VK → Prop := fun vs H Q => ∃ (a : Addr) (ns : List Int), vs = [V.ref a] ∧ SqT K H a (ns.map V.int) ∧ 0 < ns.length ∧ ∀ m, m ∈ ns → (∀ y, y ∈ ns → y ≤ m) → Q (.int m) H
theorem cr_maxT (hc : X.calm = true) : CallR X (.builtin "max") (rMaxT X.K) := by
  intro pins s σ H vs us Q I r h
  obtain ⟨a, ns, rfl, hs, hne, q⟩ := h
  obtain ⟨its, rv, hl, _⟩ := I.tuple hs
  rw [Vals.ref1 r]
  exact max_tup (I.ok.hd hc) hl (ints_of_vals rv) hne fun h' tk m t' hk h1 h2 => ⟨.int _, H, I.kept hk, ⟨_, rfl⟩, q m h1 h2⟩
/-- o.m(e, ..): the object's class and its method are told by the reading -/
def tMethD (P : Program) (w : World) (K : PySem.W.Frag) (mg : Str → Option Value) (base : Heap) (k : Nat) (m : Str) (ta : TE) (t : TA) : TE := fun σ H Q => ta σ H fun x H1 => ∃ a C dx fs, x = .ref a ∧ H1 a = some (.ins C dx fs) ∧ fs.lookup m = none ∧
  ∃ (f : Addr) (fd : FuncData) (ps : List Str) (sp : Sp), Cls K C ∧ Meth K C m f ∧ FnOk P w K mg base CX0 k f fd ps sp ∧ Binds K fd ps [] ∧ t σ H1 fun vs H2 => sp (x :: vs) H2 Q E0
variable {k : Nat} {m : Str} {o e : Expr} {es : List Expr} {apos pos : Pos} {ta : TE} {t : TA}
theorem pe_methD {pl : Sem Bool} (he : PE X o ta) (hr : Room k X.A) (ha : PA X (e :: es) t)
    (hst : starEach (e :: es) X.env = (false, eval e X.env) :: starEach es X.env := by rfl) (hpl : (backTo pos (starEach es X.env)).any (·.1) = false := by rfl)
    (ht : eval (.Call (.Attribute o m apos) (e :: es) [] pos) X.env = (do
      let ov ← eval o X.env
      standAt apos.atName
      let (f, first) ← holding [ov] (getMethod ov m pl)
      callWith pos f first (backTo pos (starEach (e :: es) X.env)) (backToKw pos (keywordEach [] X.env))) := by rfl) :
    PE X (.Call (.Attribute o m apos) (e :: es) [] pos) (tMethD X.prog X.w X.K X.mg X.base k m ta t) := by
  refine ⟨fun pins s σ H Q I h => ?_⟩
  refine PySem.W.methodCall_KW (pl := pl) (thn (he.run pins s σ H _ I h) fun u s1 ⟨x, H1, I1, rx, a, C, dx, fs, ex, ea, l, f, fd, ps, sp, c, hm, F, hb, q⟩ => ?_) ht
  subst ex
  obtain rfl : u = Value.ref a := rx
  refine getmeth_ok I1 ea c hm l ?_
  refine PySem.W.callWith_K (first := [.ref a]) (h₀ := X.base) I.ok.mod.kin hm.kp (thn (ha.run pos pins s1 σ H1 _ I1 q) fun us s2 ⟨vs, H2, I2, r, q2⟩ => ⟨I2.kIn, ?_⟩) hst hpl
  exact run_fn (us := .ref a :: us) (vs := .ref a :: vs) (ds := []) (dvs := []) F hr hb .nil pass0 I2 (.cons rfl r) (by simpa using q2)
/-- e.f, a property: the object's class is told by the reading -/
def tPropD (K : PySem.W.Frag) (p g : Addr) (f : Str) (sp : Sp) (ta : TE) : TE := fun σ H Q => ta σ H fun x H1 => ∃ a C dx fs, x = .ref a ∧ H1 a = some (.ins C dx fs) ∧ Cls K C ∧ PropOf K C f p g ∧ sp [.ref a] H1 Q E0
theorem pe_propD {f : Str} {p g : Addr} {fd : FuncData} {ps : List Str} {sp : Sp} (he : PE X e ta) (F : FnOk X.prog X.w X.K X.mg X.base CX0 k g fd ps sp) (hr : Room (k + 1) X.A) (hb : Binds X.K fd ps [])
    (hab : attributeBase e f X.env (eval e X.env) = eval e X.env := by rfl) : PE X (.Attribute e f pos) (tPropD X.K p g f sp ta) := by
  refine ⟨fun pins s σ H Q I h => ?_⟩
  refine attr_of hab (thn (he.run pins s σ H _ I h) fun u s1 ⟨x, H1, I1, rx, a, C, dx, fs, ex, ea, c, hp, q⟩ => ?_)
  subst ex
  obtain rfl : u = Value.ref a := rx
  exact getprop_ok (dvs := []) (ds := []) I1 ea c hp F hr hb .nil pass0 q
end
end L2
namespace MR
open PySem PySem.Spec PyProof.Rows L2
section
variable {P : Program} {w : World} {K : PySem.W.Frag} {mg : Str → Option Value} {base : Heap}
/-- a def of the module, under its name -/
structure Cal (P : Program) (w : World) (K : PySem.W.Frag) (mg : Str → Option Value) (base : Heap) (k : Nat) (x : Str) (sp : Sp) : Prop where
  ex : ∃ (f : Addr) (fd : FuncData) (ps : List Str), FnOk P w K mg base CX0 k f fd ps sp ∧ mg x = some (.ref f) ∧ PySem.W.keepIn K (.ref f) = true ∧ Binds K fd ps []
/-- a method of the class at C -/
structure Met (P : Program) (w : World) (K : PySem.W.Frag) (mg : Str → Option Value) (base : Heap) (k : Nat) (C : Addr) (m : Str) (sp : Sp) : Prop where
  ex : ∃ (f : Addr) (fd : FuncData) (ps : List Str), FnOk P w K mg base CX0 k f fd ps sp ∧ Cls K C ∧ Meth K C m f ∧ Binds K fd ps []
/-- a class of the module, under its name, by its __init__ -/
structure Mak (P : Program) (w : World) (K : PySem.W.Frag) (mg : Str → Option Value) (base : Heap) (k : Nat) (x : Str) (C : Addr) (sp : Sp) : Prop where
  ex : ∃ (f : Addr) (fd : FuncData) (ps : List Str), FnOk P w K mg base CX0 k f fd ps sp ∧ Mk K C f ∧ mg x = some (.ref C) ∧ Binds K fd ps []
section
variable {X : Cx} {k j : Nat} {x m : Str} {sp : Sp} {p pos apos : Pos} {e o : Expr} {es : List Expr} {t : TA} {ta : TE} {C : Addr}
theorem pe_c (c : Cal X.prog X.w X.K X.mg X.base k x sp) (hr : Room j X.A) (hk : k ≤ j) (ha : PA X (e :: es) t) (hg : Gl X x := by rfl)
    (hdb : (x == ("__debug__" : Str)) = false := by decide) (he : starEach (e :: es) X.env = (false, eval e X.env) :: starEach es X.env := by rfl) (hpl : (backTo pos (starEach es X.env)).any (·.1) = false := by rfl) :
    PE X (.Call (.Name x p) (e :: es) [] pos) (tCall sp [] E0 t) :=
  let ⟨_, _, _, F, hm, kp, b⟩ := c.ex
  pe_call F (hr.mono hk) hg hm kp b .nil pass0 ha (by first | exact hdb | assumption) he hpl
theorem pe_mt {pl : Sem Bool} (c : Met X.prog X.w X.K X.mg X.base k C m sp) (hr : Room j X.A) (hk : k ≤ j) (he : PE X o ta) (ha : PA X (e :: es) t)
    (hst : starEach (e :: es) X.env = (false, eval e X.env) :: starEach es X.env := by rfl) (hpl : (backTo pos (starEach es X.env)).any (·.1) = false := by rfl)
    (ht : eval (.Call (.Attribute o m apos) (e :: es) [] pos) X.env = (do
      let ov ← eval o X.env
      standAt apos.atName
      let (f, first) ← holding [ov] (getMethod ov m pl)
      callWith pos f first (backTo pos (starEach (e :: es) X.env)) (backToKw pos (keywordEach [] X.env))) := by rfl) :
    PE X (.Call (.Attribute o m apos) (e :: es) [] pos) (tMeth C m sp [] E0 ta t) :=
  let ⟨_, _, _, F, hc, hm, b⟩ := c.ex
  pe_meth (pl := pl) he hc hm F (hr.mono hk) b .nil pass0 ha hst hpl ht
theorem pe_mk (c : Mak X.prog X.w X.K X.mg X.base k x C sp) (hr : Room j X.A) (hk : k + 1 ≤ j) (ha : PA X (e :: es) t) (hg : Gl X x := by rfl)
    (hdb : (x == ("__debug__" : Str)) = false := by decide) (he : starEach (e :: es) X.env = (false, eval e X.env) :: starEach es X.env := by rfl) (hpl : (backTo pos (starEach es X.env)).any (·.1) = false := by rfl) :
    PE X (.Call (.Name x p) (e :: es) [] pos) (tMake C sp [] E0 t) :=
  let ⟨_, _, _, F, M, hm, b⟩ := c.ex
  pe_make M F (hr.mono hk) hg hm b .nil pass0 ha (by first | exact hdb | assumption) he hpl
theorem pe_mk0 (c : Mak X.prog X.w X.K X.mg X.base k x C sp) (hr : Room j X.A) (hk : k + 1 ≤ j) (hg : Gl X x := by rfl) (hdb : (x == ("__debug__" : Str)) = false := by decide) :
    PE X (.Call (.Name x p) [] [] pos) (tMake C sp [] E0 tNil) :=
  let ⟨_, _, _, F, M, hm, b⟩ := c.ex
  pe_make0 M F (hr.mono hk) hg hm b .nil pass0 hdb
end
end
end MR
end

section
set_option Elab.async false
set_option linter.all false
set_option maxRecDepth 100000
set_option maxHeartbeats 1000000
/-! Expressions as trees, and how they lie in the heap. -/
namespace MR
open PySem PySem.Spec PyProof.Rows L2
inductive Kd where
  | const | arg | call | choose
  deriving DecidableEq
inductive Tag where
  | const (n : Nat) | arg | call (f : Str) | choose
  deriving DecidableEq
def Tag.kd : Tag → Kd
  | .const _ => .const
  | .arg => .arg
  | .call _ => .call
  | .choose => .choose
inductive T where
  | mk (g : Tag) (ks : List T)
def T.tag : T → Tag
  | .mk g _ => g
def T.kids : T → List T
  | .mk _ ks => ks
mutual
def T.size : T → Nat
  | .mk _ ks => 1 + T.sizes ks
def T.sizes : List T → Nat
  | [] => 0
  | t :: r => T.size t + T.sizes r
end
def Tag.name : Tag → List Str
  | .call f => [f]
  | _ => []
mutual
def T.names : T → List Str
  | .mk g ks => g.name ++ T.namesL ks
def T.namesL : List T → List Str
  | [] => []
  | t :: r => T.names t ++ T.namesL r
end
mutual
def T.beq : T → T → Bool
  | .mk g ks, .mk h ls => decide (g = h) && T.beqs ks ls
def T.beqs : List T → List T → Bool
  | [], [] => true
  | t :: r, u :: s => T.beq t u && T.beqs r s
  | _, _ => false
end
mutual
theorem T.beq_refl : ∀ t : T, T.beq t t = true
  | .mk g ks => by rw [T.beq, T.beqs_refl ks]; simp
theorem T.beqs_refl : ∀ ts : List T, T.beqs ts ts = true
  | [] => by rw [T.beqs]
  | t :: r => by rw [T.beqs, T.beq_refl t, T.beqs_refl r]; rfl
end
mutual
theorem T.eq_of_beq : ∀ {t u : T}, T.beq t u = true → t = u
  | .mk g ks, .mk h ls, e => by
    rw [T.beq, Bool.and_eq_true, decide_eq_true_eq] at e
    rw [e.1, T.eqs_of_beqs e.2]
theorem T.eqs_of_beqs : ∀ {ts us : List T}, T.beqs ts us = true → ts = us
  | [], [], _ => rfl
  | t :: r, u :: s, e => by
    rw [T.beqs, Bool.and_eq_true] at e
    rw [T.eq_of_beq e.1, T.eqs_of_beqs e.2]
  | [], _ :: _, e => by rw [T.beqs] at e; cases e; all_goals (intros; contradiction)
  | _ :: _, [], e => by rw [T.beqs] at e; cases e; all_goals (intros; contradiction)
end
mutual
def T.depth : T → Nat
  | .mk _ ks => T.depths ks + 1
def T.depths : List T → Nat
  | [] => 0
  | t :: r => max (T.depth t) (T.depths r)
end
/-- how many parts a node has -/
def Tag.arity : Tag → Nat → Prop
  | .const n, k => k = 0 ∧ n ≤ 2
  | .arg, k => k = 0
  | .call _, k => k = 1
  | .choose, k => k = 3 ∨ k = 4
/-- the attributes of its own that a node has, by its parts and the tuple of its cases -/
def Tag.own (us : List V) (qt : Addr) : Tag → List (Str × V)
  | .const n => [("number", .int n)]
  | .arg => []
  | .call f => [("name", .str f), ("argument", us.headD .non)]
  | .choose => [("test", us.headD .non), ("cases", .ref qt)]
/-- what `calls` is -/
structure CallsOf (ns cs : List Str) : Prop where
  nd : cs.Nodup
  sorted : sortedS cs = true
  mem : ∀ k, k ∈ cs ↔ k ∈ ns
def flds (pt : Addr) (size : Nat) (ct : Addr) (own : List (Str × V)) : List (Str × V) := ("_parts", .ref pt) :: ("_size", .int size) :: ("_calls", .ref ct) :: own
section
variable (c : Kd → Addr)
mutual
/-- v is an expression object that says t -/
def EE (H : Hp) : T → V → Prop
  | .mk g ks, v => ∃ a dx pt ct cs us qt, v = .ref a ∧ H a = some (.ins (c g.kd) dx (flds pt (T.size (.mk g ks)) ct (g.own us qt))) ∧ H pt = some (.tup us) ∧ H ct = some (.tup (cs.map V.str)) ∧ CallsOf (T.names (.mk g ks)) cs ∧ g.arity ks.length ∧
      (g = .choose → H qt = some (.tup us.tail)) ∧ EEs H ks us
def EEs (H : Hp) : List T → List V → Prop
  | [], us => us = []
  | t :: r, us => ∃ u s, us = u :: s ∧ EE H t u ∧ EEs H r s
end
end
/-- objects that never change once they are made -/
def Fixed : HO → Prop
  | .tup _ => True
  | .ins _ _ _ => True
  | .own _ => True
  | _ => False
/-- all of them stay -/
def Fx (H H' : Hp) : Prop := ∀ a o, Fixed o → H a = some o → H' a = some o
theorem Fx.refl (H : Hp) : Fx H H := fun _ _ _ h => h
theorem Fx.trans {H H1 H2 : Hp} (a : Fx H H1) (b : Fx H1 H2) : Fx H H2 := fun c o f h => b c o f (a c o f h)
theorem Fx.of {H H' : Hp} (e : Ext H H') : Fx H H' := fun a o _ h => e a o h
theorem Fx.upd {H : Hp} {a : Addr} {o : HO} (h : ∀ u, H a = some u → ¬ Fixed u) : Fx H (upd H a o) := fun b u f e => by
  have : b ≠ a := fun q => h u (q ▸ e) f
  rw [upd_ne this]
  exact e
theorem Fx.lst {H : Hp} {a : Addr} {o : HO} {xs : List V} (h : H a = some (.lst xs)) : Fx H (L2.upd H a o) := Fx.upd fun u e => by rw [h] at e; cases e; exact fun q => q
theorem Fx.new {H : Hp} {a : Addr} {o : HO} (h : H a = none) : Fx H (L2.upd H a o) := Fx.upd fun u e => by rw [h] at e; cases e
section
variable {c : Kd → Addr} {H H' : Hp}
mutual
theorem EE.fx (e : Fx H H') : ∀ {t : T} {v : V}, EE c H t v → EE c H' t v
  | .mk g ks, v, h => by
    rw [EE] at h ⊢
    obtain ⟨a, dx, pt, ct, cs, us, qt, h1, h2, h3, h4, h5, h6, h7, h8⟩ := h
    exact ⟨a, dx, pt, ct, cs, us, qt, h1, e _ _ True.intro h2, e _ _ True.intro h3, e _ _ True.intro h4, h5, h6, fun z => e _ _ True.intro (h7 z), EEs.fx e h8⟩
theorem EEs.fx (e : Fx H H') : ∀ {ts : List T} {us : List V}, EEs c H ts us → EEs c H' ts us
  | [], us, h => by rw [EEs] at h ⊢; exact h
  | t :: r, us, h => by
    rw [EEs] at h ⊢
    obtain ⟨u, s, h1, h2, h3⟩ := h
    exact ⟨u, s, h1, EE.fx e h2, EEs.fx e h3⟩
end
theorem EEs.len : ∀ {ts : List T} {us : List V}, EEs c H ts us → us.length = ts.length
  | [], us, h => by rw [EEs] at h; rw [h]; rfl
  | t :: r, us, h => by
    rw [EEs] at h
    obtain ⟨u, s, rfl, _, h3⟩ := h
    rw [List.length_cons, List.length_cons, EEs.len h3]
theorem EEs.get : ∀ {ts : List T} {us : List V} {i : Nat} {t : T}, EEs c H ts us → ts[i]? = some t → ∃ u, us[i]? = some u ∧ EE c H t u
  | [], _, _, _, _, e => by simp at e
  | t :: r, us, 0, t', h, e => by
    rw [EEs] at h
    obtain ⟨u, s, rfl, h2, _⟩ := h
    simp at e
    subst e
    exact ⟨u, by simp, h2⟩
  | t :: r, us, i + 1, t', h, e => by
    rw [EEs] at h
    obtain ⟨u, s, rfl, _, h3⟩ := h
    obtain ⟨v, hv, q⟩ := EEs.get h3 (by simpa using e)
    exact ⟨v, by simpa using hv, q⟩
end
section
variable {c : Kd → Addr} {H : Hp}
mutual
/-- an object says one tree only -/
theorem EE.inj (hc : ∀ k k', c k = c k' → k = k') : ∀ {t u : T} {v : V}, EE c H t v → EE c H u v → t = u
  | .mk g ks, .mk h ls, v, e1, e2 => by
    rw [EE] at e1 e2
    obtain ⟨a, dx, pt, ct, cs, us, qt, rfl, h2, h3, h4, h5, h6, h7, h8⟩ := e1
    obtain ⟨a', dx', pt', ct', cs', us', qt', ea, k2, k3, k4, k5, k6, k7, k8⟩ := e2
    cases ea
    rw [h2] at k2
    simp only [Option.some.injEq, HO.ins.injEq, flds, List.cons.injEq, Prod.mk.injEq, true_and, V.ref.injEq, V.int.injEq] at k2
    obtain ⟨e1, _, e2, _, _, e5⟩ := k2
    subst e2
    rw [h3] at k3
    cases k3
    have hk := EEs.inj hc h8 k8
    subst hk
    have hg : g = h := by
      have q := hc _ _ e1
      cases g <;> cases h <;> simp_all [Tag.kd, Tag.own]
      exact_mod_cast e5
    rw [hg]
theorem EEs.inj (hc : ∀ k k', c k = c k' → k = k') : ∀ {ts us : List T} {vs : List V}, EEs c H ts vs → EEs c H us vs → ts = us
  | [], [], _, _, _ => rfl
  | t :: r, u :: s, vs, e1, e2 => by
    rw [EEs] at e1 e2
    obtain ⟨v, w, rfl, h2, h3⟩ := e1
    obtain ⟨v', w', e, k2, k3⟩ := e2
    cases e
    rw [EE.inj hc h2 k2, EEs.inj hc h3 k3]
  | [], u :: s, vs, e1, e2 => by
    have q1 := EEs.len e1
    have q2 := EEs.len e2
    simp [q1] at q2
  | t :: r, [], vs, e1, e2 => by
    have q1 := EEs.len e1
    have q2 := EEs.len e2
    simp [q1] at q2
end
end
section
variable {c : Kd → Addr} {H H' : Hp} {a0 C0 dx0 : Addr}
mutual
/-- what changes at an object that is no expression yet does not matter -/
theorem EE.but (h0 : H a0 = some (.ins C0 dx0 [])) (e : ∀ b o, b ≠ a0 → Fixed o → H b = some o → H' b = some o) : ∀ {t : T} {v : V}, EE c H t v → EE c H' t v
  | .mk g ks, v, h => by
    rw [EE] at h ⊢
    obtain ⟨a, dx, pt, ct, cs, us, qt, h1, h2, h3, h4, h5, h6, h7, h8⟩ := h
    have na : ∀ b o, H b = some o → o ≠ .ins C0 dx0 [] → b ≠ a0 := fun b o hb ho z => ho (by rw [z, h0] at hb; exact (Option.some.inj hb).symm)
    exact ⟨a, dx, pt, ct, cs, us, qt, h1, e _ _ (na _ _ h2 (by simp [flds])) True.intro h2, e _ _ (na _ _ h3 (by simp)) True.intro h3, e _ _ (na _ _ h4 (by simp)) True.intro h4, h5, h6, fun z => e _ _ (na _ _ (h7 z) (by simp)) True.intro (h7 z), EEs.but h0 e h8⟩
theorem EEs.but (h0 : H a0 = some (.ins C0 dx0 [])) (e : ∀ b o, b ≠ a0 → Fixed o → H b = some o → H' b = some o) : ∀ {ts : List T} {us : List V}, EEs c H ts us → EEs c H' ts us
  | [], us, h => by rw [EEs] at h ⊢; exact h
  | t :: r, us, h => by
    rw [EEs] at h ⊢
    obtain ⟨u, s, h1, h2, h3⟩ := h
    exact ⟨u, s, h1, EE.but h0 e h2, EEs.but h0 e h3⟩
end
end
mutual
theorem T.names_le : ∀ t : T, (T.names t).length ≤ T.size t
  | .mk g ks => by
    rw [T.names, T.size, List.length_append]
    have := T.namesL_le ks
    have : g.name.length ≤ 1 := by cases g <;> simp [Tag.name]
    omega
theorem T.namesL_le : ∀ ts : List T, (T.namesL ts).length ≤ T.sizes ts
  | [] => by rw [T.namesL, T.sizes]; simp
  | t :: r => by
    rw [T.namesL, T.sizes, List.length_append]
    have := T.names_le t
    have := T.namesL_le r
    omega
end
theorem T.size_pos : ∀ t : T, 1 ≤ T.size t
  | .mk g ks => by rw [T.size]; omega
theorem nodup_le {α : Type} [BEq α] [LawfulBEq α] : ∀ {l ys : List α}, l.Nodup → (∀ k ∈ l, k ∈ ys) → l.length ≤ ys.length
  | [], ys, _, _ => Nat.zero_le _
  | a :: l, ys, nd, sub => by
    obtain ⟨na, nd'⟩ := List.nodup_cons.mp nd
    have ha := sub a List.mem_cons_self
    have := nodup_le (ys := ys.erase a) nd' fun k hk => (List.mem_erase_of_ne (fun e => na (by rw [← e]; exact hk))).mpr (sub k (List.mem_cons_of_mem _ hk))
    rw [List.length_erase_of_mem ha] at this
    have := List.length_pos_of_mem ha
    simp only [List.length_cons]
    omega
theorem CallsOf.le {ns cs : List Str} (h : CallsOf ns cs) : cs.length ≤ ns.length := nodup_le h.nd fun k hk => (h.mem k).mp hk
/-- the facts of the classes of expressions -/
def attrs : List Str := ["_parts", "_size", "_calls", "number", "name", "argument", "test", "cases"]
structure CF (K : PySem.W.Frag) (c : Kd → Addr) (cE : Addr) : Prop where
  cls : ∀ k, Cls K (c k)
  ca : ∀ k, PySem.W.findIn K (.ref (c k)) "__class__" = some (some (.builtin "object.__class__"))
  cn : PySem.W.specialIn K (.builtin "object.__class__") "__get__" = some (some (.builtin "getset_descriptor.__get__"))
  ctk : PySem.W.takesIn K (.builtin "object.__class__") = some true
  cm : ∀ k, PySem.W.mroIn K (c k) (.type "object") = some true
  inj : ∀ k k', c k = c k' → k = k'
  kE : ∀ k, PySem.W.kitOne K (.ref (c k)) (.ref cE) = some true
  kk : ∀ k k', PySem.W.kitOne K (.ref (c k)) (.ref (c k')) = some (decide (k = k'))
  nf : ∀ k k', PySem.W.notFirst K (c k) (.ref (c k')) = true
  na : ∀ k f, f ∈ attrs → NoAttr K (c k) f
section
variable {K : PySem.W.Frag} {c : Kd → Addr} {cE : Addr} {H : Hp}
theorem CF.ty (Z : CF K c cE) {k : Kd} {a dx : Addr} {fs : List (Str × V)} (h : H a = some (.ins (c k) dx fs)) : TyX K H (.ref a) (.ref (c k)) := .base (.ins h (Z.cls k) (Z.ca k) Z.cn Z.ctk (Z.cm k))
end
section
variable {K : PySem.W.Frag} {c : Kd → Addr} {H : Hp}
theorem look_parts {pt ct : Addr} {z : Nat} {o : List (Str × V)} : (flds pt z ct o).lookup ("_parts" : Str) = some (.ref pt) := by
  show List.lookup ("_parts" : Str) ((("_parts" : Str), V.ref pt) :: _) = _
  rw [List.lookup_cons, show (("_parts" : Str) == ("_parts" : Str)) = true from by decide]
theorem look_size {pt ct : Addr} {z : Nat} {o : List (Str × V)} : (flds pt z ct o).lookup ("_size" : Str) = some (.int z) := by
  show List.lookup ("_size" : Str) ((("_parts" : Str), V.ref pt) :: (("_size" : Str), V.int z) :: _) = _
  rw [List.lookup_cons, show (("_size" : Str) == ("_parts" : Str)) = false from by decide, List.lookup_cons, show (("_size" : Str) == ("_size" : Str)) = true from by decide]
theorem look_calls {pt ct : Addr} {z : Nat} {o : List (Str × V)} : (flds pt z ct o).lookup ("_calls" : Str) = some (.ref ct) := by
  show List.lookup ("_calls" : Str) ((("_parts" : Str), V.ref pt) :: (("_size" : Str), V.int z) :: (("_calls" : Str), V.ref ct) :: _) = _
  rw [List.lookup_cons, show (("_calls" : Str) == ("_parts" : Str)) = false from by decide, List.lookup_cons, show (("_calls" : Str) == ("_size" : Str)) = false from by decide, List.lookup_cons, show (("_calls" : Str) == ("_calls" : Str)) = true from by decide]
theorem look_own {pt ct : Addr} {z : Nat} {o : List (Str × V)} {f : Str} (h1 : (f == ("_parts" : Str)) = false) (h2 : (f == ("_size" : Str)) = false) (h3 : (f == ("_calls" : Str)) = false) : (flds pt z ct o).lookup f = o.lookup f := by
  show List.lookup f ((("_parts" : Str), V.ref pt) :: (("_size" : Str), V.int z) :: (("_calls" : Str), V.ref ct) :: o) = _
  rw [List.lookup_cons, h1, List.lookup_cons, h2, List.lookup_cons, h3]
end

/-! ### comprehensions whose elements only make new things -/
section
variable {K : PySem.W.Frag} {a : Addr} {xs : List V} {te : TE} {vs : List Nat} {σ : L2.St} {H1 : Hp} {D : Addr} {Qd : Hp → Prop} {j : Nat}
/-- the items' words stand, the list so far -/
structure LcI (H0 : Hp) (R : Nat → V → Hp → Prop) (D : Addr) (i : Nat) (H : Hp) : Prop where
  ex : ∃ acc, H D = some (.lst acc) ∧ acc.length = i ∧ ∀ j y, acc[j]? = some y → R j y H
  sub : Ext H0 H
theorem LcI.start {H0 : Hp} {R : Nat → V → Hp → Prop} (hD : H0 D = none) : LcI H0 R D 0 (upd H0 D (.lst [])) :=
  ⟨⟨[], upd_same, rfl, fun j y h => by simp at h⟩, Ext.upd hD⟩
theorem LcI.next {H0 H H4 : Hp} {R : Nat → V → Hp → Prop} {i : Nat} {y : V} (hD : H0 D = none) (mon : ∀ i y H H', Fx H H' → R i y H → R i y H') (I : LcI H0 R D i H) (hi : i < sizeLine) (e : Ext H H4) (r : R i y H4) :
    ∃ acc, H4 D = some (.lst acc) ∧ acc.length < sizeLine ∧ LcI H0 R D (i + 1) (upd H4 D (.lst (acc ++ [y]))) := by
  obtain ⟨acc, h1, h2, h3⟩ := I.ex
  have h4 := e _ _ h1
  refine ⟨acc, h4, by omega, ⟨⟨acc ++ [y], upd_same, by rw [List.length_append, h2]; rfl, fun k z hz => ?_⟩, fun b o hb => ?_⟩⟩
  · refine mon _ _ _ _ (Fx.lst h4) ?_
    rw [List.getElem?_append] at hz
    split at hz
    · exact mon _ _ _ _ (Fx.of e) (h3 k z hz)
    · rename_i hk
      have : k = i := by
        have := (List.getElem?_eq_some_iff.mp hz).1
        simp at this
        omega
      subst this
      rw [h2, Nat.sub_self] at hz
      simp at hz
      subst hz
      exact r
  · rw [upd_ne (ne_of_none hb hD)]
    exact e _ _ (I.sub _ _ hb)
theorem lcm_tup (R : Nat → V → Hp → Prop) (mon : ∀ i y H H', Fx H H' → R i y H → R i y H') (hs : SqT K H1 a xs) (hD : H1 D = none) (hz : xs.length ≤ sizeLine) (hw : ∀ x, wipe ((wipe σ vs).set j (some x)) vs = wipe σ vs)
    (step : ∀ i x H (Qk : VK), Ext H1 H → xs[i]? = some x → (∀ y H', Ext H H' → R i y H' → Qk y H') → te ((wipe σ vs).set j (some x)) H Qk)
    (fin : ∀ H ys, Ext H1 H → H D = some (.lst ys) → ys.length = xs.length → (∀ i y, ys[i]? = some y → R i y H) → Qd H) :
    ∃ W : Nat → Nat → Hp → Prop, (∃ m, W 0 m (upd H1 D (.lst []))) ∧ ∀ i m H, W i m H →
      ((Itt K a).stop i H ∧ Qd H) ∨ ((Itt K a).go i H ∧ ∃ Nx : Hp → Prop, (∀ H', Nx H' → ∃ m', m' < m ∧ W (i + 1) m' H') ∧ ∀ x H', (Itt K a).yld i H x H' → gName j x (wipe σ vs) H' fun σ2 H2 => wipe σ2 vs = wipe σ vs ∧ tYes σ2 H2 fun b H3 =>
        if b = true then te σ2 H3 fun y H4 => ∃ acc, H4 D = some (.lst acc) ∧ acc.length < sizeLine ∧ Nx (upd H4 D (.lst (acc ++ [y]))) else Nx H3) := by
  refine lc_tup (xs := xs) (LcI H1 R D) (LcI.start hD) (fun i H _ I => SqT.ext hs I.sub) (fun i x H hx I => ⟨hw x, ?_⟩) fun H I => ?_
  · show (if true = true then te _ H _ else LcI H1 R D (i + 1) H)
    rw [if_pos rfl]
    refine step i x H _ I.sub hx fun y H' e r => ?_
    exact LcI.next hD mon I (by have := (List.getElem?_eq_some_iff.mp hx).1; omega) e r
  · obtain ⟨acc, h1, h2, h3⟩ := I.ex
    exact fin H acc I.sub h1 h2 h3
theorem lcm_list (R : Nat → V → Hp → Prop) (mon : ∀ i y H H', Fx H H' → R i y H → R i y H') (hs : SqL K H1 a xs) (hD : H1 D = none) (hz : xs.length ≤ sizeLine) (hw : ∀ x, wipe ((wipe σ vs).set j (some x)) vs = wipe σ vs)
    (step : ∀ i x H (Qk : VK), Ext H1 H → xs[i]? = some x → (∀ y H', Ext H H' → R i y H' → Qk y H') → te ((wipe σ vs).set j (some x)) H Qk)
    (fin : ∀ H ys, Ext H1 H → H D = some (.lst ys) → ys.length = xs.length → (∀ i y, ys[i]? = some y → R i y H) → Qd H) :
    ∃ W : Nat → Nat → Hp → Prop, (∃ m, W 0 m (upd H1 D (.lst []))) ∧ ∀ i m H, W i m H →
      ((Itl K a).stop i H ∧ Qd H) ∨ ((Itl K a).go i H ∧ ∃ Nx : Hp → Prop, (∀ H', Nx H' → ∃ m', m' < m ∧ W (i + 1) m' H') ∧ ∀ x H', (Itl K a).yld i H x H' → gName j x (wipe σ vs) H' fun σ2 H2 => wipe σ2 vs = wipe σ vs ∧ tYes σ2 H2 fun b H3 =>
        if b = true then te σ2 H3 fun y H4 => ∃ acc, H4 D = some (.lst acc) ∧ acc.length < sizeLine ∧ Nx (upd H4 D (.lst (acc ++ [y]))) else Nx H3) := by
  refine lc_list (xs := xs) (LcI H1 R D) (LcI.start hD) (fun i H _ I => SqL.ext hs I.sub) (fun i x H hx I => ⟨hw x, ?_⟩) fun H I => ?_
  · show (if true = true then te _ H _ else LcI H1 R D (i + 1) H)
    rw [if_pos rfl]
    refine step i x H _ I.sub hx fun y H' e r => ?_
    exact LcI.next hD mon I (by have := (List.getElem?_eq_some_iff.mp hx).1; omega) e r
  · obtain ⟨acc, h1, h2, h3⟩ := I.ex
    exact fin H acc I.sub h1 h2 h3
theorem lcm_range {lo : Int} {n : Nat} (R : Nat → V → Hp → Prop) (mon : ∀ i y H H', Fx H H' → R i y H → R i y H') (hD : H1 D = none) (hz : n ≤ sizeLine) (hw : ∀ x, wipe ((wipe σ vs).set j (some x)) vs = wipe σ vs)
    (step : ∀ i H (Qk : VK), Ext H1 H → i < n → (∀ y H', Ext H H' → R i y H' → Qk y H') → te ((wipe σ vs).set j (some (.int (lo + i)))) H Qk)
    (fin : ∀ H ys, Ext H1 H → H D = some (.lst ys) → ys.length = n → (∀ i y, ys[i]? = some y → R i y H) → Qd H) :
    ∃ W : Nat → Nat → Hp → Prop, (∃ m, W 0 m (upd H1 D (.lst []))) ∧ ∀ i m H, W i m H →
      ((Itr lo n).stop i H ∧ Qd H) ∨ ((Itr lo n).go i H ∧ ∃ Nx : Hp → Prop, (∀ H', Nx H' → ∃ m', m' < m ∧ W (i + 1) m' H') ∧ ∀ x H', (Itr lo n).yld i H x H' → gName j x (wipe σ vs) H' fun σ2 H2 => wipe σ2 vs = wipe σ vs ∧ tYes σ2 H2 fun b H3 =>
        if b = true then te σ2 H3 fun y H4 => ∃ acc, H4 D = some (.lst acc) ∧ acc.length < sizeLine ∧ Nx (upd H4 D (.lst (acc ++ [y]))) else Nx H3) := by
  refine lc_range (lo := lo) (n := n) (LcI H1 R D) (LcI.start hD) (fun i H hx I => ⟨hw _, ?_⟩) fun H I => ?_
  · show (if true = true then te _ H _ else LcI H1 R D (i + 1) H)
    rw [if_pos rfl]
    refine step i H _ I.sub hx fun y H' e r => ?_
    exact LcI.next hD mon I (by omega) e r
  · obtain ⟨acc, h1, h2, h3⟩ := I.ex
    exact fin H acc I.sub h1 h2 h3
end
end MR
end

section
set_option Elab.async false
set_option linter.all false
set_option maxRecDepth 100000
set_option maxHeartbeats 1000000
/-! The package's small defs. -/
namespace MR
open PySem PySem.Spec PyProof.Rows L2
def top (i : Nat) : Stmt := PySem.Challenge.pw_mustread_k02_whole_rivals.main.body.getD i (.Pass ⟨0, 0, 0, 0⟩)
/-- the built-in names that the text uses, none of them taken by the module -/
def bnames : List Str := ["isinstance", "int", "bool", "str", "len", "tuple", "list", "dict", "sorted", "set", "sum", "max", "min", "range", "zip", "enumerate", "all", "super"]
def BN (mg : Str → Option Value) : Prop := ∀ x ∈ bnames, mg x = none
theorem boot_isi : bootBuiltins "isinstance" = some (.builtin "isinstance") := by decide +kernel
theorem boot_tInt : bootBuiltins "int" = some (.type "int") := by decide +kernel
theorem boot_tBool : bootBuiltins "bool" = some (.type "bool") := by decide +kernel
theorem boot_tStr : bootBuiltins "str" = some (.type "str") := by decide +kernel
theorem boot_tTuple : bootBuiltins "tuple" = some (.type "tuple") := by decide +kernel
theorem boot_tList : bootBuiltins "list" = some (.type "list") := by decide +kernel
theorem boot_tDict : bootBuiltins "dict" = some (.type "dict") := by decide +kernel
theorem boot_tSet : bootBuiltins "set" = some (.type "set") := by decide +kernel
theorem boot_bLen : bootBuiltins "len" = some (.builtin "len") := by decide +kernel
theorem boot_bSorted : bootBuiltins "sorted" = some (.builtin "sorted") := by decide +kernel
theorem boot_bSum : bootBuiltins "sum" = some (.builtin "sum") := by decide +kernel
theorem boot_bMax : bootBuiltins "max" = some (.builtin "max") := by decide +kernel
theorem boot_bMin : bootBuiltins "min" = some (.builtin "min") := by decide +kernel
theorem boot_bAll : bootBuiltins "all" = some (.builtin "all") := by decide +kernel
def clsOf : V → Option Value
  | .ty n => some (.type n)
  | .ref C => some (.ref C)
  | _ => none
/-- isinstance(x, c) -/
def rIs (K : PySem.W.Frag) : List V → Hp → VK → Prop := fun xs H Q => match xs with
  | [x, c] => ∃ u t b, clsOf c = some u ∧ TyX K H x t ∧ PySem.W.kitOne K t u = some b ∧ Q (.bl b) H
  | _ => False
section
variable {X : Cx} {e : Expr} {es : List Expr} {te : TE} {p p' pos : Pos} {t : TA}
theorem cr_is : CallR X (.builtin "isinstance") (rIs X.K) := by
  intro pins s σ H xs us Q I r h
  match xs, h with
  | [x, c], h =>
    obtain ⟨u, t, b, hc, ht, hk, q⟩ := h
    refine call_isi pins s σ H [x, c] us Q I r ⟨x, c, t, u, b, rfl, ?_, ht, hk, q⟩
    cases c with
    | ty n => cases hc; exact .ty n
    | ref C => cases hc; exact .own C
    | _ => cases hc
theorem pe_is (bn : BN X.mg) (ha : PA X (e :: es) t) (g : Gl X "isinstance" := by rfl) (hs : starEach (e :: es) X.env = (false, eval e X.env) :: starEach es X.env := by rfl) (hpl : (backTo pos (starEach es X.env)).any (·.1) = false := by rfl) :
    PE X (.Call (.Name "isinstance" p) (e :: es) [] pos) (tCB (rIs X.K) t) := pe_callB cr_is g (bn "isinstance" (by decide)) boot_isi ha (by decide) (by decide) hs hpl
/-- len of a list, a tuple -/
theorem pe_len (bn : BN X.mg) (ha : PA X (e :: es) t) (g : Gl X "len" := by rfl) (hs : starEach (e :: es) X.env = (false, eval e X.env) :: starEach es X.env := by rfl) (hpl : (backTo pos (starEach es X.env)).any (·.1) = false := by rfl) :
    PE X (.Call (.Name "len" p) (e :: es) [] pos) (tCB (fun xs H Q => ∃ p ys, xs = [.ref p] ∧ (SqL X.K H p ys ∨ SqT X.K H p ys) ∧ Q (.int ys.length) H) t) := pe_callB call_len_seq g (bn "len" (by decide)) boot_bLen ha (by decide) (by decide) hs hpl
end
section
variable {P : Program} {w : World} {K : PySem.W.Frag} {mg : Str → Option Value} {base : Heap}
/-! ### is_value -/
abbrev sIsValue : Stmt := top 11
theorem scIsValue : FnScope ["number", "size"] ["number", "size"] (defScope sIsValue) := ⟨rfl, rfl, rfl, by decide +kernel, rfl, by decide +kernel, by decide +kernel⟩
def spIsValue : Sp := fun vs H Q _ => ∃ i n : Int, vs = [.int i, .int n] ∧ Q (.bl (decide (0 ≤ i) && decide (i < n))) H
theorem isValue_ok {f : Addr} {fd : FuncData} (F : Fun K "is_value" "is_value" sIsValue f fd) (bn : BN mg) : FnOk P w K mg base CX0 1 f fd ["number", "size"] spIsValue := by
  refine F.ok scIsValue (fun vs H Q E h => ?_) (fun cdv A outer s H vs Q E hr h => ?_)
  · obtain ⟨i, n, rfl, _⟩ := h
    rfl
  · obtain ⟨i, n, rfl, k⟩ := h
    refine ⟨_, pss_one (ps_ret (pe_and (pe_is bn (pa_cons (pv 0) (pa_cons (pe_bltn (v := .ty "int") (by rfl) (bn "int" (by decide)) boot_tInt rfl) pa_nil)))
      (pe_and (pe_not (pe_is bn (pa_cons (pv 0) (pa_cons (pe_bltn (v := .ty "bool") (by rfl) (bn "bool" (by decide)) boot_tBool rfl) pa_nil))))
        (pe_one (pe_chain op_le op_lt pe_int (pv 0) (pv 1)))))), ?_⟩
    refine ⟨_, rfl, _, _, true, rfl, .base (.int i), kit_ty (by decide +kernel), _, rfl, iteT ?_⟩
    refine ⟨_, rfl, _, _, false, rfl, .base (.int i), kit_ty (by decide +kernel), _, rfl, _, rfl, iteT ?_⟩
    refine ⟨_, rfl, _, _, rfl, rfl, _, rfl, ite2 (fun h => ⟨_, rfl, _, _, rfl, rfl, ?_⟩) fun h => ?_⟩
    · rw [h] at k
      exact k
    · rw [Bool.eq_false_iff.mpr h] at k
      exact k
/-! ### is_size -/
abbrev sIsSize : Stmt := top 20
theorem scIsSize : FnScope ["size"] ["size"] (defScope sIsSize) := ⟨rfl, rfl, rfl, by decide +kernel, rfl, by decide +kernel, by decide +kernel⟩
def spIsSize : Sp := fun vs H Q _ => ∃ n : Int, vs = [.int n] ∧ Q (.bl (inV (.int n) [.int 2, .int 3])) H
/-- the module's tuple of sizes -/
structure SZ (K : PySem.W.Frag) (mg : Str → Option Value) (aS : Addr) : Prop where
  mgS : mg "SIZES" = some (.ref aS)
  sq : ∀ H, SqT K H aS [.int 2, .int 3]
theorem isSize_ok {f aS : Addr} {fd : FuncData} (F : Fun K "is_size" "is_size" sIsSize f fd) (bn : BN mg) (Z : SZ K mg aS) : FnOk P w K mg base CX0 1 f fd ["size"] spIsSize := by
  refine F.ok scIsSize (fun vs H Q E h => ?_) (fun cdv A outer s H vs Q E hr h => ?_)
  · obtain ⟨n, rfl, _⟩ := h
    rfl
  · obtain ⟨n, rfl, k⟩ := h
    refine ⟨_, pss_one (ps_ret (pe_and (pe_is bn (pa_cons (pv 0) (pa_cons (pe_bltn (v := .ty "int") (by rfl) (bn "int" (by decide)) boot_tInt rfl) pa_nil)))
      (pe_and (pe_not (pe_is bn (pa_cons (pv 0) (pa_cons (pe_bltn (v := .ty "bool") (by rfl) (bn "bool" (by decide)) boot_tBool rfl) pa_nil))))
        (pe_one (pe_cmpR op_in_seq (pv 0) (pe_glob (v := .ref aS) (by rfl) Z.mgS rfl) rfl))))), ?_⟩
    refine ⟨_, rfl, _, _, true, rfl, .base (.int n), kit_ty (by decide +kernel), _, rfl, iteT ?_⟩
    refine ⟨_, rfl, _, _, false, rfl, .base (.int n), kit_ty (by decide +kernel), _, rfl, _, rfl, iteT ?_⟩
    exact ⟨_, rfl, aS, _, rfl, .inr (Z.sq H), rfl, rfl, k⟩
/-! ### is_name -/
abbrev sIsName : Stmt := top 12
theorem scIsName : FnScope ["name"] ["name"] (defScope sIsName) := ⟨rfl, rfl, rfl, by decide +kernel, rfl, by decide +kernel, by decide +kernel⟩
def okName (x : Str) : Bool := decide (x.length ≤ 8) && Txt.isascii x && Txt.isalpha x && Txt.islower x
def spIsName : Sp := fun vs H Q _ => ∃ x : Str, vs = [.str x] ∧ okName x = true ∧ Q (.bl true) H
theorem isName_ok {f : Addr} {fd : FuncData} (F : Fun K "is_name" "is_name" sIsName f fd) (bn : BN mg) {tk : Tok} (mgL : mg "LONGEST" = some (.int 8 tk)) : FnOk P w K mg base CX0 1 f fd ["name"] spIsName := by
  refine F.ok scIsName (fun vs H Q E h => ?_) (fun cdv A outer s H vs Q E hr h => ?_)
  · obtain ⟨x, rfl, _⟩ := h
    rfl
  · obtain ⟨x, rfl, ok, k⟩ := h
    have hl : x.length ≤ 8 ∧ Txt.isascii x = true ∧ Txt.isalpha x = true ∧ Txt.islower x = true := by
      unfold okName at ok
      simp only [Bool.and_eq_true, decide_eq_true_eq] at ok
      exact ⟨ok.1.1.1, ok.1.1.2, ok.1.2, ok.2⟩
    refine ⟨_, pss_cons (ps_if (PW.pt (pw_or (pt_not (pt_val (pe_is bn (pa_cons (pv 0) (pa_cons (pe_bltn (v := .ty "str") (by rfl) (bn "str" (by decide)) boot_tStr rfl) pa_nil)))))
        (pw_or1 (pt_cmpR op_gt (pe_callB call_len_str (by rfl) (bn "len" (by decide)) boot_bLen (pa_cons (pv 0) pa_nil)) (pe_glob (v := .int 8) (by rfl) mgL ⟨tk, rfl⟩) rfl)))) (pss_one (ps_ret pe_bl)) pss_nil)
      (pss_one (ps_ret (pe_and (pe_m0 PySem.F.slot_str_isascii PySem.F.type_str_isascii mt_isascii (pv 0)) (pe_and (pe_m0 PySem.F.slot_str_isalpha PySem.F.type_str_isalpha mt_isalpha (pv 0)) (pe_one (pe_m0 PySem.F.slot_str_islower PySem.F.type_str_islower mt_islower (pv 0))))))), ?_⟩
    refine ⟨_, rfl, _, _, true, rfl, .base (.str x), kit_ty (by decide +kernel), _, rfl, ?_⟩
    refine iteF ⟨_, rfl, x, rfl, Nat.le_of_lt (small1000 (Nat.le_trans hl.1 (by decide))), _, _, rfl, rfl, _, rfl, ?_⟩
    rw [decide_eq_false (by omega : ¬ (8 : Int) < (x.length : Int))]
    refine iteF ⟨_, rfl, ⟨x, rfl⟩, x, rfl, rfl, trivial, _, rfl, ?_⟩
    rw [hl.2.1]
    refine iteT ⟨_, rfl, ⟨x, rfl⟩, x, rfl, rfl, trivial, _, rfl, ?_⟩
    rw [hl.2.2.1]
    refine iteT ⟨_, rfl, ⟨x, rfl⟩, x, rfl, rfl, trivial, ?_⟩
    rw [hl.2.2.2]
    exact k
/-! ### getters of Expression -/
abbrev sESize : Stmt := inClass (top 13) 2
abbrev sECalls : Stmt := inClass (top 13) 3
theorem scESize : FnScope ["self"] ["self"] (defScope sESize) := ⟨rfl, rfl, rfl, by decide +kernel, rfl, by decide +kernel, by decide +kernel⟩
theorem scECalls : FnScope ["self"] ["self"] (defScope sECalls) := ⟨rfl, rfl, rfl, by decide +kernel, rfl, by decide +kernel, by decide +kernel⟩
def spGet (K : PySem.W.Frag) (f : Str) : Sp := fun vs H Q _ => ∃ a C dx fs v, vs = [.ref a] ∧ H a = some (.ins C dx fs) ∧ Cls K C ∧ NoAttr K C f ∧ fs.lookup f = some v ∧ Q v H
/-- a new list of what a tuple holds -/
def spGetL (K : PySem.W.Frag) (f : Str) : Sp := fun vs H Q _ => ∃ a C dx fs ct ys, vs = [.ref a] ∧ H a = some (.ins C dx fs) ∧ Cls K C ∧ NoAttr K C f ∧ fs.lookup f = some (.ref ct) ∧ SqT K H ct ys ∧ ∀ l, H l = none → Q (.ref l) (upd H l (.lst ys))
theorem eSize_ok {f : Addr} {fd : FuncData} (F : Fun K "size" "Expression.size" sESize f fd) : FnOk P w K mg base CX0 1 f fd ["self"] (spGet K "_size") := by
  refine F.ok scESize (fun vs H Q E h => ?_) (fun cdv A outer s H vs Q E hr h => ?_)
  · obtain ⟨a, C, dx, fs, v, rfl, _⟩ := h
    rfl
  · obtain ⟨a, C, dx, fs, v, rfl, h1, h2, h3, h4, k⟩ := h
    exact ⟨_, pss_one (ps_ret (pe_fld (pv 0) rfl)), _, rfl, a, C, dx, fs, v, rfl, h1, h2, h3, h4, k⟩
theorem eCalls_ok {f : Addr} {fd : FuncData} (F : Fun K "calls" "Expression.calls" sECalls f fd) (bn : BN mg) : FnOk P w K mg base CX0 1 f fd ["self"] (spGetL K "_calls") := by
  refine F.ok scECalls (fun vs H Q E h => ?_) (fun cdv A outer s H vs Q E hr h => ?_)
  · obtain ⟨a, C, dx, fs, ct, ys, rfl, _⟩ := h
    rfl
  · obtain ⟨a, C, dx, fs, ct, ys, rfl, h1, h2, h3, h4, h5, k⟩ := h
    refine ⟨_, pss_one (ps_ret (pe_callTy call_list_of (by rfl) (bn "list" (by decide)) boot_tList (pa_cons (pe_fld (pv 0) rfl) pa_nil))), _, rfl, a, C, dx, fs, _, rfl, h1, h2, h3, h4, ct, ys, rfl, .inr h5, k⟩
end
end MR
end

section
set_option Elab.async false
set_option linter.all false
set_option maxRecDepth 100000
set_option maxHeartbeats 1000000
/-! Expression.__init__. -/
namespace MR
open PySem PySem.Spec PyProof.Rows L2
section
variable {P : Program} {w : World} {K : PySem.W.Frag} {mg : Str → Option Value} {base : Heap} {c : Kd → Addr} {cE : Addr}
abbrev sEInit : Stmt := inClass (top 13) 1
theorem scEInit : FnScope ["self", "parts", "names", "found", "part"] ["self", "parts", "names"] (defScope sEInit) := ⟨rfl, rfl, rfl, by decide +kernel, rfl, by decide +kernel, by decide +kernel⟩
def spEInit (c : Kd → Addr) : Sp := fun vs H Q _ => ∃ a k dx pp nn us ns ts, vs = [.ref a, .ref pp, .ref nn] ∧ H a = some (.ins (c k) dx []) ∧ H pp = some (.tup us) ∧ H nn = some (.tup (ns.map V.str)) ∧ EEs c H ts us ∧ T.sizes ts ≤ 59 ∧ ns.length ≤ 1 ∧
  ∀ H' ct cs, (∀ b o, b ≠ a → H b = some o → H' b = some o) → H' a = some (.ins (c k) dx (flds pp (1 + T.sizes ts) ct [])) → H' ct = some (.tup (cs.map V.str)) → CallsOf (ns ++ T.namesL ts) cs → Q .non H'
/-- the facts of Expression -/
structure EF (K : PySem.W.Frag) (mg : Str → Option Value) (c : Kd → Addr) (cE pS gS pC gC : Addr) (fdS fdC : FuncData) : Prop where
  cf : CF K c cE
  mgE : mg "Expression" = some (.ref cE)
  most : ∃ mc, ClX.CRead K cE mc ∧ ∃ tk, ClX.CVal K cE mc "MOST" (.int 60) (.int 60 tk)
  pS : ∀ k, PropOf K (c k) "size" pS gS
  pC : ∀ k, PropOf K (c k) "calls" pC gC
  fS : Fun K "size" "Expression.size" sESize gS fdS
  fC : Fun K "calls" "Expression.calls" sECalls gC fdC
theorem ints_all : ∀ (ys : List V), (∀ (i : Nat) (y : V), ys[i]? = some y → ∃ z : Int, y = .int z) → ∃ zs : List Int, ys = zs.map V.int ∧ True
  | [], _ => ⟨[], rfl, trivial⟩
  | y :: r, h => by
    obtain ⟨z, rfl⟩ := h 0 y (by simp)
    obtain ⟨zs, rfl, _⟩ := ints_all r fun i y hy => h (i + 1) y (by simpa using hy)
    exact ⟨z :: zs, rfl, trivial⟩
theorem EE.view {H : Hp} {t : T} {v : V} (h : EE c H t v) : ∃ a C dx pt ct o, v = .ref a ∧ C = c t.tag.kd ∧ H a = some (.ins C dx (flds pt t.size ct o)) ∧ ∃ cs us qt, o = t.tag.own us qt ∧ H pt = some (.tup us) ∧ H ct = some (.tup (cs.map V.str)) ∧ CallsOf t.names cs ∧ t.tag.arity t.kids.length ∧ (t.tag = .choose → H qt = some (.tup us.tail)) ∧ EEs c H t.kids us := by
  cases t with
  | mk g ks =>
    rw [EE] at h
    obtain ⟨a, dx, pt, ct, cs, us, qt, h1, h2, h3, h4, h5, h6, h7, h8⟩ := h
    exact ⟨a, _, dx, pt, ct, _, h1, rfl, h2, cs, us, qt, rfl, h3, h4, h5, h6, h7, h8⟩
theorem sizes_of {H : Hp} : ∀ {ts : List T} {us : List V} {zs : List Int}, EEs c H ts us → zs.length = us.length → (∀ (i : Nat) (z : Int) (t : T), zs[i]? = some z → ts[i]? = some t → z = T.size t) → zs.sum = T.sizes ts
  | [], us, zs, h, hl, hz => by
    have := EEs.len h
    have : zs = [] := List.length_eq_zero_iff.mp (by rw [hl, this]; rfl)
    rw [this, T.sizes]
    rfl
  | t :: r, us, zs, h, hl, hz => by
    rw [EEs] at h
    obtain ⟨u, s, rfl, _, h3⟩ := h
    cases zs with
    | nil => simp at hl
    | cons z zr =>
      have e := sizes_of h3 (zs := zr) (by simpa using hl) fun i y t' h1 h2 => hz (i + 1) y t' (by simpa using h1) (by simpa using h2)
      have e0 := hz 0 z t (by simp) (by simp)
      rw [List.sum_cons, e, e0, T.sizes]
      omega
theorem mem_namesL : ∀ {ts : List T} {k : Str}, k ∈ T.namesL ts ↔ ∃ (i : Nat) (t : T), ts[i]? = some t ∧ k ∈ T.names t
  | [], k => by rw [T.namesL]; simp
  | t :: r, k => by
    rw [T.namesL, List.mem_append, mem_namesL (ts := r)]
    constructor
    · rintro (h | ⟨i, t', h1, h2⟩)
      · exact ⟨0, t, by simp, h⟩
      · exact ⟨i + 1, t', by simpa using h1, h2⟩
    · rintro ⟨i, t', h1, h2⟩
      cases i with
      | zero => simp at h1; subst h1; exact .inl h2
      | succ i => exact .inr ⟨i, t', by simpa using h1, h2⟩
/-- what the walk over the parts has found -/
structure FoundI (H0 : Hp) (l : Addr) (ns : List Str) (ts : List T) (i : Nat) (H : Hp) : Prop where
  ex : ∃ acc : List Str, H l = some (.lst (acc.map V.str)) ∧ acc.length ≤ ns.length + T.sizes (ts.take i) ∧ ∀ k, k ∈ acc ↔ k ∈ ns ++ T.namesL (ts.take i)
  sub : Ext H0 H
theorem sizes_take : ∀ {ts : List T} {i : Nat} {t : T}, ts[i]? = some t → T.sizes (ts.take (i + 1)) = T.sizes (ts.take i) + T.size t
  | [], _, _, h => by simp at h
  | t :: r, 0, t', h => by
    simp at h
    subst h
    simp [T.sizes]
  | t :: r, i + 1, t', h => by
    rw [List.take_succ_cons, List.take_succ_cons, T.sizes, T.sizes, sizes_take (by simpa using h)]
    omega
theorem sizes_take_le : ∀ (ts : List T) (i : Nat), T.sizes (ts.take i) ≤ T.sizes ts
  | [], i => by simp
  | t :: r, 0 => by simp [T.sizes]
  | t :: r, i + 1 => by
    rw [List.take_succ_cons, T.sizes, T.sizes]
    have := sizes_take_le r i
    omega
theorem namesL_take {ts : List T} {i : Nat} {t : T} (h : ts[i]? = some t) (k : Str) : k ∈ T.namesL (ts.take (i + 1)) ↔ k ∈ T.namesL (ts.take i) ∨ k ∈ T.names t := by
  rw [List.take_add_one, h]
  show k ∈ T.namesL (ts.take i ++ [t]) ↔ _
  have app : ∀ (a : List T) (b : T), k ∈ T.namesL (a ++ [b]) ↔ k ∈ T.namesL a ∨ k ∈ T.names b := fun a b => by
    induction a with
    | nil => simp [T.namesL]
    | cons x a ih => rw [List.cons_append, T.namesL, T.namesL, List.mem_append, List.mem_append, ih, or_assoc]
  exact app _ _
theorem eInit_ok {pS gS pC gC f : Addr} {fdS fdC fd : FuncData} (F : Fun K "__init__" "Expression.__init__" sEInit f fd) (bn : BN mg) (Z : EF K mg c cE pS gS pC gC fdS fdC) : FnOk P w K mg base CX0 3 f fd ["self", "parts", "names"] (spEInit c) := by
  refine F.ok scEInit (fun vs H Q E h => ?_) (fun cdv A outer s H vs Q E hr h => ?_)
  · obtain ⟨a, k, dx, pp, nn, us, ns, ts, rfl, _⟩ := h
    rfl
  · obtain ⟨a, k, dx, pp, nn, us, ns, ts, rfl, ha, hpp, hnn, hE, hz, hns, q⟩ := h
    obtain ⟨mc, hcr, tk60, hcv⟩ := Z.most
    have GS : FnOk P w K mg base CX0 1 gS fdS ["self"] (spGet K "_size") := eSize_ok Z.fS
    have GC : FnOk P w K mg base CX0 1 gC fdC ["self"] (spGetL K "_calls") := eCalls_ok Z.fC bn
    have bS := Z.fS.binds (ps := ["self"]) fun _ _ _ _ _ _ us hl => match us, hl with | [_], _ => rfl
    have bC := Z.fC.binds (ps := ["self"]) fun _ _ _ _ _ _ us hl => match us, hl with | [_], _ => rfl
    have hr2 : Room 2 _ := hr
    refine ⟨_, pss_cons (ps_fld (pv 0) (pe_callTy call_tuple_of (by rfl) (bn "tuple" (by decide)) boot_tTuple (pa_cons (pv 1) pa_nil)) rfl)
      (pss_cons (ps_fld (pv 0) (pe_op op_add pe_int (pe_callB (cr_sum rfl) (by rfl) (bn "sum" (by decide)) boot_bSum (pa_cons
          (pe_lc (own := [("part", 4)]) (g := gName 4) (tt := tYes) (te := tPropD K pS gS "size" (spGet K "_size") (tVar 4)) rfl scEInit.nd (pi_tup (pe_fld (pv 0) rfl)) (blkOk_by (N := ["self", "parts", "names", "found", "part"]) (sc := defScope sEInit) (by decide +kernel))
            (fun _ _ _ _ _ => pg_name (i := 4) scEInit.nd rfl (.inl rfl)) (fun _ _ _ _ _ => pts_nil) (fun _ _ _ _ _ => pe_propD (p := pS) (pv 4) GS hr2 bS)) pa_nil))) rfl)
      (pss_cons (ps_if (pt_cmpR op_gt (pe_fld (pv 0) rfl) (ClX.pe_cval (pe_glob (v := .ref cE) (by rfl) Z.mgE rfl)) rfl) (pss_one ps_never) pss_nil)
      (pss_cons (ps_set (i := 3) scEInit.nd rfl (.inl rfl) (pe_callTy call_list_of (by rfl) (bn "list" (by decide)) boot_tList (pa_cons (pv 2) pa_nil)))
      (pss_cons (ps_for PassesOwn.never rfl (pi_tup (pe_fld (pv 0) rfl)) (pg_name (i := 4) scEInit.nd rfl (.inl rfl))
        (pss_one (ps_expr (pe_bm PySem.F.plainAttrs_list PySem.F.slot_list_extend PySem.F.type_list_extend mt_extend (pv 3) (pa_cons (pe_propD (p := pC) (pv 4) GC hr2 bC) pa_nil)))))
      (pss_one (ps_fld (pv 0) (pe_callTy call_tuple_of (by rfl) (bn "tuple" (by decide)) boot_tTuple (pa_cons (pe_callB (cr_sortedSO rfl) (by rfl) (bn "sorted" (by decide)) boot_bSorted (pa_cons
          (pe_callTy (cr_setS rfl) (by rfl) (bn "set" (by decide)) boot_tSet (pa_cons (pv 3) pa_nil)) pa_nil)) pa_nil)) rfl)))))), ?_⟩
    have hlu : us.length = ts.length := EEs.len hE
    have hlen : ts.length ≤ 59 := by
      have : ∀ l : List T, l.length ≤ T.sizes l := fun l => by
        induction l with
        | nil => simp
        | cons t r ih => rw [T.sizes, List.length_cons]; have := T.size_pos t; omega
      exact Nat.le_trans (this ts) hz
    have hap : ∀ {b : Addr} {xs : List V}, H b = some (.tup xs) → b ≠ a := fun hb => ne_of hb ha (by intro z; cases z)
    -- self._parts = tuple(parts)
    refine ⟨_, rfl, pp, us, rfl, .inr ⟨.inl (.inl hpp), ?_⟩⟩
    refine ⟨_, rfl, a, c k, dx, [], rfl, ha, Z.cf.cls k, Z.cf.na k _ (by decide), by decide, ?_⟩
    -- self._size = 1 + sum(..)
    have h1a : (upd H a (.ins (c k) dx (putF "_parts" (.ref pp) []))) a = some (.ins (c k) dx [("_parts", .ref pp)]) := upd_same
    have keep1 : ∀ b o, b ≠ a → H b = some o → (upd H a (.ins (c k) dx (putF "_parts" (.ref pp) []))) b = some o := fun b o hb e => by rw [upd_ne hb]; exact e
    generalize (upd H a (.ins (c k) dx (putF "_parts" (.ref pp) []))) = H1 at h1a keep1 ⊢
    have hE1 : EEs c H1 ts us := EEs.but ha (fun b o hb _ e => keep1 b o hb e) hE
    have hpp1 : H1 pp = some (.tup us) := keep1 _ _ (hap hpp) hpp
    have hnn1 : H1 nn = some (.tup (ns.map V.str)) := keep1 _ _ (hap hnn) hnn
    refine ⟨_, rfl, a, c k, dx, _, .ref pp, rfl, h1a, Z.cf.cls k, Z.cf.na k _ (by decide), rfl, pp, rfl, ⟨us, .inl (.inl hpp1)⟩, fun D hD => ?_⟩
    refine lcm_tup (xs := us) (R := fun i y _ => ∃ t : T, ts[i]? = some t ∧ y = .int (T.size t)) (fun _ _ _ _ _ h => h) (.inl (.inl hpp1)) hD (by rw [hlu, sizeLine_eq]; omega) ?hw (fun i x H2 Qk e2 hx kk => ?_) (fun H2 ys e2 hD2 hys hR => ?_)
    case hw => intro x; rfl
    · have hi : i < ts.length := by rw [← hlu]; exact (List.getElem?_eq_some_iff.mp hx).1
      obtain ⟨u, hu, hEu⟩ := EEs.get hE1 (List.getElem?_eq_getElem hi)
      rw [hx] at hu
      cases hu
      obtain ⟨a', C', dx', pt', ct', o', hx', hc', ha', _⟩ := EE.view (EE.fx (Fx.of e2) hEu)
      subst hx' hc'
      exact ⟨_, rfl, a', _, dx', _, rfl, ha', Z.cf.cls _, Z.pS _, a', _, dx', _, _, rfl, ha', Z.cf.cls _, Z.cf.na _ _ (by decide), look_size, kk _ _ Ext.rfl' ⟨ts[i], List.getElem?_eq_getElem hi, rfl⟩⟩
    · obtain ⟨zs, hzs, hzv⟩ := ints_all ys fun i y hy => let ⟨t, _, e⟩ := hR i y hy; ⟨_, e⟩
      subst hzs
      have hsum : zs.sum = T.sizes ts := sizes_of hE1 (by simpa using hys) fun i z t h1 h2 => by
        obtain ⟨t', h3, h4⟩ := hR i (.int z) (by rw [List.getElem?_map, h1]; rfl)
        rw [h2] at h3
        cases h3
        cases h4
        rfl
      have h2a := e2 _ _ h1a
      refine ⟨D, zs, rfl, .inl (.inl hD2), 1, zs.sum, rfl, rfl, _, rfl, a, c k, dx, _, rfl, h2a, Z.cf.cls k, Z.cf.na k _ (by decide), (by show 1 < 1000; decide), ?_⟩
      rw [hsum]
      -- if self._size > Expression.MOST
      have h3a : (upd H2 a (.ins (c k) dx (putF "_size" (.int (1 + T.sizes ts)) [("_parts", .ref pp)]))) a = some (.ins (c k) dx [("_parts", .ref pp), ("_size", .int (1 + T.sizes ts))]) := upd_same
      have keep3 : ∀ b o, b ≠ a → H b = some o → (upd H2 a (.ins (c k) dx (putF "_size" (.int (1 + T.sizes ts)) [("_parts", .ref pp)]))) b = some o := fun b o hb e => by rw [upd_ne hb]; exact e2 _ _ (keep1 b o hb e)
      generalize (upd H2 a (.ins (c k) dx (putF "_size" (.int (1 + T.sizes ts)) [("_parts", .ref pp)]))) = H3 at h3a keep3 ⊢
      refine ⟨_, rfl, a, c k, dx, _, _, rfl, h3a, Z.cf.cls k, Z.cf.na k _ (by decide), rfl, cE, mc, .int 60, _, rfl, hcr, hcv, _, _, rfl, rfl, _, rfl, ?_⟩
      rw [decide_eq_false (by omega : ¬ (60 : Int) < 1 + (T.sizes ts : Int))]
      refine iteF ?_
      -- found = list(names)
      have hnn3 : H3 nn = some (.tup (ns.map V.str)) := keep3 _ _ (hap hnn) hnn
      have hpp3 : H3 pp = some (.tup us) := keep3 _ _ (hap hpp) hpp
      have hE3 : EEs c H3 ts us := EEs.but ha (fun b o hb _ e => keep3 b o hb e) hE
      refine ⟨_, rfl, nn, _, rfl, .inr (.inl (.inl hnn3)), fun l hl => ?_⟩
      have h4a : (upd H3 l (.lst (ns.map V.str))) a = some (.ins (c k) dx [("_parts", .ref pp), ("_size", .int (1 + T.sizes ts))]) := Ext.upd hl _ _ h3a
      have h4p : (upd H3 l (.lst (ns.map V.str))) pp = some (.tup us) := Ext.upd hl _ _ hpp3
      refine ⟨_, rfl, a, c k, dx, _, .ref pp, rfl, h4a, Z.cf.cls k, Z.cf.na k _ (by decide), rfl, pp, rfl, ⟨us, .inl (.inl h4p)⟩,
        for_tup (xs := us) (fun i σ H' => ∃ v, σ = [some (.ref a), some (.ref pp), some (.ref nn), some (.ref l), v] ∧ FoundI H3 l ns ts i H') ⟨none, rfl, ⟨ns, upd_same, by simp, by simp [T.namesL]⟩, Ext.upd hl⟩
          (fun i σ H' _ ⟨_, _, I⟩ => .inl (.inl (I.sub _ _ hpp3))) ?_ ?_⟩
      · rintro i x σ H' hx ⟨v, rfl, I⟩
        have hi : i < ts.length := by rw [← hlu]; exact (List.getElem?_eq_some_iff.mp hx).1
        obtain ⟨u, hu, hEu⟩ := EEs.get hE3 (List.getElem?_eq_getElem hi)
        rw [hx] at hu
        cases hu
        obtain ⟨a', C', dx', pt', ct', o', hx', hc', ha', cs', us', qt', _, _, hct', hcs', _⟩ := EE.view (EE.fx (Fx.of I.sub) hEu)
        subst hx' hc'
        obtain ⟨acc, hacc, hal, ham⟩ := I.ex
        refine ⟨_, rfl, .inl ⟨rfl, _, .inl (.inl hacc)⟩, _, rfl, a', _, dx', _, rfl, ha', Z.cf.cls _, Z.pC _, a', _, dx', _, ct', _, rfl, ha', Z.cf.cls _, Z.cf.na _ _ (by decide), look_calls, .inl (.inl hct'), fun l2 hl2 => ?_⟩
        have hcl : cs'.length ≤ T.size ts[i] := Nat.le_trans hcs'.le (T.names_le _)
        have hst := sizes_take (List.getElem?_eq_getElem hi)
        have hsl := sizes_take_le ts (i + 1)
        refine ⟨l, l2, acc.map V.str, cs'.map V.str, rfl, rfl, Ext.upd hl2 _ _ hacc, upd_same, by rw [List.length_map, List.length_map, sizeLine_eq]; omega, some (.ref a'), rfl, ⟨acc ++ cs', by rw [upd_same, List.map_append], by rw [List.length_append, hst]; omega, fun k => ?_⟩, fun b o hb => ?_⟩
        · have h1 := namesL_take (List.getElem?_eq_getElem hi) k
          have h2 := ham k
          have h3 := hcs'.mem k
          simp only [List.mem_append] at h2 ⊢
          rw [h1, h2, h3, or_assoc]
        · rw [upd_ne (ne_of_none hb hl)]
          exact Ext.upd hl2 _ _ (I.sub _ _ hb)
      · rintro σ H' ⟨v, rfl, I⟩
        obtain ⟨acc, hacc, hal, ham⟩ := I.ex
        rw [hlu, List.take_length] at hal ham
        refine ⟨_, rfl, l, acc, rfl, .inl (.inl hacc), by omega, fun s1 L hs1 hnd hmem => ⟨s1, L, rfl, upd_same, fun ys p pm hsr hp => ⟨p, ys.map V.str, rfl, .inl ⟨.inl (.inl upd_same), fun q1 hq1 => ?_⟩⟩⟩⟩
        have e5 : Ext H3 (upd (upd (upd H' s1 (SetSO P w s1 L)) p (.lst (ys.map V.str))) q1 (.tup (ys.map V.str))) := ((I.sub.upd' hs1).upd' hp).upd' hq1
        have h5q : (upd (upd (upd H' s1 (SetSO P w s1 L)) p (.lst (ys.map V.str))) q1 (.tup (ys.map V.str))) q1 = some (.tup (ys.map V.str)) := upd_same
        have h3q : H3 q1 = none := Same.free (fun b o e => ((I.sub.upd' hs1).upd' hp) b o e) hq1
        have h5a := e5 _ _ h3a
        refine ⟨_, rfl, a, c k, dx, _, rfl, h5a, Z.cf.cls k, Z.cf.na k _ (by decide), (by show 2 < 1000; decide), ?_⟩
        have hqa : q1 ≠ a := fun z => by rw [z, h3a] at h3q; cases h3q
        refine q _ q1 ys (fun b o hb e => ?_) upd_same ?_ ⟨pm.nodup_iff.mpr hnd, hsr, fun z => ?_⟩
        · rw [upd_ne hb]
          exact e5 _ _ (keep3 b o hb e)
        · rw [upd_ne hqa]
          exact h5q
        · rw [pm.mem_iff, hmem z, ham z]
end
end MR
end

section
set_option Elab.async false
set_option linter.all false
set_option maxRecDepth 100000
set_option maxHeartbeats 1000000
/-! The __init__ of the four classes. -/
namespace MR
open PySem PySem.Spec PyProof.Rows L2
/-- a method of the text that sees its class D through the cell at cc -/
structure FunS (P : Program) (K : PySem.W.Frag) (x qual : Str) (st : Stmt) (f : Addr) (fd : FuncData) (cc D : Addr) : Prop where
  ex : ∃ (oc : Value) (od : Option Addr) (kV doc pm : Value) (an : Option Addr) (cda : Addr) (ct : Value) (osl : Array (Option Value)),
    fd = PySem.W.ksFn x qual (defArgs st) (defBody st) (defScope st) .none kV doc pm an (.ref cda) ct cc ∧ K.lookup f = some ⟨oc, od, .func fd, osl⟩ ∧ PySem.W.codeIn K (.ref cda) qual = true ∧
    ∃ (ccl : Value) (cdd : Option Addr) (ccs : Array (Option Value)) (vs : Array Value) (file : Str) (tf : Tok), K.lookup cda = some ⟨ccl, cdd, .fields vs, ccs⟩ ∧ vs[2]? = some (.str file tf) ∧ ((P.main.file : Str) == file) = true
  cell : ∃ (cl : Value) (cld : Option Addr) (csl : Array (Option Value)), K.lookup cc = some ⟨cl, cld, .cell (some (.ref D)), csl⟩
  top : (P.main.scope.names.lookup ("super" : Str)).isSome = false
  isD : ∃ cdD, PySem.W.clsIn K D = some cdD
  opq : PySem.W.nsIn K cStatics "thirdparty.any" = some none
section
variable {P : Program} {w : World} {K : PySem.W.Frag} {mg : Str → Option Value} {base : Heap}
theorem FunS.ok {x qual : Str} {st : Stmt} {f cc D : Addr} {fd : FuncData} {N ps : List Str} {k : Nat} {sp : Sp} {slf : Str} (F : FunS P K x qual st f fd cc D) (bn : BN mg) (S : SupScope N ps (defScope st))
    (hs : (defScope st).names.lookup ("super" : Str) = some .globalImplicit) (hc : (defScope st).names.lookup ("__class__" : Str) = some .free) (ha : ∃ ar, ((defArgs st).posonlyargs ++ (defArgs st).args).head? = some ar ∧ ar.arg = slf)
    (len : ∀ vs H Q E, sp vs H Q E → vs.length = ps.length)
    (hbody : ∀ (cdv : Value) (A : Around) (outer : List Env) (s : Shared) (H : Hp) (vs : List V) (Q : VK) (E : XK), Room k (A.deeper (PySem.W.ksEnv qual (defScope st) s.heap.objs.size f cdv cc)) →
      SupAt (cxS CX0 P w K mg base N qual (defScope st) f cdv cc A outer s H E).nox (.func (defBody st) (PySem.W.ksEnv qual (defScope st) s.heap.objs.size f cdv cc)) D slf → sp vs H Q E →
      ∃ t, PSsA (cxS CX0 P w K mg base N qual (defScope st) f cdv cc A outer s H E).nox (.func (defBody st) (PySem.W.ksEnv qual (defScope st) s.heap.objs.size f cdv cc)) (defBody st) t ∧ t { nx := fun _ H' => Q .non H', rt := Q } (start N vs) H) : FnOk P w K mg base CX0 (k + 1) f fd ps sp := by
  obtain ⟨oc, od, kV, doc, pm, an, cda, ct, osl, rfl, lk, hcd, ccl, cdd, ccs, vs0, file, tf, h1, h2, h3⟩ := F.ex
  obtain ⟨cl, cld, csl, hcell⟩ := F.cell
  obtain ⟨ar, ha1, ha2⟩ := ha
  refine fn_sup lk hcd hcell S len fun A outer s H vs Q E hr hsp => ?_
  obtain ⟨t, h, q⟩ := hbody (.ref cda) A outer s H vs Q E hr ⟨⟨_, rfl⟩, hs, bn "super" (by decide), ⟨cc, cl, cld, csl, rfl, hcell⟩, hc, ⟨f, oc, od, osl, _, ar, rfl, lk, ha1, ha2⟩, ⟨cda, ccl, cdd, ccs, vs0, file, tf, rfl, h1, h2, h3⟩, F.top, F.isD, F.opq⟩ hsp
  exact ⟨t, h.nox, q⟩
theorem FunS.binds {x qual : Str} {st : Stmt} {f cc D : Addr} {fd : FuncData} {ps : List Str} (F : FunS P K x qual st f fd cc D)
    (h : ∀ (kV doc pm : Value) (an : Option Addr) (cdv ct : Value) (us : List Value), us.length = ps.length → bindArgs (PySem.W.ksFn x qual (defArgs st) (defBody st) (defScope st) .none kV doc pm an cdv ct cc) ⟨us, []⟩ = pure (ps.zip us)) : Binds K fd ps [] := by
  obtain ⟨oc, od, kV, doc, pm, an, cda, ct, osl, rfl, lk, hcd, _⟩ := F.ex
  exact .all (h kV doc pm an (.ref cda) ct)
end
theorem putF_flds {pt ct : Addr} {z : Nat} {o : List (Str × V)} {f : Str} {v : V} (h1 : ¬ ("_parts" : Str) = f) (h2 : ¬ ("_size" : Str) = f) (h3 : ¬ ("_calls" : Str) = f) : putF f v (flds pt z ct o) = flds pt z ct (putF f v o) := by
  show (if ("_parts" : Str) = f then _ else (("_parts" : Str), V.ref pt) :: (if ("_size" : Str) = f then _ else (("_size" : Str), V.int z) :: (if ("_calls" : Str) = f then _ else (("_calls" : Str), V.ref ct) :: putF f v o))) = _
  rw [if_neg h1, if_neg h2, if_neg h3]
  rfl
/-- what all four have in common: Expression.__init__, found behind the class by super -/
structure IF (P : Program) (w : World) (K : PySem.W.Frag) (mg : Str → Option Value) (base : Heap) (c : Kd → Addr) (gI : Addr) (fdI : FuncData) : Prop where
  ok : FnOk P w K mg base CX0 3 gI fdI ["self", "parts", "names"] (spEInit c)
  b : Binds K fdI ["self", "parts", "names"] []
  m : ∀ k, SupM K (c k) (c k) "__init__" gI
section
variable {P : Program} {w : World} {K : PySem.W.Frag} {mg : Str → Option Value} {base : Heap} {c : Kd → Addr} {cE gI aS : Addr} {fdI : FuncData}
/-! ### Const -/
abbrev sConstI : Stmt := inClass (top 14) 0
theorem scConstI : SupScope ["self", "number"] ["self", "number"] (defScope sConstI) := ⟨rfl, rfl, rfl, by decide +kernel, rfl, by decide +kernel, by decide +kernel, by decide +kernel⟩
/-- an __init__ that makes the tree t of its object -/
def spMk (c : Kd → Addr) (k : Kd) (pre : List V → Hp → T → Prop) : Sp := fun vs H Q _ => ∃ a dx us t, vs = .ref a :: us ∧ H a = some (.ins (c k) dx []) ∧ pre us H t ∧ ∀ H', (∀ b o, b ≠ a → H b = some o → H' b = some o) → EE c H' t (.ref a) → Q .non H'
def preConst : List V → Hp → T → Prop := fun us _ t => ∃ n : Nat, us = [.int n] ∧ n ≤ 2 ∧ t = .mk (.const n) []
theorem constI_ok {f cc : Addr} {fd : FuncData} (F : FunS P K "__init__" "Const.__init__" sConstI f fd cc (c .const)) (bn : BN mg) (Z : CF K c cE) (I : IF P w K mg base c gI fdI) (S : SZ K mg aS)
    (cV : Cal P w K mg base 1 "is_value" spIsValue) : FnOk P w K mg base CX0 4 f fd ["self", "number"] (spMk c .const preConst) := by
  refine F.ok bn scConstI (slf := "self") (by decide +kernel) (by decide +kernel) ⟨_, rfl, rfl⟩ (fun vs H Q E h => ?_) (fun cdv A outer s H vs Q E hr hsup h => ?_)
  · obtain ⟨a, dx, us, t, rfl, _, ⟨n, rfl, _⟩, _⟩ := h
    rfl
  · obtain ⟨a, dx, us, t, rfl, ha, ⟨n, rfl, hn, rfl⟩, q⟩ := h
    have hr3 : Room 3 _ := hr
    refine ⟨_, pssA_cons (ps_if (pt_not (pt_val (pe_c cV hr3 (by decide) (pa_cons (pv 1) (pa_cons (pe_callB (cr_maxT rfl) (by rfl) (bn "max" (by decide)) boot_bMax (pa_cons (pe_glob (v := .ref aS) (by rfl) S.mgS rfl) pa_nil)) pa_nil))))) (pss_one ps_never) pss_nil)
      (pssA_super (i := 0) (g := gI) hsup rfl rfl I.ok hr3 I.b pass0 (by decide) (pa_cons (pe_tup pa_nil) (pa_cons (pe_tup pa_nil) pa_nil)) (PSsA.of (pss_one (ps_fld (pv 0) (pv 1) rfl)))), ?_⟩
    refine ⟨_, rfl, aS, [2, 3], rfl, S.sq H, by decide, fun m hm hle => ⟨n, m, rfl, _, rfl, ?_⟩⟩
    have hm3 : m = 3 := by
      have := hle 3 (by decide)
      simp at hm
      omega
    subst hm3
    rw [show (decide ((0 : Int) ≤ n) && decide ((n : Int) < 3)) = true from by simp; omega]
    refine iteF ⟨a, c .const, dx, [], rfl, ha, I.m .const, by decide, fun p1 hp1 => ⟨by decide, fun p2 hp2 => ?_⟩⟩
    have e2 : Ext H (upd (upd H p1 (.tup [])) p2 (.tup [])) := (Ext.upd hp1).upd' hp2
    have h12 := Ext.upd (o := .tup []) hp2 p1 _ (upd_same (H := H) (a := p1) (o := .tup []))
    refine ⟨a, .const, dx, p1, p2, [], [], [], rfl, e2 _ _ ha, h12, upd_same, (by rw [EEs]), by rw [T.sizes]; decide, by decide, fun H' ct cs keep ha' hct hcalls => ?_⟩
    refine ⟨_, rfl, _, rfl, a, _, dx, _, rfl, ha', Z.cls _, Z.na _ _ (by decide), (by show 3 < 1000; decide), ?_⟩
    rw [putF_flds (by decide) (by decide) (by decide)]
    have kp : ∀ b o, b ≠ a → H b = some o → (upd H' a (.ins (c .const) dx (flds p1 (1 + T.sizes []) ct (putF "number" (.int n) [])))) b = some o := fun b o hb e => by rw [upd_ne hb]; exact keep b o hb (e2 _ _ e)
    refine q _ kp ?_
    rw [EE]
    have hp1a : p1 ≠ a := fun z => by rw [z, ha] at hp1; cases hp1
    have hcta : ct ≠ a := fun z => by rw [z, ha'] at hct; cases hct
    refine ⟨a, dx, p1, ct, cs, [], p1, rfl, upd_same, by rw [upd_ne hp1a]; exact keep _ _ hp1a h12, by rw [upd_ne hcta]; exact hct, by rw [T.names]; exact hcalls, ⟨rfl, hn⟩, (fun z => by cases z), by rw [EEs]⟩
end
end MR
end

section
set_option Elab.async false
set_option linter.all false
set_option maxRecDepth 100000
set_option maxHeartbeats 1000000
namespace MR
open PySem PySem.Spec PyProof.Rows L2
section
variable {P : Program} {w : World} {K : PySem.W.Frag} {mg : Str → Option Value} {base : Heap} {c : Kd → Addr} {cE gI aS : Addr} {fdI : FuncData}
/-! ### Arg -/
abbrev sArgI : Stmt := inClass (top 15) 0
theorem scArgI : SupScope ["self"] ["self"] (defScope sArgI) := ⟨rfl, rfl, rfl, by decide +kernel, rfl, by decide +kernel, by decide +kernel, by decide +kernel⟩
def preArg : List V → Hp → T → Prop := fun us _ t => us = [] ∧ t = .mk .arg []
theorem argI_ok {f cc : Addr} {fd : FuncData} (F : FunS P K "__init__" "Arg.__init__" sArgI f fd cc (c .arg)) (bn : BN mg) (Z : CF K c cE) (I : IF P w K mg base c gI fdI) : FnOk P w K mg base CX0 4 f fd ["self"] (spMk c .arg preArg) := by
  refine F.ok bn scArgI (slf := "self") (by decide +kernel) (by decide +kernel) ⟨_, rfl, rfl⟩ (fun vs H Q E h => ?_) (fun cdv A outer s H vs Q E hr hsup h => ?_)
  · obtain ⟨a, dx, us, t, rfl, _, ⟨rfl, _⟩, _⟩ := h
    rfl
  · obtain ⟨a, dx, us, t, rfl, ha, ⟨rfl, rfl⟩, q⟩ := h
    have hr3 : Room 3 _ := hr
    refine ⟨_, pssA_super (i := 0) (g := gI) hsup rfl rfl I.ok hr3 I.b pass0 (by decide) (pa_cons (pe_tup pa_nil) (pa_cons (pe_tup pa_nil) pa_nil)) (PSsA.of pss_nil), ?_⟩
    refine ⟨a, c .arg, dx, [], rfl, ha, I.m .arg, by decide, fun p1 hp1 => ⟨by decide, fun p2 hp2 => ?_⟩⟩
    have e2 : Ext H (upd (upd H p1 (.tup [])) p2 (.tup [])) := (Ext.upd hp1).upd' hp2
    have h12 := Ext.upd (o := .tup []) hp2 p1 _ (upd_same (H := H) (a := p1) (o := .tup []))
    refine ⟨a, .arg, dx, p1, p2, [], [], [], rfl, e2 _ _ ha, h12, upd_same, (by rw [EEs]), by rw [T.sizes]; decide, by decide, fun H' ct cs keep ha' hct hcalls => ?_⟩
    refine q H' (fun b o hb e => keep b o hb (e2 _ _ e)) ?_
    rw [EE]
    have hp1a : p1 ≠ a := fun z => by rw [z, ha] at hp1; cases hp1
    exact ⟨a, dx, p1, ct, cs, [], p1, rfl, ha', keep _ _ hp1a h12, hct, by rw [T.names]; exact hcalls, rfl, (fun z => by cases z), by rw [EEs]⟩
/-! ### Call -/
abbrev sCallI : Stmt := inClass (top 16) 0
theorem scCallI : SupScope ["self", "name", "argument"] ["self", "name", "argument"] (defScope sCallI) := ⟨rfl, rfl, rfl, by decide +kernel, rfl, by decide +kernel, by decide +kernel, by decide +kernel⟩
def preCall (c : Kd → Addr) : List V → Hp → T → Prop := fun us H t => ∃ f u t1, us = [.str f, u] ∧ okName f = true ∧ EE c H t1 u ∧ t = .mk (.call f) [t1] ∧ t.size ≤ 60
theorem callI_ok {f cc : Addr} {fd : FuncData} (F : FunS P K "__init__" "Call.__init__" sCallI f fd cc (c .call)) (bn : BN mg) (Z : CF K c cE) (mgE : mg "Expression" = some (.ref cE)) (I : IF P w K mg base c gI fdI)
    (cN : Cal P w K mg base 1 "is_name" spIsName) : FnOk P w K mg base CX0 4 f fd ["self", "name", "argument"] (spMk c .call (preCall c)) := by
  refine F.ok bn scCallI (slf := "self") (by decide +kernel) (by decide +kernel) ⟨_, rfl, rfl⟩ (fun vs H Q E h => ?_) (fun cdv A outer s H vs Q E hr hsup h => ?_)
  · obtain ⟨a, dx, us, t, rfl, _, ⟨f, u, t1, rfl, _⟩, _⟩ := h
    rfl
  · obtain ⟨a, dx, us, t, rfl, ha, ⟨f, u, t1, rfl, hf, hu, rfl, hz⟩, q⟩ := h
    have hr3 : Room 3 _ := hr
    refine ⟨_, pssA_cons (ps_if (pt_not (pt_val (pe_c cN hr3 (by decide) (pa_cons (pv 1) pa_nil)))) (pss_one ps_never) pss_nil)
      (pssA_cons (ps_if (pt_not (pt_val (pe_is bn (pa_cons (pv 2) (pa_cons (pe_glob (v := .ref cE) (by rfl) mgE rfl) pa_nil))))) (pss_one ps_never) pss_nil)
      (pssA_super (i := 0) (g := gI) hsup rfl rfl I.ok hr3 I.b pass0 (by decide) (pa_cons (pe_tup (pa_cons (pv 2) pa_nil)) (pa_cons (pe_tup (pa_cons (pv 1) pa_nil)) pa_nil))
        (PSsA.of (pss_cons (ps_fld (pv 0) (pv 1) rfl) (pss_one (ps_fld (pv 0) (pv 2) rfl)))))), ?_⟩
    refine ⟨_, rfl, f, rfl, hf, _, rfl, iteF ?_⟩
    obtain ⟨a', C', dx', pt', ct', o', hx', hc', ha', _⟩ := EE.view hu
    subst hx' hc'
    refine ⟨_, rfl, _, _, true, rfl, Z.ty ha', Z.kE _, _, rfl, iteF ?_⟩
    refine ⟨a, c .call, dx, [], rfl, ha, I.m .call, _, rfl, (show 1 ≤ sizeLine by decide), fun p1 hp1 => ⟨_, rfl, (show 1 ≤ sizeLine by decide), fun p2 hp2 => ?_⟩⟩
    have e2 : Ext H (upd (upd H p1 (.tup [.ref a'])) p2 (.tup [.str f])) := (Ext.upd hp1).upd' hp2
    have h12 := Ext.upd (o := .tup [.str f]) hp2 p1 _ (upd_same (H := H) (a := p1) (o := .tup [.ref a']))
    have hEs : EEs c H [t1] [.ref a'] := by
      rw [EEs]
      exact ⟨_, _, rfl, hu, by rw [EEs]⟩
    have hz1 : T.sizes [t1] ≤ 59 := by rw [T.size] at hz; omega
    refine ⟨a, .call, dx, p1, p2, [.ref a'], [f], [t1], rfl, e2 _ _ ha, h12, upd_same, EEs.fx (Fx.of e2) hEs, hz1, Nat.le_refl _, fun H' ct cs keep hA hct hcalls => ?_⟩
    have kp0 : ∀ b o, b ≠ a → H b = some o → H' b = some o := fun b o hb e => keep b o hb (e2 _ _ e)
    refine ⟨_, rfl, _, rfl, a, _, dx, _, rfl, hA, Z.cls _, Z.na _ _ (by decide), (by show 3 < 1000; decide), ?_⟩
    rw [putF_flds (by decide) (by decide) (by decide)]
    refine ⟨_, rfl, _, rfl, a, _, dx, _, rfl, upd_same, Z.cls _, Z.na _ _ (by decide), (by show 4 < 1000; decide), ?_⟩
    rw [putF_flds (by decide) (by decide) (by decide)]
    have hp1a : p1 ≠ a := fun z => by rw [z, ha] at hp1; cases hp1
    have hcta : ct ≠ a := fun z => by rw [z, hA] at hct; cases hct
    rw [L2.upd_upd]
    have kp : ∀ o, ∀ b u, b ≠ a → H b = some u → (upd H' a o) b = some u := fun o b u hb e => by rw [upd_ne hb]; exact kp0 b u hb e
    refine q _ (kp _) ?_
    rw [EE]
    exact ⟨a, dx, p1, ct, cs, [.ref a'], p1, rfl, upd_same, by rw [upd_ne hp1a]; exact keep _ _ hp1a h12, by rw [upd_ne hcta]; exact hct, by rw [T.names]; exact hcalls, rfl, (fun z => by cases z), EEs.but ha (fun b o hb _ e => kp _ b o hb e) hEs⟩
/-! ### Choose -/
abbrev sChooseI : Stmt := inClass (top 17) 0
theorem scChooseI : SupScope ["self", "test", "cases", "case"] ["self", "test", "cases"] (defScope sChooseI) := ⟨rfl, rfl, rfl, by decide +kernel, rfl, by decide +kernel, by decide +kernel, by decide +kernel⟩
def preChoose (c : Kd → Addr) : List V → Hp → T → Prop := fun us H t => ∃ u qt vs t1 ts, us = [u, .ref qt] ∧ H qt = some (.tup vs) ∧ EE c H t1 u ∧ EEs c H ts vs ∧ (ts.length = 2 ∨ ts.length = 3) ∧ t = .mk .choose (t1 :: ts) ∧ t.size ≤ 60
theorem bools_all {n : Nat} : ∀ (ys : List V), (∀ (i : Nat) (y : V), ys[i]? = some y → y = .bl true) → ys = (List.replicate ys.length true).map V.bl
  | [], _ => rfl
  | y :: r, h => by
    have e := bools_all (n := n) r fun i y hy => h (i + 1) y (by simpa using hy)
    have e0 := h 0 y (by simp)
    subst e0
    rw [List.length_cons, List.replicate_succ, List.map_cons, ← e]
theorem chooseI_ok {f cc : Addr} {fd : FuncData} (F : FunS P K "__init__" "Choose.__init__" sChooseI f fd cc (c .choose)) (bn : BN mg) (Z : CF K c cE) (mgE : mg "Expression" = some (.ref cE)) (I : IF P w K mg base c gI fdI) (S : SZ K mg aS) : FnOk P w K mg base CX0 4 f fd ["self", "test", "cases"] (spMk c .choose (preChoose c)) := by
  refine F.ok bn scChooseI (slf := "self") (by decide +kernel) (by decide +kernel) ⟨_, rfl, rfl⟩ (fun vs H Q E h => ?_) (fun cdv A outer s H vs Q E hr hsup h => ?_)
  · obtain ⟨a, dx, us, t, rfl, _, ⟨u, qt, vs, t1, ts, rfl, _⟩, _⟩ := h
    rfl
  · obtain ⟨a, dx, us, t, rfl, ha, ⟨u, qt, vs, t1, ts, rfl, hqt, hu, hvs, hts, rfl, hz⟩, q⟩ := h
    have hr3 : Room 3 _ := hr
    refine ⟨_, pssA_cons (ps_if (pt_not (pt_val (pe_is bn (pa_cons (pv 1) (pa_cons (pe_glob (v := .ref cE) (by rfl) mgE rfl) pa_nil))))) (pss_one ps_never) pss_nil)
      (pssA_cons (ps_if (PW.pt (pw_or (pt_not (pt_val (pe_is bn (pa_cons (pv 2) (pa_cons (pe_bltn (v := .ty "tuple") (by rfl) (bn "tuple" (by decide)) boot_tTuple rfl) pa_nil)))))
          (pw_or1 (pt_cmpR op_notIn_seq (pe_len bn (pa_cons (pv 2) pa_nil)) (pe_glob (v := .ref aS) (by rfl) S.mgS rfl) rfl)))) (pss_one ps_never) pss_nil)
      (pssA_cons (ps_if (pt_not (pt_val (pe_callB (cr_all rfl) (by rfl) (bn "all" (by decide)) boot_bAll (pa_cons
          (pe_lc (own := [("case", 3)]) (g := gName 3) (tt := tYes) (te := tCB (rIs K) (tCons (tVar 3) (tCons (tC (.ref cE)) tNil))) rfl scChooseI.nd (pi_tup (pv 2)) (blkOk_by (N := ["self", "test", "cases", "case"]) (sc := defScope sChooseI) (by decide +kernel))
            (fun _ _ _ _ _ => pg_name (i := 3) scChooseI.nd rfl (.inl rfl)) (fun _ _ _ _ _ => pts_nil) (fun _ _ _ _ _ => pe_is bn (pa_cons (pv 3) (pa_cons (pe_glob (v := .ref cE) (by rfl) mgE rfl) pa_nil)))) pa_nil)))) (pss_one ps_never) pss_nil)
      (pssA_super (i := 0) (g := gI) hsup rfl rfl I.ok hr3 I.b pass0 (by decide) (pa_cons (pe_tup (pa_cons (pv 1) (StX.pa_star (pv 2) pa_nil))) (pa_cons (pe_tup pa_nil) pa_nil))
        (PSsA.of (pss_cons (ps_fld (pv 0) (pv 1) rfl) (pss_one (ps_fld (pv 0) (pe_callTy call_tuple_of (by rfl) (bn "tuple" (by decide)) boot_tTuple (pa_cons (pv 2) pa_nil)) rfl))))))), ?_⟩
    obtain ⟨a', C', dx', pt', ct', o', hx', hc', ha', _⟩ := EE.view hu
    subst hx' hc'
    refine ⟨_, rfl, _, _, true, rfl, Z.ty ha', Z.kE _, _, rfl, iteF ?_⟩
    have hlv : vs.length = ts.length := EEs.len hvs
    refine ⟨_, rfl, _, _, true, rfl, .base (.tup hqt), kit_ty (by decide +kernel), _, rfl, iteF ⟨_, rfl, qt, vs, rfl, .inr (.inl (.inl hqt)), aS, _, rfl, .inr (S.sq H), rfl, rfl, _, rfl, ?_⟩⟩
    rw [show (if true = true then !inV (.int (vs.length : Nat)) [.int 2, .int 3] else inV (.int (vs.length : Nat)) [.int 2, .int 3]) = false from by
      rw [hlv]
      rcases hts with e | e <;> rw [e] <;> rfl]
    refine iteF ⟨_, rfl, qt, rfl, ⟨vs, .inl (.inl hqt)⟩, fun D hD => ?_⟩
    refine lcm_tup (xs := vs) (R := fun _ y _ => y = .bl true) (fun _ _ _ _ _ h => h) (.inl (.inl hqt)) hD (by rw [hlv, sizeLine_eq]; omega) ?hw (fun i x H2 Qk e2 hx kk => ?_) (fun Qk0 ys e2 hD2 hys hR => ?_)
    case hw => intro x; rfl
    · have hi : i < ts.length := by rw [← hlv]; exact (List.getElem?_eq_some_iff.mp hx).1
      obtain ⟨u, hu', hEu⟩ := EEs.get hvs (List.getElem?_eq_getElem hi)
      rw [hx] at hu'
      cases hu'
      obtain ⟨a2, C2, dx2, pt2, ct2, o2, hx2, hc2, ha2, _⟩ := EE.view (EE.fx (Fx.of e2) hEu)
      subst hx2 hc2
      exact ⟨_, rfl, _, _, true, rfl, Z.ty ha2, Z.kE _, kk _ _ Ext.rfl' rfl⟩
    have hb := bools_all (n := 0) ys hR
    refine ⟨D, List.replicate ys.length true, rfl, .inl (.inl (by rw [← hb]; exact hD2)), _, rfl, ?_⟩
    rw [show (List.replicate ys.length true).all id = true from by simp]
    refine iteF ⟨a, c .choose, dx, [], rfl, e2 _ _ ha, I.m .choose, _, rfl, _, rfl, qt, vs, rfl, .inl (.inl (.inl (e2 _ _ hqt))), by
      show (V.ref a' :: (vs ++ [])).length ≤ sizeLine
      rw [List.length_cons, List.append_nil, hlv, sizeLine_eq]; omega, fun p1 hp1 => ⟨by decide, fun p2 hp2 => ?_⟩⟩
    have e0 : Ext H (upd (upd Qk0 p1 (.tup (V.ref a' :: (vs ++ [])))) p2 (.tup [])) := Ext.trans e2 ((Ext.upd hp1).upd' hp2)
    have h12 := Ext.upd (o := .tup []) hp2 p1 _ (upd_same (H := Qk0) (a := p1) (o := .tup (V.ref a' :: (vs ++ []))))
    have h13 : (upd (upd Qk0 p1 (.tup (V.ref a' :: (vs ++ [])))) p2 (.tup [])) p2 = some (.tup []) := upd_same
    generalize (upd (upd Qk0 p1 (.tup (V.ref a' :: (vs ++ [])))) p2 (.tup [])) = H1 at *
    have hEs : EEs c H (t1 :: ts) (V.ref a' :: (vs ++ [])) := by
      rw [EEs, List.append_nil]
      exact ⟨_, _, rfl, hu, hvs⟩
    have hz1 : T.sizes (t1 :: ts) ≤ 59 := by rw [T.size] at hz; omega
    refine ⟨a, .choose, dx, p1, p2, V.ref a' :: (vs ++ []), [], t1 :: ts, rfl, e0 _ _ ha, h12, h13, EEs.fx (Fx.of e0) hEs, hz1, Nat.zero_le _, fun H' ct cs keep hA hct hcalls => ?_⟩
    have kp0 : ∀ b o, b ≠ a → H b = some o → H' b = some o := fun b o hb e => keep b o hb (e0 _ _ e)
    have hqa : qt ≠ a := fun z => by rw [z, ha] at hqt; cases hqt
    have hq' : ∀ o, upd H' a o qt = some (.tup vs) := fun o => by rw [upd_ne hqa]; exact kp0 _ _ hqa hqt
    refine ⟨_, rfl, _, rfl, a, _, dx, _, rfl, hA, Z.cls _, Z.na _ _ (by decide), (by show 3 < 1000; decide), ?_⟩
    rw [putF_flds (by decide) (by decide) (by decide)]
    refine ⟨_, rfl, qt, vs, rfl, .inr ⟨.inl (.inl (hq' _)), _, rfl, a, _, dx, _, rfl, upd_same, Z.cls _, Z.na _ _ (by decide), (by show 4 < 1000; decide), ?_⟩⟩
    rw [putF_flds (by decide) (by decide) (by decide)]
    have hp1a : p1 ≠ a := fun z => by
      have := e0 _ _ ha
      rw [← z, h12] at this
      cases this
    have hcta : ct ≠ a := fun z => by rw [z, hA] at hct; cases hct
    rw [L2.upd_upd]
    have kp : ∀ o, ∀ b u, b ≠ a → H b = some u → (upd H' a o) b = some u := fun o b u hb e => by rw [upd_ne hb]; exact kp0 b u hb e
    refine q _ (kp _) ?_
    rw [EE]
    exact ⟨a, dx, p1, ct, cs, V.ref a' :: (vs ++ []), qt, rfl, upd_same, by rw [upd_ne hp1a]; exact keep _ _ hp1a h12, by rw [upd_ne hcta]; exact hct, by rw [T.names]; exact hcalls, (by show _ = 3 ∨ _ = 4; rw [List.length_cons]; omega), (fun _ => by rw [List.append_nil]; exact hq' _), EEs.but ha (fun b o hb _ e => kp _ b o hb e) hEs⟩
end
end MR
end

section
set_option Elab.async false
set_option linter.all false
set_option maxRecDepth 100000
set_option maxHeartbeats 1000000
/-! == of expressions. -/
namespace MR
open PySem PySem.Spec PyProof.Rows L2
def REe (c : Kd → Addr) (m : Nat) : Eqb := fun x y b H => ∃ t u, EE c H t x ∧ EE c H u y ∧ t.depth ≤ m ∧ T.beq t u = b
def REk (c : Kd → Addr) (k : Kd) (m : Nat) : Eqb := fun x y b H => ∃ t u, t.tag.kd = k ∧ EE c H t x ∧ EE c H u y ∧ t.depth ≤ m ∧ T.beq t u = b
theorem REe.mon {c : Kd → Addr} {m : Nat} : MonB (REe c m) := fun _ _ _ _ _ e ⟨t, u, h1, h2, h3⟩ => ⟨t, u, EE.fx (Fx.of e) h1, EE.fx (Fx.of e) h2, h3⟩
abbrev sConstE : Stmt := inClass (top 14) 1
abbrev sArgE : Stmt := inClass (top 15) 1
abbrev sCallE : Stmt := inClass (top 16) 1
abbrev sChooseE : Stmt := inClass (top 17) 1
def sEqS : Kd → Stmt
  | .const => sConstE
  | .arg => sArgE
  | .call => sCallE
  | .choose => sChooseE
def kName : Kd → Str
  | .const => "Const"
  | .arg => "Arg"
  | .call => "Call"
  | .choose => "Choose"
def qEq : Kd → Str
  | .const => "Const.__eq__"
  | .arg => "Arg.__eq__"
  | .call => "Call.__eq__"
  | .choose => "Choose.__eq__"
theorem scConstE : FnScope ["self", "other"] ["self", "other"] (defScope sConstE) := ⟨rfl, rfl, rfl, by decide +kernel, rfl, by decide +kernel, by decide +kernel⟩
theorem scArgE : FnScope ["self", "other"] ["self", "other"] (defScope sArgE) := ⟨rfl, rfl, rfl, by decide +kernel, rfl, by decide +kernel, by decide +kernel⟩
theorem scCallE : FnScope ["self", "other"] ["self", "other"] (defScope sCallE) := ⟨rfl, rfl, rfl, by decide +kernel, rfl, by decide +kernel, by decide +kernel⟩
theorem scChooseE : FnScope ["self", "other"] ["self", "other"] (defScope sChooseE) := ⟨rfl, rfl, rfl, by decide +kernel, rfl, by decide +kernel, by decide +kernel⟩
/-- the facts of the == of the four classes -/
structure QF (K : PySem.W.Frag) (mg : Str → Option Value) (c : Kd → Addr) (cE : Addr) (q : Kd → Addr) (fd : Kd → FuncData) : Prop where
  cf : CF K c cE
  g : ∀ k, mg (kName k) = some (.ref (c k))
  fn : ∀ k, Fun K "__eq__" (qEq k) (sEqS k) (q k) (fd k)
  b : ∀ k, Binds K (fd k) ["self", "other"] []
  at_ : ∀ k, PySem.W.findIn K (.ref (c k)) "__eq__" = some (some (.ref (q k)))
  isf : ∀ k, PySem.W.isFn K (.ref (q k)) = true
  ne : ∀ k, PySem.W.findIn K (.ref (c k)) "__ne__" = some (some (.builtin "object.__ne__"))
section
variable {X : Cx} {c q : Kd → Addr} {cE : Addr} {fd : Kd → FuncData} {n m : Nat}
theorem DE_of {K : PySem.W.Frag} {mg : Str → Option Value} (Z : QF K mg c cE q fd) {x y : V} {b : Bool} {H : Hp} (d : REe c m x y b H) : ∃ k, DInsB K (c k) (REk c k m) x y b H := by
  obtain ⟨t, u, h1, h2, h3, h4⟩ := d
  obtain ⟨a, C, dx, pt, ct, o, hx, hc, ha, _⟩ := EE.view h1
  obtain ⟨a', C', dx', pt', ct', o', hx', hc', ha', _⟩ := EE.view h2
  subst hx hx' hc hc'
  exact ⟨t.tag.kd, a, a', _, dx, dx', _, _, rfl, rfl, ha, ha', Z.cf.cls _, Z.cf.nf _ _, t, u, rfl, h1, h2, h3, h4⟩
theorem rcB_E (Z : QF X.K X.mg c cE q fd) (h : ∀ k, FnOk X.prog X.w X.K X.mg X.base CX0 n (q k) (fd k) ["self", "other"] (spEqB (REk c k m))) : RcB X n .Eq (REe c m) := by
  intro A pins s σ H x y u v b sb I rx ry d
  obtain ⟨k, d⟩ := DE_of Z d
  exact rcB_ins (E := E0) (h k) (Z.at_ k) (Z.isf k) (Z.b k) pass0 A pins s σ H x y u v b sb I rx ry d
theorem rcB_Ene (Z : QF X.K X.mg c cE q fd) (h : ∀ k, FnOk X.prog X.w X.K X.mg X.base CX0 n (q k) (fd k) ["self", "other"] (spEqB (REk c k m))) : RcB X (n + 1) .NotEq (fun x y b H => REe c m x y (!b) H) := by
  intro A pins s σ H x y u v b sb I rx ry d
  obtain ⟨k, d⟩ := DE_of Z d
  exact rcB_insNe (E := E0) (h k) (Z.at_ k) (Z.ne k) (Z.cf.cm k) (Z.isf k) (Z.b k) pass0 A pins s σ H x y u v b sb I rx ry d
theorem REe.same (hc : ∀ k k', c k = c k' → k = k') {p p' : V} {b : Bool} {H : Hp} (d : REe c m p p' b H) : ∃ a a', p = .ref a ∧ p' = .ref a' ∧ (a = a' → b = true) := by
  obtain ⟨t, u, h1, h2, h3, h4⟩ := d
  obtain ⟨a, C, dx, pt, ct, o, hx, hc', ha, _⟩ := EE.view h1
  obtain ⟨a', C', dx', pt', ct', o', hx', hc', ha', _⟩ := EE.view h2
  subst hx hx'
  refine ⟨a, a', rfl, rfl, fun e => ?_⟩
  subst e
  rw [← h4, EE.inj hc h1 h2, T.beq_refl]
theorem eqB_E (Z : QF X.K X.mg c cE q fd) (h : ∀ k, FnOk X.prog X.w X.K X.mg X.base CX0 n (q k) (fd k) ["self", "other"] (spEqB (REk c k m))) : EqB X n (REe c m) :=
  (rcB_E Z h).eqB fun _ _ _ _ d => REe.same Z.cf.inj d
theorem prsB_E {H : Hp} : ∀ {ts us : List T} {xs ys : List V}, EEs c H ts xs → EEs c H us ys → T.depths ts ≤ m → PrsB (REe c m) H xs ys (T.beqs ts us)
  | [], [], xs, ys, h1, h2, _ => by
    unfold EEs at h1 h2
    subst h1 h2
    rw [T.beqs]
    exact .nil
  | t :: r, [], xs, ys, h1, h2, _ => by
    unfold EEs at h1 h2
    obtain ⟨v, s, rfl, _⟩ := h1
    subst h2
    rw [T.beqs]
    · exact .left
    all_goals (intros; contradiction)
  | [], u :: r, xs, ys, h1, h2, _ => by
    unfold EEs at h1 h2
    obtain ⟨v, s, rfl, _⟩ := h2
    subst h1
    rw [T.beqs]
    · exact .right
    all_goals (intros; contradiction)
  | t :: r, u :: r', xs, ys, h1, h2, hd => by
    unfold EEs at h1 h2
    obtain ⟨v, s, rfl, h3, h4⟩ := h1
    obtain ⟨v', s', rfl, h5, h6⟩ := h2
    rw [T.beqs]
    rw [T.depths] at hd
    exact .cons ⟨t, u, h3, h5, by omega, rfl⟩ (prsB_E h4 h6 (by omega))
end
section
variable {P : Program} {w : World} {K : PySem.W.Frag} {mg : Str → Option Value} {base : Heap} {c q : Kd → Addr} {cE : Addr} {fd : Kd → FuncData}
theorem kd_const {g : Tag} (h : g.kd = .const) : ∃ n, g = .const n := by cases g <;> first | exact ⟨_, rfl⟩ | cases h
theorem kd_arg {g : Tag} (h : g.kd = .arg) : g = .arg := by cases g <;> first | rfl | cases h
theorem kd_call {g : Tag} (h : g.kd = .call) : ∃ n, g = .call n := by cases g <;> first | exact ⟨_, rfl⟩ | cases h
theorem kd_choose {g : Tag} (h : g.kd = .choose) : g = .choose := by cases g <;> first | rfl | cases h
theorem beq_kd {t u : T} (h : ¬ t.tag.kd = u.tag.kd) : T.beq t u = false := by
  cases t with
  | mk g ks =>
    cases u with
    | mk g' ls =>
      rw [T.beq, decide_eq_false (fun e => h (by show g.kd = g'.kd; rw [e])), Bool.false_and]
theorem eq_ok (Z : QF K mg c cE q fd) (bn : BN mg) : ∀ m k, FnOk P w K mg base CX0 (2 * m + 1) (q k) (fd k) ["self", "other"] (spEqB (REk c k m))
  | 0, k => by
    have no : ∀ vs H Q E, ¬ spEqB (REk c k 0) vs H Q E := fun vs H Q E h => by
      obtain ⟨x, y, b, _, ⟨t, u, _, _, _, h0, _⟩, _⟩ := h
      cases t
      rw [T.depth] at h0
      omega
    exact ⟨fun vs H Q E h => absurd h (no vs H Q E), fun A outer s H args us vs Q E _ _ _ _ h => absurd h (no vs H Q E)⟩
  | m + 1, .const => by
    refine (Z.fn .const).ok (k := 2 * m + 2) scConstE (fun vs H Q E h => ?_) (fun cdv A outer s H vs Q E hr h => ?_)
    · obtain ⟨x, y, b, rfl, _⟩ := h
      rfl
    · obtain ⟨x, y, b, rfl, ⟨t, u, hk, h1, h2, _, rfl⟩, kk⟩ := h
      refine ⟨_, pss_one (ps_ret (pe_and (pe_is bn (pa_cons (pv 1) (pa_cons (pe_glob (v := .ref (c .const)) (by rfl) (Z.g .const) rfl) pa_nil))) (pe_one (pe_cmpR op_eq (pe_fld (pv 0) rfl) (pe_fld (pv 1) rfl) rfl)))), ?_⟩
      obtain ⟨a, C, dx, pt, ct, o, hx, hc, ha, cs, us, qt, ho, _, _, _, har, _⟩ := EE.view h1
      obtain ⟨a', C', dx', pt', ct', o', hx', hc', ha', cs', us', qt', ho', _, _, _, har', _⟩ := EE.view h2
      subst hx hx' hc hc'
      refine ⟨_, rfl, _, _, _, rfl, Z.cf.ty ha', Z.cf.kk _ _, _, rfl, ite2 (fun e => ?_) fun e => ?_⟩
      · have e := of_decide_eq_true e
        obtain ⟨n, hn⟩ := kd_const hk
        obtain ⟨n', hn'⟩ := kd_const e
        cases t with
        | mk g ks =>
          cases u with
          | mk g' ls =>
            obtain rfl : g = _ := hn
            obtain rfl : g' = _ := hn'
            obtain rfl : ks = [] := List.length_eq_zero_iff.mp har.1
            obtain rfl : ls = [] := List.length_eq_zero_iff.mp har'.1
            subst ho ho'
            refine ⟨_, rfl, _, _, dx, _, .int n, rfl, ha, Z.cf.cls _, Z.cf.na _ _ (by decide), rfl, _, rfl, _, _, dx', _, .int n', rfl, ha', Z.cf.cls _, Z.cf.na _ _ (by decide), rfl, rfl, ?_⟩
            have := kk H Ext.rfl'
            rw [T.beq, T.beqs, Bool.and_true] at this
            rw [show decide (V.int n = V.int n') = decide (Tag.const n = Tag.const n') from by
              rw [Bool.eq_iff_iff]
              simp only [decide_eq_true_eq, V.int.injEq, Tag.const.injEq]
              omega]
            exact this
      · have e : ¬ u.tag.kd = .const := of_decide_eq_false (Bool.eq_false_iff.mpr e)
        have := kk H Ext.rfl'
        rw [beq_kd (by rw [hk]; exact fun z => e z.symm)] at this
        exact this
  | m + 1, .arg => by
    refine (Z.fn .arg).ok (k := 2 * m + 2) scArgE (fun vs H Q E h => ?_) (fun cdv A outer s H vs Q E hr h => ?_)
    · obtain ⟨x, y, b, rfl, _⟩ := h
      rfl
    · obtain ⟨x, y, b, rfl, ⟨t, u, hk, h1, h2, hd, rfl⟩, kk⟩ := h
      refine ⟨_, pss_one (ps_ret (pe_is bn (pa_cons (pv 1) (pa_cons (pe_glob (v := .ref (c .arg)) (by rfl) (Z.g .arg) rfl) pa_nil)))), ?_⟩
      obtain ⟨a, C, dx, pt, ct, o, hx, hc, ha, cs, us, qt, ho, _, _, _, har, hq, hu⟩ := EE.view h1
      obtain ⟨a', C', dx', pt', ct', o', hx', hc', ha', cs', us', qt', ho', _, _, _, har', hq', hu'⟩ := EE.view h2
      subst hx hx' hc hc'
      refine ⟨_, rfl, _, _, _, rfl, Z.cf.ty ha', Z.cf.kk _ _, ?_⟩
      have e1 := kk H Ext.rfl'
      have : T.beq t u = decide (u.tag.kd = .arg) := by
        by_cases e : u.tag.kd = .arg
        · have q1 := kd_arg hk
          have q2 := kd_arg e
          cases t with
          | mk g ks =>
            cases u with
            | mk g' ls =>
              obtain rfl : g = _ := q1
              obtain rfl : g' = _ := q2
              obtain rfl : ks = [] := List.length_eq_zero_iff.mp har
              obtain rfl : ls = [] := List.length_eq_zero_iff.mp har'
              rw [T.beq, T.beqs]
              decide
        · rw [beq_kd (by rw [hk]; exact fun z => e z.symm), decide_eq_false e]
      rw [this] at e1
      exact e1
  | m + 1, .call => by
    refine (Z.fn .call).ok (k := 2 * m + 2) scCallE (fun vs H Q E h => ?_) (fun cdv A outer s H vs Q E hr h => ?_)
    · obtain ⟨x, y, b, rfl, _⟩ := h
      rfl
    · obtain ⟨x, y, b, rfl, ⟨t, u, hk, h1, h2, hd, rfl⟩, kk⟩ := h
      refine ⟨_, pss_one (ps_ret (pe_and (pe_is bn (pa_cons (pv 1) (pa_cons (pe_glob (v := .ref (c .call)) (by rfl) (Z.g .call) rfl) pa_nil))) (pe_and (pe_cmpR op_eq (pe_fld (pv 0) rfl) (pe_fld (pv 1) rfl) rfl) (pe_one (pe_cmpR (op_eqB (rcB_E Z (n := 2 * m + 1) (eq_ok Z bn m)) (hr.mono (by omega))) (pe_fld (pv 0) rfl) (pe_fld (pv 1) rfl) rfl))))), ?_⟩
      obtain ⟨a, C, dx, pt, ct, o, hx, hc, ha, cs, us, qt, ho, _, _, _, har, hq, hu⟩ := EE.view h1
      obtain ⟨a', C', dx', pt', ct', o', hx', hc', ha', cs', us', qt', ho', _, _, _, har', hq', hu'⟩ := EE.view h2
      subst hx hx' hc hc'
      refine ⟨_, rfl, _, _, _, rfl, Z.cf.ty ha', Z.cf.kk _ _, _, rfl, ite2 (fun e => ?_) fun e => ?_⟩
      · have e := of_decide_eq_true e
        obtain ⟨n, hn⟩ := kd_call hk
        obtain ⟨n', hn'⟩ := kd_call e
        cases t with
        | mk g ks =>
          cases u with
          | mk g' ls =>
            obtain rfl : g = _ := hn
            obtain rfl : g' = _ := hn'
            obtain ⟨t1, rfl⟩ : ∃ t1, ks = [t1] := List.length_eq_one_iff.mp har
            obtain ⟨u1, rfl⟩ : ∃ t1, ls = [t1] := List.length_eq_one_iff.mp har'
            subst ho ho'
            have hu : EEs c H [t1] us := hu
            have hu' : EEs c H [u1] us' := hu'
            unfold EEs at hu hu'
            obtain ⟨v1, s1, rfl, hv1, hs1⟩ := hu
            obtain ⟨v2, s2, rfl, hv2, hs2⟩ := hu'
            have hd1 : t1.depth ≤ m := by rw [T.depth, T.depths, T.depths] at hd; omega
            refine ⟨_, rfl, _, _, dx, _, .str n, rfl, ha, Z.cf.cls _, Z.cf.na _ _ (by decide), rfl, _, rfl, _, _, dx', _, .str n', rfl, ha', Z.cf.cls _, Z.cf.na _ _ (by decide), rfl, rfl, _, rfl, ite2 (fun e => ?_) fun e => ?_⟩
            · have e := of_decide_eq_true e
              cases e
              refine ⟨_, rfl, _, _, dx, _, v1, rfl, ha, Z.cf.cls _, Z.cf.na _ _ (by decide), rfl, _, rfl, _, _, dx', _, v2, rfl, ha', Z.cf.cls _, Z.cf.na _ _ (by decide), rfl, _, ⟨t1, u1, hv1, hv2, hd1, rfl⟩, fun H' e' => ?_⟩
              have := kk H' e'
              rw [T.beq, T.beqs, T.beqs, Bool.and_true, decide_eq_true rfl, Bool.true_and] at this
              exact this
            · have e := of_decide_eq_false (Bool.eq_false_iff.mpr e)
              have := kk H Ext.rfl'
              rw [T.beq, decide_eq_false (fun z => e (by cases z; rfl)), Bool.false_and] at this
              exact this
      · have e : ¬ u.tag.kd = .call := of_decide_eq_false (Bool.eq_false_iff.mpr e)
        have := kk H Ext.rfl'
        rw [beq_kd (by rw [hk]; exact fun z => e z.symm)] at this
        exact this
  | m + 1, .choose => by
    refine (Z.fn .choose).ok (k := 2 * m + 2) scChooseE (fun vs H Q E h => ?_) (fun cdv A outer s H vs Q E hr h => ?_)
    · obtain ⟨x, y, b, rfl, _⟩ := h
      rfl
    · obtain ⟨x, y, b, rfl, ⟨t, u, hk, h1, h2, hd, rfl⟩, kk⟩ := h
      refine ⟨_, pss_one (ps_ret (pe_and (pe_is bn (pa_cons (pv 1) (pa_cons (pe_glob (v := .ref (c .choose)) (by rfl) (Z.g .choose) rfl) pa_nil))) (pe_and (pe_cmpR (op_eqB (rcB_E Z (n := 2 * m + 1) (eq_ok Z bn m)) (hr.mono (by omega))) (pe_fld (pv 0) rfl) (pe_fld (pv 1) rfl) rfl) (pe_one (pe_cmpR (op_eqB (rcB_tup REe.mon (eqB_E Z (n := 2 * m + 1) (eq_ok Z bn m))) hr) (pe_fld (pv 0) rfl) (pe_fld (pv 1) rfl) rfl))))), ?_⟩
      obtain ⟨a, C, dx, pt, ct, o, hx, hc, ha, cs, us, qt, ho, _, _, _, har, hq, hu⟩ := EE.view h1
      obtain ⟨a', C', dx', pt', ct', o', hx', hc', ha', cs', us', qt', ho', _, _, _, har', hq', hu'⟩ := EE.view h2
      subst hx hx' hc hc'
      refine ⟨_, rfl, _, _, _, rfl, Z.cf.ty ha', Z.cf.kk _ _, _, rfl, ite2 (fun e => ?_) fun e => ?_⟩
      · have e := of_decide_eq_true e
        have hn := kd_choose hk
        have hn' := kd_choose e
        cases t with
        | mk g ks =>
          cases u with
          | mk g' ls =>
            obtain rfl : g = _ := hn
            obtain rfl : g' = _ := hn'
            have hq0 := hq rfl
            have hq0' := hq' rfl
            have hu : EEs c H ks us := hu
            have hu' : EEs c H ls us' := hu'
            have har : ks.length = 3 ∨ ks.length = 4 := har
            have har' : ls.length = 3 ∨ ls.length = 4 := har'
            cases ks with
            | nil => simp at har
            | cons t1 ts =>
              cases ls with
              | nil => simp at har'
              | cons u1 ws =>
                subst ho ho'
                unfold EEs at hu hu'
                obtain ⟨v1, s1, rfl, hv1, hs1⟩ := hu
                obtain ⟨v2, s2, rfl, hv2, hs2⟩ := hu'
                have hd1 : t1.depth ≤ m := by rw [T.depth, T.depths] at hd; omega
                have hd2 : T.depths ts ≤ m := by rw [T.depth, T.depths] at hd; omega
                refine ⟨_, rfl, _, _, dx, _, v1, rfl, ha, Z.cf.cls _, Z.cf.na _ _ (by decide), rfl, _, rfl, _, _, dx', _, v2, rfl, ha', Z.cf.cls _, Z.cf.na _ _ (by decide), rfl, _, ⟨t1, u1, hv1, hv2, hd1, rfl⟩, fun H' e' => ⟨_, rfl, ite2 (fun e => ?_) fun e => ?_⟩⟩
                · refine ⟨_, rfl, _, _, dx, _, .ref qt, rfl, e' _ _ ha, Z.cf.cls _, Z.cf.na _ _ (by decide), rfl, _, rfl, _, _, dx', _, .ref qt', rfl, e' _ _ ha', Z.cf.cls _, Z.cf.na _ _ (by decide), rfl, _, ⟨qt, qt', s1, s2, rfl, rfl, .inl (.inl (e' _ _ hq0)), .inl (.inl (e' _ _ hq0')), prsB_E (EEs.fx (Fx.of e') hs1) (EEs.fx (Fx.of e') hs2) hd2⟩, fun H2 e2 => ?_⟩
                  have := kk H2 (e'.trans e2)
                  rw [T.beq, T.beqs, e, decide_eq_true rfl, Bool.true_and, Bool.true_and] at this
                  exact this
                · have := kk H' e'
                  rw [T.beq, T.beqs, Bool.eq_false_iff.mpr e, Bool.false_and, Bool.and_false] at this
                  exact this
      · have e : ¬ u.tag.kd = .choose := of_decide_eq_false (Bool.eq_false_iff.mpr e)
        have := kk H Ext.rfl'
        rw [beq_kd (by rw [hk]; exact fun z => e z.symm)] at this
        exact this
end
end MR
end

section
set_option Elab.async false
set_option linter.all false
set_option maxRecDepth 100000
set_option maxHeartbeats 1000000
/-! value of expressions. -/
namespace MR
open PySem PySem.Spec PyProof.Rows L2
def evTag (tab : Str → Int → Option Int) (x : Int) : Tag → List (Option Int) → Option Int
  | .const n, _ => some n
  | .arg, _ => some x
  | .call f, o :: _ => o.bind (tab f)
  | .choose, o :: os => o.bind fun i => if 0 ≤ i then (os[i.toNat]?).join else none
  | _, [] => none
mutual
def T.ev (tab : Str → Int → Option Int) (x : Int) : T → Option Int
  | .mk g ks => evTag tab x g (T.evs tab x ks)
def T.evs (tab : Str → Int → Option Int) (x : Int) : List T → List (Option Int)
  | [] => []
  | t :: r => T.ev tab x t :: T.evs tab x r
end
theorem T.evs_get {tab : Str → Int → Option Int} {x : Int} : ∀ {ts : List T} {i : Nat}, (T.evs tab x ts)[i]? = (ts[i]?).map (T.ev tab x)
  | [], i => by rw [T.evs]; rfl
  | t :: r, 0 => by rw [T.evs]; rfl
  | t :: r, i + 1 => by
    rw [T.evs, List.getElem?_cons_succ, List.getElem?_cons_succ, T.evs_get]
theorem depth_get : ∀ {ts : List T} {i : Nat} {t : T}, ts[i]? = some t → t.depth ≤ T.depths ts
  | [], _, _, e => by simp at e
  | t :: r, 0, _, e => by
    simp at e
    subst e
    rw [T.depths]
    exact Nat.le_max_left _ _
  | t :: r, i + 1, _, e => by
    rw [T.depths]
    exact Nat.le_trans (depth_get (by simpa using e)) (Nat.le_max_right _ _)
/-- the tables at tb say tab -/
def TabAt (K : PySem.W.Frag) (tab : Str → Int → Option Int) (tb : Addr) (H : Hp) : Prop := ∃ kvs, Rd H tb (.dK kvs) ∧ ∀ f i r, tab f i = some r → ∃ p xs, valV kvs (.inr f) = some (.ref p) ∧ SqT K H p xs ∧ atI xs i = some (.int r)
abbrev sConstV : Stmt := inClass (top 14) 2
abbrev sArgV : Stmt := inClass (top 15) 2
abbrev sCallV : Stmt := inClass (top 16) 2
abbrev sChooseV : Stmt := inClass (top 17) 2
def sVal : Kd → Stmt
  | .const => sConstV
  | .arg => sArgV
  | .call => sCallV
  | .choose => sChooseV
def qVal : Kd → Str
  | .const => "Const.value"
  | .arg => "Arg.value"
  | .call => "Call.value"
  | .choose => "Choose.value"
theorem scConstV : FnScope ["self", "argument", "tables"] ["self", "argument", "tables"] (defScope sConstV) := ⟨rfl, rfl, rfl, by decide +kernel, rfl, by decide +kernel, by decide +kernel⟩
theorem scArgV : FnScope ["self", "argument", "tables"] ["self", "argument", "tables"] (defScope sArgV) := ⟨rfl, rfl, rfl, by decide +kernel, rfl, by decide +kernel, by decide +kernel⟩
theorem scCallV : FnScope ["self", "argument", "tables"] ["self", "argument", "tables"] (defScope sCallV) := ⟨rfl, rfl, rfl, by decide +kernel, rfl, by decide +kernel, by decide +kernel⟩
theorem scChooseV : FnScope ["self", "argument", "tables"] ["self", "argument", "tables"] (defScope sChooseV) := ⟨rfl, rfl, rfl, by decide +kernel, rfl, by decide +kernel, by decide +kernel⟩
structure VF (K : PySem.W.Frag) (c : Kd → Addr) (vf : Kd → Addr) (fd : Kd → FuncData) : Prop where
  fn : ∀ k, Fun K "value" (qVal k) (sVal k) (vf k) (fd k)
  b : ∀ k, Binds K (fd k) ["self", "argument", "tables"] []
  m : ∀ k, Meth K (c k) "value" (vf k)
def spVal (K : PySem.W.Frag) (c : Kd → Addr) (m : Nat) (k : Kd) : Sp := fun vs H Q _ => ∃ t v x tb tab r, vs = [v, .int x, .ref tb] ∧ t.tag.kd = k ∧ t.depth ≤ m ∧ EE c H t v ∧ TabAt K tab tb H ∧ T.ev tab x t = some r ∧ Q (.int r) H
theorem look_meth {pt ct qt : Addr} {z : Nat} {us : List V} {g : Tag} {f : Str} (h : f ∉ attrs) : (flds pt z ct (g.own us qt)).lookup f = none := by
  have n : ∀ x ∈ attrs, (f == x) = false := fun x hx => by
    rw [beq_eq_false_iff_ne]
    exact fun e => h (e ▸ hx)
  rw [look_own (n _ (by decide)) (n _ (by decide)) (n _ (by decide))]
  cases g
  · show List.lookup f [(("number" : Str), _)] = none
    rw [List.lookup_cons, n _ (by decide)]; rfl
  · rfl
  · show List.lookup f [(("name" : Str), _), (("argument" : Str), _)] = none
    rw [List.lookup_cons, n _ (by decide), List.lookup_cons, n _ (by decide)]; rfl
  · show List.lookup f [(("test" : Str), _), (("cases" : Str), _)] = none
    rw [List.lookup_cons, n _ (by decide), List.lookup_cons, n _ (by decide)]; rfl
section
variable {P : Program} {w : World} {K : PySem.W.Frag} {mg : Str → Option Value} {base : Heap} {c vf : Kd → Addr} {cE : Addr} {fd : Kd → FuncData}
theorem val_ok (Z : CF K c cE) (V' : VF K c vf fd) : ∀ m k, FnOk P w K mg base CX0 (m + 1) (vf k) (fd k) ["self", "argument", "tables"] (spVal K c m k)
  | 0, k => by
    have no : ∀ vs H Q E, ¬ spVal K c 0 k vs H Q E := fun vs H Q E h => by
      obtain ⟨t, v, x, tb, tab, r, _, _, h0, _⟩ := h
      cases t
      rw [T.depth] at h0
      omega
    exact ⟨fun vs H Q E h => absurd h (no vs H Q E), fun A outer s H args us vs Q E _ _ _ _ h => absurd h (no vs H Q E)⟩
  | m + 1, .const => by
    refine (V'.fn .const).ok (k := m + 1) scConstV (fun vs H Q E h => ?_) (fun cdv A outer s H vs Q E hr h => ?_)
    · obtain ⟨t, v, x, tb, tab, r, rfl, _⟩ := h
      rfl
    · obtain ⟨t, v, x, tb, tab, r, rfl, hk, hd, h1, ht, he, kk⟩ := h
      refine ⟨_, pss_one (ps_ret (pe_fld (pv 0) rfl)), ?_⟩
      obtain ⟨a, C, dx, pt, ct, o, hx, hc, ha, cs, us, qt, ho, _, _, _, har, hq, hu⟩ := EE.view h1
      subst hx hc ho
      obtain ⟨n, hn⟩ := kd_const hk
      cases t with
      | mk g ks =>
        obtain rfl : g = _ := hn
        rw [T.ev, evTag] at he
        cases he
        exact ⟨_, rfl, _, _, dx, _, .int n, rfl, ha, Z.cls _, Z.na _ _ (by decide), rfl, kk⟩
  | m + 1, .arg => by
    refine (V'.fn .arg).ok (k := m + 1) scArgV (fun vs H Q E h => ?_) (fun cdv A outer s H vs Q E hr h => ?_)
    · obtain ⟨t, v, x, tb, tab, r, rfl, _⟩ := h
      rfl
    · obtain ⟨t, v, x, tb, tab, r, rfl, hk, hd, h1, ht, he, kk⟩ := h
      refine ⟨_, pss_one (ps_ret (pv 1)), ?_⟩
      have hn := kd_arg hk
      cases t with
      | mk g ks =>
        obtain rfl : g = _ := hn
        rw [T.ev, evTag] at he
        cases he
        exact ⟨_, rfl, kk⟩
  | m + 1, .call => by
    refine (V'.fn .call).ok (k := m + 1) scCallV (fun vs H Q E h => ?_) (fun cdv A outer s H vs Q E hr h => ?_)
    · obtain ⟨t, v, x, tb, tab, r, rfl, _⟩ := h
      rfl
    · obtain ⟨t, v, x, tb, tab, r, rfl, hk, hd, h1, ht, he, kk⟩ := h
      refine ⟨_, pss_one (ps_ret (pe_ix ix_tup (pe_dget (by have := hu_of hr; exact this) (pv 2) (pe_fld (pv 0) rfl) (fun _ _ => rfl)) (pe_methD (k := m + 1) (pe_fld (pv 0) rfl) hr (pa_cons (pv 1) (pa_cons (pv 2) pa_nil))) (fun _ _ => rfl))), ?_⟩
      obtain ⟨a, C, dx, pt, ct, o, hx, hc, ha, cs, us, qt, ho, _, _, _, har, hq, hu⟩ := EE.view h1
      subst hx hc ho
      obtain ⟨n, hn⟩ := kd_call hk
      cases t with
      | mk g ks =>
        obtain rfl : g = _ := hn
        obtain ⟨t1, rfl⟩ : ∃ t1, ks = [t1] := List.length_eq_one_iff.mp har
        have hu : EEs c H [t1] us := hu
        unfold EEs at hu
        obtain ⟨v1, s1, rfl, hv1, hs1⟩ := hu
        have hd1 : t1.depth ≤ m := by rw [T.depth, T.depths, T.depths] at hd; omega
        rw [T.ev, T.evs, evTag] at he
        obtain ⟨i, hi, hti⟩ := Option.bind_eq_some_iff.mp he
        obtain ⟨kvs, hkv, htab⟩ := id ht
        obtain ⟨p, xs, hp, hxs, hat⟩ := htab _ _ _ hti
        obtain ⟨a1, C1, dx1, pt1, ct1, o1, hx1, hc1, ha1, cs1, us1, qt1, ho1, _⟩ := EE.view hv1
        subst hx1 hc1 ho1
        refine ⟨_, rfl, ⟨_, rfl, _, _, dx, _, .str n, rfl, ha, Z.cls _, Z.na _ _ (by decide), rfl, tb, .ref p, rfl, .inl ⟨kvs, .inr n, hkv, rfl, hp.symm⟩, ?_⟩⟩
        exact ⟨_, rfl, _, _, dx, _, .ref a1, rfl, ha, Z.cls _, Z.na _ _ (by decide), rfl, a1, _, dx1, _, rfl, ha1, look_meth (by decide), _, _, _, _, Z.cls _, V'.m _, val_ok Z V' m _, V'.b _, _, rfl, _, rfl, t1, _, x, tb, tab, i, rfl, rfl, hd1, hv1, ht, hi, p, xs, i, _, rfl, rfl, hxs, hat, kk⟩
  | m + 1, .choose => by
    refine (V'.fn .choose).ok (k := m + 1) scChooseV (fun vs H Q E h => ?_) (fun cdv A outer s H vs Q E hr h => ?_)
    · obtain ⟨t, v, x, tb, tab, r, rfl, _⟩ := h
      rfl
    · obtain ⟨t, v, x, tb, tab, r, rfl, hk, hd, h1, ht, he, kk⟩ := h
      refine ⟨_, pss_one (ps_ret (pe_methD (k := m + 1) (pe_ix ix_tup (pe_fld (pv 0) rfl) (pe_methD (k := m + 1) (pe_fld (pv 0) rfl) hr (pa_cons (pv 1) (pa_cons (pv 2) pa_nil))) (fun _ _ => rfl)) hr (pa_cons (pv 1) (pa_cons (pv 2) pa_nil)))), ?_⟩
      obtain ⟨a, C, dx, pt, ct, o, hx, hc, ha, cs, us, qt, ho, _, _, _, har, hq, hu⟩ := EE.view h1
      subst hx hc ho
      have hn := kd_choose hk
      cases t with
      | mk g ks =>
        obtain rfl : g = _ := hn
        have hq0 := hq rfl
        cases ks with
        | nil => exact absurd har (by show ¬ (0 = 3 ∨ 0 = 4); decide)
        | cons t1 ts =>
          have hu : EEs c H (t1 :: ts) us := hu
          unfold EEs at hu
          obtain ⟨v1, s1, rfl, hv1, hs1⟩ := hu
          have hd1 : t1.depth ≤ m := by rw [T.depth, T.depths] at hd; omega
          have hd2 : T.depths ts ≤ m := by rw [T.depth, T.depths] at hd; omega
          rw [T.ev, T.evs, evTag] at he
          obtain ⟨i, hi, hti⟩ := Option.bind_eq_some_iff.mp he
          split at hti
          case isFalse => cases hti
          case isTrue h0 =>
          rw [T.evs_get] at hti
          cases hts : ts[i.toNat]? with
          | none => rw [hts] at hti; cases hti
          | some t2 =>
            rw [hts] at hti
            have hti : T.ev tab x t2 = some r := hti
            obtain ⟨v2, hv2, hE2⟩ := EEs.get hs1 hts
            have hd3 : t2.depth ≤ m := Nat.le_trans (depth_get hts) hd2
            obtain ⟨a1, C1, dx1, pt1, ct1, o1, hx1, hc1, ha1, cs1, us1, qt1, ho1, _⟩ := EE.view hv1
            subst hx1 hc1 ho1
            obtain ⟨a2, C2, dx2, pt2, ct2, o2, hx2, hc2, ha2, cs2, us2, qt2, ho2, _⟩ := EE.view hE2
            subst hx2 hc2 ho2
            have hat : atI s1 i = some (.ref a2) := by
              have hl := (List.getElem?_eq_some_iff.mp hv2).1
              have : ixN s1.length i = some i.toNat := by
                unfold ixN
                rw [if_pos h0, if_pos (by omega)]
              unfold atI
              rw [this]
              exact hv2
            refine ⟨_, rfl, _, _, dx, _, .ref qt, rfl, ha, Z.cls _, Z.na _ _ (by decide), rfl, ?_⟩
            refine ⟨_, rfl, _, _, dx, _, .ref a1, rfl, ha, Z.cls _, Z.na _ _ (by decide), rfl, a1, _, dx1, _, rfl, ha1, look_meth (by decide), _, _, _, _, Z.cls _, V'.m _, val_ok Z V' m _, V'.b _, _, rfl, _, rfl, t1, _, x, tb, tab, i, rfl, rfl, hd1, hv1, ht, hi, qt, s1, i, _, rfl, rfl, .inl (.inl hq0), hat, ?_⟩
            exact ⟨a2, _, dx2, _, rfl, ha2, look_meth (by decide), _, _, _, _, Z.cls _, V'.m _, val_ok Z V' m _, V'.b _, _, rfl, _, rfl, t2, _, x, tb, tab, r, rfl, rfl, hd3, hE2, ht, hti, kk⟩
end
end MR
end

section
set_option Elab.async false
set_option linter.all false
set_option maxRecDepth 100000
set_option maxHeartbeats 1000000
/-! Expression.nodes. -/
namespace NM
open PySem PySem.Spec PyProof.Rows L2 LY GW

abbrev sNodes : Stmt := inClass (MR.top 13) 4
theorem scNodes : GScope ["self", "part"] ["self"] (defScope sNodes) := ⟨rfl, rfl, rfl, by decide +kernel, rfl, by decide +kernel, by decide +kernel⟩

/-- an expression as it lies: its object, the tuple of its parts, the parts -/
inductive Nd where
  | mk (a t : Addr) (kids : List Nd)
def Nd.ad : Nd → Addr
  | .mk a _ _ => a
mutual
def Nd.list : Nd → List Addr
  | .mk a _ ks => a :: ndsList ks
def ndsList : List Nd → List Addr
  | [] => []
  | k :: r => Nd.list k ++ ndsList r
end
mutual
def Nd.dep : Nd → Nat
  | .mk _ _ ks => ndsDep ks + 1
def ndsDep : List Nd → Nat
  | [] => 0
  | k :: r => max (Nd.dep k) (ndsDep r)
end
section
variable (K : PySem.W.Frag) (ok : Addr → Prop)
mutual
def NdAt (H : Hp) : Nd → Prop
  | .mk a t ks => (∃ C dx fs, H a = some (.ins C dx fs) ∧ ok C ∧ fs.lookup ("_parts" : Str) = some (V.ref t) ∧ fs.lookup ("nodes" : Str) = none) ∧ SqT K H t (ks.map fun k => V.ref k.ad) ∧ ndsAt H ks
def ndsAt (H : Hp) : List Nd → Prop
  | [] => True
  | k :: r => NdAt H k ∧ ndsAt H r
end
def nSpec (nd : Nd) : GSpec where
  n := nd.list.length
  st := fun _ H => NdAt K ok H nd
  yld := fun i G v H' => ∃ b, nd.list[i]? = some b ∧ v = .ref b ∧ H' = G
  fin := fun G H' => H' = G
  qt := false
def nPr (m : Nat) : List V → Hp → GSpec → Prop := fun vs H sp => ∃ nd : Nd, nd.dep ≤ m ∧ vs = [.ref nd.ad] ∧ NdAt K ok H nd ∧ sp = nSpec K ok nd
end
section
variable {K : PySem.W.Frag} {ok : Addr → Prop} {H : Hp}
theorem ndsAt_get : ∀ {ks : List Nd} {i : Nat} {k : Nd}, ndsAt K ok H ks → ks[i]? = some k → NdAt K ok H k
  | [], _, _, _, e => by simp at e
  | k :: r, 0, _, h, e => by
    simp only [List.getElem?_cons_zero, Option.some.injEq] at e
    subst e
    rw [ndsAt] at h
    exact h.1
  | k :: r, i + 1, _, h, e => by
    rw [ndsAt] at h
    exact ndsAt_get h.2 (by simpa using e)
theorem dep_get : ∀ {ks : List Nd} {i : Nat} {k : Nd}, ks[i]? = some k → k.dep ≤ ndsDep ks
  | [], _, _, e => by simp at e
  | k :: r, 0, _, e => by
    simp only [List.getElem?_cons_zero, Option.some.injEq] at e
    subst e
    rw [ndsDep]
    exact Nat.le_max_left _ _
  | k :: r, i + 1, _, e => by
    rw [ndsDep]
    exact Nat.le_trans (dep_get (by simpa using e)) (Nat.le_max_right _ _)
/-- where the i-th part's nodes stand -/
def offs (ks : List Nd) (k : Nat) : Nat := (ndsList (ks.take k)).length
theorem ndsList_append : ∀ (a b : List Nd), ndsList (a ++ b) = ndsList a ++ ndsList b
  | [], b => by rw [ndsList]; rfl
  | k :: r, b => by
    rw [List.cons_append, ndsList, ndsList, ndsList_append r b, List.append_assoc]
theorem offs_zero (ks : List Nd) : offs ks 0 = 0 := by
  unfold offs
  rw [List.take_zero, ndsList]
  rfl
theorem ndsList_one (k : Nd) : ndsList [k] = k.list := by
  rw [ndsList, ndsList, List.append_nil]
theorem offs_succ {ks : List Nd} {i : Nat} {k : Nd} (e : ks[i]? = some k) : offs ks (i + 1) = offs ks i + k.list.length := by
  unfold offs
  rw [List.take_add_one, e, ndsList_append, List.length_append]
  show _ + (ndsList [k]).length = _
  rw [ndsList_one]
theorem at_offs {ks : List Nd} {i j : Nat} {k : Nd} {b : Addr} (e : ks[i]? = some k) (h : k.list[j]? = some b) : (ndsList ks)[offs ks i + j]? = some b := by
  have hj : j < k.list.length := (List.getElem?_eq_some_iff.mp h).1
  have hs : ks = ks.take i ++ ([k] ++ ks.drop (i + 1)) := by
    obtain ⟨hi, e'⟩ := List.getElem?_eq_some_iff.mp e
    have z : ks.drop i = k :: ks.drop (i + 1) := by rw [← e']; exact List.drop_eq_getElem_cons hi
    rw [List.singleton_append, ← z, List.take_append_drop]
  unfold offs
  have z : ndsList ks = ndsList (ks.take i) ++ (k.list ++ ndsList (ks.drop (i + 1))) := by
    conv => lhs; rw [hs]
    rw [ndsList_append, ndsList_append, ndsList_one]
  rw [z, List.getElem?_append_right (Nat.le_add_right _ _), Nat.add_sub_cancel_left, List.getElem?_append_left hj]
  exact h
end
section
variable {P : Program} {w : World} {K : PySem.W.Frag} {mg : Str → Option Value} {base : Heap} {f : Addr} {fd : FuncData} {qual : Str} {ok : Addr → Prop}
theorem nodes_ok (F : Fun K "nodes" qual sNodes f fd) (bF : Binds K fd ["self"] []) (hok : ∀ C, ok C → Cls K C ∧ NoAttr K C "_parts" ∧ Meth K C "nodes" f) : ∀ m, GFnN P w K mg base (3 * m) f fd ["self"] (nPr K ok m)
  | 0 => by
    have no : ∀ vs H sp, ¬ nPr K ok 0 vs H sp := fun vs H sp h => by
      obtain ⟨nd, h0, _⟩ := h
      cases nd with
      | mk a t ks =>
        rw [Nd.dep] at h0
        omega
    exact ⟨fun vs H sp h => absurd h (no vs H sp), fun A outer s H args us vs sp _ _ _ _ h => absurd h (no vs H sp)⟩
  | m + 1 => by
    have ih := nodes_ok F bF hok m
    obtain ⟨oc, od, kV, doc, pm, an, cdv, ct, osl, rfl, lk, hcd⟩ := F.ex
    refine gfnN (k := 3 * m + 2) lk hcd scNodes (fun n => rfl) (fun vs H sp h => ?_) fun A outer n0 g0 os ga go vs H sp hr Fx h => ?_
    · obtain ⟨nd, _, rfl, _⟩ := h
      rfl
    obtain ⟨nd, hd, rfl, hN, rfl⟩ := h
    have room : ((A.deeper (envOfC qual (defScope sNodes) n0 f cdv)).in1).depth < recursionLimit := by
      have := hr.dp
      show (A.deeper (envOfC qual (defScope sNodes) n0 f cdv)).depth < _
      omega
    refine ⟨_, gss_cons (gs_yield Fx (te := tVar 0) (fun s H => pv 0) rfl) (gss_one (gs_for (wi := iTup K (tFld K (tVar 0) "_parts")) (g := gName 1) (fun s H => pi_tup (pe_fld (pv 0) rfl)) (fun s H => pg_name (i := 1) scNodes.nd rfl (.inl rfl)) (gss_one (gs_yieldFrom Fx
      (pgng_of (t := tMethN K f "nodes" (nPr K ok m) [] (tVar 1)) Fx hr.in1.in1 fun s H => pgn_meth0 (pv 1) ih (hr.mono (by omega)) bF .nil) room)))), fun H0 hst => ?_⟩
    cases nd with
    | mk a t ks =>
      have sz : (nSpec K ok (.mk a t ks)).n = 1 + (ndsList ks).length := by
        show (Nd.list (.mk a t ks)).length = _
        rw [Nd.list, List.length_cons, Nat.add_comm]
      have dks : ndsDep ks ≤ m := by
        rw [Nd.dep] at hd
        omega
      have lst : ∀ i, (Nd.list (.mk a t ks))[1 + i]? = (ndsList ks)[i]? := fun i => by
        rw [Nd.list, Nat.add_comm, List.getElem?_cons_succ]
      refine ⟨by omega, _, rfl, ⟨a, by rw [Nd.list]; rfl, rfl, rfl⟩, fun H2 st2 => ?_⟩
      have st2' : NdAt K ok H2 (.mk a t ks) := st2
      have st3 := st2'
      rw [NdAt] at st3
      obtain ⟨⟨C, dx, fs, ha, oC, hl, _⟩, sq, _⟩ := st3
      obtain ⟨c1, c2, _⟩ := hok C oC
      refine ⟨.ref a, rfl, a, C, dx, fs, .ref t, rfl, ha, c1, c2, hl, t, rfl, ⟨_, sq⟩, fun k m' i G σ H => k + m' = ks.length ∧ i = 1 + offs ks k ∧ H = G ∧ NdAt K ok H (.mk a t ks) ∧ σ.length = 2, ⟨ks.length, Nat.zero_add _, by rw [offs_zero], rfl, st2', rfl⟩, ?_⟩
      rintro k m' i G σ H ⟨hk, rfl, rfl, hH, hσ⟩
      have hH' := hH
      rw [NdAt] at hH'
      obtain ⟨_, sqH, kidsH⟩ := hH'
      rcases Nat.lt_or_ge k ks.length with lt | ge
      · right
        obtain ⟨kid, ek⟩ : ∃ kid, ks[k]? = some kid := ⟨ks[k], List.getElem?_eq_getElem lt⟩
        have ex : (ks.map fun k => V.ref k.ad)[k]? = some (.ref kid.ad) := by rw [List.getElem?_map, ek]; rfl
        refine ⟨⟨_, _, sqH, ex⟩, fun i' G' σ' H' => i' = 1 + offs ks (k + 1) ∧ H' = G' ∧ NdAt K ok H' (.mk a t ks) ∧ σ'.length = 2, fun i' G' σ' H' ⟨q1, q2, q3, q4⟩ => ⟨m' - 1, by omega, by omega, q1, q2, q3, q4⟩, fun x H' hy => ?_⟩
        obtain ⟨rfl, hy⟩ := hy
        have hx := hy _ sqH
        rw [ex] at hx
        obtain rfl : V.ref kid.ad = x := Option.some.inj hx
        have kidAt := ndsAt_get kidsH ek
        have kid2 := kidAt
        cases kid with
        | mk b tb kbs =>
          rw [NdAt] at kid2
          obtain ⟨⟨Cb, dxb, fsb, hb, oCb, _, hnb⟩, _⟩ := kid2
          obtain ⟨d1, _, d3⟩ := hok Cb oCb
          refine ⟨.ref b, List.getElem?_set_self (by omega), b, Cb, dxb, fsb, rfl, hb, d1, d3, hnb, nSpec K ok (.mk b tb kbs), ⟨.mk b tb kbs, Nat.le_trans (dep_get ek) dks, rfl, kidAt, rfl⟩, rfl, fun j i' G' H' => i' = 1 + offs ks k + j ∧ H' = G' ∧ NdAt K ok H' (.mk a t ks), ⟨rfl, rfl, hH⟩, ?_⟩
          rintro j i' G' H' ⟨rfl, rfl, hP⟩ hj
          have hP' := hP
          rw [NdAt] at hP'
          refine ⟨ndsAt_get hP'.2.2 ek, fun ej H2 h2 => ⟨?_, h2, ?_, by rw [List.length_set]; exact hσ⟩, fun lj => ?_⟩
          · rw [offs_succ ek]
            have : j = (Nd.list (.mk b tb kbs)).length := ej
            omega
          · rw [show H2 = _ from h2]; exact hP
          · have hjl : j < (Nd.list (.mk b tb kbs)).length := lj
            have ej : (Nd.list (.mk b tb kbs))[j]? = some (Nd.list (.mk b tb kbs))[j] := List.getElem?_eq_getElem hjl
            have el := at_offs ek ej
            have lo := (List.getElem?_eq_some_iff.mp el).1
            refine ⟨by rw [sz]; omega, fun x H2 hy2 => ?_⟩
            obtain ⟨b2, hb2, rfl, rfl⟩ := hy2
            refine ⟨⟨b2, ?_, rfl, rfl⟩, fun G2 hs => ⟨by omega, rfl, hs⟩⟩
            rw [Nat.add_assoc, lst]
            exact at_offs ek hb2
      · left
        have ek : k = ks.length := by omega
        subst ek
        refine ⟨⟨_, sqH, by rw [List.length_map]; exact Nat.le_refl _⟩, ?_, rfl⟩
        rw [sz]
        unfold offs
        rw [List.take_length]
end
end NM
namespace MR
open PySem PySem.Spec PyProof.Rows L2 LY GW NM
mutual
/-- all nodes of a tree, itself first -/
def T.subs : T → List T
  | .mk g ks => .mk g ks :: T.subsL ks
def T.subsL : List T → List T
  | [] => []
  | t :: r => T.subs t ++ T.subsL r
end
def okC (c : Kd → Addr) (C : Addr) : Prop := ∃ k, C = c k
/-- the nodes as they lie -/
def LiesL (c : Kd → Addr) (H : Hp) : List T → List Addr → Prop
  | [], [] => True
  | t :: r, a :: s => EE c H t (.ref a) ∧ LiesL c H r s
  | _, _ => False
theorem LiesL.app {c : Kd → Addr} {H : Hp} : ∀ {ts us : List T} {as bs : List Addr}, LiesL c H ts as → LiesL c H us bs → LiesL c H (ts ++ us) (as ++ bs)
  | [], us, [], bs, _, h => h
  | t :: r, us, a :: s, bs, h, h' => ⟨h.1, LiesL.app h.2 h'⟩
  | [], _, _ :: _, _, h, _ => h.elim
  | _ :: _, _, [], _, h, _ => h.elim
theorem LiesL.len {c : Kd → Addr} {H : Hp} : ∀ {ts : List T} {as : List Addr}, LiesL c H ts as → as.length = ts.length
  | [], [], _ => rfl
  | t :: r, a :: s, h => by rw [List.length_cons, List.length_cons, LiesL.len h.2]
  | [], _ :: _, h => h.elim
  | _ :: _, [], h => h.elim
theorem LiesL.get {c : Kd → Addr} {H : Hp} : ∀ {ts : List T} {as : List Addr} {i : Nat} {a : Addr}, LiesL c H ts as → as[i]? = some a → ∃ t, ts[i]? = some t ∧ EE c H t (.ref a)
  | [], [], _, _, _, e => by simp at e
  | t :: r, a :: s, 0, a', h, e => by
    simp at e
    subst e
    exact ⟨t, rfl, h.1⟩
  | t :: r, a :: s, i + 1, a', h, e => by
    obtain ⟨u, h1, h2⟩ := LiesL.get h.2 (i := i) (by simpa using e)
    exact ⟨u, by simpa using h1, h2⟩
  | [], _ :: _, _, _, h, _ => h.elim
  | _ :: _, [], _, _, h, _ => h.elim
theorem LiesL.fx {c : Kd → Addr} {H H' : Hp} (e : Fx H H') : ∀ {ts : List T} {as : List Addr}, LiesL c H ts as → LiesL c H' ts as
  | [], [], _ => trivial
  | t :: r, a :: s, h => ⟨EE.fx e h.1, LiesL.fx e h.2⟩
  | [], _ :: _, h => h.elim
  | _ :: _, [], h => h.elim
section
variable {K : PySem.W.Frag} {c : Kd → Addr} {H : Hp}
mutual
theorem EE.nd : ∀ {t : T} {v : V}, EE c H t v → ∃ nd : Nd, v = .ref nd.ad ∧ NdAt K (okC c) H nd ∧ nd.dep = t.depth ∧ LiesL c H t.subs nd.list
  | .mk g ks, v, h => by
    have h' := h
    rw [EE] at h
    obtain ⟨a, dx, pt, ct, cs, us, qt, rfl, ha, hpt, _, _, _, _, hu⟩ := h
    obtain ⟨nds, h1, h2, h3, h4⟩ := EEs.nds hu
    refine ⟨.mk a pt nds, rfl, ?_, ?_, ?_⟩
    · rw [NdAt]
      refine ⟨⟨_, dx, _, ha, ⟨_, rfl⟩, look_parts, look_meth (by decide)⟩, ?_, h2⟩
      rw [← h1]
      exact .inl (.inl hpt)
    · rw [Nd.dep, T.depth, h3]
    · rw [Nd.list, T.subs]
      exact ⟨h', h4⟩
theorem EEs.nds : ∀ {ts : List T} {us : List V}, EEs c H ts us → ∃ nds : List Nd, us = nds.map (fun k => V.ref k.ad) ∧ ndsAt K (okC c) H nds ∧ ndsDep nds = T.depths ts ∧ LiesL c H (T.subsL ts) (ndsList nds)
  | [], us, h => by
    rw [EEs] at h
    subst h
    refine ⟨[], rfl, ?_, ?_, ?_⟩
    · rw [ndsAt]; trivial
    · rw [ndsDep, T.depths]
    · rw [T.subsL, ndsList]; trivial
  | t :: r, us, h => by
    rw [EEs] at h
    obtain ⟨u, s, rfl, h1, h2⟩ := h
    obtain ⟨nd, e1, e2, e3, e4⟩ := EE.nd h1
    obtain ⟨nds, f1, f2, f3, f4⟩ := EEs.nds h2
    refine ⟨nd :: nds, by rw [e1, f1]; rfl, ?_, ?_, ?_⟩
    · rw [ndsAt]; exact ⟨e2, f2⟩
    · rw [ndsDep, T.depths, e3, f3]
    · rw [T.subsL, ndsList]; exact e4.app f4
end
end
end MR
end

section
set_option Elab.async false
set_option linter.all false
set_option maxRecDepth 100000
set_option maxHeartbeats 1000000
/-! Rows and contracts. -/
namespace MR
open PySem PySem.Spec PyProof.Rows L2
section
variable {K : PySem.W.Frag} {te : TE} {vs : List Nat} {σ : L2.St} {H1 : Hp} {D : Addr} {Qd : Hp → Prop} {J : It} {n : Nat} {G : Hp → Prop} {Y : Nat → Hp → V → Hp → Prop} {g : TG}
theorem lcm_it (w : Walk J n G Y) (R : Nat → V → Hp → Prop) (mon : ∀ i y H H', Fx H H' → R i y H → R i y H') (hG : ∀ H, Ext H1 H → G H) (hD : H1 D = none) (hz : n ≤ sizeLine)
    (hY : ∀ i H x H', Y i H x H' → Ext H H')
    (step : ∀ i x H H' (Qk : VK), Ext H1 H → i < n → Y i H x H' → (∀ y H'', Ext H' H'' → R i y H'' → Qk y H'') → g x (wipe σ vs) H' fun σ2 H2 => wipe σ2 vs = wipe σ vs ∧ te σ2 H2 Qk)
    (fin : ∀ H ys, Ext H1 H → H D = some (.lst ys) → ys.length = n → (∀ i y, ys[i]? = some y → R i y H) → Qd H) :
    ∃ W : Nat → Nat → Hp → Prop, (∃ m, W 0 m (upd H1 D (.lst []))) ∧ ∀ i m H, W i m H →
      (J.stop i H ∧ Qd H) ∨ (J.go i H ∧ ∃ Nx : Hp → Prop, (∀ H', Nx H' → ∃ m', m' < m ∧ W (i + 1) m' H') ∧ ∀ x H', J.yld i H x H' → g x (wipe σ vs) H' fun σ2 H2 => wipe σ2 vs = wipe σ vs ∧ tYes σ2 H2 fun b H3 =>
        if b = true then te σ2 H3 fun y H4 => ∃ acc, H4 D = some (.lst acc) ∧ acc.length < sizeLine ∧ Nx (upd H4 D (.lst (acc ++ [y]))) else Nx H3) := by
  refine lc_it w (LcI H1 R D) (LcI.start hD) (fun i H _ I => hG H I.sub) (fun i x H H' hi I hy => ?_) fun H I => ?_
  · have e1 := hY _ _ _ _ hy
    exact step i x H H' _ I.sub hi hy fun y H'' e r => LcI.next hD mon I (by omega) (e1.trans e) r
  · obtain ⟨acc, h1, h2, h3⟩ := I.ex
    exact fin H acc I.sub h1 h2 h3
theorem walk_zipT {a b : Addr} {xs ys : List V} (hn : n = min xs.length ys.length) : Walk (RZ.ItzT K a b) n (fun H => SqT K H a xs ∧ SqT K H b ys) (YPair (fun i => xs[i]?) (fun i => ys[i]?)) :=
  ⟨fun i _ hi q => ⟨xs, ys, xs[i]'(by omega), ys[i]'(by omega), q.1, q.2, List.getElem?_eq_getElem _, List.getElem?_eq_getElem _⟩, fun _ q => ⟨xs, ys, q.1, q.2, by omega⟩, fun _ _ _ _ _ q y => let ⟨T, x, y', e1, e2, e3, e4, e5⟩ := y; ⟨T, x, y', e1, e2, e3, e4 _ q.1, e5 _ q.2⟩⟩
end
/-- an ascending row of values -/
structure OkRow (n : Int) (r : List Int) : Prop where
  ne : 1 ≤ r.length
  le : r.length ≤ 3
  rg : ∀ i ∈ r, 0 ≤ i ∧ i < n
  up : ∀ (i : Nat) (a b : Int), r[i]? = some a → r[i + 1]? = some b → a < b
section
variable {P : Program} {w : World} {K : PySem.W.Frag} {mg : Str → Option Value} {base : Heap} {cC : Addr}
abbrev sIsRow : Stmt := top 21
theorem scIsRow : FnScope ["row", "size", "value", "low", "high"] ["row", "size"] (defScope sIsRow) := ⟨rfl, rfl, rfl, by decide +kernel, rfl, by decide +kernel, by decide +kernel⟩
def spIsRow : Sp := fun vs H Q _ => ∃ (p : Addr) (r : List Int) (n : Int), vs = [.ref p, .int n] ∧ H p = some (.tup (r.map V.int)) ∧ OkRow n r ∧ ∀ H', Ext H H' → Q (.bl true) H'
theorem isRow_ok {f : Addr} {fd : FuncData} (F : Fun K "is_row" "is_row" sIsRow f fd) (bn : BN mg) (cV : Cal P w K mg base 1 "is_value" spIsValue) : FnOk P w K mg base CX0 2 f fd ["row", "size"] spIsRow := by
  refine F.ok (k := 1) scIsRow (fun vs H Q E h => ?_) (fun cdv A outer s H vs Q E hr h => ?_)
  · obtain ⟨p, r, n, rfl, _⟩ := h
    rfl
  · obtain ⟨p, r, n, rfl, hp, ok, kk⟩ := h
    refine ⟨_, pss_cons (ps_if (PW.pt (pw_or (pt_not (pt_val (pe_is bn (pa_cons (pv 0) (pa_cons (pe_bltn (v := .ty "tuple") (by rfl) (bn "tuple" (by decide)) boot_tTuple rfl) pa_nil)))))
        (pw_or1 (pt_cmpR op_eq (pe_len bn (pa_cons (pv 0) pa_nil)) pe_int rfl)))) (pss_one (ps_ret pe_bl)) pss_nil)
      (pss_cons (ps_if (pt_not (pt_val (pe_callB (cr_all rfl) (by rfl) (bn "all" (by decide)) boot_bAll (pa_cons
          (pe_lc (own := [("value", 2)]) (g := gName 2) (tt := tYes) (te := tCall spIsValue [] E0 (tCons (tVar 2) (tCons (tVar 1) tNil))) rfl scIsRow.nd (pi_tup (pv 0)) (blkOk_by (N := ["row", "size", "value", "low", "high"]) (sc := defScope sIsRow) (by decide +kernel))
            (fun _ _ _ _ _ => pg_name (i := 2) scIsRow.nd rfl (.inl rfl)) (fun _ _ _ _ _ => pts_nil) (fun _ _ _ _ _ => pe_c (j := 1) cV hr (by decide) (pa_cons (pv 2) (pa_cons (pv 1) pa_nil)))) pa_nil)))) (pss_one (ps_ret pe_bl)) pss_nil)
      (pss_one (ps_ret (pe_callB (cr_all rfl) (by rfl) (bn "all" (by decide)) boot_bAll (pa_cons
          (pe_lc (own := [("low", 3), ("high", 4)]) (g := gTup K 2 (gCons (gName 3) (gCons (gName 4) gNil))) (tt := tYes) (te := tOp (rI0 fun i j => .bl (decide (i < j))) (tVar 3) (tVar 4)) rfl scIsRow.nd
            (RZ.pi_zipA (by rfl) (bn "zip" (by decide)) (pa_cons (pv 0) (pa_cons (pe_slice sl_tupA (pv 0) (po_some pe_int) po_none) pa_nil)))
            (blkOk_by (N := ["row", "size", "value", "low", "high"]) (sc := defScope sIsRow) (by decide +kernel))
            (fun _ _ _ _ _ => pg_tup rfl (pgs_cons (pg_name (i := 3) scIsRow.nd rfl (.inl rfl)) (pgs_cons (pg_name (i := 4) scIsRow.nd rfl (.inl rfl)) pgs_nil))) (fun _ _ _ _ _ => pts_nil) (fun _ _ _ _ _ => pe_cmpR op_lt (pv 3) (pv 4) rfl)) pa_nil))))), ?_⟩
    have hlr : (r.map V.int).length = r.length := List.length_map ..
    refine ⟨_, rfl, _, _, true, rfl, .base (.tup hp), kit_ty (by decide +kernel), _, rfl, iteF ⟨_, rfl, p, _, rfl, .inr (.inl (.inl hp)), rfl, _, rfl, ?_⟩⟩
    rw [show decide (V.int (((r.map V.int).length : Nat) : Int) = V.int 0) = false from decide_eq_false (by
      have := ok.ne
      simp only [V.int.injEq, hlr]
      omega)]
    refine iteF ⟨_, rfl, p, rfl, ⟨_, .inl (.inl hp)⟩, fun D hD => ?_⟩
    refine lcm_tup (xs := r.map V.int) (R := fun _ y _ => y = .bl true) (fun _ _ _ _ _ h => h) (.inl (.inl hp)) hD (by have := ok.le; rw [hlr, sizeLine_eq]; omega) ?hw (fun i x H2 Qk e2 hx kk => ?_) (fun H1 ys e1 hD1 hys hR => ?_)
    case hw => intro x; rfl
    · rw [List.getElem?_map] at hx
      obtain ⟨z, hz, rfl⟩ := Option.map_eq_some_iff.mp hx
      obtain ⟨h0, h1⟩ := ok.rg z (List.mem_of_getElem? hz)
      refine ⟨_, rfl, _, rfl, z, n, rfl, kk _ _ Ext.rfl' ?_⟩
      rw [decide_eq_true h0, decide_eq_true h1]
      rfl
    have hb := bools_all (n := 0) ys hR
    refine ⟨D, List.replicate ys.length true, rfl, .inl (.inl (by rw [← hb]; exact hD1)), _, rfl, ?_⟩
    rw [show (List.replicate ys.length true).all id = true from by simp]
    have hp1 := e1 _ _ hp
    refine iteF ⟨_, rfl, _, rfl, _, rfl, p, _, rfl, .inl (.inl hp1), fun e => absurd e.1 ?hne, fun _ q1 hq1 => ⟨p, q1, _, _, rfl, .inr ⟨.inl (.inl (Ext.upd hq1 _ _ hp1)), .inl (.inl upd_same), fun D2 hD2 => ?_⟩⟩⟩
    case hne =>
      rw [show (1 : Int) = ((1 : Nat) : Int) from rfl, HT.sIx_nat, hlr]
      have := ok.ne
      omega
    have hcut : ∀ i : Nat, i < r.length - 1 → (cutV (r.map V.int) (some 1) none)[i]? = (r[i + 1]?).map V.int := fun i hi => by
      unfold cutV
      rw [show (1 : Int) = ((1 : Nat) : Int) from rfl, HT.sIx_nat, HT.sIx_none, hlr, List.getElem?_take]
      have : min 1 r.length = 1 := by have := ok.ne; omega
      rw [this, if_pos (by omega), List.getElem?_drop, List.getElem?_map, Nat.add_comm]
    have hcl : (cutV (r.map V.int) (some 1) none).length = r.length - 1 := by
      unfold cutV
      rw [show (1 : Int) = ((1 : Nat) : Int) from rfl, HT.sIx_nat, HT.sIx_none, hlr, List.length_take, List.length_drop, hlr]
      have := ok.ne
      omega
    generalize hH2 : (upd H1 q1 (.tup (cutV (r.map V.int) (some 1) none))) = H2 at *
    have e2 : Ext H1 H2 := by rw [← hH2]; exact Ext.upd hq1
    have hp2 := e2 _ _ hp1
    have hq2 : H2 q1 = some (.tup (cutV (r.map V.int) (some 1) none)) := by rw [← hH2]; exact upd_same
    refine lcm_it (n := r.length - 1) (walk_zipT (xs := r.map V.int) (ys := cutV (r.map V.int) (some 1) none) (by rw [hlr, hcl]; omega)) (R := fun _ y _ => y = .bl true) (fun _ _ _ _ _ h => h) (fun H3 e3 => ⟨.inl (.inl (e3 _ _ hp2)), .inl (.inl (e3 _ _ hq2))⟩) hD2 (by have := ok.le; rw [sizeLine_eq]; omega)
      (fun i H x H' ⟨T, x, y, _, hT, e, _⟩ => by rw [e]; exact Ext.upd hT) (fun i x H3 H' Qk e3 hi hY kk => ?_) (fun H3 ys e3 hD3 hys hR => ?_)
    · obtain ⟨T, x, y, rfl, hT, rfl, hx, hy⟩ := hY
      have hx : (r.map V.int)[i]? = some x := hx
      have hy : (cutV (r.map V.int) (some 1) none)[i]? = some y := hy
      rw [hcut i hi] at hy
      rw [List.getElem?_map] at hx
      obtain ⟨a, ha, rfl⟩ := Option.map_eq_some_iff.mp hx
      obtain ⟨b, hb, rfl⟩ := Option.map_eq_some_iff.mp hy
      refine ⟨T, _, rfl, .inl (.inl upd_same), rfl, _, _, rfl, _, _, rfl, ⟨rfl, rfl, _, rfl, _, rfl, a, b, rfl, rfl, kk _ _ Ext.rfl' ?_⟩⟩
      show V.bl (decide (a < b)) = V.bl true
      rw [decide_eq_true (ok.up i a b ha hb)]
    · have hb := bools_all (n := 0) ys hR
      refine ⟨D2, List.replicate ys.length true, rfl, .inl (.inl (by rw [← hb]; exact hD3)), ?_⟩
      rw [show (List.replicate ys.length true).all id = true from by simp]
      exact kk _ (e1.trans (e2.trans e3))
/-! ### Contract -/
/-- rows as they lie -/
def Rws (H : Hp) (p : Addr) (rs : List (List Int)) : Prop := ∃ us, H p = some (.tup us) ∧ us.length = rs.length ∧ ∀ (i : Nat) (u : V), us[i]? = some u → ∃ r q, rs[i]? = some r ∧ u = .ref q ∧ H q = some (.tup (r.map V.int))
def CN (cC : Addr) (H : Hp) (rs : List (List Int)) (v : V) : Prop := ∃ a dx p, v = .ref a ∧ H a = some (.ins cC dx [("_rows", .ref p)]) ∧ Rws H p rs
theorem Rws.fx {H H' : Hp} (e : Fx H H') {p : Addr} {rs : List (List Int)} (h : Rws H p rs) : Rws H' p rs := by
  obtain ⟨us, h1, h2, h3⟩ := h
  exact ⟨us, e _ _ trivial h1, h2, fun i u hu => let ⟨r, q, k1, k2, k3⟩ := h3 i u hu; ⟨r, q, k1, k2, e _ _ trivial k3⟩⟩
theorem CN.fx {H H' : Hp} (e : Fx H H') {cC : Addr} {v : V} {rs : List (List Int)} (h : CN cC H rs v) : CN cC H' rs v := by
  obtain ⟨a, dx, p, h1, h2, h3⟩ := h
  exact ⟨a, dx, p, h1, e _ _ trivial h2, h3.fx e⟩
/-- the facts of Contract -/
structure KF (K : PySem.W.Frag) (cC : Addr) : Prop where
  cls : Cls K cC
  ca : PySem.W.findIn K (.ref cC) "__class__" = some (some (.builtin "object.__class__"))
  cn : PySem.W.specialIn K (.builtin "object.__class__") "__get__" = some (some (.builtin "getset_descriptor.__get__"))
  ctk : PySem.W.takesIn K (.builtin "object.__class__") = some true
  cm : PySem.W.mroIn K cC (.type "object") = some true
  kk : PySem.W.kitOne K (.ref cC) (.ref cC) = some true
  nf : PySem.W.notFirst K cC (.ref cC) = true
  na : NoAttr K cC "_rows"
theorem KF.ty (Z : KF K cC) {H : Hp} {a dx : Addr} {fs : List (Str × V)} (h : H a = some (.ins cC dx fs)) : TyX K H (.ref a) (.ref cC) := .base (.ins h Z.cls Z.ca Z.cn Z.ctk Z.cm)
abbrev sCInit : Stmt := inClass (top 24) 0
abbrev sCEq : Stmt := inClass (top 24) 1
abbrev sCSize : Stmt := inClass (top 24) 2
abbrev sCRows : Stmt := inClass (top 24) 3
theorem scCInit : FnScope ["self", "rows", "row"] ["self", "rows"] (defScope sCInit) := ⟨rfl, rfl, rfl, by decide +kernel, rfl, by decide +kernel, by decide +kernel⟩
theorem scCEq : FnScope ["self", "other"] ["self", "other"] (defScope sCEq) := ⟨rfl, rfl, rfl, by decide +kernel, rfl, by decide +kernel, by decide +kernel⟩
theorem scCSize : FnScope ["self"] ["self"] (defScope sCSize) := ⟨rfl, rfl, rfl, by decide +kernel, rfl, by decide +kernel, by decide +kernel⟩
theorem scCRows : FnScope ["self"] ["self"] (defScope sCRows) := ⟨rfl, rfl, rfl, by decide +kernel, rfl, by decide +kernel, by decide +kernel⟩
def spCInit (cC : Addr) : Sp := fun vs H Q _ => ∃ a dx p rs, vs = [.ref a, .ref p] ∧ H a = some (.ins cC dx []) ∧ Rws H p rs ∧ (rs.length = 2 ∨ rs.length = 3) ∧ (∀ r ∈ rs, OkRow rs.length r) ∧
  ∀ H', (∀ b o, b ≠ a → H b = some o → H' b = some o) → CN cC H' rs (.ref a) → Q .non H'
def spCGet (cC : Addr) (f : List (List Int) → Addr → V) : Sp := fun vs H Q _ => ∃ a dx p rs, vs = [.ref a] ∧ H a = some (.ins cC dx [("_rows", .ref p)]) ∧ Rws H p rs ∧ Q (f rs p) H
theorem cRows_ok {f : Addr} {fd : FuncData} (F : Fun K "rows" "Contract.rows" sCRows f fd) (Z : KF K cC) : FnOk P w K mg base CX0 1 f fd ["self"] (spCGet cC fun _ p => .ref p) := by
  refine F.ok scCRows (fun vs H Q E h => ?_) (fun cdv A outer s H vs Q E hr h => ?_)
  · obtain ⟨a, dx, p, rs, rfl, _⟩ := h
    rfl
  · obtain ⟨a, dx, p, rs, rfl, ha, hp, kk⟩ := h
    exact ⟨_, pss_one (ps_ret (pe_fld (pv 0) rfl)), _, rfl, a, _, dx, _, _, rfl, ha, Z.cls, Z.na, rfl, kk⟩
theorem cSize_ok {f : Addr} {fd : FuncData} (F : Fun K "size" "Contract.size" sCSize f fd) (bn : BN mg) (Z : KF K cC) : FnOk P w K mg base CX0 1 f fd ["self"] (spCGet cC fun rs _ => .int rs.length) := by
  refine F.ok scCSize (fun vs H Q E h => ?_) (fun cdv A outer s H vs Q E hr h => ?_)
  · obtain ⟨a, dx, p, rs, rfl, _⟩ := h
    rfl
  · obtain ⟨a, dx, p, rs, rfl, ha, ⟨us, hp, hl, _⟩, kk⟩ := h
    refine ⟨_, pss_one (ps_ret (pe_len bn (pa_cons (pe_fld (pv 0) rfl) pa_nil))), _, rfl, a, _, dx, _, _, rfl, ha, Z.cls, Z.na, rfl, p, us, rfl, .inr (.inl (.inl hp)), ?_⟩
    rw [hl]
    exact kk
theorem cInit_ok {f aS : Addr} {fd : FuncData} (F : Fun K "__init__" "Contract.__init__" sCInit f fd) (bn : BN mg) (Z : KF K cC) (S : SZ K mg aS) (cR : Cal P w K mg base 2 "is_row" spIsRow) : FnOk P w K mg base CX0 3 f fd ["self", "rows"] (spCInit cC) := by
  refine F.ok (k := 2) scCInit (fun vs H Q E h => ?_) (fun cdv A outer s H vs Q E hr h => ?_)
  · obtain ⟨a, dx, p, rs, rfl, _⟩ := h
    rfl
  · obtain ⟨a, dx, p, rs, rfl, ha, ⟨us, hp, hl, hu⟩, hlen, hok, kk⟩ := h
    refine ⟨_, pss_cons (ps_if (PW.pt (pw_or (pt_not (pt_val (pe_is bn (pa_cons (pv 1) (pa_cons (pe_bltn (v := .ty "tuple") (by rfl) (bn "tuple" (by decide)) boot_tTuple rfl) pa_nil)))))
          (pw_or1 (pt_cmpR op_notIn_seq (pe_len bn (pa_cons (pv 1) pa_nil)) (pe_glob (v := .ref aS) (by rfl) S.mgS rfl) rfl)))) (pss_one ps_never) pss_nil)
      (pss_cons (ps_if (pt_not (pt_val (pe_callB (cr_all rfl) (by rfl) (bn "all" (by decide)) boot_bAll (pa_cons
          (pe_lc (own := [("row", 2)]) (g := gName 2) (tt := tYes) (te := tCall spIsRow [] E0 (tCons (tVar 2) (tCons (tCB (fun xs H Q => ∃ p ys, xs = [.ref p] ∧ (SqL K H p ys ∨ SqT K H p ys) ∧ Q (.int ys.length) H) (tCons (tVar 1) tNil)) tNil))) rfl scCInit.nd (pi_tup (pv 1)) (blkOk_by (N := ["self", "rows", "row"]) (sc := defScope sCInit) (by decide +kernel))
            (fun _ _ _ _ _ => pg_name (i := 2) scCInit.nd rfl (.inl rfl)) (fun _ _ _ _ _ => pts_nil) (fun _ _ _ _ _ => pe_c (j := 2) cR hr (by decide) (pa_cons (pv 2) (pa_cons (pe_len bn (pa_cons (pv 1) pa_nil)) pa_nil)))) pa_nil)))) (pss_one ps_never) pss_nil)
      (pss_one (ps_fld (pv 0) (pe_callTy call_tuple_of (by rfl) (bn "tuple" (by decide)) boot_tTuple (pa_cons
          (pe_lc (own := [("row", 2)]) (g := gName 2) (tt := tYes) (te := tCB (fun xs H Q => ∃ p ys, xs = [.ref p] ∧ ((SqL K H p ys ∧ ∀ l, H l = none → Q (.ref l) (upd H l (.tup ys))) ∨ SqT K H p ys ∧ Q (.ref p) H)) (tCons (tVar 2) tNil)) rfl scCInit.nd (pi_tup (pv 1)) (blkOk_by (N := ["self", "rows", "row"]) (sc := defScope sCInit) (by decide +kernel))
            (fun _ _ _ _ _ => pg_name (i := 2) scCInit.nd rfl (.inl rfl)) (fun _ _ _ _ _ => pts_nil) (fun _ _ _ _ _ => pe_callTy call_tuple_of (by rfl) (bn "tuple" (by decide)) boot_tTuple (pa_cons (pv 2) pa_nil))) pa_nil)) rfl))), ?_⟩
    refine ⟨_, rfl, _, _, true, rfl, .base (.tup hp), kit_ty (by decide +kernel), _, rfl, iteF ⟨_, rfl, p, us, rfl, .inr (.inl (.inl hp)), aS, _, rfl, .inr (S.sq H), rfl, rfl, _, rfl, ?_⟩⟩
    rw [show (if true = true then !inV (.int (us.length : Nat)) [.int 2, .int 3] else inV (.int (us.length : Nat)) [.int 2, .int 3]) = false from by
      rw [hl]
      rcases hlen with e | e <;> rw [e] <;> rfl]
    refine iteF ⟨_, rfl, p, rfl, ⟨us, .inl (.inl hp)⟩, fun D hD => ?_⟩
    refine lcm_tup (xs := us) (R := fun _ y _ => y = .bl true) (fun _ _ _ _ _ h => h) (.inl (.inl hp)) hD (by rw [hl, sizeLine_eq]; omega) ?hw (fun i x H2 Qk e2 hx k2 => ?_) (fun H1 ys e1 hD1 hys hR => ?_)
    case hw => intro x; rfl
    · obtain ⟨r, q, hr1, rfl, hq⟩ := hu i x hx
      refine ⟨_, rfl, _, rfl, p, us, rfl, .inr (.inl (.inl (e2 _ _ hp))), q, r, _, rfl, e2 _ _ hq, ?_, fun H' e' => k2 _ _ e' rfl⟩
      rw [hl]
      exact hok r (List.mem_of_getElem? hr1)
    have hb := bools_all (n := 0) ys hR
    refine ⟨D, List.replicate ys.length true, rfl, .inl (.inl (by rw [← hb]; exact hD1)), _, rfl, ?_⟩
    rw [show (List.replicate ys.length true).all id = true from by simp]
    have hp1 := e1 _ _ hp
    refine iteF ⟨_, rfl, p, rfl, ⟨us, .inl (.inl hp1)⟩, fun D2 hD2 => ?_⟩
    refine lcm_tup (xs := us) (R := fun i y _ => us[i]? = some y) (fun _ _ _ _ _ h => h) (.inl (.inl hp1)) hD2 (by rw [hl, sizeLine_eq]; omega) ?hw2 (fun i x H2 Qk e2 hx k2 => ?_) (fun H2 ys2 e2 hD3 hys2 hR2 => ?_)
    case hw2 => intro x; rfl
    · obtain ⟨r, q, hr1, rfl, hq⟩ := hu i x hx
      exact ⟨_, rfl, q, _, rfl, .inr ⟨.inl (.inl (e2 _ _ (e1 _ _ hq))), k2 _ _ Ext.rfl' hx⟩⟩
    have hys : ys2 = us := List.ext_getElem? fun i => by
      by_cases hi : i < ys2.length
      · rw [hR2 i ys2[i] (List.getElem?_eq_getElem hi), List.getElem?_eq_getElem hi]
      · rw [List.getElem?_eq_none (by omega), List.getElem?_eq_none (by omega)]
    subst hys
    refine ⟨D2, _, rfl, .inl ⟨.inl (.inl hD3), fun l hl2 => ?_⟩⟩
    have e3 : Ext H (upd H2 l (.tup ys2)) := (e1.trans e2).upd' hl2
    refine ⟨_, rfl, a, _, dx, _, rfl, e3 _ _ ha, Z.cls, Z.na, (by show 0 < 1000; decide), ?_⟩
    have hla : l ≠ a := fun z => by
      have := (e1.trans e2) _ _ ha
      rw [← z, hl2] at this
      cases this
    have kp : ∀ b o, b ≠ a → H b = some o → (upd (upd H2 l (.tup ys2)) a (.ins cC dx (putF "_rows" (.ref l) []))) b = some o := fun b o hb e => by rw [upd_ne hb]; exact e3 _ _ e
    refine kk _ kp ⟨a, dx, l, rfl, upd_same, ys2, by rw [upd_ne hla]; exact upd_same, hl, fun i u hu' => ?_⟩
    obtain ⟨r, q, k1, k2, k3⟩ := hu i u hu'
    exact ⟨r, q, k1, k2, kp _ _ (fun z => by rw [z, ha] at k3; cases k3) k3⟩
end
end MR
end

section
set_option Elab.async false
set_option linter.all false
set_option maxRecDepth 100000
set_option maxHeartbeats 1000000
/-! Data: none, ints, texts, lists and tuples of them. -/
namespace MR
open PySem PySem.Spec PyProof.Rows L2
mutual
/-- no bools, no dicts, short texts -/
def nb : PyData → Bool
  | .none => true
  | .int _ => true
  | .str x => PyData.strOk x
  | .list xs => nbAll xs
  | .tuple xs => nbAll xs
  | .bool _ => false
  | .dict _ => false
def nbAll : List PyData → Bool
  | [] => true
  | x :: r => nb x && nbAll r
end
mutual
theorem nb_lay : ∀ d : PyData, nb d = true → d.canLay0 = true
  | .none, _ => by rw [PyData.canLay0]
  | .int _, _ => by rw [PyData.canLay0]
  | .str x, h => by rw [nb] at h; rw [PyData.canLay0]; exact h
  | .list xs, h => by rw [nb] at h; rw [PyData.canLay0]; exact nbAll_lay xs h
  | .tuple xs, h => by rw [nb] at h; rw [PyData.canLay0]; exact nbAll_lay xs h
  | .bool _, h => by rw [nb] at h; cases h
  | .dict _, h => by rw [nb] at h; cases h
theorem nbAll_lay : ∀ ds : List PyData, nbAll ds = true → PyData.canLayAll0 ds = true
  | [], _ => by rw [PyData.canLayAll0]
  | d :: r, h => by
    rw [nbAll, Bool.and_eq_true] at h
    rw [PyData.canLayAll0, nb_lay d h.1, nbAll_lay r h.2]
    rfl
end
theorem shaped_nb {d : PyData} (h : nb d = true) (hd : d.depth ≤ 64) : SeqAt.shaped d = true := by
  unfold SeqAt.shaped
  rw [nb_lay d h, decide_eq_true hd]
  rfl
mutual
theorem eq_of_eqv : ∀ {d e : PyData}, nb d = true → nb e = true → PyData.eqv d e = true → d = e
  | .none, e, _, h2, h => by cases e <;> simp_all [PyData.eqv, nb]
  | .int _, e, _, h2, h => by cases e <;> simp_all [PyData.eqv, nb]
  | .str _, e, _, h2, h => by cases e <;> simp_all [PyData.eqv, nb]
  | .bool _, e, h1, _, _ => by rw [nb] at h1; cases h1
  | .dict _, e, h1, _, _ => by rw [nb] at h1; cases h1
  | .list xs, e, h1, h2, h => by
    cases e with
    | list ys =>
      rw [PyData.eqv] at h
      rw [nb] at h1 h2
      rw [eqs_of_eqvAll h1 h2 h]
    | _ => simp_all [PyData.eqv, nb]
  | .tuple xs, e, h1, h2, h => by
    cases e with
    | tuple ys =>
      rw [PyData.eqv] at h
      rw [nb] at h1 h2
      rw [eqs_of_eqvAll h1 h2 h]
    | _ => simp_all [PyData.eqv, nb]
theorem eqs_of_eqvAll : ∀ {ds es : List PyData}, nbAll ds = true → nbAll es = true → PyData.eqvAll ds es = true → ds = es
  | [], [], _, _, _ => rfl
  | d :: r, e :: s, h1, h2, h => by
    rw [nbAll, Bool.and_eq_true] at h1 h2
    rw [PyData.eqvAll, Bool.and_eq_true] at h
    rw [eq_of_eqv h1.1 h2.1 h.1, eqs_of_eqvAll h1.2 h2.2 h.2]
  | [], _ :: _, _, _, h => by rw [PyData.eqvAll] at h; cases h
  | _ :: _, [], _, _, h => by rw [PyData.eqvAll] at h; cases h
end
theorem eqv_iff {d e : PyData} (h1 : nb d = true) (h2 : nb e = true) : PyData.eqv d e = true ↔ d = e :=
  ⟨eq_of_eqv h1 h2, fun z => by subst z; exact PySem.SeqAt.eqv_refl d (nb_lay d h1)⟩
section
variable {K : PySem.W.Frag} {H H' : Hp}
mutual
theorem Dp.ext (e : Ext H H') : ∀ {d : PyData} {v : V}, Dp K H v d → Dp K H' v d
  | .none, _, h => by cases h; exact .non
  | .int i, _, h => by cases h; exact .int i
  | .str x, _, h => by cases h; exact .str x
  | .bool b, _, h => by cases h; exact .bl b
  | .dict _, _, h => by cases h
  | .list xs, _, h => by
    cases h with
    | lst hs ha => exact .lst (SqL.ext hs e) (DpAll.ext e ha)
  | .tuple xs, _, h => by
    cases h with
    | tup hs ha => exact .tup (SqT.ext hs e) (DpAll.ext e ha)
theorem DpAll.ext (e : Ext H H') : ∀ {ds : List PyData} {vs : List V}, DpAll K H vs ds → DpAll K H' vs ds
  | [], _, h => by cases h; exact .nil
  | d :: r, _, h => by
    cases h with
    | cons h1 h2 => exact .cons (Dp.ext e h1) (DpAll.ext e h2)
end
theorem DpAll.len : ∀ {ds : List PyData} {vs : List V}, DpAll K H vs ds → vs.length = ds.length
  | [], _, h => by cases h; rfl
  | d :: r, _, h => by
    cases h with
    | cons h1 h2 => rw [List.length_cons, List.length_cons, DpAll.len h2]
theorem DpAll.of : ∀ {ds : List PyData} {vs : List V}, vs.length = ds.length → (∀ (i : Nat) (v : V) (d : PyData), vs[i]? = some v → ds[i]? = some d → Dp K H v d) → DpAll K H vs ds
  | [], [], _, _ => .nil
  | d :: r, v :: s, hl, h => .cons (h 0 v d rfl rfl) (DpAll.of (by simpa using hl) fun i v' d' h1 h2 => h (i + 1) v' d' (by simpa using h1) (by simpa using h2))
  | [], _ :: _, hl, _ => by simp at hl
  | _ :: _, [], hl, _ => by simp at hl
theorem DpAll.get : ∀ {ds : List PyData} {vs : List V} {i : Nat} {v : V}, DpAll K H vs ds → vs[i]? = some v → ∃ d, ds[i]? = some d ∧ Dp K H v d
  | [], _, _, _, h, e => by cases h; simp at e
  | d :: r, _, i, v, h, e => by
    cases h with
    | cons h1 h2 =>
      cases i with
      | zero => simp at e; subst e; exact ⟨d, rfl, h1⟩
      | succ i =>
        obtain ⟨d', k1, k2⟩ := DpAll.get h2 (i := i) (by simpa using e)
        exact ⟨d', by simpa using k1, k2⟩
theorem Dp.ints : ∀ {r : List Int}, DpAll K H (r.map V.int) (r.map PyData.int)
  | [] => .nil
  | i :: r => .cons (.int i) Dp.ints
theorem map_inj {α β : Type} {f : α → β} (hf : ∀ a b, f a = f b → a = b) : ∀ {r s : List α}, r.map f = s.map f → r = s
  | [], [], _ => rfl
  | a :: r, b :: s, h => by
    simp only [List.map_cons, List.cons.injEq] at h
    rw [hf a b h.1, map_inj hf h.2]
  | [], _ :: _, h => by simp at h
  | _ :: _, [], h => by simp at h
theorem Dp.strs : ∀ {r : List Str}, DpAll K H (r.map V.str) (r.map PyData.str)
  | [] => .nil
  | i :: r => .cons (.str i) Dp.strs
end
def dRow (r : List Int) : PyData := .tuple (r.map .int)
def dRows (rs : List (List Int)) : PyData := .tuple (rs.map dRow)
theorem Rws.dp {K : PySem.W.Frag} {H : Hp} {p : Addr} {rs : List (List Int)} (h : Rws H p rs) : Dp K H (.ref p) (dRows rs) := by
  obtain ⟨us, h1, h2, h3⟩ := h
  refine .tup (.inl (.inl h1)) (DpAll.of (by rw [h2, List.length_map]) fun i v d hv hd => ?_)
  obtain ⟨r, q, k1, k2, k3⟩ := h3 i v hv
  rw [List.getElem?_map, k1] at hd
  cases hd
  rw [k2]
  exact .tup (.inl (.inl k3)) Dp.ints
theorem nb_ints : ∀ {r : List Int}, nbAll (r.map PyData.int) = true
  | [] => by rw [List.map_nil, nbAll]
  | i :: r => by rw [List.map_cons, nbAll, nb, nb_ints]; rfl
theorem depth_ints : ∀ {r : List Int}, PyData.depthAll (r.map PyData.int) = 0
  | [] => by rw [List.map_nil, PyData.depthAll]
  | i :: r => by rw [List.map_cons, PyData.depthAll, PyData.depth, depth_ints]; rfl
theorem nb_rowsA : ∀ {rs : List (List Int)}, nbAll (rs.map dRow) = true
  | [] => by rw [List.map_nil, nbAll]
  | r :: rs => by rw [List.map_cons, nbAll, dRow, nb, nb_ints, nb_rowsA]; rfl
theorem depth_rowsA : ∀ {rs : List (List Int)}, PyData.depthAll (rs.map dRow) ≤ 1
  | [] => by rw [List.map_nil, PyData.depthAll]; omega
  | r :: rs => by
    rw [List.map_cons, PyData.depthAll, dRow, PyData.depth, depth_ints]
    have := depth_rowsA (rs := rs)
    omega
theorem nb_rows {rs : List (List Int)} : nb (dRows rs) = true := by rw [dRows, nb]; exact nb_rowsA
theorem nb_row {r : List Int} : nb (dRow r) = true := by rw [dRow, nb]; exact nb_ints
theorem depth_row {r : List Int} : (dRow r).depth ≤ 64 := by rw [dRow, PyData.depth, depth_ints]; omega
theorem depth_rows {rs : List (List Int)} : (dRows rs).depth ≤ 64 := by
  rw [dRows, PyData.depth]
  have := depth_rowsA (rs := rs)
  omega
theorem dRow_inj {r s : List Int} (h : dRow r = dRow s) : r = s := by
  unfold dRow at h
  simp only [PyData.tuple.injEq] at h
  exact map_inj (fun a b z => by cases z; rfl) h
theorem dRows_inj {r s : List (List Int)} (h : dRows r = dRows s) : r = s := by
  unfold dRows at h
  simp only [PyData.tuple.injEq] at h
  exact map_inj (fun a b z => dRow_inj z) h
theorem eqv_rows (r s : List (List Int)) : PyData.eqv (dRows r) (dRows s) = decide (r = s) := by
  rw [Bool.eq_iff_iff, eqv_iff nb_rows nb_rows, decide_eq_true_eq]
  exact ⟨dRows_inj, fun e => by rw [e]⟩
theorem eqv_row (r s : List Int) : PyData.eqv (dRow r) (dRow s) = decide (r = s) := by
  rw [Bool.eq_iff_iff, eqv_iff nb_row nb_row, decide_eq_true_eq]
  exact ⟨dRow_inj, fun e => by rw [e]⟩
/-! ### == of contracts -/
def RC (cC : Addr) : Eqb := fun x y b H => ∃ rs rs', CN cC H rs x ∧ CN cC H rs' y ∧ decide (rs = rs') = b
section
variable {P : Program} {w : World} {K : PySem.W.Frag} {mg : Str → Option Value} {base : Heap} {cC pR gR : Addr}
theorem cEq_ok {f : Addr} {fd fdR : FuncData} (F : Fun K "__eq__" "Contract.__eq__" sCEq f fd) (bn : BN mg) (Z : KF K cC) (mgC : mg "Contract" = some (.ref cC)) (hR : PropOf K cC "rows" pR gR) (FR : FnOk P w K mg base CX0 1 gR fdR ["self"] (spCGet cC fun _ p => .ref p)) (bR : Binds K fdR ["self"] []) : FnOk P w K mg base CX0 3 f fd ["self", "other"] (spEqB (RC cC)) := by
  refine F.ok (k := 2) scCEq (fun vs H Q E h => ?_) (fun cdv A outer s H vs Q E hr h => ?_)
  · obtain ⟨x, y, b, rfl, _⟩ := h
    rfl
  · obtain ⟨x, y, b, rfl, ⟨rs, rs', ⟨a, dx, p, rfl, ha, hp⟩, ⟨a', dx', p', rfl, ha', hp'⟩, rfl⟩, kk⟩ := h
    refine ⟨_, pss_one (ps_ret (pe_and (pe_is bn (pa_cons (pv 1) (pa_cons (pe_glob (v := .ref cC) (by rfl) mgC rfl) pa_nil))) (pe_one (pe_cmpR (op_eqD (by have := hr.units; exact this)) (pe_propD (p := pR) (pv 0) FR hr bR) (pe_propD (p := pR) (pv 1) FR hr bR) rfl)))), ?_⟩
    refine ⟨_, rfl, _, _, _, rfl, Z.ty ha', Z.kk, _, rfl, iteT ?_⟩
    refine ⟨_, rfl, a, _, dx, _, rfl, ha, Z.cls, hR, a, dx, p, rs, rfl, ha, hp, _, rfl, a', _, dx', _, rfl, ha', Z.cls, hR, a', dx', p', rs', rfl, ha', hp', _, _, hp.dp, hp'.dp, shaped_nb nb_rows depth_rows, shaped_nb nb_rows depth_rows, ?_⟩
    rw [eqv_rows]
    exact kk H Ext.rfl'
end
end MR
end

section
set_option Elab.async false
set_option linter.all false
set_option maxRecDepth 100000
set_option maxHeartbeats 1000000
/-! is_possible, is_function: over a loud generator. -/
namespace MR
open PySem PySem.Spec PyProof.Rows L2 LY GW NM
section
variable {P : Program} {w : World} {K : PySem.W.Frag} {mg : Str → Option Value} {base : Heap}
theorem Fun.okZ {x qual : Str} {st : Stmt} {f : Addr} {fd : FuncData} {N ps : List Str} {k : Nat} {sp : Sp} (F : Fun K x qual st f fd) (S : FnScope N ps (defScope st)) (len : ∀ vs H Q E, sp vs H Q E → vs.length = ps.length)
    (hbody : ∀ (cdv : Value) (A : Around) (outer : List Env) (s : Shared) (H : Hp) (vs : List V) (Q : VK) (E : XK), Room k (A.deeper (envOfC qual (defScope st) s.heap.objs.size f cdv)) → sp vs H Q E →
      ∃ t, PSsz (cxOf CX0 P w K mg base N qual (defScope st) f cdv A outer s H E) (defBody st) t ∧ t { nx := fun _ H' => Q .non H', rt := Q } (start N vs) H) : FnZ P w K mg base (k + 1) f fd ps sp := by
  obtain ⟨oc, od, kV, doc, pm, an, cdv, ct, osl, rfl, lk, hcd⟩ := F.ex
  exact fnz_of lk hcd S len fun A outer s H vs Q E hr h => hbody cdv A outer s H vs Q E hr h
/-- a loud def of the module, under its name -/
structure CalZ (P : Program) (w : World) (K : PySem.W.Frag) (mg : Str → Option Value) (base : Heap) (k : Nat) (x : Str) (sp : Sp) : Prop where
  ex : ∃ (f : Addr) (fd : FuncData) (ps : List Str), FnZ P w K mg base k f fd ps sp ∧ mg x = some (.ref f) ∧ PySem.W.keepIn K (.ref f) = true ∧ Binds K fd ps []
theorem FnZ.mono {f : Addr} {fd : FuncData} {ps : List Str} {sp : Sp} {j k : Nat} (F : FnZ P w K mg base j f fd ps sp) (h : j ≤ k) : FnZ P w K mg base k f fd ps sp :=
  ⟨F.len, fun A outer s H args us vs Q E hr => F.run A outer s H args us vs Q E (hr.mono h)⟩
section
variable {X : Cx} {k j : Nat} {x : Str} {sp : Sp} {p pos : Pos} {e : Expr} {es : List Expr} {t : TA}
theorem pez_c (c : CalZ X.prog X.w X.K X.mg X.base k x sp) (hr : Room j X.A) (hk : k ≤ j) (ha : PA X.nox (e :: es) t) (hg : Gl X x := by rfl)
    (hdb : (x == ("__debug__" : Str)) = false := by decide) (he : starEach (e :: es) X.env = (false, eval e X.env) :: starEach es X.env := by rfl) (hpl : (backTo pos (starEach es X.env)).any (·.1) = false := by rfl) :
    PEz X (.Call (.Name x p) (e :: es) [] pos) (tCall sp [] E0 t) :=
  let ⟨_, _, _, F, hm, kp, b⟩ := c.ex
  pez_call F (hr.mono hk) hg hm kp b .nil ha (by first | exact hdb | assumption) he hpl
end
end
/-- the nodes keep to the size, the calls to the names -/
structure Poss (t : T) (n : Nat) : Prop where
  cs : ∀ s ∈ t.subs, ∀ k, s.tag = .const k → k < n
  ch : ∀ s ∈ t.subs, s.tag = .choose → s.kids.length = n + 1
theorem T.subs_ne (t : T) : t ∈ t.subs := by
  cases t
  rw [T.subs]
  exact List.mem_cons_self
section
variable {P : Program} {w : World} {K : PySem.W.Frag} {mg : Str → Option Value} {base : Heap} {c : Kd → Addr} {cE gN : Addr} {fdN : FuncData}
/-- Expression.nodes -/
structure NF (P : Program) (w : World) (K : PySem.W.Frag) (mg : Str → Option Value) (base : Heap) (c : Kd → Addr) (gN : Addr) (fdN : FuncData) : Prop where
  ok : ∀ m, GFnN P w K mg base (3 * m) gN fdN ["self"] (nPr K (okC c) m)
  b : Binds K fdN ["self"] []
  m : ∀ k, Meth K (c k) "nodes" gN
abbrev sIsPoss : Stmt := top 22
theorem scIsPoss : FnScope ["body", "size", "earlier", "node", "name"] ["body", "size", "earlier"] (defScope sIsPoss) := ⟨rfl, rfl, rfl, by decide +kernel, rfl, by decide +kernel, by decide +kernel⟩
def spPoss (K : PySem.W.Frag) (c : Kd → Addr) : Sp := fun vs H Q _ => ∃ (v : V) (n : Nat) (l : Addr) (t : T) (es : List Str), vs = [v, .int n, .ref l] ∧ EE c H t v ∧ t.depth ≤ 4 ∧ Poss t n ∧ SqL K H l (es.map V.str) ∧ (∀ k ∈ t.names, k ∈ es) ∧ t.size ≤ 60 ∧ ∀ H', Ext H H' → Q (.bl true) H'
theorem inV_str {k : Str} {es : List Str} (h : k ∈ es) : inV (.str k) (es.map V.str) = true := by
  unfold inV
  rw [List.any_eq_true]
  exact ⟨.str k, List.mem_map_of_mem h, by simp [eqV]⟩
theorem flat_strs {es : List Str} : (es.map V.str).all flatV = true := by
  rw [List.all_eq_true]
  intro x hx
  obtain ⟨k, _, rfl⟩ := List.mem_map.mp hx
  rfl
theorem isPoss_ok {f pC gC : Addr} {fd fdC : FuncData} (F : Fun K "is_possible" "is_possible" sIsPoss f fd) (bn : BN mg) (Z : CF K c cE) (mgE : mg "Expression" = some (.ref cE)) (mgC : mg "Const" = some (.ref (c .const))) (mgH : mg "Choose" = some (.ref (c .choose)))
    (N : NF P w K mg base c gN fdN) (cV : Cal P w K mg base 1 "is_value" spIsValue) (hC : ∀ k, PropOf K (c k) "calls" pC gC) (FC : FnOk P w K mg base CX0 1 gC fdC ["self"] (spGetL K "_calls")) (bC : Binds K fdC ["self"] []) : FnZ P w K mg base 15 f fd ["body", "size", "earlier"] (spPoss K c) := by
  refine Fun.okZ F (k := 14) scIsPoss (fun vs H Q E h => ?_) (fun cdv A outer s H vs Q E hr h => ?_)
  · obtain ⟨v, n, l, t, es, rfl, _⟩ := h
    rfl
  · obtain ⟨v, n, l, t, es, rfl, hE, hd, hP, hl, hn, hz, kk⟩ := h
    refine ⟨_, pssz_cons (psz_of (ps_if (pt_not (pt_val (pe_is bn (pa_cons (pv 0) (pa_cons (pe_glob (v := .ref cE) (by rfl) mgE rfl) pa_nil))))) (pss_one (ps_ret pe_bl)) pss_nil))
      (pssz_cons (psz_forN (k := 12) (g := gName 3) rfl (hr.mono (by decide)) (pgn_meth0 (pv 0) (N.ok 4) (by have := hr.mono (show 12 ≤ 14 by decide); exact this) N.b .nil) (pg_name (i := 3) scIsPoss.nd rfl (.inl rfl))
          (pss_cons (ps_if (PW.pt (pw_and (pt_val (pe_is bn (pa_cons (pv 3) (pa_cons (pe_glob (v := .ref (c .const)) (by rfl) mgC rfl) pa_nil)))) (pw_and1 (pt_not (pt_val (pe_c (j := 12) cV (hr.mono (by decide)) (by decide) (pa_cons (pe_fld (pv 3) rfl) (pa_cons (pv 1) pa_nil)))))))) (pss_one (ps_ret pe_bl)) pss_nil)
            (pss_one (ps_if (PW.pt (pw_and (pt_val (pe_is bn (pa_cons (pv 3) (pa_cons (pe_glob (v := .ref (c .choose)) (by rfl) mgH rfl) pa_nil)))) (pw_and1 (pt_cmpR op_ne (pe_len bn (pa_cons (pe_fld (pv 3) rfl) pa_nil)) (pv 1) rfl)))) (pss_one (ps_ret pe_bl)) pss_nil))))
        (pssz_one (psz_of (ps_ret (pe_callB (cr_all rfl) (by rfl) (bn "all" (by decide)) boot_bAll (pa_cons
          (pe_lc (own := [("name", 4)]) (g := gName 4) (tt := tYes) (te := tOp (rIn K false) (tVar 4) (tVar 2)) rfl scIsPoss.nd (pi_list (pe_propD (p := pC) (pv 0) FC (hr.mono (show 2 ≤ 14 by decide)) bC)) (blkOk_by (N := ["body", "size", "earlier", "node", "name"]) (sc := defScope sIsPoss) (by decide +kernel))
            (fun _ _ _ _ _ => pg_name (i := 4) scIsPoss.nd rfl (.inl rfl)) (fun _ _ _ _ _ => pts_nil) (fun _ _ _ _ _ => pe_cmpR op_in_seq (pv 4) (pv 2) rfl)) pa_nil)))))), ?_⟩
    obtain ⟨nd, hv, hN, hdep, hL⟩ := EE.nd (K := K) hE
    obtain ⟨a, C, dx, pt, ct, o, hx, hc, ha, cs, us, qt, ho, _, hct, hcs, har, _⟩ := EE.view hE
    subst hx hc ho
    refine ⟨_, rfl, _, _, true, rfl, Z.ty ha, Z.kE _, _, rfl, iteF ?_⟩
    refine ⟨_, rfl, a, _, dx, _, rfl, ha, Z.cls _, N.m _, look_meth (by decide), _, ⟨nd, by rw [hdep]; exact hd, by rw [hv], hN, rfl⟩, fun i σ H' => H' = H ∧ ∃ u, σ = [some (.ref a), some (.int n), some (.ref l), u, none], ⟨rfl, none, rfl⟩, ?_⟩
    rintro i σ H' ⟨rfl, u, rfl⟩ hi
    refine ⟨hN, fun e H2 hf => ?_, fun lt x H2 hy => ?_⟩
    · obtain rfl : H2 = H' := hf
      refine ⟨_, rfl, a, _, dx, _, rfl, ha, Z.cls _, hC _, a, _, dx, _, ct, _, rfl, ha, Z.cls _, Z.na _ _ (by decide), look_calls, .inl (.inl hct), fun l2 hl2 => ?_⟩
      have e2 : Ext H2 (upd H2 l2 (.lst (cs.map V.str))) := Ext.upd hl2
      refine ⟨l2, rfl, ⟨_, .inl (.inl upd_same)⟩, fun D hD => ?_⟩
      refine lcm_list (xs := cs.map V.str) (R := fun _ y _ => y = .bl true) (fun _ _ _ _ _ h => h) (.inl (.inl upd_same)) hD (by have := hcs.le; have := T.names_le t; rw [List.length_map, sizeLine_eq]; omega) ?hw (fun i x H3 Qk e3 hx k2 => ?_) (fun H3 ys e3 hD3 hys hR => ?_)
      case hw => intro x; rfl
      · rw [List.getElem?_map] at hx
        obtain ⟨k, hk, rfl⟩ := Option.map_eq_some_iff.mp hx
        have hin : inV (.str k) (es.map V.str) = true := inV_str (hn k ((hcs.mem k).mp (List.mem_of_getElem? hk)))
        refine ⟨_, rfl, _, rfl, l, _, rfl, .inl (SqL.ext hl (e2.trans e3)), rfl, flat_strs, k2 _ _ Ext.rfl' ?_⟩
        rw [hin]
        rfl
      have hb := bools_all (n := 0) ys hR
      refine ⟨D, List.replicate ys.length true, rfl, .inl (.inl (by rw [← hb]; exact hD3)), ?_⟩
      rw [show (List.replicate ys.length true).all id = true from by simp]
      exact kk _ (e2.trans e3)
    · obtain ⟨b, hb, rfl, rfl⟩ := hy
      obtain ⟨s', hs, hEs⟩ := LiesL.get hL hb
      have hmem : s' ∈ t.subs := List.mem_of_getElem? hs
      obtain ⟨a', C', dx', pt', ct', o', hx', hc', ha', cs', us', qt', ho', _, _, _, har', hq', hu'⟩ := EE.view hEs
      cases hx'
      subst hc' ho'
      have k1 := Z.kk s'.tag.kd .const
      have k2 := Z.kk s'.tag.kd .choose
      have hty := Z.ty ha'
      cases s' with
      | mk g ks =>
        cases g with
        | const n' =>
          have hlt := hP.cs _ hmem n' rfl
          refine ⟨_, rfl, _, _, true, rfl, hty, k1, _, rfl, iteT ⟨_, rfl, b, _, dx', _, .int n', rfl, ha', Z.cls _, Z.na _ _ (by decide), rfl, _, rfl, n', n, rfl, _, rfl, ?_⟩⟩
          rw [show (decide ((0 : Int) ≤ n') && decide ((n' : Int) < n)) = true from by simp; omega]
          exact iteF ⟨_, rfl, _, _, false, rfl, hty, k2, _, rfl, iteF (iteF ⟨rfl, _, rfl⟩)⟩
        | arg => exact ⟨_, rfl, _, _, false, rfl, hty, k1, _, rfl, iteF (iteF ⟨_, rfl, _, _, false, rfl, hty, k2, _, rfl, iteF (iteF ⟨rfl, _, rfl⟩)⟩)⟩
        | call f => exact ⟨_, rfl, _, _, false, rfl, hty, k1, _, rfl, iteF (iteF ⟨_, rfl, _, _, false, rfl, hty, k2, _, rfl, iteF (iteF ⟨rfl, _, rfl⟩)⟩)⟩
        | choose =>
          have hlen : ks.length = n + 1 := hP.ch _ hmem rfl
          have hq0 := hq' rfl
          have hul := EEs.len hu'
          have hul2 : us'.tail.length = n := by rw [List.length_tail, hul]; show ks.length - 1 = n; omega
          refine ⟨_, rfl, _, _, false, rfl, hty, k1, _, rfl, iteF (iteF ⟨_, rfl, _, _, true, rfl, hty, k2, _, rfl, iteT ⟨_, rfl, b, _, dx', _, .ref qt', rfl, ha', Z.cls _, Z.na _ _ (by decide), rfl, qt', _, rfl, .inr (.inl (.inl hq0)), _, rfl, rfl, _, rfl, ?_⟩⟩)⟩
          rw [show (!decide (V.int ((us'.tail.length : Nat) : Int) = V.int (n : Int))) = false from by rw [hul2]; simp]
          exact iteF ⟨rfl, _, rfl⟩
end
end MR
end

section
set_option Elab.async false
set_option linter.all false
set_option maxRecDepth 100000
set_option maxHeartbeats 1000000
/-! is_function. -/
namespace MR
open PySem PySem.Spec PyProof.Rows L2 LY GW NM
theorem iteFb {b : Bool} {t u : Prop} (hb : b = false) (h : u) : if b = true then t else u := by rw [hb]; exact iteF h
theorem iteTb {b : Bool} {t u : Prop} (hb : b = true) (h : t) : if b = true then t else u := by rw [hb]; exact iteT h
section
variable {P : Program} {w : World} {K : PySem.W.Frag} {mg : Str → Option Value} {base : Heap} {c : Kd → Addr} {cE cC : Addr}
abbrev sIsFunc : Stmt := top 23
theorem scIsFunc : FnScope ["pair", "size", "earlier", "contract", "body"] ["pair", "size", "earlier"] (defScope sIsFunc) := ⟨rfl, rfl, rfl, by decide +kernel, rfl, by decide +kernel, by decide +kernel⟩
def spFunc (K : PySem.W.Frag) (c : Kd → Addr) (cC : Addr) : Sp := fun vs H Q _ => ∃ (p : Addr) (n : Nat) (l : Addr) (cv v : V) (rs : List (List Int)) (t : T) (es : List Str), vs = [.ref p, .int n, .ref l] ∧ H p = some (.tup [cv, v]) ∧ CN cC H rs cv ∧ rs.length = n ∧ EE c H t v ∧ t.depth ≤ 4 ∧ Poss t n ∧ SqL K H l (es.map V.str) ∧ (∀ k ∈ t.names, k ∈ es) ∧ t.size ≤ 60 ∧ ∀ H', Ext H H' → Q (.bl true) H'
theorem isFunc_ok {f pS gS : Addr} {fd fdS : FuncData} (F : Fun K "is_function" "is_function" sIsFunc f fd) (bn : BN mg) (Z : KF K cC) (mgC : mg "Contract" = some (.ref cC)) (hS : PropOf K cC "size" pS gS) (FS : FnOk P w K mg base CX0 1 gS fdS ["self"] (spCGet cC fun rs _ => .int rs.length)) (bS : Binds K fdS ["self"] [])
    (cP : CalZ P w K mg base 15 "is_possible" (spPoss K c)) : FnZ P w K mg base 16 f fd ["pair", "size", "earlier"] (spFunc K c cC) := by
  refine Fun.okZ F (k := 15) scIsFunc (fun vs H Q E h => ?_) (fun cdv A outer s H vs Q E hr h => ?_)
  · obtain ⟨p, n, l, cv, v, rs, t, es, rfl, _⟩ := h
    rfl
  · obtain ⟨p, n, l, cv, v, rs, t, es, rfl, hp, ⟨a, dx, pr, rfl, ha, hrw⟩, hrl, hE, hd, hP, hl, hn, hz, kk⟩ := h
    refine ⟨_, pssz_cons (psz_of (ps_if (PW.pt (pw_or (pt_not (pt_val (pe_is bn (pa_cons (pv 0) (pa_cons (pe_bltn (v := .ty "tuple") (by rfl) (bn "tuple" (by decide)) boot_tTuple rfl) pa_nil))))) (pw_or1 (pt_cmpR op_ne (pe_len bn (pa_cons (pv 0) pa_nil)) pe_int rfl)))) (pss_one (ps_ret pe_bl)) pss_nil))
      (pssz_cons (psz_of (ps_asg (pv 0) (pg_tup rfl (pgs_cons (pg_name (i := 3) scIsFunc.nd rfl (.inl rfl)) (pgs_cons (pg_name (i := 4) scIsFunc.nd rfl (.inl rfl)) pgs_nil)))))
      (pssz_cons (psz_of (ps_if (PW.pt (pw_or (pt_not (pt_val (pe_is bn (pa_cons (pv 3) (pa_cons (pe_glob (v := .ref cC) (by rfl) mgC rfl) pa_nil))))) (pw_or1 (pt_cmpR op_ne (pe_propD (p := pS) (pv 3) FS (hr.mono (show 2 ≤ 15 by decide)) bS) (pv 1) rfl)))) (pss_one (ps_ret pe_bl)) pss_nil))
        (pssz_one (psz_ret (pez_c (j := 15) cP hr (by decide) (pa_cons (pv 4) (pa_cons (pv 1) (pa_cons (pv 2) pa_nil)))))))), ?_⟩
    refine ⟨_, rfl, _, _, true, rfl, .base (.tup hp), kit_ty (by decide +kernel), _, rfl, iteF ⟨_, rfl, p, _, rfl, .inr (.inl (.inl hp)), rfl, _, rfl, iteF ?_⟩⟩
    refine ⟨_, rfl, p, _, rfl, .inl (.inl hp), rfl, _, _, rfl, _, _, rfl, rfl, ?_⟩
    refine ⟨_, rfl, _, _, true, rfl, Z.ty ha, Z.kk, _, rfl, iteF ⟨_, rfl, a, _, dx, _, rfl, ha, Z.cls, hS, a, dx, pr, rs, rfl, ha, hrw, _, rfl, rfl, _, rfl, ?_⟩⟩
    refine iteFb (b := !decide (V.int ((rs.length : Nat) : Int) = V.int (n : Int))) (by rw [hrl]; simp) ⟨_, rfl, _, rfl, _, rfl, v, n, l, t, es, rfl, hE, hd, hP, hl, hn, hz, kk⟩
end
end MR
end

section
set_option Elab.async false
set_option linter.all false
set_option maxRecDepth 100000
set_option maxHeartbeats 1000000
/-! enumerate of a tuple. -/
namespace MR
open PySem PySem.Spec PyProof.Rows L2
theorem meets_enumT {v : Value} {o : Obj} {H : Heap → Prop} (B : Begins v o H) :
    Meets (Builtin.«enumerate.__new__» ⟨[.type "enumerate", v], []⟩) (fun _ R s => H s.heap ∧
      R (.ok (.ret (.ref (s.heap.push o).objs.size))) { s with heap := (s.heap.push o).push { cls := .type "enumerate", data := .fields #[.none, .bool false, .ref s.heap.objs.size, rawInt 0, .none, .none] } }) :=
  .of_wp fun prog w A R s h => by
    obtain ⟨hp, g, d, tk, os⟩ := s; obtain ⟨h1, h⟩ := h
    have hsub := sub_enumerate
    have q1 : ∀ {A' : Around} {E : Value → Shared → Prop} {Q : Value → Shared → Prop}, Q (.ref hp.objs.size) ⟨hp.push o, g, d, tk, os⟩ → wpAny (model prog w) A' (pyIter v) Q E ⟨hp, g, d, tk, os⟩ :=
      fun q => B.iter prog w _ _ ⟨hp, g, d, tk, os⟩ _ h1 q
    wp_walk using q1
    refine wpAny_stack_any fun st => wpAny_pure ?_
    split
    · rename_i c _ _ _ _ _
      cases (c == Value.type "enumerate")
      · wp_walk using q1
        exact ⟨_, rfl, h⟩
      · wp_walk using q1
        exact ⟨_, rfl, h⟩
    · wp_walk using q1
      exact ⟨_, rfl, h⟩
section
variable {prog : Program} {w : World} {A : Around} {E : Value → Shared → Prop} {s : Shared}
theorem call_enumT {t : Addr} {items : Array Value} {Q : Value → Shared → Prop} (h1 : s.heap.IsTuple t items)
    (h : ∀ h', IsEnum h' (s.heap.objs.size + 1) s.heap.objs.size 0 .none → h'.IsTupleIter s.heap.objs.size t 0 → h'.objs.size = s.heap.objs.size + 2 →
      (∀ b o, s.heap.get? b = some o → h'.get? b = some o) → Q (.ref (s.heap.objs.size + 1)) { s with heap := h' }) :
    wpAny (model prog w) A (call (.type "enumerate") [.ref t]) Q E s := by
  refine callType_new F.called_enumerate (by decide) (F.typeCall_enumerate_1 _) (F.newCall_enumerate_1 _) (fun obj => F.args_object_init_2 obj _) F.entry_enumerate_new
    (meets_enumT (begins_tuple t items)) ⟨h1, ?_⟩
  have hz : (s.heap.push { cls := .type "tuple_iterator", data := .fields #[.ref t, .int 0 0] }).objs.size = s.heap.objs.size + 1 := Heap.size_push ..
  show _ ∧ _
  rw [hz]
  have he : IsEnum ((s.heap.push { cls := .type "tuple_iterator", data := .fields #[.ref t, .int 0 0] }).push { cls := .type "enumerate", data := .fields #[.none, .bool false, .ref s.heap.objs.size, rawInt 0, .none, .none] }) (s.heap.objs.size + 1) s.heap.objs.size 0 .none := by
    have := Heap.get?_push_size (s.heap.push { cls := .type "tuple_iterator", data := .fields #[.ref t, .int 0 0] }) (o := { cls := .type "enumerate", data := .fields #[.none, .bool false, .ref s.heap.objs.size, rawInt 0, .none, .none] }) rfl
    rw [hz] at this; exact this
  refine ⟨⟨_, he, rfl⟩, h _ he ⟨_, Heap.get?_push_of_some _ (Heap.get?_push_size _ rfl), rfl, rfl⟩ (by rw [Heap.size_push, hz]) fun b o x => Heap.get?_push_of_some _ (Heap.get?_push_of_some _ x)⟩
theorem enumT_end {e it l : Addr} {i : Nat} {items : Array Value} {old : Value} {Q : Option Value → Shared → Prop} (hh : A.handled = none)
    (he : IsEnum s.heap e it i old) (hit : s.heap.IsTupleIter it l i) (hl : s.heap.IsTuple l items) (hx : items[i]? = none)
    (hQ : ∀ h', Heap.ExtBut it s.heap h' → Q none { s with heap := h' }) : wpAny (model prog w) A (pyNext (.ref e)) Q E s := by
  have hT : s.TypeIs (.ref e) "enumerate" := ⟨_, he, rfl⟩
  unfold pyNext
  refine wpAny_bind (wpAny_attempt (wpAny_callSpecial?_slot (name := Str.ofString "__next__") hT F.slot_enumerate_next
    (wpAny_call_entry F.slot_enumerate_next hT F.entry_enumerate_next ?_ (F.args_enumerate_next_1 _))))
  show wpAny _ _ (field (.ref e) 2 >>= _) _ _ _
  refine wpAny_bind (wpAny_field he rfl (x := .ref it) rfl ?_)
  refine wpAny_bind (wpAny_nextOf_tuple_end hh hit hl hx fun h' x he' hx' => ?_)
  obtain ⟨o, ho, hc⟩ := hx'
  refine wpAny_bind (wpAny_isInstance (T := "StopIteration") (b := true) ⟨o, ho, hc⟩ isSubtype_stop ?_)
  exact wpAny_pure (hQ _ he')
end
/-- the tuple at a, each item in a new pair -/
def IteT (K : PySem.W.Frag) (a : Addr) : It :=
  ⟨fun i H => ∃ (xs : List V) (x : V), SqT K H a xs ∧ xs[i]? = some x, fun i H v H' => ∃ T x, v = .ref T ∧ H T = none ∧ H' = upd H T (.tup [.int (i : Nat), x]) ∧ ∀ xs, SqT K H a xs → xs[i]? = some x, fun i H => ∃ xs : List V, SqT K H a xs ∧ xs.length ≤ i⟩
theorem turn_enumT {P : Program} {w : World} {K : PySem.W.Frag} {elts : List Expr} {kk : Nat} {tpos : Pos} (a e it : Addr) (hai : a ≠ it) (hae : a ≠ e) (hne : e ≠ it) :
    Turn P w K (.Tuple elts kk tpos) (IteT K a) [e, it] e (fun i h => (∃ old, IsEnum h e it ((i : Nat) : Int) old) ∧ h.IsTupleIter it a i) where
  mem := by simp
  obj := fun i h st b hb => by
    obtain ⟨⟨old, he⟩, ⟨o, ho, hc, hd⟩⟩ := st
    have e' : b = e ∨ b = it := by simpa using hb
    rcases e' with z | z
    · rw [z]; exact ⟨_, he, fun v q => nomatch q⟩
    · rw [z]; exact ⟨o, ho, fun v q => by rw [hd] at q; cases q⟩
  keep := fun i h h' st k => let ⟨⟨old, he⟩, hi⟩ := st; ⟨⟨old, k e (by simp) _ he⟩, hi.at fun o q => k it (by simp) o q⟩
  item := by
    intro X hP hw hK hc i pins s σ H E I hf st hg
    subst hP hw hK
    obtain ⟨⟨old, he⟩, hit⟩ := st
    obtain ⟨xs, x, hq, hx⟩ := hg
    obtain ⟨its, rv, p, hz⟩ := I.tuple hq
    obtain ⟨u, hu, ru⟩ := rv.get hx
    have hel : e < s.heap.objs.size := Heap.lt_size he
    have hil : it < s.heap.objs.size := by obtain ⟨_, q, _⟩ := hit; exact Heap.lt_size q
    have hlt : i < its.toArray.size := by
      have := (List.getElem?_eq_some_iff.mp hu).1
      simpa using this
    refine wpAny_pyNext_enum_itemD (Draws.tuple (A := X.A.in1) (I.ok.hd hc) it a hai its.toArray) he ⟨hit, p⟩ hlt hne (by simp [hne, Ne.symm hae]) fun x' h' tk hx' ho hst hT hsz hk => ?_
    obtain ⟨hit', ht'⟩ := hst
    have ex : x' = u := by
      have : its.toArray[i]? = some x' := hx'
      simp at this
      rw [hu] at this
      exact (Option.some.inj this).symm
    subst ex
    refine ⟨_, rfl, wpAny_letOwnedTupleGo_enum (s := { s with heap := h', toks := tk + 1 }) ho fun h'' he' sb => ?_⟩
    have hT2 : h''.get? s.heap.objs.size = some { cls := .type "tuple", data := .seq #[.int i tk, x'] } := (sb.2 _ (Nat.ne_of_gt hel)).trans hT
    have new : ObjOk X.prog X.w (upd H s.heap.objs.size (.tup [.int (i : Nat), x])) h'' s.heap.objs.size (.tup [.int (i : Nat), x]) :=
      ⟨by show 2 ≤ sizeLine; decide, [.int i tk, x'], .cons ⟨_, rfl⟩ (.cons ru .nil), ⟨_, hT2, rfl, _, rfl⟩⟩
    have I1 : Inv X pins σ (upd H s.heap.objs.size (.tup [.int (i : Nat), x])) { s with heap := h'', toks := tk + 1 } :=
      I.turnedNew (ch := [e, it]) (fun b ob hb q => (sb.2 b (fun z => hb (by simp [z]))).trans (hk b ob (fun z => hb (by simp [z])) (fun z => hb (by simp [z])) q)) hf (Nat.le_refl _) new
    refine ⟨.ref s.heap.objs.size, _, I1, rfl, ⟨_, x, rfl, I.hok.fresh (Nat.le_refl _), rfl, fun ys hy => by
      rw [I.tuple_inj hy hq]; exact hx⟩, ⟨⟨x', ?_⟩, hit'.at fun o q => (sb.2 it (Ne.symm hne)).trans q⟩, fun b hb => ?_⟩
    · have e1 : ((i + 1 : Nat) : Int) = (i : Int) + 1 := by omega
      rw [e1]; exact he'
    · have hb' : b < s.heap.objs.size := by
        have e' : b = e ∨ b = it := by simpa using hb
        rcases e' with z | z
        · rw [z]; exact hel
        · rw [z]; exact hil
      rw [upd_ne (Nat.ne_of_lt hb')]
      exact (hf b hb).1
  done := by
    intro X hP hw hK hc i pins s σ H E I hf st hg
    subst hP hw hK
    obtain ⟨⟨old, he⟩, hit⟩ := st
    obtain ⟨xs, hq, hx⟩ := hg
    obtain ⟨its, rv, p, hz⟩ := I.tuple hq
    obtain ⟨f0, f1, f2, f3, f4, f5⟩ := hf it (by simp)
    have hl := rv.length
    exact enumT_end (I.ok.hd hc) he hit p (by simp; omega) fun h' eb => ⟨rfl, I.turned (t' := s.toks) (fun b o hb q => eb b o hb q) f0 f1 f3 f4 f5⟩
  self := fun A i s Q E st h => let ⟨⟨_, he⟩, _⟩ := st; wpAny_pyIter_enum he h
def iEnumT (K : PySem.W.Frag) (ta : TA) : TI := fun σ H R => ta σ H fun vs H1 => ∃ a xs, vs = [.ref a] ∧ SqT K H1 a xs ∧ R (IteT K a) H1
theorem pi_enumT {X : Cx} {e : Expr} {ta : TA} {p pos tpos : Pos} {elts : List Expr} {kk : Nat} (hg : Gl X "enumerate") (hm : X.mg "enumerate" = none) (ha : PA X [e] ta) (hs : starEach [e] X.env = [(false, eval e X.env)] := by rfl) :
    PI X (.Tuple elts kk tpos) (.Call (.Name "enumerate" p) [e] [] pos) (iEnumT X.K ta) := by
  refine ⟨fun pins s σ H R I h => ?_⟩
  refine Call_ (ld_blt I hg hm boot_enumerate (PyProof.Rows.callWith_type1 (thn (ha.run pos pins s σ H _ I h) fun us s1 ⟨vs, H1, I1, r1, q1⟩ => ?_) hs rfl))
  obtain ⟨a, xs, ex, hq, q⟩ := q1
  subst ex
  cases r1 with
  | cons r rr =>
    cases rr
    cases r
    obtain ⟨its, rv, p', hz⟩ := I1.tuple hq
    have p2 : s1.heap.IsTuple a its.toArray := p'
    have hlt : a < s1.heap.objs.size := by obtain ⟨o, ho, _⟩ := p2; exact Heap.lt_size ho
    refine call_enumT p2 fun h' he hit hsz hk => wpAny_pyIter_enum he ?_
    have I2 : Inv X pins σ H1 { s1 with heap := h' } := I1.kept (t' := s1.toks) hk
    refine ⟨s1.heap.objs.size + 1, [s1.heap.objs.size + 1, s1.heap.objs.size], _, _, H1, rfl, I2, turn_enumT a (s1.heap.objs.size + 1) s1.heap.objs.size (Nat.ne_of_lt hlt) (Nat.ne_of_lt (Nat.lt_succ_of_lt hlt)) (Nat.succ_ne_self _), ⟨⟨.none, he⟩, hit⟩, fun b hb => ?_, q⟩
    have e' : b = s1.heap.objs.size + 1 ∨ b = s1.heap.objs.size := by simpa using hb
    have hle : s1.heap.objs.size ≤ b := by
      rcases e' with z | z
      · rw [z]; exact Nat.le_add_right _ _
      · rw [z]; exact Nat.le_refl _
    exact I1.fpOk hle (I1.hok.fresh hle)
theorem walk_enumT {K : PySem.W.Frag} {a : Addr} {xs : List V} : Walk (IteT K a) xs.length (fun H => SqT K H a xs) (YPair (fun i => some (.int (i : Nat))) (fun i => xs[i]?)) :=
  ⟨fun i _ hi q => ⟨xs, xs[i], q, List.getElem?_eq_getElem _⟩, fun _ q => ⟨xs, q, Nat.le_refl _⟩, fun _ _ _ _ _ q y => let ⟨T, x, e1, e2, e3, e4⟩ := y; ⟨T, _, x, e1, e2, e3, rfl, e4 _ q⟩⟩
end MR
end

section
set_option Elab.async false
set_option linter.all false
set_option maxRecDepth 100000
set_option maxHeartbeats 1000000
/-! Programs as they lie; places(). -/
namespace GW
open PySem PySem.Spec PyProof.Rows L2 LY GenW
section
variable {X : Cx}
theorem psz_lock {st : Stmt} {t : TS} (h : PSz X st t) : PSz X st (tLock t) := by
  refine ⟨fun pins s σ H D Z hw => ?_⟩
  obtain ⟨d, u, hd, mu, hw⟩ := hw
  obtain ⟨od, I1⟩ := Z.inv.lock hd mu
  refine wpZ_mono (h.run pins s σ _ _ ⟨I1, Z.nl⟩ (hw od)) (fun f s1 q => ?_) fun _ _ q => q
  cases f with
  | next => obtain ⟨σ', H', Z2, e, q⟩ := q; exact ⟨σ', _, ⟨Z2.inv.unlock e (Z.inv.nofrz hd mu), Z2.nl⟩, q⟩
  | brk => obtain ⟨σ', H', Z2, e, q⟩ := q; exact ⟨σ', _, ⟨Z2.inv.unlock e (Z.inv.nofrz hd mu), Z2.nl⟩, q⟩
  | cont => obtain ⟨σ', H', Z2, e, q⟩ := q; exact ⟨σ', _, ⟨Z2.inv.unlock e (Z.inv.nofrz hd mu), Z2.nl⟩, q⟩
  | ret v => obtain ⟨x, σ', H', Z2, r, e, q⟩ := q; exact ⟨x, σ', _, ⟨Z2.inv.unlock e (Z.inv.nofrz hd mu), Z2.nl⟩, r, q⟩
theorem pez_lock {e : Expr} {t : TE} (h : PEz X e t) : PEz X e (tLockE t) := by
  refine ⟨fun pins s σ H Q Z hw => ?_⟩
  obtain ⟨d, u, hd, mu, hw⟩ := hw
  obtain ⟨od, I1⟩ := Z.inv.lock hd mu
  refine wpZ_mono (h.run pins s σ _ _ ⟨I1, Z.nl⟩ (hw od)) (fun v s1 q => ?_) fun _ _ q => q
  obtain ⟨x, H1, Z2, r, e2, q⟩ := q
  exact ⟨x, _, ⟨Z2.inv.unlock e2 (Z.inv.nofrz hd mu), Z2.nl⟩, r, q⟩
end
end GW
namespace MR
open PySem PySem.Spec PyProof.Rows L2 LY GW
/-- a function of a program -/
structure Ent where
  nm : Str
  rows : List (List Int)
  body : T
  res : List Int
  cv : V
  bv : V
  rp : Addr
def plE (nm : Str) : Nat → List Int → List (Str × Int × Int)
  | _, [] => []
  | j, r :: rs => (nm, (j : Int), r) :: plE nm (j + 1) rs
/-- the places of a program, in their order -/
def pls : List Ent → List (Str × Int × Int)
  | [] => []
  | e :: es => plE e.nm 0 e.res ++ pls es
theorem plE_len {nm : Str} : ∀ {rs : List Int} {j : Nat}, (plE nm j rs).length = rs.length
  | [], _ => rfl
  | r :: rs, j => by rw [plE, List.length_cons, List.length_cons, plE_len]
theorem plE_get {nm : Str} : ∀ {rs : List Int} {j i : Nat} {r : Int}, rs[i]? = some r → (plE nm j rs)[i]? = some (nm, ((j + i : Nat) : Int), r)
  | [], _, _, _, h => by simp at h
  | r :: rs, j, 0, r', h => by
    simp at h
    subst h
    rw [plE]
    simp
  | r :: rs, j, i + 1, r', h => by
    rw [plE, List.getElem?_cons_succ, plE_get (j := j + 1) (by simpa using h)]
    simp only [Option.some.injEq, Prod.mk.injEq, true_and, and_true]
    omega
theorem pls_append : ∀ (a b : List Ent), pls (a ++ b) = pls a ++ pls b
  | [], b => rfl
  | e :: a, b => by rw [List.cons_append, pls, pls, pls_append a b, List.append_assoc]
def poff (es : List Ent) (k : Nat) : Nat := (pls (es.take k)).length
theorem poff_succ {es : List Ent} {k : Nat} {e : Ent} (h : es[k]? = some e) : poff es (k + 1) = poff es k + e.res.length := by
  unfold poff
  rw [List.take_add_one, h, pls_append, List.length_append]
  show _ + (pls [e]).length = _
  rw [pls, pls, List.append_nil, plE_len]
theorem pls_at {es : List Ent} {k j : Nat} {e : Ent} {r : Int} (h : es[k]? = some e) (hj : e.res[j]? = some r) : (pls es)[poff es k + j]? = some (e.nm, (j : Int), r) := by
  have hjl : j < e.res.length := (List.getElem?_eq_some_iff.mp hj).1
  have hs : es = es.take k ++ ([e] ++ es.drop (k + 1)) := by
    obtain ⟨hi, e'⟩ := List.getElem?_eq_some_iff.mp h
    have z : es.drop k = e :: es.drop (k + 1) := by rw [← e']; exact List.drop_eq_getElem_cons hi
    rw [List.singleton_append, ← z, List.take_append_drop]
  unfold poff
  have z : pls es = pls (es.take k) ++ (plE e.nm 0 e.res ++ pls (es.drop (k + 1))) := by
    conv => lhs; rw [hs]
    rw [pls_append, List.singleton_append, pls]
  rw [z, List.getElem?_append_right (Nat.le_add_right _ _), Nat.add_sub_cancel_left, List.getElem?_append_left (by rw [plE_len]; exact hjl), plE_get hj]
  simp
theorem poff_all (es : List Ent) : poff es es.length = (pls es).length := by unfold poff; rw [List.take_length]
section
variable (cC : Addr) (c : Kd → Addr)
/-- an entry as it lies -/
structure EntOk (H : Hp) (e : Ent) : Prop where
  cn : CN cC H e.rows e.cv
  ee : EE c H e.body e.bv
  rs : H e.rp = some (.tup (e.res.map V.int))
end
theorem EntOk.fx {cC : Addr} {c : Kd → Addr} {H H' : Hp} {e : Ent} (f : Fx H H') (h : EntOk cC c H e) : EntOk cC c H' e := ⟨h.cn.fx f, EE.fx f h.ee, f _ _ trivial h.rs⟩
def kvC (es : List Ent) : List (Key × V) := es.map fun e => (.inr e.nm, e.cv)
def kvB (es : List Ent) : List (Key × V) := es.map fun e => (.inr e.nm, e.bv)
def kvR (es : List Ent) : List (Key × V) := es.map fun e => (.inr e.nm, .ref e.rp)
theorem valV_map {es : List Ent} {g : Ent → V} (nd : (es.map (·.nm)).Nodup) : ∀ {k : Nat} {e : Ent}, es[k]? = some e → valV (es.map fun e => ((.inr e.nm : Key), g e)) (.inr e.nm) = some (g e) := by
  induction es with
  | nil => intro k e h; simp at h
  | cons x r ih =>
    intro k e h
    rw [List.map_cons, List.nodup_cons] at nd
    cases k with
    | zero =>
      simp at h
      subst h
      unfold valV
      rw [List.map_cons, List.find?_cons]
      simp
    | succ k =>
      have h' : r[k]? = some e := by simpa using h
      have hne : x.nm ≠ e.nm := fun z => nd.1 (z ▸ List.mem_map_of_mem (List.mem_of_getElem? h'))
      unfold valV
      rw [List.map_cons, List.find?_cons]
      have : decide ((Sum.inr x.nm : Key) = Sum.inr e.nm) = false := decide_eq_false (fun z => hne (Sum.inr.inj z))
      simp only [this]
      exact ih nd.2 h'
section
variable {P : Program} {w : World} {K : PySem.W.Frag} {mg : Str → Option Value} {base : Heap} {cP : Addr}
abbrev sPlaces : Stmt := inClass (top 25) 9
theorem scPlaces : GScope ["self", "name", "argument", "result"] ["self"] (defScope sPlaces) := ⟨rfl, rfl, rfl, by decide +kernel, rfl, by decide +kernel, by decide +kernel⟩
/-- the facts of Program's instances -/
structure PF (K : PySem.W.Frag) (cP : Addr) : Prop where
  cls : Cls K cP
  ca : PySem.W.findIn K (.ref cP) "__class__" = some (some (.builtin "object.__class__"))
  cn : PySem.W.specialIn K (.builtin "object.__class__") "__get__" = some (some (.builtin "getset_descriptor.__get__"))
  ctk : PySem.W.takesIn K (.builtin "object.__class__") = some true
  cm : PySem.W.mroIn K cP (.type "object") = some true
  kk : PySem.W.kitOne K (.ref cP) (.ref cP) = some true
  nf : PySem.W.notFirst K cP (.ref cP) = true
  na : ∀ f, f ∈ (["_size", "_contracts", "_bodies", "_results", "_broken"] : List Str) → NoAttr K cP f
/-- a program while its bodies are walked -/
structure Wk (cP : Addr) (es : List Ent) (a kb kr : Addr) (o : Obj) (H : Hp) : Prop where
  at_ : ∃ dx fs, H a = some (.ins cP dx fs) ∧ fs.lookup ("_bodies" : Str) = some (.ref kb) ∧ fs.lookup ("_results" : Str) = some (.ref kr)
  b : H kb = some (.frz o (.dK (kvB es)))
  r : Rd H kr (.dK (kvR es))
  rs : ∀ e ∈ es, H e.rp = some (.tup (e.res.map V.int))
def plSpec (cP : Addr) (es : List Ent) (a kb kr : Addr) (o : Obj) : GSpec where
  n := (pls es).length
  st := fun _ H => Wk cP es a kb kr o H
  yld := fun i G v H' => Ext G H' ∧ ∃ T p, v = .ref T ∧ (pls es)[i]? = some p ∧ H' T = some (.tup [.str p.1, .int p.2.1, .int p.2.2])
  fin := fun G H' => Ext G H'
  qt := true
def plPr (cP : Addr) : List V → Hp → GSpec → Prop := fun vs H sp => ∃ es a kb kr o, vs = [.ref a] ∧ Wk cP es a kb kr o H ∧ (es.map (·.nm)).Nodup ∧ sp = plSpec cP es a kb kr o
theorem places_ok {f : Addr} {fd : FuncData} (F : Fun K "places" "Program.places" sPlaces f fd) (bn : BN mg) (Z : PF K cP) : GFnN P w K mg base 3 f fd ["self"] (plPr cP) := by
  obtain ⟨oc, od, kV, doc, pm, an, cdv, ct, osl, rfl, lk, hcd⟩ := F.ex
  refine gfnN (k := 2) lk hcd scPlaces (fun n => rfl) (fun vs H sp h => ?_) fun A outer n0 g0 os ga go vs H sp hr Fx h => ?_
  · obtain ⟨es, a, kb, kr, o, rfl, _⟩ := h
    rfl
  obtain ⟨es, a, kb, kr, o, rfl, hW, nd, rfl⟩ := h
  refine ⟨_, gss_one (gs_for (wi := iKeys (tFld K (tVar 0) "_bodies")) (g := gName 1) (fun s H => pi_keys (pe_fld (pv 0) rfl)) (fun s H => pg_name (i := 1) scPlaces.nd rfl (.inl rfl))
    (gss_one (gs_for (wi := iEnumT K (tCons (tDGet (tFld K (tVar 0) "_results") (tVar 1)) tNil)) (g := gTup K 2 (gCons (gName 2) (gCons (gName 3) gNil)))
      (fun s H => pi_enumT (by rfl) (bn "enumerate" (by decide)) (pa_cons (pe_dget (by have := hu_of hr; exact this) (pe_fld (pv 0) rfl) (pv 1) (fun _ _ => rfl)) pa_nil))
      (fun s H => pg_tup rfl (pgs_cons (pg_name (i := 2) scPlaces.nd rfl (.inl rfl)) (pgs_cons (pg_name (i := 3) scPlaces.nd rfl (.inl rfl)) pgs_nil)))
      (gss_one (gs_yield Fx (te := tTup (tCons (tVar 1) (tCons (tVar 2) (tCons (tVar 3) tNil)))) (fun s H => pe_tup (pa_cons (pv 1) (pa_cons (pv 2) (pa_cons (pv 3) pa_nil)))) rfl))))), fun H0 hst => ?_⟩
  obtain ⟨dx, fs, ha, hlb, hlr⟩ := Wk.at_ hst
  refine ⟨_, rfl, a, _, dx, fs, _, rfl, ha, Z.cls, Z.na _ (by decide), hlb, kb, o, rfl, .inl ⟨_, Wk.b hst, fun k m i G σ H => k + m = es.length ∧ i = poff es k ∧ Ext G H ∧ Wk cP es a kb kr o H ∧ ∃ u1 u2 u3, σ = [some (.ref a), u1, u2, u3], ⟨es.length, Nat.zero_add _, by unfold poff; rfl, Ext.rfl', hst, none, none, none, rfl⟩, ?_⟩⟩
  rintro k m i G σ H1 ⟨hk, rfl, hG, hW1, u1, u2, u3, rfl⟩
  rcases Nat.lt_or_ge k es.length with lt | ge
  · right
    obtain ⟨e, he⟩ : ∃ e, es[k]? = some e := ⟨es[k], List.getElem?_eq_getElem lt⟩
    refine ⟨⟨hW1.b, by unfold kvB; rw [List.length_map]; exact lt⟩, fun i' G' σ' H' => i' = poff es (k + 1) ∧ Ext G' H' ∧ Wk cP es a kb kr o H' ∧ ∃ u1 u2 u3, σ' = [some (.ref a), u1, u2, u3], fun i' G' σ' H' ⟨q1, q2, q3, q4⟩ => ⟨m - 1, by omega, by omega, q1, q2, q3, q4⟩, fun x H' hy => ?_⟩
    obtain ⟨rfl, k', v, hkv, rfl⟩ := hy
    have : (kvB es)[k]? = some (.inr e.nm, e.bv) := by unfold kvB; rw [List.getElem?_map, he]; rfl
    rw [this] at hkv
    cases hkv
    obtain ⟨dx, fs, ha, hlb, hlr⟩ := hW1.at_
    have hrs := hW1.rs e (List.mem_of_getElem? he)
    refine ⟨_, rfl, a, _, dx, fs, _, rfl, ha, Z.cls, Z.na _ (by decide), hlr, _, rfl, kr, .ref e.rp, rfl, .inl ⟨_, .inr e.nm, hW1.r, rfl, (valV_map (g := fun e => V.ref e.rp) nd he).symm⟩, e.rp, _, rfl, .inl (.inl hrs), fun j m i G σ H => j + m = e.res.length ∧ i = poff es k + j ∧ Ext G H ∧ Wk cP es a kb kr o H ∧ ∃ u2 u3, σ = [some (.ref a), some (.str e.nm), u2, u3], ⟨e.res.length, Nat.zero_add _, rfl, hG, hW1, u2, u3, rfl⟩, ?_⟩
    rintro j m1 i G1 σ H2 ⟨hj, rfl, hG1, hW2, v2, v3, rfl⟩
    have hrs2 := hW2.rs e (List.mem_of_getElem? he)
    rcases Nat.lt_or_ge j e.res.length with lj | gj
    · right
      have hr1 : e.res[j]? = some e.res[j] := List.getElem?_eq_getElem lj
      have hx : (e.res.map V.int)[j]? = some (.int e.res[j]) := by rw [List.getElem?_map, hr1]; rfl
      refine ⟨⟨_, _, .inl (.inl hrs2), hx⟩, fun i' G' σ' H' => i' = poff es k + (j + 1) ∧ Ext G' H' ∧ Wk cP es a kb kr o H' ∧ ∃ u2 u3, σ' = [some (.ref a), some (.str e.nm), u2, u3], fun i' G' σ' H' ⟨q1, q2, q3, q4⟩ => ⟨m1 - 1, by omega, by omega, q1, q2, q3, q4⟩, fun x H' hy => ?_⟩
      obtain ⟨T, x', rfl, hT, rfl, hxx⟩ := hy
      have := hxx _ (.inl (.inl hrs2))
      rw [hx] at this
      cases this
      have hat := pls_at he hr1
      have eT : Ext H2 (upd H2 T (.tup [.int (j : Nat), .int e.res[j]])) := Ext.upd hT
      refine ⟨T, _, rfl, .inl (.inl upd_same), rfl, _, _, rfl, _, _, rfl, rfl, (List.getElem?_eq_some_iff.mp hat).1, _, rfl, _, rfl, _, rfl, (show 3 ≤ sizeLine by decide), fun p hp => ⟨⟨hG1.trans (eT.upd' hp), p, _, rfl, hat, upd_same⟩, fun H4 st4 => ⟨by omega, Ext.rfl', st4, _, _, rfl⟩⟩⟩
    · left
      have ej : j = e.res.length := by omega
      subst ej
      refine ⟨⟨_, .inl (.inl hrs2), by rw [List.length_map]; exact Nat.le_refl _⟩, by rw [poff_succ he], hG1, hW2, _, _, _, rfl⟩
  · left
    have ek : k = es.length := by omega
    subst ek
    exact ⟨⟨hW1.b, by unfold kvB; rw [List.length_map]; exact Nat.le_refl _⟩, poff_all es, hG⟩
end
end MR
end

section
set_option Elab.async false
set_option linter.all false
set_option maxRecDepth 100000
set_option maxHeartbeats 1000000
/-! _first_broken. -/
namespace MR
open PySem PySem.Spec PyProof.Rows L2 LY GW
theorem rd_lock {H : Hp} {d x : Addr} {u v : HO} {o : Obj} (hd : H d = some u) (mu : Mut (some u)) (h : Rd H x v) : Rd (upd H d (.frz o u)) x v := by
  by_cases e : x = d
  · subst e
    rcases h with h | ⟨o', h⟩
    · rw [hd] at h
      cases h
      exact .inr ⟨o, upd_same⟩
    · rw [hd] at h
      cases h
      exact absurd mu (fun q => q)
  · rcases h with h | ⟨o', h⟩
    · exact .inl (by rw [upd_ne e]; exact h)
    · exact .inr ⟨o', by rw [upd_ne e]; exact h⟩
theorem Rd.ext {H H' : Hp} {a : Addr} {u : HO} (e : Ext H H') (h : Rd H a u) : Rd H' a u := h.imp (fun q => e _ _ q) fun ⟨o, q⟩ => ⟨o, e _ _ q⟩
theorem fx_lock {H : Hp} {d : Addr} {u : HO} {o : Obj} (hd : H d = some u) (mu : ¬ Fixed u) : Fx H (upd H d (.frz o u)) := Fx.upd fun u' e => by rw [hd] at e; cases e; exact mu
def bad (es : List Ent) (p : Str × Int × Int) : Bool := match es.find? (fun e => decide (e.nm = p.1)) with
  | some e => !(((e.rows[p.2.1.toNat]?).getD []).contains p.2.2)
  | none => false
/-- the first broken place -/
def brk (es : List Ent) : Option (Str × Int) := ((pls es).find? (bad es)).map fun p => (p.1, p.2.1)
/-- how the first broken place lies -/
def BV (H : Hp) : Option (Str × Int) → V → Prop
  | none, v => v = .non
  | some (f, k), v => ∃ T, v = .ref T ∧ H T = some (.tup [.str f, .int k])
theorem BV.fx {H H' : Hp} (e : Fx H H') {o : Option (Str × Int)} {v : V} (h : BV H o v) : BV H' o v := by
  cases o with
  | none => exact h
  | some p => obtain ⟨T, h1, h2⟩ := h; exact ⟨T, h1, e _ _ trivial h2⟩
theorem pls_get : ∀ {es : List Ent} {i : Nat} {p : Str × Int × Int}, (pls es)[i]? = some p → ∃ (k j : Nat) (e : Ent), es[k]? = some e ∧ e.nm = p.1 ∧ p.2.1 = j ∧ e.res[j]? = some p.2.2
  | [], i, p, h => by simp [pls] at h
  | e :: es, i, p, h => by
    rw [pls] at h
    by_cases hi : i < (plE e.nm 0 e.res).length
    · rw [List.getElem?_append_left hi] at h
      rw [plE_len] at hi
      rw [plE_get (r := e.res[i]) (List.getElem?_eq_getElem hi)] at h
      cases h
      exact ⟨0, i, e, rfl, rfl, by simp, List.getElem?_eq_getElem hi⟩
    · rw [List.getElem?_append_right (by omega)] at h
      obtain ⟨k, j, e', h1, h2⟩ := pls_get h
      exact ⟨k + 1, j, e', by simpa using h1, h2⟩
theorem find_nm {es : List Ent} (nd : (es.map (·.nm)).Nodup) : ∀ {k : Nat} {e : Ent}, es[k]? = some e → es.find? (fun x => decide (x.nm = e.nm)) = some e := by
  induction es with
  | nil => intro k e h; simp at h
  | cons x r ih =>
    intro k e h
    rw [List.map_cons, List.nodup_cons] at nd
    rw [List.find?_cons]
    cases k with
    | zero => simp at h; subst h; simp
    | succ k =>
      have h' : r[k]? = some e := by simpa using h
      have hne : x.nm ≠ e.nm := fun z => nd.1 (z ▸ List.mem_map_of_mem (List.mem_of_getElem? h'))
      rw [decide_eq_false hne]
      exact ih nd.2 h'
theorem find_at {α : Type} {f : α → Bool} : ∀ {l : List α} {i : Nat} {p : α}, l[i]? = some p → f p = true → (∀ j q, j < i → l[j]? = some q → f q = false) → l.find? f = some p
  | [], _, _, h, _, _ => by simp at h
  | x :: r, 0, p, h, hp, _ => by
    simp at h
    subst h
    rw [List.find?_cons, hp]
  | x :: r, i + 1, p, h, hp, hb => by
    rw [List.find?_cons, hb 0 x (Nat.succ_pos _) rfl]
    exact find_at (i := i) (by simpa using h) hp fun j q hj hq => hb (j + 1) q (by omega) (by simpa using hq)
section
variable {P : Program} {w : World} {K : PySem.W.Frag} {mg : Str → Option Value} {base : Heap} {cP cC pR gR : Addr} {fdR : FuncData} {c : Kd → Addr}
abbrev sFB : Stmt := inClass (top 25) 14
theorem scFB : FnScope ["self", "name", "argument", "result"] ["self"] (defScope sFB) := ⟨rfl, rfl, rfl, by decide +kernel, rfl, by decide +kernel, by decide +kernel⟩
/-- places() -/
structure LF (P : Program) (w : World) (K : PySem.W.Frag) (mg : Str → Option Value) (base : Heap) (cP gL : Addr) (fdL : FuncData) : Prop where
  ok : GFnN P w K mg base 3 gL fdL ["self"] (plPr cP)
  b : Binds K fdL ["self"] []
  m : Meth K cP "places" gL
def spFB (cP cC : Addr) (c : Kd → Addr) : Sp := fun vs H Q _ => ∃ es a dx fs kc kb kr, vs = [.ref a] ∧ H a = some (.ins cP dx fs) ∧ fs.lookup ("_contracts" : Str) = some (.ref kc) ∧ fs.lookup ("_bodies" : Str) = some (.ref kb) ∧ fs.lookup ("_results" : Str) = some (.ref kr) ∧ fs.lookup ("places" : Str) = none ∧
  H kc = some (.dK (kvC es)) ∧ H kb = some (.dK (kvB es)) ∧ H kr = some (.dK (kvR es)) ∧ (∀ e ∈ es, EntOk cC c H e) ∧ (es.map (·.nm)).Nodup ∧ (∀ e ∈ es, e.rows.length = e.res.length) ∧
  ∀ v H', Ext H H' → BV H' (brk es) v → Q v H'
theorem fb_ok {f gL : Addr} {fd fdL : FuncData} (F : Fun K "_first_broken" "Program._first_broken" sFB f fd) (bn : BN mg) (Z : PF K cP) (ZC : KF K cC) (L : LF P w K mg base cP gL fdL) (hR : PropOf K cC "rows" pR gR) (FR : FnOk P w K mg base CX0 1 gR fdR ["self"] (spCGet cC fun _ p => .ref p)) (bR : Binds K fdR ["self"] []) : FnZ P w K mg base 6 f fd ["self"] (spFB cP cC c) := by
  refine Fun.okZ F (k := 5) scFB (fun vs H Q E h => ?_) (fun cdv A outer s H vs Q E hr h => ?_)
  · obtain ⟨es, a, dx, fs, kc, kb, kr, rfl, _⟩ := h
    rfl
  · obtain ⟨es, a, dx, fs, kc, kb, kr, rfl, ha, hlc, hlb, hlr, hlp, hkc, hkb, hkr, hes, nd, hlen, kk⟩ := h
    refine ⟨_, pssz_cons (psz_lock (psz_forN (k := 3) (g := gTup K 3 (gCons (gName 1) (gCons (gName 2) (gCons (gName 3) gNil)))) rfl (hr.mono (by decide)) (pgn_meth0 (pv 0) L.ok (by have := hr.mono (show 3 ≤ 5 by decide); exact this) L.b .nil)
        (pg_tup rfl (pgs_cons (pg_name (i := 1) scFB.nd rfl (.inl rfl)) (pgs_cons (pg_name (i := 2) scFB.nd rfl (.inl rfl)) (pgs_cons (pg_name (i := 3) scFB.nd rfl (.inl rfl)) pgs_nil))))
        (pss_one (ps_if (pt_cmpR op_notIn_seq (pv 3) (pe_ix ix_tup (pe_propD (p := pR) (pe_dget (by have := hu_of hr; exact this) (pe_fld (pv 0) rfl) (pv 1) (fun _ _ => rfl)) FR (hr.mono (show 2 ≤ 5 by decide)) bR) (pv 2) (fun _ _ => rfl)) rfl) (pss_one (ps_ret (pe_tup (pa_cons (pv 1) (pa_cons (pv 2) pa_nil))))) pss_nil))))
      (pssz_one (psz_of (ps_ret pe_non))), ?_⟩
    refine ⟨kb, .dK (kvB es), hkb, trivial, fun od => ?_⟩
    have f1 : Fx H (upd H kb (.frz od (.dK (kvB es)))) := fx_lock hkb (fun q => q)
    have ha1 := f1 _ _ (show Fixed (.ins cP dx fs) from trivial) ha
    have hkb1 : (upd H kb (.frz od (.dK (kvB es)))) kb = some (.frz od (.dK (kvB es))) := upd_same
    have hkc1 : Rd (upd H kb (.frz od (.dK (kvB es)))) kc (.dK (kvC es)) := rd_lock hkb trivial (.inl hkc)
    have hkr1 : Rd (upd H kb (.frz od (.dK (kvB es)))) kr (.dK (kvR es)) := rd_lock hkb trivial (.inl hkr)
    have back : ∀ {H' : Hp}, Ext (upd H kb (.frz od (.dK (kvB es)))) H' → Ext H (upd H' kb (.dK (kvB es))) := fun e => upd_back hkb e
    have hes1 : ∀ e ∈ es, EntOk cC c (upd H kb (.frz od (.dK (kvB es)))) e := fun e he => (hes e he).fx f1
    generalize (upd H kb (.frz od (.dK (kvB es)))) = H1 at *
    have st : ∀ {H' : Hp}, Ext H1 H' → Wk cP es a kb kr od H' := fun e1 => ⟨⟨dx, fs, e1 _ _ ha1, hlb, hlr⟩, e1 _ _ hkb1, Rd.ext e1 hkr1, fun e he => e1 _ _ (hes1 e he).rs⟩
    refine ⟨_, rfl, a, _, dx, fs, rfl, ha1, Z.cls, L.m, hlp, _, ⟨es, a, kb, kr, od, rfl, st Ext.rfl', nd, rfl⟩, fun i σ H' => Ext H1 H' ∧ (∀ j p, j < i → (pls es)[j]? = some p → bad es p = false) ∧ ∃ u1 u2 u3, σ = [some (.ref a), u1, u2, u3], ⟨Ext.rfl', fun j p hj => by omega, none, none, none, rfl⟩, ?_⟩
    rintro i σ H' ⟨e1, hb, u1, u2, u3, rfl⟩ hi
    refine ⟨st e1, fun e H2 hf => ?_, fun lt x H2 hy => ?_⟩
    · have e2 : Ext H1 H2 := e1.trans hf
      refine ⟨e2 _ _ hkb1, kk .non _ (back e2) ?_⟩
      have : brk es = none := by
        unfold brk
        rw [Option.map_eq_none_iff, List.find?_eq_none]
        intro p hp
        obtain ⟨j, hj, ej⟩ := List.getElem_of_mem hp
        have en : i = (pls es).length := e
        rw [hb j p (by omega) (by rw [← ej]; exact List.getElem?_eq_getElem hj)]
        decide
      rw [this]
      rfl
    · obtain ⟨eG, T, p, rfl, hp, hT⟩ := hy
      obtain ⟨k, j, e, he, hnm, hj, hres⟩ := pls_get hp
      have hmem := List.mem_of_getElem? he
      have e2 := e1.trans eG
      obtain ⟨a', dx', pr, hcv, ha', us, hus, hul, hu⟩ := ((hes1 e hmem).cn).fx (Fx.of e2)
      have hjl : j < e.rows.length := by rw [hlen e hmem]; exact (List.getElem?_eq_some_iff.mp hres).1
      obtain ⟨row, q, hrow, huq, hq⟩ := hu j us[j] (List.getElem?_eq_getElem (by omega))
      have hbad : bad es p = !(row.contains p.2.2) := by
        unfold bad
        rw [← hnm, find_nm nd he]
        show (!((e.rows[p.2.1.toNat]?).getD []).contains p.2.2) = _
        rw [hj, Int.toNat_natCast, hrow]
        rfl
      have hin : inV (.int p.2.2) (row.map V.int) = row.contains p.2.2 := by
        unfold inV
        rw [List.any_map, List.contains_eq_any_beq]
        congr 1
        funext y
        show (y == p.2.2) = (p.2.2 == y)
        rw [Bool.eq_iff_iff, beq_iff_eq, beq_iff_eq]
        exact eq_comm
      refine ⟨T, _, rfl, .inl (.inl hT), rfl, _, _, rfl, _, _, rfl, _, _, rfl, rfl, ?_⟩
      refine ⟨_, rfl, _, rfl, a, _, dx, fs, _, rfl, e2 _ _ ha1, Z.cls, Z.na _ (by decide), hlc, _, rfl, kc, e.cv, rfl, .inl ⟨_, .inr p.1, Rd.ext e2 hkc1, rfl, by rw [← hnm]; exact (valV_map (g := fun e => e.cv) nd he).symm⟩, a', _, dx', _, hcv, ha', ZC.cls, hR, a', dx', pr, e.rows, rfl, ha', ⟨us, hus, hul, hu⟩, _, rfl, pr, us, p.2.1, .ref q, rfl, rfl, .inl (.inl hus), ?_, q, _, rfl, .inr (.inl (.inl hq)), rfl, ?_, _, rfl, ite2 (fun hc => ?_) fun hc => ?_⟩
      · rw [hj]
        unfold atI
        have : ixN us.length (j : Int) = some j := by
          unfold ixN
          rw [if_pos (by omega), if_pos (by omega)]
          rfl
        rw [this]
        show us[j]? = _
        rw [List.getElem?_eq_getElem (by omega), huq]
      · rw [List.all_eq_true]
        intro x hx
        obtain ⟨z, _, rfl⟩ := List.mem_map.mp hx
        rfl
      · have hc : (!inV (.int p.2.2) (row.map V.int)) = true := hc
        rw [hin, ← hbad] at hc
        refine ⟨_, rfl, _, rfl, (show 2 ≤ sizeLine by decide), fun l hl => ⟨rfl, (e2.upd' hl) _ _ hkb1, kk _ _ (back (e2.upd' hl)) ?_⟩⟩
        have : brk es = some (p.1, p.2.1) := by
          unfold brk
          rw [find_at hp hc hb]
          rfl
        rw [this]
        refine ⟨l, rfl, ?_⟩
        have hlk : l ≠ kb := fun z => by
          have := e2 _ _ hkb1
          rw [← z, hl] at this
          cases this
        rw [upd_ne hlk]
        exact upd_same
      · have hc : ¬ (!inV (.int p.2.2) (row.map V.int)) = true := hc
        rw [hin, ← hbad] at hc
        refine ⟨e2, fun j' p' hj' hp' => ?_, _, _, _, rfl⟩
        rcases Nat.lt_or_ge j' i with h | h
        · exact hb j' p' h hp'
        · have : j' = i := by omega
          subst this
          rw [hp] at hp'
          cases hp'
          exact Bool.eq_false_iff.mpr hc
end
end MR
end

section
set_option Elab.async false
set_option linter.all false
set_option maxRecDepth 100000
set_option maxHeartbeats 1000000
/-! Program.__init__. -/
namespace MR
open PySem PySem.Spec PyProof.Rows L2 LY GW
/-- a node with the parts it should have, for values below n -/
def okNode (n : Nat) : Tag → Nat → Prop
  | .const k, m => k < n ∧ m = 0
  | .arg, m => m = 0
  | .call _, m => m = 1
  | .choose, m => m = n + 1
mutual
def T.Ok (n : Nat) : T → Prop
  | .mk g ks => okNode n g ks.length ∧ T.Oks n ks
def T.Oks (n : Nat) : List T → Prop
  | [] => True
  | t :: r => T.Ok n t ∧ T.Oks n r
end
theorem T.Oks_get {n : Nat} : ∀ {ts : List T} {i : Nat} {t : T}, T.Oks n ts → ts[i]? = some t → T.Ok n t
  | [], _, _, _, e => by simp at e
  | t :: r, 0, _, h, e => by
    simp at e
    subst e
    rw [T.Oks] at h
    exact h.1
  | t :: r, i + 1, _, h, e => by
    rw [T.Oks] at h
    exact T.Oks_get h.2 (by simpa using e)
mutual
theorem T.Ok.subs {n : Nat} : ∀ {t : T}, T.Ok n t → ∀ s ∈ t.subs, T.Ok n s
  | .mk g ks, h, s, hs => by
    have h' := h
    rw [T.Ok] at h
    rw [T.subs] at hs
    rcases List.mem_cons.mp hs with e | hs
    · rw [e]; exact h'
    · exact T.Oks.subs h.2 s hs
theorem T.Oks.subs {n : Nat} : ∀ {ts : List T}, T.Oks n ts → ∀ s ∈ T.subsL ts, T.Ok n s
  | [], _, s, hs => by rw [T.subsL] at hs; simp at hs
  | t :: r, h, s, hs => by
    rw [T.Oks] at h
    rw [T.subsL] at hs
    rcases List.mem_append.mp hs with q | q
    · exact T.Ok.subs h.1 s q
    · exact T.Oks.subs h.2 s q
end
theorem T.Ok.poss {n : Nat} {t : T} (h : T.Ok n t) : Poss t n := by
  refine ⟨fun s hs k hk => ?_, fun s hs hk => ?_⟩
  · have := h.subs s hs
    cases s with
    | mk g ks =>
      obtain rfl : g = _ := hk
      rw [T.Ok] at this
      exact this.1.1
  · have := h.subs s hs
    cases s with
    | mk g ks =>
      obtain rfl : g = _ := hk
      rw [T.Ok] at this
      exact this.1
/-- tables that have values below n for all the names -/
def TabTot (tab : Str → Int → Option Int) (n : Nat) (ns : List Str) : Prop := ∀ f ∈ ns, ∀ i : Int, 0 ≤ i → i < n → ∃ r, tab f i = some r ∧ 0 ≤ r ∧ r < n
mutual
theorem ev_tot {tab : Str → Int → Option Int} {n : Nat} {x : Int} (hx0 : 0 ≤ x) (hx : x < n) : ∀ {t : T}, T.Ok n t → TabTot tab n t.names → ∃ r, T.ev tab x t = some r ∧ 0 ≤ r ∧ r < n
  | .mk g ks, h, ht => by
    rw [T.Ok] at h
    rw [T.names] at ht
    have hts : TabTot tab n (T.namesL ks) := fun f hf => ht f (List.mem_append_right _ hf)
    have ih := evs_tot hx0 hx h.2 hts
    rw [T.ev]
    cases g with
    | const k => exact ⟨k, rfl, by omega, by have := h.1.1; omega⟩
    | arg => exact ⟨x, rfl, hx0, hx⟩
    | call f =>
      obtain ⟨t1, rfl⟩ : ∃ t1, ks = [t1] := List.length_eq_one_iff.mp h.1
      obtain ⟨r, h1, h2, h3⟩ := ih 0 t1 rfl
      obtain ⟨r', k1, k2, k3⟩ := ht f (List.mem_append_left _ (by simp [Tag.name])) r h2 h3
      refine ⟨r', ?_, k2, k3⟩
      rw [T.evs, evTag, h1]
      exact k1
    | choose =>
      have hl : ks.length = n + 1 := h.1
      cases ks with
      | nil => simp at hl
      | cons t1 ts =>
        obtain ⟨r, h1, h2, h3⟩ := ih 0 t1 rfl
        have hlt : r.toNat < ts.length := by simp at hl; omega
        obtain ⟨r', k1, k2, k3⟩ := ih (r.toNat + 1) ts[r.toNat] (by rw [List.getElem?_cons_succ]; exact List.getElem?_eq_getElem hlt)
        refine ⟨r', ?_, k2, k3⟩
        rw [T.evs, evTag, h1]
        show (if 0 ≤ r then ((T.evs tab x ts)[r.toNat]?).join else none) = some r'
        rw [if_pos h2, T.evs_get, List.getElem?_eq_getElem hlt]
        exact k1
theorem evs_tot {tab : Str → Int → Option Int} {n : Nat} {x : Int} (hx0 : 0 ≤ x) (hx : x < n) : ∀ {ts : List T}, T.Oks n ts → TabTot tab n (T.namesL ts) → ∀ (i : Nat) (t : T), ts[i]? = some t → ∃ r, T.ev tab x t = some r ∧ 0 ≤ r ∧ r < n
  | [], _, _, i, t, e => by simp at e
  | t :: r, h, ht, 0, _, e => by
    simp at e
    subst e
    rw [T.Oks] at h
    rw [T.namesL] at ht
    exact ev_tot hx0 hx h.1 fun f hf => ht f (List.mem_append_left _ hf)
  | t :: r, h, ht, i + 1, t', e => by
    rw [T.Oks] at h
    rw [T.namesL] at ht
    exact evs_tot hx0 hx h.2 (fun f hf => ht f (List.mem_append_right _ hf)) i t' (by simpa using e)
end
/-- the tables of what stands before -/
def tabE (es : List Ent) : Str → Int → Option Int := fun f i => (es.find? (fun e => decide (e.nm = f))).bind fun e => if 0 ≤ i then e.res[i.toNat]? else none
/-- results as they should be -/
structure ResOk (n : Nat) (pre : List Ent) (e : Ent) : Prop where
  len : e.res.length = n
  val : ∀ i : Nat, i < n → ∃ r : Int, e.res[i]? = some r ∧ T.ev (tabE pre) i e.body = some r ∧ 0 ≤ r ∧ r < n
def Right (n : Nat) (es : List Ent) : Prop := ∀ k e, es[k]? = some e → ResOk n (es.take k) e
/-- a body with its contract, as it is given -/
structure InOk (n : Nat) (pre : List Str) (nm : Str) (rows : List (List Int)) (t : T) : Prop where
  nm : okName nm = true
  ok : T.Ok n t
  names : ∀ k ∈ t.names, k ∈ pre
  dep : t.depth ≤ 4
  size : t.size ≤ 60
  rows : rows.length = n
theorem tabTot_of {n : Nat} {es : List Ent} (nd : (es.map (·.nm)).Nodup) (h : Right n es) {t : T} (hn : ∀ k ∈ t.names, k ∈ es.map (·.nm)) : TabTot (tabE es) n t.names := by
  intro f hf i h0 h1
  obtain ⟨e, he, rfl⟩ := List.mem_map.mp (hn f hf)
  obtain ⟨k, hk, ek⟩ := List.getElem_of_mem he
  have hk' : es[k]? = some e := by rw [← ek]; exact List.getElem?_eq_getElem hk
  obtain ⟨r, k1, _, k2, k3⟩ := (h k e hk').val i.toNat (by omega)
  refine ⟨r, ?_, k2, k3⟩
  unfold tabE
  rw [find_nm nd hk']
  show (if 0 ≤ i then e.res[i.toNat]? else none) = some r
  rw [if_pos h0, k1]
theorem tabAt_of {K : PySem.W.Frag} {H : Hp} {kr : Addr} {es : List Ent} (nd : (es.map (·.nm)).Nodup) (h : Rd H kr (.dK (kvR es))) (hr : ∀ e ∈ es, H e.rp = some (.tup (e.res.map V.int))) : TabAt K (tabE es) kr H := by
  refine ⟨_, h, fun f i r hf => ?_⟩
  unfold tabE at hf
  obtain ⟨e, he, hv⟩ := Option.bind_eq_some_iff.mp hf
  split at hv
  case isFalse => cases hv
  case isTrue h0 =>
  have hnm : e.nm = f := of_decide_eq_true (List.find?_some (p := fun e : Ent => decide (e.nm = f)) he)
  have hmem := List.mem_of_find?_eq_some he
  obtain ⟨k, hk, ek⟩ := List.getElem_of_mem hmem
  have hk' : es[k]? = some e := by rw [← ek]; exact List.getElem?_eq_getElem hk
  refine ⟨e.rp, e.res.map V.int, ?_, .inl (.inl (hr e hmem)), ?_⟩
  · rw [← hnm]
    exact valV_map (g := fun e => V.ref e.rp) nd hk'
  · unfold atI ixN
    have hl := (List.getElem?_eq_some_iff.mp hv).1
    rw [if_pos h0, if_pos (by rw [List.length_map]; omega)]
    show (e.res.map V.int)[i.toNat]? = _
    rw [List.getElem?_map, hv]
    rfl
theorem putK_new {es : List Ent} {g : Ent → V} {nm : Str} {v : V} (h : nm ∉ es.map (·.nm)) : putK (es.map fun e => ((.inr e.nm : Key), g e)) (.inr nm) v = (es.map fun e => ((.inr e.nm : Key), g e)) ++ [(.inr nm, v)] := by
  unfold putK
  rw [if_neg]
  rw [List.any_map, List.any_eq_true]
  rintro ⟨e, he, hd⟩
  have hd : decide ((Sum.inr e.nm : Key) = Sum.inr nm) = true := hd
  exact h (by rw [← Sum.inr.inj (of_decide_eq_true hd)]; exact List.mem_map_of_mem he)
end MR
end

section
set_option Elab.async false
set_option linter.all false
set_option maxRecDepth 100000
set_option maxHeartbeats 1000000
/-! Program.__init__. -/
namespace MR
open PySem PySem.Spec PyProof.Rows L2 LY GW
structure Inp where
  nm : Str
  rows : List (List Int)
  body : T
  cv : V
  bv : V
  pp : Addr
def Inp.dat (e : Inp) : Str × List (List Int) × T := (e.nm, e.rows, e.body)
def Ent.dat (e : Ent) : Str × List (List Int) × T := (e.nm, e.rows, e.body)
section
variable {P : Program} {w : World} {K : PySem.W.Frag} {mg : Str → Option Value} {base : Heap} {cP cC cE : Addr} {c vf : Kd → Addr} {fdV : Kd → FuncData}
abbrev sPInit : Stmt := inClass (top 25) 0
theorem scPInit : FnScope ["self", "size", "functions", "name", "pair", "contract", "body", "argument"] ["self", "size", "functions"] (defScope sPInit) := ⟨rfl, rfl, rfl, by decide +kernel, rfl, by decide +kernel, by decide +kernel⟩
/-- a program as it lies -/
structure PG (cP cC : Addr) (c : Kd → Addr) (H : Hp) (n : Nat) (es : List Ent) (a kc kb kr : Addr) : Prop where
  at_ : ∃ dx bv, H a = some (.ins cP dx [("_size", .int n), ("_contracts", .ref kc), ("_bodies", .ref kb), ("_results", .ref kr), ("_broken", bv)]) ∧ BV H (brk es) bv
  hkc : H kc = some (.dK (kvC es))
  hkb : H kb = some (.dK (kvB es))
  hkr : H kr = some (.dK (kvR es))
  hes : ∀ e ∈ es, EntOk cC c H e
  nd : (es.map (·.nm)).Nodup
  right : Right n es
  inp : ∀ k e, es[k]? = some e → InOk n ((es.take k).map (·.nm)) e.nm e.rows e.body
  hn : n = 2 ∨ n = 3
  le : es.length ≤ 6
/-- while the functions are taken in -/
structure LpI (cP cC : Addr) (c : Kd → Addr) (H1 : Hp) (n : Nat) (ins : List Inp) (a dx kc kb kr : Addr) (k : Nat) (es : List Ent) (H' : Hp) : Prop where
  dat : es.map Ent.dat = (ins.take k).map Inp.dat
  right : Right n es
  at_ : H' a = some (.ins cP dx [("_size", .int n), ("_contracts", .ref kc), ("_bodies", .ref kb), ("_results", .ref kr)])
  hkc : H' kc = some (.dK (kvC es))
  hkb : H' kb = some (.dK (kvB es))
  hkr : H' kr = some (.dK (kvR es))
  ok : ∀ e ∈ es, EntOk cC c H' e
  keep : ∀ b o, b ≠ a → b ≠ kc → b ≠ kb → b ≠ kr → H1 b = some o → H' b = some o
theorem nm_dat {es : List Ent} {ins : List Inp} (h : es.map Ent.dat = ins.map Inp.dat) : es.map (·.nm) = ins.map (·.nm) := by
  have := congrArg (List.map Prod.fst) h
  rw [List.map_map, List.map_map] at this
  exact this
theorem rows_dat {es : List Ent} {ins : List Inp} (h : es.map Ent.dat = ins.map Inp.dat) {k : Nat} {e : Ent} (he : es[k]? = some e) : ∃ i, ins[k]? = some i ∧ e.nm = i.nm ∧ e.rows = i.rows ∧ e.body = i.body := by
  have h1 : (es.map Ent.dat)[k]? = some e.dat := by rw [List.getElem?_map, he]; rfl
  rw [h, List.getElem?_map] at h1
  obtain ⟨i, h2, h3⟩ := Option.map_eq_some_iff.mp h1
  unfold Inp.dat Ent.dat at h3
  simp only [Prod.mk.injEq] at h3
  exact ⟨i, h2, h3.1.symm, h3.2.1.symm, h3.2.2.symm⟩
theorem not_before {ins : List Inp} (nd : (ins.map (·.nm)).Nodup) {k : Nat} {e : Inp} (he : ins[k]? = some e) : e.nm ∉ (ins.take k).map (·.nm) := by
  intro h
  obtain ⟨x, hx, ex⟩ := List.mem_map.mp h
  obtain ⟨j, hj, ej⟩ := List.getElem_of_mem hx
  rw [List.length_take] at hj
  have hjk : j < k := by omega
  have h1 : (ins.map (·.nm))[j]? = some e.nm := by
    rw [List.getElem?_map]
    have : ins[j]? = some x := by
      rw [← ej, List.getElem_take, List.getElem?_eq_getElem]
    rw [this]
    show some x.nm = _
    rw [ex]
  have h2 : (ins.map (·.nm))[k]? = some e.nm := by rw [List.getElem?_map, he]; rfl
  have hkl := (List.getElem?_eq_some_iff.mp h2).1
  obtain ⟨hj1, e1⟩ := List.getElem?_eq_some_iff.mp h1
  obtain ⟨hk1, e2⟩ := List.getElem?_eq_some_iff.mp h2
  have := (List.pairwise_iff_getElem.mp nd) j k hj1 hk1 hjk
  exact this (by rw [e1, e2])
theorem right_snoc {n : Nat} {es : List Ent} {e : Ent} (h : Right n es) (he : ResOk n es e) : Right n (es ++ [e]) := by
  intro k x hx
  by_cases hk : k < es.length
  · rw [List.getElem?_append_left hk] at hx
    rw [List.take_append_of_le_length (by omega)]
    exact h k x hx
  · have hk2 := (List.getElem?_eq_some_iff.mp hx).1
    rw [List.length_append, List.length_singleton] at hk2
    have : k = es.length := by omega
    subst this
    rw [List.getElem?_append_right (Nat.le_refl _), Nat.sub_self] at hx
    cases hx
    rw [List.take_append_of_le_length (Nat.le_refl _), List.take_length]
    exact he
theorem keys_kv {es : List Ent} : (kvB es).map (fun kv => kV kv.1) = (es.map (·.nm)).map V.str := by
  unfold kvB
  rw [List.map_map, List.map_map]
  rfl
theorem CN.but {H H' : Hp} {a0 C0 dx0 cC : Addr} (h0 : H a0 = some (.ins C0 dx0 [])) (e : ∀ b o, b ≠ a0 → Fixed o → H b = some o → H' b = some o) {v : V} {rs : List (List Int)} (h : CN cC H rs v) : CN cC H' rs v := by
  obtain ⟨a, dx, p, h1, h2, us, h3, h4, h5⟩ := h
  have na : ∀ b o, H b = some o → o ≠ .ins C0 dx0 [] → b ≠ a0 := fun b o hb ho z => ho (by rw [z, h0] at hb; exact (Option.some.inj hb).symm)
  refine ⟨a, dx, p, h1, e _ _ (na _ _ h2 (by simp)) trivial h2, us, e _ _ (na _ _ h3 (by simp)) trivial h3, h4, fun i u hu => ?_⟩
  obtain ⟨r, q, k1, k2, k3⟩ := h5 i u hu
  exact ⟨r, q, k1, k2, e _ _ (na _ _ k3 (by simp)) trivial k3⟩
section
variable {c : Kd → Addr} {H H' : Hp} {a0 : Addr}
mutual
/-- what changes at an object that is no part of an expression does not matter -/
theorem EE.alt (h0 : ∀ C dx pt z ct o, H a0 ≠ some (.ins C dx (flds pt z ct o))) (h1 : ∀ xs, H a0 ≠ some (.tup xs)) (e : ∀ b o, b ≠ a0 → Fixed o → H b = some o → H' b = some o) : ∀ {t : T} {v : V}, EE c H t v → EE c H' t v
  | .mk g ks, v, h => by
    rw [EE] at h ⊢
    obtain ⟨a, dx, pt, ct, cs, us, qt, q1, q2, q3, q4, q5, q6, q7, q8⟩ := h
    exact ⟨a, dx, pt, ct, cs, us, qt, q1, e _ _ (fun z => h0 _ _ _ _ _ _ (z ▸ q2)) True.intro q2, e _ _ (fun z => h1 _ (z ▸ q3)) True.intro q3, e _ _ (fun z => h1 _ (z ▸ q4)) True.intro q4, q5, q6, fun z => e _ _ (fun y => h1 _ (y ▸ q7 z)) True.intro (q7 z), EEs.alt h0 h1 e q8⟩
theorem EEs.alt (h0 : ∀ C dx pt z ct o, H a0 ≠ some (.ins C dx (flds pt z ct o))) (h1 : ∀ xs, H a0 ≠ some (.tup xs)) (e : ∀ b o, b ≠ a0 → Fixed o → H b = some o → H' b = some o) : ∀ {ts : List T} {us : List V}, EEs c H ts us → EEs c H' ts us
  | [], us, h => by rw [EEs] at h ⊢; exact h
  | t :: r, us, h => by
    rw [EEs] at h ⊢
    obtain ⟨u, s, q1, q2, q3⟩ := h
    exact ⟨u, s, q1, EE.alt h0 h1 e q2, EEs.alt h0 h1 e q3⟩
end
end
theorem CN.alt {H H' : Hp} {a0 cC : Addr} (h0 : ∀ C dx v, H a0 ≠ some (.ins C dx [("_rows", v)])) (h1 : ∀ xs, H a0 ≠ some (.tup xs)) (e : ∀ b o, b ≠ a0 → Fixed o → H b = some o → H' b = some o) {v : V} {rs : List (List Int)} (h : CN cC H rs v) : CN cC H' rs v := by
  obtain ⟨a, dx, p, q1, q2, us, q3, q4, q5⟩ := h
  refine ⟨a, dx, p, q1, e _ _ (fun z => h0 _ _ _ (z ▸ q2)) trivial q2, us, e _ _ (fun z => h1 _ (z ▸ q3)) trivial q3, q4, fun i u hu => ?_⟩
  obtain ⟨r, q, k1, k2, k3⟩ := q5 i u hu
  exact ⟨r, q, k1, k2, e _ _ (fun z => h1 _ (z ▸ k3)) trivial k3⟩
def spPInit (cP cC : Addr) (c : Kd → Addr) : Sp := fun vs H Q _ => ∃ (a dx : Addr) (n : Nat) (F : Addr) (ins : List Inp), vs = [.ref a, .int n, .ref F] ∧ (n = 2 ∨ n = 3) ∧ H a = some (.ins cP dx []) ∧ H F = some (.dK (ins.map fun e => (.inr e.nm, .ref e.pp))) ∧ 1 ≤ ins.length ∧ ins.length ≤ 6 ∧ (ins.map (·.nm)).Nodup ∧
  (∀ k e, ins[k]? = some e → InOk n ((ins.take k).map (·.nm)) e.nm e.rows e.body ∧ H e.pp = some (.tup [e.cv, e.bv]) ∧ CN cC H e.rows e.cv ∧ EE c H e.body e.bv) ∧
  ∀ H' es kc kb kr, (∀ b o, b ≠ a → H b = some o → H' b = some o) → H kc = none → H kb = none → H kr = none → es.map Ent.dat = ins.map Inp.dat → PG cP cC c H' n es a kc kb kr → Q .non H'
theorem pInit_ok {f gB : Addr} {fd fdB : FuncData} (F : Fun K "__init__" "Program.__init__" sPInit f fd) (bn : BN mg) (Z : PF K cP) (ZE : CF K c cE) (V' : VF K c vf fdV) {tk : Tok} (mgM : mg "MOST_FUNCTIONS" = some (.int 6 tk)) (cS : Cal P w K mg base 1 "is_size" spIsSize) (cN : Cal P w K mg base 1 "is_name" spIsName)
    (cF : CalZ P w K mg base 16 "is_function" (spFunc K c cC)) (FB : FnZ P w K mg base 6 gB fdB ["self"] (spFB cP cC c)) (bB : Binds K fdB ["self"] []) (mB : Meth K cP "_first_broken" gB) : FnZ P w K mg base 17 f fd ["self", "size", "functions"] (spPInit cP cC c) := by
  refine Fun.okZ F (k := 16) scPInit (fun vs H Q E h => ?_) (fun cdv A outer s H vs Q E hr h => ?_)
  · obtain ⟨a, dx, n, Fd, ins, rfl, _⟩ := h
    rfl
  · obtain ⟨a, dx, n, Fd, ins, rfl, hn, ha, hF, hl1, hl6, nd, hin, kk⟩ := h
    refine ⟨_, pssz_cons (psz_of (ps_if (pt_not (pt_val (pe_c (j := 16) cS hr (by decide) (pa_cons (pv 1) pa_nil)))) (pss_one ps_never) pss_nil))
      (pssz_cons (psz_of (ps_if (PW.pt (pw_or (pt_not (pt_val (pe_is bn (pa_cons (pv 2) (pa_cons (pe_bltn (v := .ty "dict") (by rfl) (bn "dict" (by decide)) boot_tDict rfl) pa_nil))))) (pw_or1 (pt_not (pt_chain op_le op_le pe_int (pe_callB call_lenD (by rfl) (bn "len" (by decide)) boot_bLen (pa_cons (pv 2) pa_nil)) (pe_glob (v := .int 6) (by rfl) mgM ⟨tk, rfl⟩)))))) (pss_one ps_never) pss_nil))
      (pssz_cons (psz_of (ps_fld (pv 0) (pv 1) rfl))
      (pssz_cons (psz_of (ps_fld (pv 0) pe_dnewK rfl))
      (pssz_cons (psz_of (ps_fld (pv 0) pe_dnewK rfl))
      (pssz_cons (psz_of (ps_fld (pv 0) pe_dnewK rfl))
      (pssz_cons (psz_lock (psz_for (g := gTup K 2 (gCons (gName 3) (gCons (gName 4) gNil))) rfl (pi_items (pv 2)) (pg_tup rfl (pgs_cons (pg_name (i := 3) scPInit.nd rfl (.inl rfl)) (pgs_cons (pg_name (i := 4) scPInit.nd rfl (.inl rfl)) pgs_nil)))
        (pssz_cons (psz_if (ptz_bool (pallz_or (ptz_of (pt_not (pt_val (pe_c (j := 16) cN hr (by decide) (pa_cons (pv 3) pa_nil))))) (pallz_or (ptz_not (ptz_val (pez_c (j := 16) cF hr (by decide) (pa_cons (pv 4) (pa_cons (pv 1) (pa_cons (pe_callTy (call_listD rfl) (by rfl) (bn "list" (by decide)) boot_tList (pa_cons (pe_fld (pv 0) rfl) pa_nil)) pa_nil)))))) pallz_or_nil))) (pssz_one psz_never) pssz_nil)
        (pssz_of (pss_cons (ps_asg (pv 4) (pg_tup rfl (pgs_cons (pg_name (i := 5) scPInit.nd rfl (.inl rfl)) (pgs_cons (pg_name (i := 6) scPInit.nd rfl (.inr rfl)) pgs_nil))))
          (pss_cons (ps_dput (by have := hu_of hr; exact this) (pe_fld (pv 0) rfl) (pv 3) (pv 5) rfl)
          (pss_cons (ps_dput (by have := hu_of hr; exact this) (pe_fld (pv 0) rfl) (pv 3) (pv 6) rfl)
          (pss_one (ps_dput (by have := hu_of hr; exact this) (pe_fld (pv 0) rfl) (pv 3) (pe_callTy call_tuple_of (by rfl) (bn "tuple" (by decide)) boot_tTuple (pa_cons
            (pe_lc (own := [("argument", 7)]) (g := gName 7) (tt := tYes) (te := tMethD P w K mg base 5 "value" (tVar 6) (tCons (tVar 7) (tCons (tFld K (tVar 0) "_results") tNil))) rfl scPInit.nd (pi_range1 (by rfl) (bn "range" (by decide)) (pa_cons (pv 1) pa_nil)) (blkOk_by (N := ["self", "size", "functions", "name", "pair", "contract", "body", "argument"]) (sc := defScope sPInit) (by decide +kernel))
              (fun _ _ _ _ _ => pg_name (i := 7) scPInit.nd rfl (.inl rfl)) (fun _ _ _ _ _ => pts_nil) (fun _ _ _ _ _ => pe_methD (k := 5) (pv 6) (by have := hr.mono (show 5 ≤ 16 by decide); exact this) (pa_cons (pv 7) (pa_cons (pe_fld (pv 0) rfl) pa_nil)))) pa_nil)) rfl)))))))))
      (pssz_one (psz_fld (pv 0) (pez_meth0 (E := E0) (pv 0) FB (hr.mono (by decide)) bB .nil Z.cls mB))))))))), ?_⟩
    refine ⟨_, rfl, n, rfl, _, rfl, iteFb (b := !inV (.int n) [.int 2, .int 3]) (by rcases hn with e | e <;> rw [e] <;> rfl) ?_⟩
    refine ⟨_, rfl, _, _, true, rfl, .base (.dK hF), kit_ty (by decide +kernel), _, rfl, iteF ⟨_, rfl, Fd, _, rfl, hF, 1, _, rfl, rfl, _, rfl, ?_⟩⟩
    have hle : (1 : Int) ≤ ((ins.map fun e => ((.inr e.nm : Key), V.ref e.pp)).length : Nat) := by rw [List.length_map]; omega
    refine iteTb (b := decide ((1 : Int) ≤ ((ins.map fun e => ((.inr e.nm : Key), V.ref e.pp)).length : Nat))) (decide_eq_true hle) ⟨_, _, rfl, rfl, _, rfl, iteFb (b := !decide ((((ins.map fun e => ((.inr e.nm : Key), V.ref e.pp)).length : Nat) : Int) ≤ 6)) (by rw [List.length_map, decide_eq_true (by omega)]; rfl) ?_⟩
    -- the fields
    refine ⟨_, rfl, _, rfl, a, _, dx, _, rfl, ha, Z.cls, Z.na _ (by decide), (by show 0 < 1000; decide), ?_⟩
    have h1a : (upd H a (.ins cP dx (putF "_size" (.int n) []))) a = some (.ins cP dx [("_size", .int n)]) := upd_same
    have k1 : ∀ b o, b ≠ a → H b = some o → (upd H a (.ins cP dx (putF "_size" (.int n) []))) b = some o := fun b o hb e => by rw [upd_ne hb]; exact e
    have n1 : ∀ b, (upd H a (.ins cP dx (putF "_size" (.int n) []))) b = none → b ≠ a ∧ H b = none := fun b hb => by
      have : b ≠ a := fun z => by rw [z, upd_same] at hb; cases hb
      exact ⟨this, by rw [upd_ne this] at hb; exact hb⟩
    generalize (upd H a (.ins cP dx (putF "_size" (.int n) []))) = H1 at h1a k1 n1 ⊢
    refine fun kc hkc => ⟨_, rfl, a, _, dx, _, rfl, Ext.upd hkc _ _ h1a, Z.cls, Z.na _ (by decide), (by show 1 < 1000; decide), ?_⟩
    obtain ⟨hca, hHc⟩ := n1 kc hkc
    have h2a : (upd (upd H1 kc (.dK [])) a (.ins cP dx (putF "_contracts" (.ref kc) [("_size", .int n)]))) a = some (.ins cP dx [("_size", .int n), ("_contracts", .ref kc)]) := upd_same
    have h2c : (upd (upd H1 kc (.dK [])) a (.ins cP dx (putF "_contracts" (.ref kc) [("_size", .int n)]))) kc = some (.dK []) := by rw [upd_ne hca]; exact upd_same
    have k2 : ∀ b o, b ≠ a → H b = some o → (upd (upd H1 kc (.dK [])) a (.ins cP dx (putF "_contracts" (.ref kc) [("_size", .int n)]))) b = some o := fun b o hb e => by rw [upd_ne hb]; exact Ext.upd hkc _ _ (k1 b o hb e)
    have n2 : ∀ b, (upd (upd H1 kc (.dK [])) a (.ins cP dx (putF "_contracts" (.ref kc) [("_size", .int n)]))) b = none → b ≠ a ∧ b ≠ kc ∧ H b = none := fun b hb => by
      have q1 : b ≠ a := fun z => by rw [z, upd_same] at hb; cases hb
      rw [upd_ne q1] at hb
      have q2 : b ≠ kc := fun z => by rw [z, upd_same] at hb; cases hb
      rw [upd_ne q2] at hb
      exact ⟨q1, q2, (n1 b hb).2⟩
    generalize (upd (upd H1 kc (.dK [])) a (.ins cP dx (putF "_contracts" (.ref kc) [("_size", .int n)]))) = H2 at h2a h2c k2 n2 ⊢
    refine fun kb hkb => ⟨_, rfl, a, _, dx, _, rfl, Ext.upd hkb _ _ h2a, Z.cls, Z.na _ (by decide), (by show 2 < 1000; decide), ?_⟩
    obtain ⟨hba, hbc, hHb⟩ := n2 kb hkb
    have h3a : (upd (upd H2 kb (.dK [])) a (.ins cP dx (putF "_bodies" (.ref kb) [("_size", .int n), ("_contracts", .ref kc)]))) a = some (.ins cP dx [("_size", .int n), ("_contracts", .ref kc), ("_bodies", .ref kb)]) := upd_same
    have h3b : (upd (upd H2 kb (.dK [])) a (.ins cP dx (putF "_bodies" (.ref kb) [("_size", .int n), ("_contracts", .ref kc)]))) kb = some (.dK []) := by rw [upd_ne hba]; exact upd_same
    have h3c : (upd (upd H2 kb (.dK [])) a (.ins cP dx (putF "_bodies" (.ref kb) [("_size", .int n), ("_contracts", .ref kc)]))) kc = some (.dK []) := by rw [upd_ne hca]; exact Ext.upd hkb _ _ h2c
    have k3 : ∀ b o, b ≠ a → H b = some o → (upd (upd H2 kb (.dK [])) a (.ins cP dx (putF "_bodies" (.ref kb) [("_size", .int n), ("_contracts", .ref kc)]))) b = some o := fun b o hb e => by rw [upd_ne hb]; exact Ext.upd hkb _ _ (k2 b o hb e)
    have n3 : ∀ b, (upd (upd H2 kb (.dK [])) a (.ins cP dx (putF "_bodies" (.ref kb) [("_size", .int n), ("_contracts", .ref kc)]))) b = none → b ≠ a ∧ b ≠ kc ∧ b ≠ kb ∧ H b = none := fun b hb => by
      have q1 : b ≠ a := fun z => by rw [z, upd_same] at hb; cases hb
      rw [upd_ne q1] at hb
      have q2 : b ≠ kb := fun z => by rw [z, upd_same] at hb; cases hb
      rw [upd_ne q2] at hb
      obtain ⟨_, q3, q4⟩ := n2 b hb
      exact ⟨q1, q3, q2, q4⟩
    generalize (upd (upd H2 kb (.dK [])) a (.ins cP dx (putF "_bodies" (.ref kb) [("_size", .int n), ("_contracts", .ref kc)]))) = H3 at h3a h3b h3c k3 n3 ⊢
    refine fun kr hkr => ⟨_, rfl, a, _, dx, _, rfl, Ext.upd hkr _ _ h3a, Z.cls, Z.na _ (by decide), (by show 3 < 1000; decide), ?_⟩
    obtain ⟨hra, hrc, hrb, hHr⟩ := n3 kr hkr
    have h4a : (upd (upd H3 kr (.dK [])) a (.ins cP dx (putF "_results" (.ref kr) [("_size", .int n), ("_contracts", .ref kc), ("_bodies", .ref kb)]))) a = some (.ins cP dx [("_size", .int n), ("_contracts", .ref kc), ("_bodies", .ref kb), ("_results", .ref kr)]) := upd_same
    have h4r : (upd (upd H3 kr (.dK [])) a (.ins cP dx (putF "_results" (.ref kr) [("_size", .int n), ("_contracts", .ref kc), ("_bodies", .ref kb)]))) kr = some (.dK []) := by rw [upd_ne hra]; exact upd_same
    have h4b : (upd (upd H3 kr (.dK [])) a (.ins cP dx (putF "_results" (.ref kr) [("_size", .int n), ("_contracts", .ref kc), ("_bodies", .ref kb)]))) kb = some (.dK []) := by rw [upd_ne hba]; exact Ext.upd hkr _ _ h3b
    have h4c : (upd (upd H3 kr (.dK [])) a (.ins cP dx (putF "_results" (.ref kr) [("_size", .int n), ("_contracts", .ref kc), ("_bodies", .ref kb)]))) kc = some (.dK []) := by rw [upd_ne hca]; exact Ext.upd hkr _ _ h3c
    have k4 : ∀ b o, b ≠ a → H b = some o → (upd (upd H3 kr (.dK [])) a (.ins cP dx (putF "_results" (.ref kr) [("_size", .int n), ("_contracts", .ref kc), ("_bodies", .ref kb)]))) b = some o := fun b o hb e => by rw [upd_ne hb]; exact Ext.upd hkr _ _ (k3 b o hb e)
    generalize (upd (upd H3 kr (.dK [])) a (.ins cP dx (putF "_results" (.ref kr) [("_size", .int n), ("_contracts", .ref kc), ("_bodies", .ref kb)]))) = H4 at h4a h4b h4c h4r k4 ⊢
    -- the loop
    have hFa : Fd ≠ a := fun z => by rw [z, ha] at hF; cases hF
    have hF4 := k4 _ _ hFa hF
    have hFc : Fd ≠ kc := fun z => by rw [z, hHc] at hF; cases hF
    have hFb : Fd ≠ kb := fun z => by rw [z, hHb] at hF; cases hF
    have hFr : Fd ≠ kr := fun z => by rw [z, hHr] at hF; cases hF
    refine ⟨Fd, _, hF4, trivial, fun od => ?_⟩
    have f5 : Fx H4 (upd H4 Fd (.frz od (.dK (ins.map fun e => ((.inr e.nm : Key), V.ref e.pp))))) := fx_lock hF4 (fun q => q)
    have h5F : (upd H4 Fd (.frz od (.dK (ins.map fun e => ((.inr e.nm : Key), V.ref e.pp))))) Fd = some (.frz od (.dK (ins.map fun e => ((.inr e.nm : Key), V.ref e.pp)))) := upd_same
    have k5 : ∀ b o, b ≠ Fd → H4 b = some o → (upd H4 Fd (.frz od (.dK (ins.map fun e => ((.inr e.nm : Key), V.ref e.pp))))) b = some o := fun b o hb e => by rw [upd_ne hb]; exact e
    generalize (upd H4 Fd (.frz od (.dK (ins.map fun e => ((.inr e.nm : Key), V.ref e.pp))))) = H5 at f5 h5F k5 ⊢
    have wI : Walk (Iti Fd od (ins.map fun e => ((.inr e.nm : Key), V.ref e.pp))) ins.length (fun H' => H' Fd = some (.frz od (.dK (ins.map fun e => ((.inr e.nm : Key), V.ref e.pp))))) (YPair (fun i => (ins.map fun e => ((.inr e.nm : Key), V.ref e.pp))[i]?.map fun kv => kV kv.1) (fun i => (ins.map fun e => ((.inr e.nm : Key), V.ref e.pp))[i]?.map Prod.snd)) := by
      have := walk_items (d := Fd) (o := od) (kvs := ins.map fun e => ((.inr e.nm : Key), V.ref e.pp))
      rwa [List.length_map] at this
    refine ⟨_, rfl, Fd, od, _, rfl, h5F, for_it wI (fun k σ H' => ∃ es u3 u4 u5 u6 u7, LpI cP cC c H5 n ins a dx kc kb kr k es H' ∧ σ = [some (.ref a), some (.int n), some (.ref Fd), u3, u4, u5, u6, u7]) ⟨[], none, none, none, none, none, ?_, rfl⟩ (fun i σ H' _ ⟨es, _, _, _, _, _, I, _⟩ => I.keep _ _ hFa hFc hFb hFr h5F) (fun i x σ H' H'' hi ⟨es, u3, u4, u5, u6, u7, I, hσ⟩ hY => ?_) (fun σ H' ⟨es, u3, u4, u5, u6, u7, I, hσ⟩ => ?_)⟩
    · exact ⟨rfl, fun k e h => by simp at h, k5 _ _ (Ne.symm hFa) h4a, k5 _ _ (Ne.symm hFc) h4c, k5 _ _ (Ne.symm hFb) h4b, k5 _ _ (Ne.symm hFr) h4r, fun e he => by simp at he, fun b o _ _ _ _ e => e⟩
    · subst hσ
      obtain ⟨T, x', y', rfl, hT, rfl, hx, hy⟩ := hY
      obtain ⟨e, he⟩ : ∃ e, ins[i]? = some e := ⟨ins[i], List.getElem?_eq_getElem hi⟩
      have hx : (((ins.map fun e => ((.inr e.nm : Key), V.ref e.pp))[i]?).map fun kv => kV kv.1) = some x' := hx
      have hy : (((ins.map fun e => ((.inr e.nm : Key), V.ref e.pp))[i]?).map Prod.snd) = some y' := hy
      rw [List.getElem?_map, he] at hx hy
      obtain rfl : V.str e.nm = x' := Option.some.inj hx
      obtain rfl : V.ref e.pp = y' := Option.some.inj hy
      obtain ⟨hio, hpp, hcn, hee⟩ := hin i e he
      have hnm := nm_dat (ins := ins.take i) I.dat
      -- what was given lies as it did
      have fH : ∀ b o, b ≠ a → Fixed o → H b = some o → H' b = some o := fun b o hb f h => I.keep b o hb (fun z => by rw [z, hHc] at h; cases h) (fun z => by rw [z, hHb] at h; cases h) (fun z => by rw [z, hHr] at h; cases h) (f5 b o f (k4 b o hb h))
      have hpa : e.pp ≠ a := fun z => by rw [z, ha] at hpp; cases hpp
      have hpp' := fH _ (.tup [e.cv, e.bv]) hpa trivial hpp
      have hee' : EE c H' e.body e.bv := EE.but ha fH hee
      have hcn' : CN cC H' e.rows e.cv := hcn.but ha fH
      have eT : Ext H' (upd H' T (.tup [.str e.nm, .ref e.pp])) := Ext.upd hT
      refine ⟨T, _, rfl, .inl (.inl upd_same), rfl, _, _, rfl, _, _, rfl, rfl, ?_⟩
      generalize (upd H' T (.tup [.str e.nm, .ref e.pp])) = Hs at eT ⊢
      refine ⟨_, rfl, e.nm, rfl, hio.nm, _, rfl, iteF ⟨_, rfl, _, rfl, _, rfl, a, _, dx, _, .ref kb, rfl, eT _ _ I.at_, Z.cls, Z.na _ (by decide), rfl, kb, _, rfl, .inl (eT _ _ I.hkb), fun l hl => ?_⟩⟩
      have el : Ext H' (upd Hs l (.lst ((kvB es).map fun kv => kV kv.1))) := eT.upd' hl
      refine ⟨e.pp, n, l, e.cv, e.bv, e.rows, e.body, es.map (·.nm), rfl, el _ _ hpp', hcn'.fx (Fx.of el), hio.rows, EE.fx (Fx.of el) hee', hio.dep, hio.ok.poss, .inl (.inl (by rw [← keys_kv]; exact upd_same)), by rw [hnm]; exact hio.names, hio.size, fun H3 e3 => ?_⟩
      have e3 : Ext H' H3 := el.trans e3
      refine ⟨_, rfl, iteF (iteF ?_)⟩
      refine ⟨_, rfl, e.pp, _, rfl, .inl (.inl (e3 _ _ hpp')), rfl, _, _, rfl, _, _, rfl, rfl, ?_⟩
      have hac : a ≠ kc := Ne.symm hca
      have hab : a ≠ kb := Ne.symm hba
      have har : a ≠ kr := Ne.symm hra
      have hcb : kc ≠ kb := Ne.symm hbc
      have hcr : kc ≠ kr := Ne.symm hrc
      have hbr : kb ≠ kr := Ne.symm hrb
      have hnew : e.nm ∉ es.map (·.nm) := by rw [hnm]; exact not_before nd he
      have hesl : es.length ≤ 6 := by
        have := congrArg List.length I.dat
        rw [List.length_map, List.length_map, List.length_take] at this
        omega
      have hndes : (es.map (·.nm)).Nodup := by rw [hnm, List.map_take]; exact nd.sublist (List.take_sublist _ _)
      refine ⟨_, rfl, _, rfl, a, _, dx, _, .ref kc, rfl, e3 _ _ I.at_, Z.cls, Z.na _ (by decide), rfl, _, rfl, kc, _, rfl, .inl ⟨_, .inr e.nm, e3 _ _ I.hkc, rfl, by unfold kvC; rw [List.length_map, sizeLine_eq]; omega, rfl⟩, ?_⟩
      have q4 : ∀ b o, b ≠ kc → H' b = some o → (upd H3 kc (.dK (putK (kvC es) (.inr e.nm) e.cv))) b = some o := fun b o hb h => by rw [upd_ne hb]; exact e3 _ _ h
      have c4 : (upd H3 kc (.dK (putK (kvC es) (.inr e.nm) e.cv))) kc = some (.dK (putK (kvC es) (.inr e.nm) e.cv)) := upd_same
      generalize (upd H3 kc (.dK (putK (kvC es) (.inr e.nm) e.cv))) = H6 at q4 c4 ⊢
      refine ⟨_, rfl, _, rfl, a, _, dx, _, .ref kb, rfl, q4 _ _ hac I.at_, Z.cls, Z.na _ (by decide), rfl, _, rfl, kb, _, rfl, .inl ⟨_, .inr e.nm, q4 _ _ (Ne.symm hcb) I.hkb, rfl, by unfold kvB; rw [List.length_map, sizeLine_eq]; omega, rfl⟩, ?_⟩
      have q5 : ∀ b o, b ≠ kc → b ≠ kb → H' b = some o → (upd H6 kb (.dK (putK (kvB es) (.inr e.nm) e.bv))) b = some o := fun b o hb hb2 h => by rw [upd_ne hb2]; exact q4 _ _ hb h
      have c5 : (upd H6 kb (.dK (putK (kvB es) (.inr e.nm) e.bv))) kc = some (.dK (putK (kvC es) (.inr e.nm) e.cv)) := by rw [upd_ne hcb]; exact c4
      have b5 : (upd H6 kb (.dK (putK (kvB es) (.inr e.nm) e.bv))) kb = some (.dK (putK (kvB es) (.inr e.nm) e.bv)) := upd_same
      generalize (upd H6 kb (.dK (putK (kvB es) (.inr e.nm) e.bv))) = H7 at q5 c5 b5 ⊢
      have fx7 : Fx H' H7 := fun b o f h => q5 b o (fun z => by rw [z, I.hkc] at h; cases h; exact f) (fun z => by rw [z, I.hkb] at h; cases h; exact f) h
      have hkr7 := q5 _ _ (Ne.symm hcr) (Ne.symm hbr) I.hkr
      have hat7 := q5 _ _ hac hab I.at_
      have htot : TabTot (tabE es) n e.body.names := tabTot_of hndes I.right (by rw [hnm]; exact hio.names)
      have hn3 : n ≤ 3 := by rcases hn with z | z <;> omega
      refine ⟨_, rfl, n, rfl, by omega, by omega, fun D hD => ?_⟩
      refine lcm_range (lo := 0) (n := n) (R := fun i y _ => ∃ r : Int, y = .int r ∧ MR.T.ev (tabE es) i e.body = some r ∧ 0 ≤ r ∧ r < n) (fun _ _ _ _ _ h => h) hD (by rw [sizeLine_eq]; omega) ?hw (fun i2 H8 Qk e8 hi2 k2 => ?_) (fun H8 ys e8 hD8 hys hR => ?_)
      case hw => intro x; rfl
      · obtain ⟨r, hr1, hr2, hr3⟩ := ev_tot (x := (i2 : Int)) (by omega) (by omega) hio.ok htot
        have hee8 : EE c H8 e.body e.bv := EE.fx (fx7.trans (Fx.of e8)) hee'
        obtain ⟨ab, Cb, dxb, ptb, ctb, ob, hxb, hcb', hab', csb, usb, qtb, hob, _⟩ := EE.view hee8
        subst hcb' hob
        refine ⟨e.bv, rfl, ab, _, dxb, _, hxb, hab', look_meth (by decide), _, _, _, _, ZE.cls _, V'.m _, val_ok ZE V' 4 _, V'.b _, _, rfl, _, rfl, a, _, dx, _, .ref kr, rfl, e8 _ _ hat7, Z.cls, Z.na _ (by decide), rfl, e.body, _, _, kr, tabE es, r, rfl, rfl, hio.dep, hee8, tabAt_of hndes (.inl (e8 _ _ hkr7)) (fun x hx => (fx7.trans (Fx.of e8)) _ _ trivial (I.ok x hx).rs), by rw [Int.zero_add]; exact hr1, k2 _ _ Ext.rfl' ⟨r, rfl, hr1, hr2, hr3⟩⟩
      obtain ⟨zs, hzs, _⟩ := ints_all ys fun i y hy => let ⟨r, h, _⟩ := hR i y hy; ⟨r, h⟩
      subst hzs
      rw [List.length_map] at hys
      refine ⟨D, _, rfl, .inl ⟨.inl (.inl hD8), fun p2 hp2 => ?_⟩⟩
      have e9 : Ext H7 (upd H8 p2 (.tup (zs.map V.int))) := e8.upd' hp2
      have hp9 : (upd H8 p2 (.tup (zs.map V.int))) p2 = some (.tup (zs.map V.int)) := upd_same
      generalize (upd H8 p2 (.tup (zs.map V.int))) = H9 at e9 hp9 ⊢
      refine ⟨_, rfl, a, _, dx, _, .ref kr, rfl, e9 _ _ hat7, Z.cls, Z.na _ (by decide), rfl, _, rfl, kr, _, rfl, .inl ⟨_, .inr e.nm, e9 _ _ hkr7, rfl, by unfold kvR; rw [List.length_map, sizeLine_eq]; omega, rfl⟩, ?_⟩
      have q10 : ∀ b o, b ≠ kc → b ≠ kb → b ≠ kr → H' b = some o → (upd H9 kr (.dK (putK (kvR es) (.inr e.nm) (.ref p2)))) b = some o := fun b o hb hb2 hb3 h => by rw [upd_ne hb3]; exact e9 _ _ (q5 _ _ hb hb2 h)
      have c10 : (upd H9 kr (.dK (putK (kvR es) (.inr e.nm) (.ref p2)))) kc = some (.dK (putK (kvC es) (.inr e.nm) e.cv)) := by rw [upd_ne hcr]; exact e9 _ _ c5
      have b10 : (upd H9 kr (.dK (putK (kvR es) (.inr e.nm) (.ref p2)))) kb = some (.dK (putK (kvB es) (.inr e.nm) e.bv)) := by rw [upd_ne hbr]; exact e9 _ _ b5
      have r10 : (upd H9 kr (.dK (putK (kvR es) (.inr e.nm) (.ref p2)))) kr = some (.dK (putK (kvR es) (.inr e.nm) (.ref p2))) := upd_same
      have p10 : (upd H9 kr (.dK (putK (kvR es) (.inr e.nm) (.ref p2)))) p2 = some (.tup (zs.map V.int)) := by
        rw [upd_ne (fun z => by rw [z] at hp9; have := e9 _ _ hkr7; rw [hp9] at this; cases this)]
        exact hp9
      generalize (upd H9 kr (.dK (putK (kvR es) (.inr e.nm) (.ref p2)))) = H10 at q10 c10 b10 r10 p10 ⊢
      have fx10 : Fx H' H10 := fun b o f h => q10 b o (fun z => by rw [z, I.hkc] at h; cases h; exact f) (fun z => by rw [z, I.hkb] at h; cases h; exact f) (fun z => by rw [z, I.hkr] at h; cases h; exact f) h
      refine ⟨es ++ [⟨e.nm, e.rows, e.body, zs, e.cv, e.bv, p2⟩], _, _, _, _, _, ⟨?_, right_snoc I.right ⟨hys, fun i2 hi2 => ?_⟩, q10 _ _ hac hab har I.at_, ?_, ?_, ?_, fun x hx => ?_, fun b o h1 h2 h3 h4 h => q10 _ _ h2 h3 h4 (I.keep _ _ h1 h2 h3 h4 h)⟩, rfl⟩
      · rw [List.take_add_one, he, List.map_append, List.map_append, I.dat]
        rfl
      · have hl : i2 < zs.length := by rw [hys]; exact hi2
        obtain ⟨r, h1, h2, h3, h4⟩ := hR i2 (.int zs[i2]) (by rw [List.getElem?_map, List.getElem?_eq_getElem hl]; rfl)
        cases h1
        exact ⟨_, List.getElem?_eq_getElem hl, h2, h3, h4⟩
      · rw [c10]
        unfold kvC
        rw [putK_new hnew, List.map_append]
        rfl
      · rw [b10]
        unfold kvB
        rw [putK_new hnew, List.map_append]
        rfl
      · rw [r10]
        unfold kvR
        rw [putK_new hnew, List.map_append]
        rfl
      · rcases List.mem_append.mp hx with h | h
        · exact (I.ok x h).fx fx10
        · rw [List.mem_singleton] at h
          subst h
          exact ⟨hcn'.fx fx10, EE.fx fx10 hee', p10⟩
    · subst hσ
      have hdat := I.dat
      rw [List.take_length] at hdat
      have hnm := nm_dat hdat
      have hFq : H' Fd = some (.frz od (.dK (ins.map fun e => ((.inr e.nm : Key), V.ref e.pp)))) := I.keep _ _ hFa hFc hFb hFr h5F
      have fxq : Fx H' (upd H' Fd (.dK (ins.map fun e => ((.inr e.nm : Key), V.ref e.pp)))) := Fx.upd fun u hu => by rw [hFq] at hu; cases hu; exact fun q => q
      have kpq : ∀ b o, b ≠ Fd → H' b = some o → (upd H' Fd (.dK (ins.map fun e => ((.inr e.nm : Key), V.ref e.pp)))) b = some o := fun b o hb h => by rw [upd_ne hb]; exact h
      have hFq2 : (upd H' Fd (.dK (ins.map fun e => ((.inr e.nm : Key), V.ref e.pp)))) Fd = some (.dK (ins.map fun e => ((.inr e.nm : Key), V.ref e.pp))) := upd_same
      refine ⟨hFq, ?_⟩
      generalize (upd H' Fd (.dK (ins.map fun e => ((.inr e.nm : Key), V.ref e.pp)))) = H6 at fxq kpq hFq2 ⊢
      have hndes : (es.map (·.nm)).Nodup := by rw [hnm]; exact nd
      have hat6 := kpq _ _ (Ne.symm hFa) I.at_
      refine ⟨_, rfl, a, dx, _, rfl, hat6, rfl, es, a, dx, _, kc, kb, kr, rfl, hat6, rfl, rfl, rfl, rfl, kpq _ _ (Ne.symm hFc) I.hkc, kpq _ _ (Ne.symm hFb) I.hkb, kpq _ _ (Ne.symm hFr) I.hkr, fun e he => (I.ok e he).fx fxq, hndes, fun e he => ?_, fun v H8 e8 hbv => ?_⟩
      · obtain ⟨k, hk, ek⟩ := List.getElem_of_mem he
        have hk' : es[k]? = some e := by rw [← ek]; exact List.getElem?_eq_getElem hk
        obtain ⟨i, h1, h2, h3, h4⟩ := rows_dat hdat hk'
        rw [h3, (hin k i h1).1.rows, (I.right k e hk').len]
      · have hat8 := e8 _ _ hat6
        refine ⟨_, rfl, a, _, dx, _, rfl, hat8, Z.cls, Z.na _ (by decide), (by show 4 < 1000; decide), ?_⟩
        have h9a : (upd H8 a (.ins cP dx (putF "_broken" v [("_size", .int n), ("_contracts", .ref kc), ("_bodies", .ref kb), ("_results", .ref kr)]))) a = some (.ins cP dx [("_size", .int n), ("_contracts", .ref kc), ("_bodies", .ref kb), ("_results", .ref kr), ("_broken", v)]) := upd_same
        have k9 : ∀ b o, b ≠ a → H8 b = some o → (upd H8 a (.ins cP dx (putF "_broken" v [("_size", .int n), ("_contracts", .ref kc), ("_bodies", .ref kb), ("_results", .ref kr)]))) b = some o := fun b o hb h => by rw [upd_ne hb]; exact h
        generalize (upd H8 a (.ins cP dx (putF "_broken" v [("_size", .int n), ("_contracts", .ref kc), ("_bodies", .ref kb), ("_results", .ref kr)]))) = H9 at h9a k9 ⊢
        have x1 : ∀ C dx pt z ct o, H8 a ≠ some (.ins C dx (flds pt z ct o)) := fun C dx' pt z ct o h => by
          rw [hat8] at h
          simp only [Option.some.injEq, HO.ins.injEq, flds, List.cons.injEq, Prod.mk.injEq] at h
          exact absurd h.2.2.1.1 (by decide)
        have x2 : ∀ xs, H8 a ≠ some (.tup xs) := fun xs h => by rw [hat8] at h; cases h
        have x3 : ∀ C dx v, H8 a ≠ some (.ins C dx [("_rows", v)]) := fun C dx' v' h => by
          rw [hat8] at h
          simp at h
        refine kk H9 es kc kb kr (fun b o hb h => ?_) hHc hHb hHr hdat ⟨⟨dx, v, h9a, ?_⟩, k9 _ _ hca (e8 _ _ (kpq _ _ (Ne.symm hFc) I.hkc)), k9 _ _ hba (e8 _ _ (kpq _ _ (Ne.symm hFb) I.hkb)), k9 _ _ hra (e8 _ _ (kpq _ _ (Ne.symm hFr) I.hkr)), fun e he => ?_, hndes, I.right, fun k e he => ?_, hn, ?_⟩
        · refine k9 _ _ hb (e8 _ _ ?_)
          by_cases hbF : b = Fd
          · subst hbF
            rw [hF] at h
            rw [hFq2, h]
          · exact kpq _ _ hbF (I.keep _ _ hb (fun z => by rw [z, hHc] at h; cases h) (fun z => by rw [z, hHb] at h; cases h) (fun z => by rw [z, hHr] at h; cases h) (k5 _ _ hbF (k4 _ _ hb h)))
        · cases hbr : brk es with
          | none => rw [hbr] at hbv; exact hbv
          | some p =>
            rw [hbr] at hbv
            obtain ⟨Tb, hv, hT⟩ := hbv
            exact ⟨Tb, hv, k9 _ _ (fun z => x2 _ (z ▸ hT)) hT⟩
        · have ok := ((I.ok e he).fx fxq).fx (Fx.of e8)
          exact ⟨ok.cn.alt x3 x2 (fun b o hb _ h => k9 b o hb h), EE.alt x1 x2 (fun b o hb _ h => k9 b o hb h) ok.ee, k9 _ _ (fun z => x2 _ (z ▸ ok.rs)) ok.rs⟩
        · obtain ⟨i, h1, h2, h3, h4⟩ := rows_dat hdat he
          have := (hin k i h1).1
          rw [h2, h3, h4, List.map_take, hnm, ← List.map_take]
          exact this
        · have := congrArg List.length hdat
          rw [List.length_map, List.length_map] at this
          omega
end
end MR
end

section
set_option Elab.async false
set_option linter.all false
set_option maxRecDepth 100000
set_option maxHeartbeats 1000000
/-! Small methods of Program; ==. -/
namespace MR
open PySem PySem.Spec PyProof.Rows L2 LY GW
section
variable {P : Program} {w : World} {K : PySem.W.Frag} {mg : Str → Option Value} {base : Heap} {cP cC cE : Addr} {c : Kd → Addr}
abbrev sPSize : Stmt := inClass (top 25) 2
abbrev sPNames : Stmt := inClass (top 25) 3
abbrev sPKept : Stmt := inClass (top 25) 4
abbrev sPBroken : Stmt := inClass (top 25) 5
abbrev sPContract : Stmt := inClass (top 25) 6
abbrev sPBody : Stmt := inClass (top 25) 7
abbrev sPResults : Stmt := inClass (top 25) 8
abbrev sPHas : Stmt := inClass (top 25) 12
abbrev sPCheck : Stmt := inClass (top 25) 13
theorem scP1 {i : Nat} (h : i ∈ [2, 3, 4, 5]) : FnScope ["self"] ["self"] (defScope (inClass (top 25) i)) := by
  have : i = 2 ∨ i = 3 ∨ i = 4 ∨ i = 5 := by simpa using h
  rcases this with rfl | rfl | rfl | rfl <;> exact ⟨rfl, rfl, rfl, by decide +kernel, rfl, by decide +kernel, by decide +kernel⟩
theorem scP2 {i : Nat} (h : i ∈ [6, 7, 8, 12, 13]) : FnScope ["self", "name"] ["self", "name"] (defScope (inClass (top 25) i)) := by
  have : i = 6 ∨ i = 7 ∨ i = 8 ∨ i = 12 ∨ i = 13 := by simpa using h
  rcases this with rfl | rfl | rfl | rfl | rfl <;> exact ⟨rfl, rfl, rfl, by decide +kernel, rfl, by decide +kernel, by decide +kernel⟩
/-- of a program -/
def spPG (cP cC : Addr) (c : Kd → Addr) (R : Nat → List Ent → Addr → Addr → Addr → Addr → Hp → VK → Prop) : Sp := fun vs H Q _ => ∃ n es a kc kb kr, vs = [.ref a] ∧ PG cP cC c H n es a kc kb kr ∧ R n es a kc kb kr H Q
theorem pSize_ok {f : Addr} {fd : FuncData} (F : Fun K "size" "Program.size" sPSize f fd) (Z : PF K cP) : FnOk P w K mg base CX0 1 f fd ["self"] (spPG cP cC c fun n _ _ _ _ _ H Q => Q (.int n) H) := by
  refine F.ok (scP1 (i := 2) (by decide)) (fun vs H Q E h => ?_) (fun cdv A outer s H vs Q E hr h => ?_)
  · obtain ⟨n, es, a, kc, kb, kr, rfl, _⟩ := h
    rfl
  · obtain ⟨n, es, a, kc, kb, kr, rfl, g, k⟩ := h
    obtain ⟨dx, bv, ha, _⟩ := g.at_
    exact ⟨_, pss_one (ps_ret (pe_fld (pv 0) rfl)), _, rfl, a, _, dx, _, _, rfl, ha, Z.cls, Z.na _ (by decide), rfl, k⟩
theorem pKept_ok {f : Addr} {fd : FuncData} (F : Fun K "kept" "Program.kept" sPKept f fd) (Z : PF K cP) : FnOk P w K mg base CX0 1 f fd ["self"] (spPG cP cC c fun _ es _ _ _ _ H Q => Q (.bl (brk es).isNone) H) := by
  refine F.ok (scP1 (i := 4) (by decide)) (fun vs H Q E h => ?_) (fun cdv A outer s H vs Q E hr h => ?_)
  · obtain ⟨n, es, a, kc, kb, kr, rfl, _⟩ := h
    rfl
  · obtain ⟨n, es, a, kc, kb, kr, rfl, g, k⟩ := h
    obtain ⟨dx, bv, ha, hb⟩ := g.at_
    refine ⟨_, pss_one (ps_ret (pe_cmpR op_isN (pe_fld (pv 0) rfl) pe_non rfl)), _, rfl, a, _, dx, _, _, rfl, ha, Z.cls, Z.na _ (by decide), rfl, rfl, ?_⟩
    cases hbr : brk es with
    | none =>
      rw [hbr] at hb k
      obtain rfl : bv = .non := hb
      exact k
    | some p =>
      rw [hbr] at hb k
      obtain ⟨T, rfl, _⟩ := hb
      exact k
theorem pNames_ok {f : Addr} {fd : FuncData} (F : Fun K "names" "Program.names" sPNames f fd) (bn : BN mg) (Z : PF K cP) : FnOk P w K mg base CX0 1 f fd ["self"] (spPG cP cC c fun _ es _ _ _ _ H Q => ∀ l, H l = none → Q (.ref l) (upd H l (.lst ((es.map (·.nm)).map V.str)))) := by
  refine F.ok (scP1 (i := 3) (by decide)) (fun vs H Q E h => ?_) (fun cdv A outer s H vs Q E hr h => ?_)
  · obtain ⟨n, es, a, kc, kb, kr, rfl, _⟩ := h
    rfl
  · obtain ⟨n, es, a, kc, kb, kr, rfl, g, k⟩ := h
    obtain ⟨dx, bv, ha, hb⟩ := g.at_
    refine ⟨_, pss_one (ps_ret (pe_callTy (call_listD rfl) (by rfl) (bn "list" (by decide)) boot_tList (pa_cons (pe_fld (pv 0) rfl) pa_nil))), _, rfl, a, _, dx, _, _, rfl, ha, Z.cls, Z.na _ (by decide), rfl, kb, _, rfl, .inl g.hkb, fun l hl => ?_⟩
    rw [keys_kv]
    exact k l hl
/-- whether there is such a function -/
def spHas (cP cC : Addr) (c : Kd → Addr) : Sp := fun vs H Q _ => ∃ n es a kc kb kr k e, vs = [.ref a, .str e.nm] ∧ PG cP cC c H n es a kc kb kr ∧ es[(k : Nat)]? = some e ∧ Q (.bl true) H
theorem pHas_ok {f : Addr} {fd : FuncData} (F : Fun K "_has" "Program._has" sPHas f fd) (bn : BN mg) (Z : PF K cP) : FnOk P w K mg base CX0 1 f fd ["self", "name"] (spHas cP cC c) := by
  refine F.ok (scP2 (i := 12) (by decide)) (fun vs H Q E h => ?_) (fun cdv A outer s H vs Q E hr h => ?_)
  · obtain ⟨n, es, a, kc, kb, kr, k, e, rfl, _⟩ := h
    rfl
  · obtain ⟨n, es, a, kc, kb, kr, k, e, rfl, g, he, kk⟩ := h
    obtain ⟨dx, bv, ha, hb⟩ := g.at_
    refine ⟨_, pss_one (ps_ret (pe_and (pe_is bn (pa_cons (pv 1) (pa_cons (pe_bltn (v := .ty "str") (by rfl) (bn "str" (by decide)) boot_tStr rfl) pa_nil))) (pe_one (pe_cmp (pc_din (by have := hu_of hr; exact this) (pv 1) (pe_fld (pv 0) rfl)) rfl)))), ?_⟩
    refine ⟨_, rfl, _, _, true, rfl, .base (.str _), kit_ty (by decide +kernel), _, rfl, iteT ⟨_, rfl, _, rfl, a, _, dx, _, _, rfl, ha, Z.cls, Z.na _ (by decide), rfl, kb, _, rfl, .inl ⟨_, .inr e.nm, .inl g.hkb, rfl, rfl⟩, ?_⟩⟩
    have : valV (kvB es) (.inr e.nm) = some e.bv := valV_map (g := fun e => e.bv) g.nd he
    rw [this]
    exact kk
def spCheck (cP cC : Addr) (c : Kd → Addr) : Sp := fun vs H Q _ => ∃ n es a kc kb kr k e, vs = [.ref a, .str e.nm] ∧ PG cP cC c H n es a kc kb kr ∧ es[(k : Nat)]? = some e ∧ Q .non H
theorem pCheck_ok {f : Addr} {fd : FuncData} (F : Fun K "_check_name" "Program._check_name" sPCheck f fd) (Z : PF K cP) (mH : Met P w K mg base 1 cP "_has" (spHas cP cC c)) : FnOk P w K mg base CX0 2 f fd ["self", "name"] (spCheck cP cC c) := by
  refine F.ok (k := 1) (scP2 (i := 13) (by decide)) (fun vs H Q E h => ?_) (fun cdv A outer s H vs Q E hr h => ?_)
  · obtain ⟨n, es, a, kc, kb, kr, k, e, rfl, _⟩ := h
    rfl
  · obtain ⟨n, es, a, kc, kb, kr, k, e, rfl, g, he, kk⟩ := h
    obtain ⟨dx, bv, ha, hb⟩ := g.at_
    refine ⟨_, pss_one (ps_if (pt_not (pt_val (pe_mt (j := 1) mH hr (by decide) (pv 0) (pa_cons (pv 1) pa_nil)))) (pss_one ps_never) pss_nil), ?_⟩
    exact ⟨_, rfl, a, dx, _, rfl, ha, rfl, _, rfl, n, es, a, kc, kb, kr, k, e, rfl, g, he, _, rfl, iteF kk⟩
/-- what is there under a name -/
def spItem (cP cC : Addr) (c : Kd → Addr) (v : Ent → V) : Sp := fun vs H Q _ => ∃ n es a kc kb kr k e, vs = [.ref a, .str e.nm] ∧ PG cP cC c H n es a kc kb kr ∧ es[(k : Nat)]? = some e ∧ Q (v e) H
theorem pContract_ok {f : Addr} {fd : FuncData} (F : Fun K "contract" "Program.contract" sPContract f fd) (Z : PF K cP) (mC : Met P w K mg base 2 cP "_check_name" (spCheck cP cC c)) : FnOk P w K mg base CX0 3 f fd ["self", "name"] (spItem cP cC c fun e => e.cv) := by
  refine F.ok (k := 2) (scP2 (i := 6) (by decide)) (fun vs H Q E h => ?_) (fun cdv A outer s H vs Q E hr h => ?_)
  · obtain ⟨n, es, a, kc, kb, kr, k, e, rfl, _⟩ := h
    rfl
  · obtain ⟨n, es, a, kc, kb, kr, k, e, rfl, g, he, kk⟩ := h
    obtain ⟨dx, bv, ha, hb⟩ := g.at_
    refine ⟨_, pss_cons (ps_expr (pe_mt (j := 2) mC hr (by decide) (pv 0) (pa_cons (pv 1) pa_nil))) (pss_one (ps_ret (pe_dget (by have := hu_of hr; exact this) (pe_fld (pv 0) rfl) (pv 1) (fun _ _ => rfl)))), ?_⟩
    exact ⟨_, rfl, a, dx, _, rfl, ha, rfl, _, rfl, n, es, a, kc, kb, kr, k, e, rfl, g, he, _, rfl, a, _, dx, _, _, rfl, ha, Z.cls, Z.na _ (by decide), rfl, _, rfl, kc, _, rfl, .inl ⟨_, .inr e.nm, .inl g.hkc, rfl, (valV_map (g := fun e => e.cv) g.nd he).symm⟩, kk⟩
theorem pBody_ok {f : Addr} {fd : FuncData} (F : Fun K "body" "Program.body" sPBody f fd) (Z : PF K cP) (mC : Met P w K mg base 2 cP "_check_name" (spCheck cP cC c)) : FnOk P w K mg base CX0 3 f fd ["self", "name"] (spItem cP cC c fun e => e.bv) := by
  refine F.ok (k := 2) (scP2 (i := 7) (by decide)) (fun vs H Q E h => ?_) (fun cdv A outer s H vs Q E hr h => ?_)
  · obtain ⟨n, es, a, kc, kb, kr, k, e, rfl, _⟩ := h
    rfl
  · obtain ⟨n, es, a, kc, kb, kr, k, e, rfl, g, he, kk⟩ := h
    obtain ⟨dx, bv, ha, hb⟩ := g.at_
    refine ⟨_, pss_cons (ps_expr (pe_mt (j := 2) mC hr (by decide) (pv 0) (pa_cons (pv 1) pa_nil))) (pss_one (ps_ret (pe_dget (by have := hu_of hr; exact this) (pe_fld (pv 0) rfl) (pv 1) (fun _ _ => rfl)))), ?_⟩
    exact ⟨_, rfl, a, dx, _, rfl, ha, rfl, _, rfl, n, es, a, kc, kb, kr, k, e, rfl, g, he, _, rfl, a, _, dx, _, _, rfl, ha, Z.cls, Z.na _ (by decide), rfl, _, rfl, kb, _, rfl, .inl ⟨_, .inr e.nm, .inl g.hkb, rfl, (valV_map (g := fun e => e.bv) g.nd he).symm⟩, kk⟩
theorem pResults_ok {f : Addr} {fd : FuncData} (F : Fun K "results" "Program.results" sPResults f fd) (Z : PF K cP) (mC : Met P w K mg base 2 cP "_check_name" (spCheck cP cC c)) : FnOk P w K mg base CX0 3 f fd ["self", "name"] (spItem cP cC c fun e => .ref e.rp) := by
  refine F.ok (k := 2) (scP2 (i := 8) (by decide)) (fun vs H Q E h => ?_) (fun cdv A outer s H vs Q E hr h => ?_)
  · obtain ⟨n, es, a, kc, kb, kr, k, e, rfl, _⟩ := h
    rfl
  · obtain ⟨n, es, a, kc, kb, kr, k, e, rfl, g, he, kk⟩ := h
    obtain ⟨dx, bv, ha, hb⟩ := g.at_
    refine ⟨_, pss_cons (ps_expr (pe_mt (j := 2) mC hr (by decide) (pv 0) (pa_cons (pv 1) pa_nil))) (pss_one (ps_ret (pe_dget (by have := hu_of hr; exact this) (pe_fld (pv 0) rfl) (pv 1) (fun _ _ => rfl)))), ?_⟩
    exact ⟨_, rfl, a, dx, _, rfl, ha, rfl, _, rfl, n, es, a, kc, kb, kr, k, e, rfl, g, he, _, rfl, a, _, dx, _, _, rfl, ha, Z.cls, Z.na _ (by decide), rfl, _, rfl, kr, _, rfl, .inl ⟨_, .inr e.nm, .inl g.hkr, rfl, (valV_map (g := fun e => V.ref e.rp) g.nd he).symm⟩, kk⟩
end
end MR
end

section
set_option Elab.async false
set_option linter.all false
set_option maxRecDepth 100000
set_option maxHeartbeats 1000000
/-! == of programs. -/
namespace MR
open PySem PySem.Spec PyProof.Rows L2 LY GW
def eqP (n : Nat) (es : List Ent) (n' : Nat) (es' : List Ent) : Bool := decide (n = n') && (decide (es.map (·.nm) = es'.map (·.nm)) && (decide (es.map (·.rows) = es'.map (·.rows)) && T.beqs (es.map (·.body)) (es'.map (·.body))))
theorem map3 {es es' : List Ent} (h1 : es.map (·.nm) = es'.map (·.nm)) (h2 : es.map (·.rows) = es'.map (·.rows)) (h3 : es.map (·.body) = es'.map (·.body)) : es.map Ent.dat = es'.map Ent.dat := by
  induction es generalizing es' with
  | nil =>
    cases es' with
    | nil => rfl
    | cons _ _ => simp at h1
  | cons e r ih =>
    cases es' with
    | nil => simp at h1
    | cons e' r' =>
      simp only [List.map_cons, List.cons.injEq] at h1 h2 h3 ⊢
      exact ⟨by unfold Ent.dat; rw [h1.1, h2.1, h3.1], ih h1.2 h2.2 h3.2⟩
theorem eqP_iff {n n' : Nat} {es es' : List Ent} : eqP n es n' es' = true ↔ n = n' ∧ es.map Ent.dat = es'.map Ent.dat := by
  unfold eqP
  rw [Bool.and_eq_true, Bool.and_eq_true, Bool.and_eq_true, decide_eq_true_eq, decide_eq_true_eq, decide_eq_true_eq]
  constructor
  · rintro ⟨h1, h2, h3, h4⟩
    exact ⟨h1, map3 h2 h3 (T.eqs_of_beqs h4)⟩
  · rintro ⟨h1, h2⟩
    have e1 := congrArg (List.map Prod.fst) h2
    have e2 := congrArg (List.map fun p : Str × List (List Int) × T => p.2.1) h2
    have e3 := congrArg (List.map fun p : Str × List (List Int) × T => p.2.2) h2
    rw [List.map_map, List.map_map] at e1 e2 e3
    refine ⟨h1, e1, e2, ?_⟩
    have e3 : es.map (·.body) = es'.map (·.body) := e3
    rw [e3]
    exact T.beqs_refl _
theorem PG.ext {cP cC : Addr} {c : Kd → Addr} {H H' : Hp} {n : Nat} {es : List Ent} {a kc kb kr : Addr} (g : PG cP cC c H n es a kc kb kr) (e : Ext H H') : PG cP cC c H' n es a kc kb kr := by
  obtain ⟨⟨dx, bv, h1, h2⟩, h3, h4, h5, h6, h7, h8, h9, h10, h11⟩ := g
  exact ⟨⟨dx, bv, e _ _ h1, h2.fx (Fx.of e)⟩, e _ _ h3, e _ _ h4, e _ _ h5, fun x hx => (h6 x hx).fx (Fx.of e), h7, h8, h9, h10, h11⟩
theorem CN.inj {cC : Addr} {H : Hp} {v : V} {rs rs' : List (List Int)} (h : CN cC H rs v) (h' : CN cC H rs' v) : rs = rs' := by
  obtain ⟨a, dx, p, rfl, h1, us, h2, h3, h4⟩ := h
  obtain ⟨a', dx', p', e, k1, us', k2, k3, k4⟩ := h'
  cases e
  rw [h1] at k1
  simp only [Option.some.injEq, HO.ins.injEq, List.cons.injEq, Prod.mk.injEq, V.ref.injEq, true_and, and_true] at k1
  obtain ⟨_, rfl⟩ := k1
  rw [h2] at k2
  cases k2
  refine List.ext_getElem? fun i => ?_
  by_cases hi : i < us.length
  · obtain ⟨r, q, e1, e2, e3⟩ := h4 i us[i] (List.getElem?_eq_getElem hi)
    obtain ⟨r', q', f1, f2, f3⟩ := k4 i us[i] (List.getElem?_eq_getElem hi)
    rw [e2] at f2
    cases f2
    rw [e3] at f3
    simp only [Option.some.injEq, HO.tup.injEq] at f3
    rw [e1, f1, map_inj (fun a b z => by cases z; rfl) f3]
  · rw [List.getElem?_eq_none (by omega), List.getElem?_eq_none (by omega)]
theorem RC.mon {cC : Addr} : MonB (RC cC) := fun _ _ _ _ _ e ⟨rs, rs', h1, h2, h3⟩ => ⟨rs, rs', h1.fx (Fx.of e), h2.fx (Fx.of e), h3⟩
section
variable {X : Cx} {cC qC : Addr} {fdC : FuncData}
/-- == of contracts -/
structure QC (K : PySem.W.Frag) (cC qC : Addr) (fdC : FuncData) : Prop where
  kf : KF K cC
  b : Binds K fdC ["self", "other"] []
  at_ : PySem.W.findIn K (.ref cC) "__eq__" = some (some (.ref qC))
  isf : PySem.W.isFn K (.ref qC) = true
theorem rcB_C (Z : QC X.K cC qC fdC) (F : FnOk X.prog X.w X.K X.mg X.base CX0 3 qC fdC ["self", "other"] (spEqB (RC cC))) : RcB X 3 .Eq (RC cC) := by
  intro A pins s σ H x y u v b sb I rx ry d
  have d' : DInsB X.K cC (RC cC) x y b H := by
    obtain ⟨rs, rs', ⟨a, dx, p, hx, h1, h2⟩, ⟨a', dx', p', hy, k1, k2⟩, e⟩ := d
    exact ⟨a, a', cC, dx, dx', _, _, hx, hy, h1, k1, Z.kf.cls, Z.kf.nf, rs, rs', ⟨a, dx, p, hx, h1, h2⟩, ⟨a', dx', p', hy, k1, k2⟩, e⟩
  exact rcB_ins (E := E0) F Z.at_ Z.isf Z.b pass0 A pins s σ H x y u v b sb I rx ry d'
theorem eqB_C (Z : QC X.K cC qC fdC) (F : FnOk X.prog X.w X.K X.mg X.base CX0 3 qC fdC ["self", "other"] (spEqB (RC cC))) : EqB X 3 (RC cC) :=
  (rcB_C Z F).eqB fun _ _ _ _ ⟨rs, rs', h1, h2, h3⟩ => by
    obtain ⟨a, dx, p, hx, q1, q2⟩ := id h1
    obtain ⟨a', dx', p', hy, k1, k2⟩ := id h2
    refine ⟨a, a', hx, hy, fun e => ?_⟩
    subst hx hy e
    rw [← h3, h1.inj h2]
    exact decide_eq_true rfl
end
theorem prsD_kv {D : Eqb} {H : Hp} {g g' : Ent → V} {β : Ent → Ent → Bool} : ∀ {es es' all : List Ent}, es.map (·.nm) = es'.map (·.nm) → (∀ (k : Nat) (e e' : Ent), es[k]? = some e → es'[k]? = some e' → e.nm = e'.nm → D (g e) (g' e') (β e e') H) →
    (∀ e' ∈ es', valV (all.map fun e => ((.inr e.nm : Key), g' e)) (.inr e'.nm) = some (g' e')) → ∃ b, PrsD D H (all.map fun e => ((.inr e.nm : Key), g' e)) (es.map fun e => ((.inr e.nm : Key), g e)) b ∧ b = ((es.zip es').all fun p => β p.1 p.2)
  | [], [], _, _, _, _ => ⟨true, .nil, rfl⟩
  | e :: r, e' :: r', all, hn, hD, hv => by
    simp only [List.map_cons, List.cons.injEq] at hn
    obtain ⟨b, h1, h2⟩ := prsD_kv (all := all) hn.2 (fun k x x' h1 h2 => hD (k + 1) x x' (by simpa using h1) (by simpa using h2)) (fun x hx => hv x (List.mem_cons_of_mem _ hx))
    refine ⟨β e e' && b, .hit (y := g' e') ?_ (hD 0 e e' rfl rfl hn.1) h1, by rw [h2]; rfl⟩
    rw [hn.1]
    exact hv e' List.mem_cons_self
  | [], _ :: _, _, hn, _, _ => by simp at hn
  | _ :: _, [], _, hn, _, _ => by simp at hn
theorem zip_rows : ∀ {es es' : List Ent}, es.length = es'.length → ((es.zip es').all fun p => decide (p.1.rows = p.2.rows)) = decide (es.map (·.rows) = es'.map (·.rows))
  | [], [], _ => rfl
  | e :: r, e' :: r', h => by
    rw [List.zip_cons_cons, List.all_cons, zip_rows (by simpa using h)]
    rw [Bool.eq_iff_iff, Bool.and_eq_true, decide_eq_true_eq, decide_eq_true_eq, decide_eq_true_eq, List.map_cons, List.map_cons, List.cons.injEq]
  | [], _ :: _, h => by simp at h
  | _ :: _, [], h => by simp at h
theorem zip_bodies : ∀ {es es' : List Ent}, es.length = es'.length → ((es.zip es').all fun p => T.beq p.1.body p.2.body) = T.beqs (es.map (·.body)) (es'.map (·.body))
  | [], [], _ => by rw [List.map_nil, T.beqs]; rfl
  | e :: r, e' :: r', h => by
    rw [List.zip_cons_cons, List.all_cons, zip_bodies (by simpa using h), List.map_cons, List.map_cons, T.beqs]
  | [], _ :: _, h => by simp at h
  | _ :: _, [], h => by simp at h
theorem fx_lock2 {H : Hp} {p q : Addr} {u v : HO} {oa ob : Obj} (hp : H p = some u) (mu : ¬ Fixed u) (hq : H q = some v) (mv : ¬ Fixed v) (hpq : p ≠ q) : Fx H (upd (upd H p (.frz oa u)) q (.frz ob v)) :=
  (fx_lock hp mu).trans (Fx.upd fun u' e => by rw [upd_ne (Ne.symm hpq), hq] at e; cases e; exact mv)
theorem ok_str {x : Str} (h : okName x = true) : PyData.strOk x = true := by
  unfold okName at h
  simp only [Bool.and_eq_true] at h
  have := h.1.1.2
  unfold Txt.isascii at this
  unfold PyData.strOk
  rw [Array.all_eq_true] at this ⊢
  intro i hi
  have := this i hi
  simp at this ⊢
  omega
theorem nb_strs : ∀ {r : List Str}, (∀ x ∈ r, PyData.strOk x = true) → nbAll (r.map PyData.str) = true
  | [], _ => by rw [List.map_nil, nbAll]
  | x :: r, h => by rw [List.map_cons, nbAll, nb, h x List.mem_cons_self, nb_strs fun y hy => h y (List.mem_cons_of_mem _ hy)]; rfl
theorem depth_strs : ∀ {r : List Str}, PyData.depthAll (r.map PyData.str) = 0
  | [] => by rw [List.map_nil, PyData.depthAll]
  | i :: r => by rw [List.map_cons, PyData.depthAll, PyData.depth, depth_strs]; rfl
theorem eqv_strs {r s : List Str} (hr : ∀ x ∈ r, PyData.strOk x = true) (hs : ∀ x ∈ s, PyData.strOk x = true) : PyData.eqv (.list (r.map .str)) (.list (s.map .str)) = decide (r = s) := by
  rw [Bool.eq_iff_iff, eqv_iff (by rw [nb]; exact nb_strs hr) (by rw [nb]; exact nb_strs hs), decide_eq_true_eq]
  constructor
  · intro h
    simp only [PyData.list.injEq] at h
    exact map_inj (fun a b z => by cases z; rfl) h
  · intro e
    rw [e]
theorem shaped_strs {r : List Str} (hr : ∀ x ∈ r, PyData.strOk x = true) : SeqAt.shaped (.list (r.map .str)) = true := shaped_nb (by rw [nb]; exact nb_strs hr) (by rw [PyData.depth, depth_strs]; omega)
def RP (cP cC : Addr) (c : Kd → Addr) : Eqb := fun x y b H => ∃ n es a kc kb kr n' es' a' kc' kb' kr', x = .ref a ∧ y = .ref a' ∧ PG cP cC c H n es a kc kb kr ∧ PG cP cC c H n' es' a' kc' kb' kr' ∧ kc ≠ kc' ∧ kb ≠ kb' ∧ b = eqP n es n' es'
theorem PG.names {cP cC : Addr} {c : Kd → Addr} {H : Hp} {n : Nat} {es : List Ent} {a kc kb kr : Addr} (g : PG cP cC c H n es a kc kb kr) : ∀ x ∈ es.map (·.nm), PyData.strOk x = true := by
  intro x hx
  obtain ⟨e, he, rfl⟩ := List.mem_map.mp hx
  obtain ⟨k, hk, ek⟩ := List.getElem_of_mem he
  exact ok_str (g.inp k e (by rw [← ek]; exact List.getElem?_eq_getElem hk)).nm
theorem PG.dep {cP cC : Addr} {c : Kd → Addr} {H : Hp} {n : Nat} {es : List Ent} {a kc kb kr : Addr} (g : PG cP cC c H n es a kc kb kr) {e : Ent} (he : e ∈ es) : e.body.depth ≤ 4 := by
  obtain ⟨k, hk, ek⟩ := List.getElem_of_mem he
  exact (g.inp k e (by rw [← ek]; exact List.getElem?_eq_getElem hk)).dep
section
variable {P : Program} {w : World} {K : PySem.W.Frag} {mg : Str → Option Value} {base : Heap} {cP cC cE : Addr} {c q : Kd → Addr} {fdQ : Kd → FuncData} {qC : Addr} {fdC : FuncData}
abbrev sPEq : Stmt := inClass (top 25) 1
theorem scPEq : FnScope ["self", "other"] ["self", "other"] (defScope sPEq) := ⟨rfl, rfl, rfl, by decide +kernel, rfl, by decide +kernel, by decide +kernel⟩
theorem pEq_ok {f pS gS pN gN : Addr} {fd fdS fdN : FuncData} (F : Fun K "__eq__" "Program.__eq__" sPEq f fd) (bn : BN mg) (Z : PF K cP) (mgP : mg "Program" = some (.ref cP)) (ZQ : QF K mg c cE q fdQ) (ZC : QC K cC qC fdC) (FC : FnOk P w K mg base CX0 3 qC fdC ["self", "other"] (spEqB (RC cC)))
    (hS : PropOf K cP "size" pS gS) (FS : FnOk P w K mg base CX0 1 gS fdS ["self"] (spPG cP cC c fun n _ _ _ _ _ H Q => Q (.int n) H)) (bS : Binds K fdS ["self"] [])
    (hN : PropOf K cP "names" pN gN) (FN : FnOk P w K mg base CX0 1 gN fdN ["self"] (spPG cP cC c fun _ es _ _ _ _ H Q => ∀ l, H l = none → Q (.ref l) (upd H l (.lst ((es.map (·.nm)).map V.str))))) (bN : Binds K fdN ["self"] []) : FnOk P w K mg base CX0 12 f fd ["self", "other"] (spEqB (RP cP cC c)) := by
  refine F.ok (k := 11) scPEq (fun vs H Q E h => ?_) (fun cdv A outer s H vs Q E hr h => ?_)
  · obtain ⟨x, y, b, rfl, _⟩ := h
    rfl
  · obtain ⟨x, y, b, rfl, ⟨n, es, a, kc, kb, kr, n', es', a', kc', kb', kr', rfl, rfl, g, g', hcc, hbb, rfl⟩, kk⟩ := h
    refine ⟨_, pss_one (ps_ret (pe_and (pe_is bn (pa_cons (pv 1) (pa_cons (pe_glob (v := .ref cP) (by rfl) mgP rfl) pa_nil)))
      (pe_and (pe_cmpR op_eq (pe_propD (p := pS) (pv 0) FS (hr.mono (show 2 ≤ 11 by decide)) bS) (pe_propD (p := pS) (pv 1) FS (hr.mono (show 2 ≤ 11 by decide)) bS) rfl)
      (pe_and (pe_cmpR (op_eqD (by have := hr.units; exact this)) (pe_propD (p := pN) (pv 0) FN (hr.mono (show 2 ≤ 11 by decide)) bN) (pe_propD (p := pN) (pv 1) FN (hr.mono (show 2 ≤ 11 by decide)) bN) rfl)
      (pe_and (pe_cmpR (op_eqB (rcB_dict RC.mon (eqB_C (X := (cxOf CX0 P w K mg base ["self", "other"] "Program.__eq__" (defScope sPEq) f cdv A outer s H E).nox) ZC FC)) (hr.mono (show 4 ≤ 11 by decide))) (pe_fld (pv 0) rfl) (pe_fld (pv 1) rfl) rfl)
        (pe_one (pe_cmpR (op_eqB (rcB_dict REe.mon (eqB_E (X := (cxOf CX0 P w K mg base ["self", "other"] "Program.__eq__" (defScope sPEq) f cdv A outer s H E).nox) (n := 9) (m := 4) ZQ (eq_ok ZQ bn 4))) (hr.mono (show 10 ≤ 11 by decide))) (pe_fld (pv 0) rfl) (pe_fld (pv 1) rfl) rfl))))))), ?_⟩
    obtain ⟨dx, bv, ha, _⟩ := g.at_
    obtain ⟨dx', bv', ha', _⟩ := g'.at_
    refine ⟨_, rfl, _, _, true, rfl, .base (.ins ha' Z.cls Z.ca Z.cn Z.ctk Z.cm), Z.kk, _, rfl, iteT ?_⟩
    refine ⟨_, rfl, a, _, dx, _, rfl, ha, Z.cls, hS, n, es, a, kc, kb, kr, rfl, g, _, rfl, a', _, dx', _, rfl, ha', Z.cls, hS, n', es', a', kc', kb', kr', rfl, g', rfl, _, rfl, ?_⟩
    by_cases hnn : n = n'
    case neg =>
      refine iteFb (b := decide (V.int (n : Int) = V.int (n' : Int))) (decide_eq_false (fun z => hnn (by simp only [V.int.injEq] at z; omega))) ?_
      have := kk H Ext.rfl'
      unfold eqP at this
      rw [decide_eq_false hnn, Bool.false_and] at this
      exact this
    refine iteTb (b := decide (V.int (n : Int) = V.int (n' : Int))) (decide_eq_true (by rw [hnn])) ?_
    refine ⟨_, rfl, a, _, dx, _, rfl, ha, Z.cls, hN, n, es, a, kc, kb, kr, rfl, g, fun l hl => ?_⟩
    have e1 : Ext H (upd H l (.lst ((es.map (·.nm)).map V.str))) := Ext.upd hl
    have hl1 : (upd H l (.lst ((es.map (·.nm)).map V.str))) l = some (.lst ((es.map (·.nm)).map V.str)) := upd_same
    generalize (upd H l (.lst ((es.map (·.nm)).map V.str))) = H1 at e1 hl1 ⊢
    refine ⟨_, rfl, a', _, dx', _, rfl, e1 _ _ ha', Z.cls, hN, n', es', a', kc', kb', kr', rfl, g'.ext e1, fun l' hl' => ?_⟩
    have e2 : Ext H1 (upd H1 l' (.lst ((es'.map (·.nm)).map V.str))) := Ext.upd hl'
    have hl2 : (upd H1 l' (.lst ((es'.map (·.nm)).map V.str))) l' = some (.lst ((es'.map (·.nm)).map V.str)) := upd_same
    generalize (upd H1 l' (.lst ((es'.map (·.nm)).map V.str))) = H2 at e2 hl2 ⊢
    have e02 := e1.trans e2
    refine ⟨.list ((es.map (·.nm)).map .str), .list ((es'.map (·.nm)).map .str), .lst (.inl (.inl (e2 _ _ hl1))) Dp.strs, .lst (.inl (.inl hl2)) Dp.strs, shaped_strs g.names, shaped_strs g'.names, _, rfl, ?_⟩
    by_cases hnm : es.map (·.nm) = es'.map (·.nm)
    case neg =>
      refine iteFb (by rw [eqv_strs g.names g'.names]; exact decide_eq_false hnm) ?_
      have := kk H2 e02
      unfold eqP at this
      rw [decide_eq_false hnm, Bool.false_and, Bool.and_false] at this
      exact this
    refine iteTb (by rw [eqv_strs g.names g'.names]; exact decide_eq_true hnm) ?_
    have g2 := g.ext e02
    have g2' := g'.ext e02
    have hlen : es.length = es'.length := by have := congrArg List.length hnm; rwa [List.length_map, List.length_map] at this
    refine ⟨_, rfl, a, _, dx, _, _, rfl, e02 _ _ ha, Z.cls, Z.na _ (by decide), rfl, _, rfl, a', _, dx', _, _, rfl, e02 _ _ ha', Z.cls, Z.na _ (by decide), rfl, decide (es.map (·.rows) = es'.map (·.rows)), ⟨kc, kc', kvC es, kvC es', rfl, rfl, hcc, g2.hkc, g2'.hkc, fun h => absurd (by unfold kvC; rw [List.length_map, List.length_map]; exact hlen) h, fun _ oa ob => ?_⟩, fun H3 e3 => ⟨_, rfl, ite2 (fun hc => ?_) fun hc => ?_⟩⟩
    · have fx := fx_lock2 (oa := oa) (ob := ob) g2.hkc (fun q => q) g2'.hkc (fun q => q) hcc
      obtain ⟨b, h1, h2⟩ := prsD_kv (D := RC cC) (g := fun e => e.cv) (g' := fun e => e.cv) (β := fun e e' => decide (e.rows = e'.rows)) (all := es') hnm (fun k e e' h1 h2 _ => ⟨e.rows, e'.rows, ((g2.hes e (List.mem_of_getElem? h1)).cn).fx fx, ((g2'.hes e' (List.mem_of_getElem? h2)).cn).fx fx, rfl⟩)
        (fun e' he' => by
          obtain ⟨k, hk, ek⟩ := List.getElem_of_mem he'
          exact valV_map (g := fun e => e.cv) g'.nd (k := k) (by rw [← ek]; exact List.getElem?_eq_getElem hk))
      rw [zip_rows hlen] at h2
      subst h2
      exact h1
    · have hc := of_decide_eq_true hc
      have g3 := g2.ext e3
      have g3' := g2'.ext e3
      have e03 := e02.trans e3
      refine ⟨_, rfl, a, _, dx, _, _, rfl, e03 _ _ ha, Z.cls, Z.na _ (by decide), rfl, _, rfl, a', _, dx', _, _, rfl, e03 _ _ ha', Z.cls, Z.na _ (by decide), rfl, T.beqs (es.map (·.body)) (es'.map (·.body)), ⟨kb, kb', kvB es, kvB es', rfl, rfl, hbb, g3.hkb, g3'.hkb, fun h => absurd (by unfold kvB; rw [List.length_map, List.length_map]; exact hlen) h, fun _ oa ob => ?_⟩, fun H4 e4 => ?_⟩
      · have fx := fx_lock2 (oa := oa) (ob := ob) g3.hkb (fun q => q) g3'.hkb (fun q => q) hbb
        obtain ⟨b, h1, h2⟩ := prsD_kv (D := REe c 4) (g := fun e => e.bv) (g' := fun e => e.bv) (β := fun e e' => T.beq e.body e'.body) (all := es') hnm (fun k e e' h1 h2 _ => ⟨e.body, e'.body, EE.fx fx (g3.hes e (List.mem_of_getElem? h1)).ee, EE.fx fx (g3'.hes e' (List.mem_of_getElem? h2)).ee, g3.dep (List.mem_of_getElem? h1), rfl⟩)
          (fun e' he' => by
            obtain ⟨k, hk, ek⟩ := List.getElem_of_mem he'
            exact valV_map (g := fun e => e.bv) g'.nd (k := k) (by rw [← ek]; exact List.getElem?_eq_getElem hk))
        rw [zip_bodies hlen] at h2
        subst h2
        exact h1
      · have := kk H4 (e03.trans e4)
        unfold eqP at this
        rw [decide_eq_true hnn, decide_eq_true hnm, decide_eq_true hc, Bool.true_and, Bool.true_and, Bool.true_and] at this
        exact this
    · have := kk H3 (e02.trans e3)
      unfold eqP at this
      rw [decide_eq_false (fun z => hc (decide_eq_true z)), Bool.false_and, Bool.and_false, Bool.and_false] at this
      exact this
end
end MR
end

section
set_option Elab.async false
set_option linter.all false
set_option maxRecDepth 100000
set_option maxHeartbeats 1000000
/-! _is_new_body, changed. -/
namespace MR
open PySem PySem.Spec PyProof.Rows L2 LY GW
section
variable {P : Program} {w : World} {K : PySem.W.Frag} {mg : Str → Option Value} {base : Heap} {cP cC cE : Addr} {c q : Kd → Addr} {fdQ : Kd → FuncData} {qC : Addr} {fdC : FuncData}
abbrev sPNew : Stmt := inClass (top 25) 11
theorem scPNew : FnScope ["self", "name", "body", "names", "earlier"] ["self", "name", "body"] (defScope sPNew) := ⟨rfl, rfl, rfl, by decide +kernel, rfl, by decide +kernel, by decide +kernel⟩
/-- a new body for the k-th function -/
structure NewOk (c : Kd → Addr) (H : Hp) (n : Nat) (es : List Ent) (k : Nat) (e : Ent) (t : T) (v : V) : Prop where
  at_ : es[k]? = some e
  ee : EE c H t v
  ok : T.Ok n t
  names : ∀ x ∈ t.names, x ∈ (es.take k).map (·.nm)
  dep : t.depth ≤ 4
  size : t.size ≤ 60
  ne : T.beq t e.body = false
def spNew (cP cC : Addr) (c : Kd → Addr) : Sp := fun vs H Q _ => ∃ n es a kc kb kr k e t v, vs = [.ref a, .str e.nm, v] ∧ PG cP cC c H n es a kc kb kr ∧ NewOk c H n es k e t v ∧ ∀ H', Ext H H' → Q (.bl true) H'
theorem pNew_ok {f pN gN : Addr} {fd fdN : FuncData} (F : Fun K "_is_new_body" "Program._is_new_body" sPNew f fd) (bn : BN mg) (Z : PF K cP) (ZQ : QF K mg c cE q fdQ) (mH : Met P w K mg base 1 cP "_has" (spHas cP cC c))
    (hN : PropOf K cP "names" pN gN) (FN : FnOk P w K mg base CX0 1 gN fdN ["self"] (spPG cP cC c fun _ es _ _ _ _ H Q => ∀ l, H l = none → Q (.ref l) (upd H l (.lst ((es.map (·.nm)).map V.str))))) (bN : Binds K fdN ["self"] [])
    (cP' : CalZ P w K mg base 15 "is_possible" (spPoss K c)) : FnZ P w K mg base 16 f fd ["self", "name", "body"] (spNew cP cC c) := by
  refine Fun.okZ F (k := 15) scPNew (fun vs H Q E h => ?_) (fun cdv A outer s H vs Q E hr h => ?_)
  · obtain ⟨n, es, a, kc, kb, kr, k, e, t, v, rfl, _⟩ := h
    rfl
  · obtain ⟨n, es, a, kc, kb, kr, k, e, t, v, rfl, g, nw, kk⟩ := h
    refine ⟨_, pssz_cons (psz_of (ps_if (pt_not (pt_val (pe_mt (j := 1) mH (hr.mono (by decide)) (by decide) (pv 0) (pa_cons (pv 1) pa_nil)))) (pss_one (ps_ret pe_bl)) pss_nil))
      (pssz_cons (psz_of (ps_asg (pe_propD (p := pN) (pv 0) FN (hr.mono (show 2 ≤ 15 by decide)) bN) (pg_name (i := 3) scPNew.nd rfl (.inl rfl))))
      (pssz_cons (psz_of (ps_asg (pe_slice sl_list (pv 3) po_none (po_some (pe_bm PySem.F.plainAttrs_list PySem.F.slot_list_index PySem.F.type_list_index mt_index (pv 3) (pa_cons (pv 1) pa_nil)))) (pg_name (i := 4) scPNew.nd rfl (.inl rfl))))
        (pssz_one (psz_ret (pez_and2 (pez_c (j := 15) cP' hr (by decide) (pa_cons (pv 2) (pa_cons (pe_fld (pv 0) rfl) (pa_cons (pv 4) pa_nil))))
          (pez_of (pe_cmpR (op_neB (rcB_Ene (X := (cxOf CX0 P w K mg base ["self", "name", "body", "names", "earlier"] "Program._is_new_body" (defScope sPNew) f cdv A outer s H E).nox) (n := 9) (m := 4) ZQ (eq_ok ZQ bn 4)) (hr.mono (show 10 ≤ 15 by decide))) (pv 2) (pe_dget (by have := hu_of hr; exact this) (pe_fld (pv 0) rfl) (pv 1) (fun _ _ => rfl)) rfl))))))), ?_⟩
    obtain ⟨dx, bv, ha, hbv⟩ := g.at_
    refine ⟨_, rfl, a, dx, _, rfl, ha, rfl, _, rfl, n, es, a, kc, kb, kr, k, e, rfl, g, nw.at_, _, rfl, iteF ?_⟩
    refine ⟨_, rfl, a, _, dx, _, rfl, ha, Z.cls, hN, n, es, a, kc, kb, kr, rfl, g, fun l hl => ?_⟩
    have e1 : Ext H (upd H l (.lst ((es.map (·.nm)).map V.str))) := Ext.upd hl
    have hl1 : (upd H l (.lst ((es.map (·.nm)).map V.str))) l = some (.lst ((es.map (·.nm)).map V.str)) := upd_same
    generalize (upd H l (.lst ((es.map (·.nm)).map V.str))) = H1 at e1 hl1 ⊢
    have hkl : k < es.length := (List.getElem?_eq_some_iff.mp nw.at_).1
    have hnk : ((es.map (·.nm)).map V.str)[k]? = some (.str e.nm) := by rw [List.getElem?_map, List.getElem?_map, nw.at_]; rfl
    refine ⟨_, rfl, _, rfl, .inl ⟨rfl, _, .inl (.inl hl1)⟩, _, rfl, l, _, .str e.nm, k, .str e.nm, rfl, rfl, .inl (.inl hl1), rfl, flat_strs, hnk, by simp [eqV], fun m z hm hz => ?_, _, rfl, l, _, rfl, .inl (.inl hl1), fun p hp => ?_⟩
    · rw [List.getElem?_map, List.getElem?_map] at hz
      cases hem : es[m]? with
      | none => rw [hem] at hz; cases hz
      | some x =>
        rw [hem] at hz
        obtain rfl : V.str x.nm = z := Option.some.inj hz
        show (x.nm == e.nm) = false
        rw [beq_eq_false_iff_ne]
        intro hxe
        have h1 := (List.getElem?_eq_some_iff.mp (show (es.map (·.nm))[m]? = some x.nm by rw [List.getElem?_map, hem]; rfl))
        have h2 := (List.getElem?_eq_some_iff.mp (show (es.map (·.nm))[k]? = some e.nm by rw [List.getElem?_map, nw.at_]; rfl))
        obtain ⟨g1, g2⟩ := h1
        obtain ⟨g3, g4⟩ := h2
        exact (List.pairwise_iff_getElem.mp g.nd) m k g1 g3 hm (by rw [g2, g4, hxe])
    · have hcut : cutV ((es.map (·.nm)).map V.str) none (some (k : Int)) = ((es.take k).map (·.nm)).map V.str := by
        unfold cutV
        rw [HT.sIx_none, HT.sIx_nat, List.length_map, List.length_map, List.drop_zero, Nat.sub_zero, Nat.min_eq_left (by omega), ← List.map_take, ← List.map_take]
      rw [hcut]
      have e2 : Ext H1 (upd H1 p (.lst (((es.take k).map (·.nm)).map V.str))) := Ext.upd hp
      have hp2 : (upd H1 p (.lst (((es.take k).map (·.nm)).map V.str))) p = some (.lst (((es.take k).map (·.nm)).map V.str)) := upd_same
      generalize (upd H1 p (.lst (((es.take k).map (·.nm)).map V.str))) = H2 at e2 hp2 ⊢
      have e02 := e1.trans e2
      refine ⟨_, rfl, _, rfl, a, _, dx, _, _, rfl, e02 _ _ ha, Z.cls, Z.na _ (by decide), rfl, _, rfl, v, n, p, t, (es.take k).map (·.nm), rfl, EE.fx (Fx.of e02) nw.ee, nw.dep, nw.ok.poss, .inl (.inl hp2), nw.names, nw.size, fun H3 e3 => ⟨_, rfl, iteT ?_⟩⟩
      have e03 := e02.trans e3
      have g3 := g.ext e03
      refine ⟨_, rfl, _, rfl, a, _, dx, _, _, rfl, e03 _ _ ha, Z.cls, Z.na _ (by decide), rfl, _, rfl, kb, e.bv, rfl, .inl ⟨_, .inr e.nm, .inl g3.hkb, rfl, (valV_map (g := fun e => e.bv) g.nd nw.at_).symm⟩, true, ⟨t, e.body, EE.fx (Fx.of e03) nw.ee, (g3.hes e (List.mem_of_getElem? nw.at_)).ee, nw.dep, nw.ne⟩, fun H4 e4 => kk _ (e03.trans e4)⟩
end
end MR
end

section
set_option Elab.async false
set_option linter.all false
set_option maxRecDepth 100000
set_option maxHeartbeats 1000000
/-! changed. -/
namespace MR
open PySem PySem.Spec PyProof.Rows L2 LY GW
structure Chg where
  nm : Str
  body : T
  bv : V
def kvG (cs : List Chg) : List (Key × V) := cs.map fun x => (.inr x.nm, x.bv)
def chB (cs : List Chg) (e : Ent) : T × V := match cs.find? (fun x => decide (x.nm = e.nm)) with
  | some x => (x.body, x.bv)
  | none => (e.body, e.bv)
def chD (cs : List Chg) (e : Ent) : Str × List (List Int) × T := (e.nm, e.rows, (chB cs e).1)
theorem valV_kvG : ∀ {cs : List Chg} {nm : Str}, valV (kvG cs) (.inr nm) = (cs.find? (fun x => decide (x.nm = nm))).map (·.bv)
  | [], nm => rfl
  | x :: r, nm => by
    unfold kvG valV
    rw [List.map_cons, List.find?_cons, List.find?_cons]
    have h : decide ((Sum.inr x.nm : Key) = Sum.inr nm) = decide (x.nm = nm) := by
      rw [Bool.eq_iff_iff, decide_eq_true_eq, decide_eq_true_eq]
      exact ⟨fun z => Sum.inr.inj z, fun z => by rw [z]⟩
    simp only [h]
    cases decide (x.nm = nm) with
    | true => rfl
    | false => exact valV_kvG
theorem PG.keep {cP cC : Addr} {c : Kd → Addr} {H H' : Hp} {n : Nat} {es : List Ent} {a kc kb kr : Addr} (g : PG cP cC c H n es a kc kb kr) (e : Fx H H') (h1 : H' kc = H kc) (h2 : H' kb = H kb) (h3 : H' kr = H kr) : PG cP cC c H' n es a kc kb kr := by
  obtain ⟨⟨dx, bv, q1, q2⟩, q3, q4, q5, q6, q7, q8, q9, q10, q11⟩ := g
  exact ⟨⟨dx, bv, e _ _ trivial q1, q2.fx e⟩, by rw [h1]; exact q3, by rw [h2]; exact q4, by rw [h3]; exact q5, fun x hx => (q6 x hx).fx e, q7, q8, q9, q10, q11⟩
theorem NewOk.fx {c : Kd → Addr} {H H' : Hp} {n : Nat} {es : List Ent} {k : Nat} {e : Ent} {t : T} {v : V} (h : NewOk c H n es k e t v) (f : Fx H H') : NewOk c H' n es k e t v := ⟨h.at_, EE.fx f h.ee, h.ok, h.names, h.dep, h.size, h.ne⟩
theorem putK_inp {es : List Inp} {nm : Str} {v : V} (h : nm ∉ es.map (·.nm)) : putK (es.map fun e => ((.inr e.nm : Key), V.ref e.pp)) (.inr nm) v = (es.map fun e => ((.inr e.nm : Key), V.ref e.pp)) ++ [(.inr nm, v)] := by
  unfold putK
  rw [if_neg]
  rw [List.any_map, List.any_eq_true]
  rintro ⟨e, he, hd⟩
  have hd : decide ((Sum.inr e.nm : Key) = Sum.inr nm) = true := hd
  exact h (by rw [← Sum.inr.inj (of_decide_eq_true hd)]; exact List.mem_map_of_mem he)
theorem same_at {es : List Ent} (nd : (es.map (·.nm)).Nodup) {j k : Nat} {e e' : Ent} (h : es[j]? = some e) (h' : es[k]? = some e') (hn : e.nm = e'.nm) : j = k := by
  obtain ⟨g1, g2⟩ := List.getElem?_eq_some_iff.mp (show (es.map (·.nm))[j]? = some e.nm by rw [List.getElem?_map, h]; rfl)
  obtain ⟨g3, g4⟩ := List.getElem?_eq_some_iff.mp (show (es.map (·.nm))[k]? = some e'.nm by rw [List.getElem?_map, h']; rfl)
  rcases Nat.lt_trichotomy j k with q | q | q
  · exact absurd (by rw [g2, g4, hn]) ((List.pairwise_iff_getElem.mp nd) j k g1 g3 q)
  · exact q
  · exact absurd (by rw [g2, g4, hn]) ((List.pairwise_iff_getElem.mp nd) k j g3 g1 q)
theorem not_beforeE {es : List Ent} (nd : (es.map (·.nm)).Nodup) {k : Nat} {e : Ent} (he : es[k]? = some e) : e.nm ∉ (es.take k).map (·.nm) := by
  intro h
  obtain ⟨x, hx, ex⟩ := List.mem_map.mp h
  obtain ⟨j, hj, ej⟩ := List.getElem_of_mem hx
  rw [List.length_take] at hj
  have : es[j]? = some x := by
    rw [← ej, List.getElem_take, List.getElem?_eq_getElem]
  have := same_at nd this he ex
  omega
section
variable {P : Program} {w : World} {K : PySem.W.Frag} {mg : Str → Option Value} {base : Heap} {cP cC cE : Addr} {c : Kd → Addr}
abbrev sPChg : Stmt := inClass (top 25) 10
theorem scPChg : FnScope ["self", "change", "name", "body", "functions"] ["self", "change"] (defScope sPChg) := ⟨rfl, rfl, rfl, by decide +kernel, rfl, by decide +kernel, by decide +kernel⟩
def spChg (cP cC : Addr) (c : Kd → Addr) : Sp := fun vs H Q _ => ∃ n es a kc kb kr ch cs, vs = [.ref a, .ref ch] ∧ PG cP cC c H n es a kc kb kr ∧ H ch = some (.dK (kvG cs)) ∧ ch ≠ kc ∧ ch ≠ kb ∧ ch ≠ kr ∧ 1 ≤ cs.length ∧ cs.length ≤ 6 ∧ 1 ≤ es.length ∧
  (∀ x ∈ cs, ∃ k e, e.nm = x.nm ∧ NewOk c H n es k e x.body x.bv) ∧
  ∀ H' es' a' kc' kb' kr', Ext H H' → H kc' = none → H kb' = none → H kr' = none → es'.map Ent.dat = es.map (chD cs) → PG cP cC c H' n es' a' kc' kb' kr' → Q (.ref a') H'
/-- while the new functions are put together -/
structure ChI (H0 : Hp) (cs : List Chg) (es : List Ent) (Fd : Addr) (k : Nat) (ins : List Inp) (H' : Hp) : Prop where
  dat : ins.map Inp.dat = (es.take k).map (chD cs)
  vals : ins.map (fun i => (i.cv, i.bv)) = (es.take k).map fun e => (e.cv, (chB cs e).2)
  hF : H' Fd = some (.dK (ins.map fun e => (.inr e.nm, .ref e.pp)))
  pps : ∀ i ∈ ins, H' i.pp = some (.tup [i.cv, i.bv])
  keep : ∀ b o, b ≠ Fd → H0 b = some o → H' b = some o
theorem pChg_ok {f gN gI : Addr} {fd fdN fdI : FuncData} (F : Fun K "changed" "Program.changed" sPChg f fd) (bn : BN mg) (Z : PF K cP) (FN : FnZ P w K mg base 16 gN fdN ["self", "name", "body"] (spNew cP cC c)) (bN : Binds K fdN ["self", "name", "body"] []) (mN : Meth K cP "_is_new_body" gN)
    (M : Mk K cP gI) (FI : FnZ P w K mg base 17 gI fdI ["self", "size", "functions"] (spPInit cP cC c)) (bI : Binds K fdI ["self", "size", "functions"] []) (mgP : mg "Program" = some (.ref cP)) : FnZ P w K mg base 20 f fd ["self", "change"] (spChg cP cC c) := by
  refine Fun.okZ F (k := 19) scPChg (fun vs H Q E h => ?_) (fun cdv A outer s H vs Q E hr h => ?_)
  · obtain ⟨n, es, a, kc, kb, kr, ch, cs, rfl, _⟩ := h
    rfl
  · obtain ⟨n, es, a, kc, kb, kr, ch, cs, rfl, g, hch, hc1, hc2, hc3, hl1, hl6, hel, hcs, kk⟩ := h
    refine ⟨_, pssz_cons (psz_of (ps_if (PW.pt (pw_or (pt_not (pt_val (pe_is bn (pa_cons (pv 1) (pa_cons (pe_bltn (v := .ty "dict") (by rfl) (bn "dict" (by decide)) boot_tDict rfl) pa_nil))))) (pw_or1 (pt_cmpR op_eq (pe_callB call_lenD (by rfl) (bn "len" (by decide)) boot_bLen (pa_cons (pv 1) pa_nil)) pe_int rfl)))) (pss_one ps_never) pss_nil))
      (pssz_cons (psz_lock (psz_for (g := gTup K 2 (gCons (gName 2) (gCons (gName 3) gNil))) rfl (pi_items (pv 1)) (pg_tup rfl (pgs_cons (pg_name (i := 2) scPChg.nd rfl (.inl rfl)) (pgs_cons (pg_name (i := 3) scPChg.nd rfl (.inl rfl)) pgs_nil)))
        (pssz_one (psz_if (ptz_not (ptz_val (pez_meth (E := E0) (pv 0) FN (hr.mono (by decide)) bN .nil Z.cls mN (pa_cons (pv 2) (pa_cons (pv 3) pa_nil))))) (pssz_one psz_never) pssz_nil))))
      (pssz_cons (psz_of (ps_asg pe_dnewK (pg_name (i := 4) scPChg.nd rfl (.inl rfl))))
      (pssz_cons (psz_of (ps_lock (ps_for PassesOwn.never rfl (pi_keys (pe_fld (pv 0) rfl)) (pg_name (i := 2) scPChg.nd rfl (.inl rfl))
        (pss_one (ps_dput (by have := hu_of hr; exact this) (pv 4) (pv 2) (pe_tup (pa_cons (pe_dget (by have := hu_of hr; exact this) (pe_fld (pv 0) rfl) (pv 2) (fun _ _ => rfl)) (pa_cons (pe_dget2 (by have := hu_of hr; exact this) (pv 1) (pv 2) (pe_dget (by have := hu_of hr; exact this) (pe_fld (pv 0) rfl) (pv 2) (fun _ _ => rfl)) ⟨rfl, rfl, rfl, rfl⟩) pa_nil))) rfl)))))
      (pssz_one (psz_ret (pez_make (E := E0) M FI (hr.mono (by decide)) rfl mgP bI .nil (pa_cons (pe_fld (pv 0) rfl) (pa_cons (pv 4) pa_nil)))))))), ?_⟩
    obtain ⟨dx, bv, ha, hbv⟩ := g.at_
    refine ⟨_, rfl, _, _, true, rfl, .base (.dK hch), kit_ty (by decide +kernel), _, rfl, iteF ⟨_, rfl, ch, _, rfl, hch, rfl, _, rfl, iteFb (b := decide (V.int ((kvG cs).length : Nat) = V.int 0)) (decide_eq_false (by
      unfold kvG
      rw [List.length_map]
      simp only [V.int.injEq]
      omega)) ?_⟩⟩
    refine ⟨ch, _, hch, trivial, fun od => ?_⟩
    have hac : a ≠ ch := fun z => by rw [z, hch] at ha; cases ha
    have fl : Fx H (upd H ch (.frz od (.dK (kvG cs)))) := fx_lock hch (fun q => q)
    have gl : PG cP cC c (upd H ch (.frz od (.dK (kvG cs)))) n es a kc kb kr := g.keep fl (upd_ne (Ne.symm hc1)) (upd_ne (Ne.symm hc2)) (upd_ne (Ne.symm hc3))
    have hl : (upd H ch (.frz od (.dK (kvG cs)))) ch = some (.frz od (.dK (kvG cs))) := upd_same
    have back : ∀ {H' : Hp}, Ext (upd H ch (.frz od (.dK (kvG cs)))) H' → Ext H (upd H' ch (.dK (kvG cs))) := fun e => upd_back hch e
    generalize (upd H ch (.frz od (.dK (kvG cs)))) = H1 at fl gl hl back ⊢
    have wI : Walk (Iti ch od (kvG cs)) cs.length (fun H' => H' ch = some (.frz od (.dK (kvG cs)))) (YPair (fun i => (kvG cs)[i]?.map fun kv => kV kv.1) (fun i => (kvG cs)[i]?.map Prod.snd)) := by
      have := walk_items (d := ch) (o := od) (kvs := kvG cs)
      unfold kvG at this ⊢
      rwa [List.length_map] at this
    refine ⟨_, rfl, ch, od, _, rfl, hl, for_it wI (fun k σ H' => Ext H1 H' ∧ ∃ u2 u3, σ = [some (.ref a), some (.ref ch), u2, u3, none]) ⟨Ext.rfl', none, none, rfl⟩ (fun i σ H' _ ⟨e, _⟩ => e _ _ hl) (fun i x σ H' H'' hi ⟨e, u2, u3, hσ⟩ hY => ?_) (fun σ H' ⟨e, u2, u3, hσ⟩ => ?_)⟩
    · subst hσ
      obtain ⟨T, x', y', rfl, hT, rfl, hx, hy⟩ := hY
      obtain ⟨x, hxi⟩ : ∃ x, cs[i]? = some x := ⟨cs[i], List.getElem?_eq_getElem hi⟩
      have hx : ((kvG cs)[i]?.map fun kv => kV kv.1) = some x' := hx
      have hy : ((kvG cs)[i]?.map Prod.snd) = some y' := hy
      unfold kvG at hx hy
      rw [List.getElem?_map, hxi] at hx hy
      obtain rfl : V.str x.nm = x' := Option.some.inj hx
      obtain rfl : x.bv = y' := Option.some.inj hy
      have e2 : Ext H1 (upd H' T (.tup [.str x.nm, x.bv])) := e.upd' hT
      obtain ⟨k, en, hnm, nw⟩ := hcs x (List.mem_of_getElem? hxi)
      refine ⟨T, _, rfl, .inl (.inl upd_same), rfl, _, _, rfl, _, _, rfl, rfl, ?_⟩
      generalize (upd H' T (.tup [.str x.nm, x.bv])) = H2 at e2 ⊢
      have g2 := gl.ext e2
      obtain ⟨dx2, bv2, ha2, _⟩ := g2.at_
      refine ⟨_, rfl, a, dx2, _, rfl, ha2, rfl, _, rfl, _, rfl, n, es, a, kc, kb, kr, k, en, x.body, x.bv, by rw [hnm]; rfl, g2, (nw.fx fl).fx (Fx.of e2), fun H3 e3 => ⟨_, rfl, iteF ⟨e2.trans e3, _, _, rfl⟩⟩⟩
    · subst hσ
      refine ⟨e _ _ hl, ?_⟩
      have e1 : Ext H (upd H' ch (.dK (kvG cs))) := back e
      generalize (upd H' ch (.dK (kvG cs))) = H2 at e1 ⊢
      clear e
      refine fun Fd hFd => ?_
      have e3 : Ext H (upd H2 Fd (.dK [])) := e1.upd' hFd
      have h3F : (upd H2 Fd (.dK [])) Fd = some (.dK []) := upd_same
      have hFn : H Fd = none := Same.free (fun b o e => e1 b o e) hFd
      generalize (upd H2 Fd (.dK [])) = H3 at e3 h3F ⊢
      have hbF : kb ≠ Fd := fun z => by have := g.hkb; rw [z, hFn] at this; cases this
      refine ⟨kb, _, e3 _ _ g.hkb, trivial, fun ob => ?_⟩
      have f4 : Fx H3 (upd H3 kb (.frz ob (.dK (kvB es)))) := fx_lock (e3 _ _ g.hkb) (fun q => q)
      have h4b : (upd H3 kb (.frz ob (.dK (kvB es)))) kb = some (.frz ob (.dK (kvB es))) := upd_same
      have k4 : ∀ b o, b ≠ kb → H b = some o → (upd H3 kb (.frz ob (.dK (kvB es)))) b = some o := fun b o hb h => by rw [upd_ne hb]; exact e3 _ _ h
      have h4F : (upd H3 kb (.frz ob (.dK (kvB es)))) Fd = some (.dK []) := by rw [upd_ne (Ne.symm hbF)]; exact h3F
      have k43 : ∀ b o, b ≠ kb → H3 b = some o → (upd H3 kb (.frz ob (.dK (kvB es)))) b = some o := fun b o hb h => by rw [upd_ne hb]; exact h
      have h4c : Rd (upd H3 kb (.frz ob (.dK (kvB es)))) kc (.dK (kvC es)) := rd_lock (e3 _ _ g.hkb) trivial (.inl (e3 _ _ g.hkc))
      have h4ch : Rd (upd H3 kb (.frz ob (.dK (kvB es)))) ch (.dK (kvG cs)) := rd_lock (e3 _ _ g.hkb) trivial (.inl (e3 _ _ hch))
      generalize (upd H3 kb (.frz ob (.dK (kvB es)))) = H4 at f4 h4b k4 h4F k43 h4c h4ch ⊢
      have hab : a ≠ kb := fun z => by have := g.hkb; rw [← z, ha] at this; cases this
      have haF : a ≠ Fd := fun z => by rw [z, hFn] at ha; cases ha
      have hcF : kc ≠ Fd := fun z => by have := g.hkc; rw [z, hFn] at this; cases this
      have hchF : ch ≠ Fd := fun z => by rw [z, hFn] at hch; cases hch
      have rdK : ∀ {H' : Hp} {x : Addr} {u : HO}, (∀ b o, b ≠ Fd → H4 b = some o → H' b = some o) → x ≠ Fd → Rd H4 x u → Rd H' x u := fun hk hx h => h.imp (fun q => hk _ _ hx q) fun ⟨o, q⟩ => ⟨o, hk _ _ hx q⟩
      have wK : Walk (Itk kb ob (kvB es)) es.length (fun H' => H' kb = some (.frz ob (.dK (kvB es)))) (fun i H' x H'' => H'' = H' ∧ ∃ k v, (kvB es)[i]? = some (k, v) ∧ x = kV k) := by
        have := walk_keys (d := kb) (o := ob) (kvs := kvB es)
        unfold kvB at this ⊢
        rwa [List.length_map] at this
      have ha4 := k4 _ _ hab ha
      refine ⟨_, rfl, a, _, dx, _, _, rfl, ha4, Z.cls, Z.na _ (by decide), rfl, kb, ob, rfl, .inl ⟨_, h4b, for_it wK (fun k σ H' => ∃ ins u2, ChI H4 cs es Fd k ins H' ∧ σ = [some (.ref a), some (.ref ch), u2, u3, some (.ref Fd)]) ⟨[], _, ⟨rfl, rfl, h4F, fun i hi => by simp at hi, fun b o _ h => h⟩, rfl⟩ (fun i σ H' _ ⟨ins, _, I, _⟩ => I.keep _ _ hbF h4b) (fun i x σ H' H'' hi ⟨ins, v2, I, hσ⟩ hY => ?_) (fun σ H' ⟨ins, v2, I, hσ⟩ => ?_)⟩⟩
      · subst hσ
        obtain ⟨rfl, k', v', hkv, rfl⟩ := hY
        obtain ⟨e, he⟩ : ∃ e, es[i]? = some e := ⟨es[i], List.getElem?_eq_getElem hi⟩
        have : (kvB es)[i]? = some (.inr e.nm, e.bv) := by unfold kvB; rw [List.getElem?_map, he]; rfl
        rw [this] at hkv
        cases hkv
        have ha' := I.keep _ _ haF ha4
        have hnm : ins.map (·.nm) = (es.take i).map (·.nm) := by
          have := congrArg (List.map Prod.fst) I.dat
          rw [List.map_map, List.map_map] at this
          exact this
        have hil : ins.length ≤ 6 := by
          have := congrArg List.length hnm
          rw [List.length_map, List.length_map, List.length_take] at this
          have := g.le
          omega
        have hov : (valV (kvG cs) (.inr e.nm)).getD e.bv = (chB cs e).2 := by
          rw [valV_kvG]
          unfold chB
          cases cs.find? (fun x => decide (x.nm = e.nm)) <;> rfl
        refine ⟨_, rfl, a, _, dx, _, _, rfl, ha', Z.cls, Z.na _ (by decide), rfl, _, rfl, kc, e.cv, rfl, .inl ⟨_, .inr e.nm, rdK I.keep hcF h4c, rfl, (valV_map (g := fun e => e.cv) g.nd he).symm⟩, _, rfl, ch, rfl, .inl ⟨_, rdK I.keep hchF h4ch⟩, _, rfl, _, rfl, a, _, dx, _, _, rfl, ha', Z.cls, Z.na _ (by decide), rfl, _, rfl, kb, e.bv, rfl, .inl ⟨_, .inr e.nm, .inr ⟨_, I.keep _ _ hbF h4b⟩, rfl, (valV_map (g := fun e => e.bv) g.nd he).symm⟩, _, .inl ⟨_, .inr e.nm, rdK I.keep hchF h4ch, rfl, rfl⟩, (show 2 ≤ sizeLine by decide), fun p hp => ?_⟩
        rw [hov]
        have ep : Ext H'' (upd H'' p (.tup [e.cv, (chB cs e).2])) := Ext.upd hp
        have hpp : (upd H'' p (.tup [e.cv, (chB cs e).2])) p = some (.tup [e.cv, (chB cs e).2]) := upd_same
        generalize (upd H'' p (.tup [e.cv, (chB cs e).2])) = H6 at ep hpp ⊢
        refine ⟨_, rfl, _, rfl, Fd, _, rfl, .inl ⟨_, .inr e.nm, ep _ _ I.hF, rfl, by rw [List.length_map, sizeLine_eq]; omega, rfl⟩, ins ++ [⟨e.nm, e.rows, (chB cs e).1, e.cv, (chB cs e).2, p⟩], _, ⟨?_, ?_, ?_, fun x hx => ?_, fun b o hb h => ?_⟩, rfl⟩
        · rw [List.take_add_one, he, List.map_append, List.map_append, I.dat]
          rfl
        · rw [List.take_add_one, he, List.map_append, List.map_append, I.vals]
          rfl
        · rw [upd_same, putK_inp (by rw [hnm]; exact not_beforeE g.nd he), List.map_append]
          rfl
        · have hxF : ∀ {y : Addr} {xs : List V}, H6 y = some (.tup xs) → y ≠ Fd := fun h z => by rw [z, ep _ _ I.hF] at h; cases h
          rcases List.mem_append.mp hx with h | h
          · have := ep _ _ (I.pps x h)
            rw [upd_ne (hxF this)]
            exact this
          · rw [List.mem_singleton] at h
            subst h
            rw [upd_ne (hxF hpp)]
            exact hpp
        · rw [upd_ne hb]
          exact ep _ _ (I.keep _ _ hb h)
      · subst hσ
        refine ⟨I.keep _ _ hbF h4b, ?_⟩
        have e5 : Ext H (upd H' kb (.dK (kvB es))) := fun b o h => by
          by_cases hb : b = kb
          · subst hb
            rw [upd_same]
            exact g.hkb.symm.trans h
          · rw [upd_ne hb]
            exact I.keep _ _ (fun z => by rw [z, hFn] at h; cases h) (k4 _ _ hb h)
        have h5F : (upd H' kb (.dK (kvB es))) Fd = some (.dK (ins.map fun e => (.inr e.nm, .ref e.pp))) := by rw [upd_ne (Ne.symm hbF)]; exact I.hF
        have h5p : ∀ i ∈ ins, (upd H' kb (.dK (kvB es))) i.pp = some (.tup [i.cv, i.bv]) := fun i hi => by
          have := I.pps i hi
          rw [upd_ne (fun z => by rw [z, I.keep _ _ hbF h4b] at this; cases this)]
          exact this
        generalize (upd H' kb (.dK (kvB es))) = H5 at e5 h5F h5p ⊢
        have hdat := I.dat
        have hvals := I.vals
        rw [List.take_length] at hdat hvals
        have hnm : ins.map (·.nm) = es.map (·.nm) := by
          have := congrArg (List.map Prod.fst) hdat
          rw [List.map_map, List.map_map] at this
          exact this
        have hlen : ins.length = es.length := by have := congrArg List.length hnm; rwa [List.length_map, List.length_map] at this
        refine ⟨_, rfl, a, _, dx, _, _, rfl, e5 _ _ ha, Z.cls, Z.na _ (by decide), rfl, _, rfl, fun x dxx hx hdx hne => ?_⟩
        have e6 : Ext H5 (upd (upd H5 dxx (.own x)) x (.ins cP dxx [])) := (Ext.upd hdx).upd' (by rw [upd_ne (Ne.symm hne)]; exact hx)
        have h6x : (upd (upd H5 dxx (.own x)) x (.ins cP dxx [])) x = some (.ins cP dxx []) := upd_same
        generalize (upd (upd H5 dxx (.own x)) x (.ins cP dxx [])) = H6 at e6 h6x ⊢
        have e06 := e5.trans e6
        refine ⟨x, dxx, n, Fd, ins, rfl, g.hn, h6x, e6 _ _ h5F, by omega, by have := g.le; omega, by rw [hnm]; exact g.nd, fun k i hi => ?_, fun H9 es' kc' kb' kr' hk h1 h2 h3 hd pg => ⟨rfl, ?_⟩⟩
        · have hkl : k < es.length := by rw [← hlen]; exact (List.getElem?_eq_some_iff.mp hi).1
          have he : es[k]? = some es[k] := List.getElem?_eq_getElem hkl
          generalize es[k] = e at he
          have d1 : (ins.map Inp.dat)[k]? = some i.dat := by rw [List.getElem?_map, hi]; rfl
          have d2 : (ins.map fun i => (i.cv, i.bv))[k]? = some (i.cv, i.bv) := by rw [List.getElem?_map, hi]; rfl
          rw [hdat, List.getElem?_map, he] at d1
          rw [hvals, List.getElem?_map, he] at d2
          have d1 := Option.some.inj d1
          have d2 := Option.some.inj d2
          unfold chD Inp.dat at d1
          simp only [Prod.mk.injEq] at d1 d2
          obtain ⟨q1, q2, q3⟩ := d1
          obtain ⟨q4, q5⟩ := d2
          have hg := g.inp k e he
          have hp := e6 _ _ (h5p i (List.mem_of_getElem? hi))
          have hc : CN cC H6 i.rows i.cv := by rw [← q2, ← q4]; exact ((g.hes e (List.mem_of_getElem? he)).cn).fx (Fx.of e06)
          have htk : (ins.take k).map (·.nm) = (es.take k).map (·.nm) := by rw [List.map_take, hnm, ← List.map_take]
          cases hf : cs.find? (fun x => decide (x.nm = e.nm)) with
          | none =>
            have hb : chB cs e = (e.body, e.bv) := by unfold chB; rw [hf]
            rw [hb] at q3 q5
            have q3 : e.body = i.body := q3
            have q5 : e.bv = i.bv := q5
            refine ⟨?_, hp, hc, by rw [← q3, ← q5]; exact EE.fx (Fx.of e06) (g.hes e (List.mem_of_getElem? he)).ee⟩
            rw [htk, ← q1, ← q2, ← q3]
            exact hg
          | some y =>
            have hb : chB cs e = (y.body, y.bv) := by unfold chB; rw [hf]
            rw [hb] at q3 q5
            have q3 : y.body = i.body := q3
            have q5 : y.bv = i.bv := q5
            obtain ⟨k', e', hne', nw⟩ := hcs y (List.mem_of_find?_eq_some hf)
            have hye : y.nm = e.nm := of_decide_eq_true (List.find?_some (p := fun x : Chg => decide (x.nm = e.nm)) hf)
            have hkk : k' = k := same_at g.nd nw.at_ he (by rw [hne', hye])
            subst hkk
            refine ⟨?_, hp, hc, by rw [← q3, ← q5]; exact EE.fx (Fx.of e06) nw.ee⟩
            rw [htk, ← q1, ← q2, ← q3]
            exact ⟨hg.nm, nw.ok, nw.names, nw.dep, nw.size, hg.rows⟩
        · have hHx : H x = none := Same.free (fun b o e => e5 b o e) hx
          exact kk H9 es' x kc' kb' kr' (fun b o h => hk _ _ (fun z => by rw [z, hHx] at h; cases h) (e06 _ _ h)) (Same.free (fun b o e => e06 b o e) h1) (Same.free (fun b o e => e06 b o e) h2) (Same.free (fun b o e => e06 b o e) h3) (by rw [hd, hdat]) pg
end
end MR
end

section
set_option Elab.async false
set_option linter.all false
set_option maxRecDepth 100000
set_option maxHeartbeats 1000000
namespace PySem.W
open PySem
section
variable {K : Type} [DecidableEq K] {prog : Program} {w : World} {A : Around} {E : Value → Shared → Prop} {s : Shared} {knd : KeyKind prog w K}
/-- != of dicts, pair by pair, with both answers -/
theorem keq_neB {a b : Addr} {ka kb : List (K × Value)} {oa ob : Obj} {Q : Value → Shared → Prop} (hu : A.units < cLine) (ha : (a == sysModules) = false) (hb : (b == sysModules) = false)
    (da : s.heap.DictOf knd a ka) (db : s.heap.DictOf knd b kb) (ga : s.heap.get? a = some oa) (gb : s.heap.get? b = some ob)
    (W : List (K × Value) → Shared → Prop) (st : ∀ l s, W l s → s.heap.get? a = some oa ∧ s.heap.get? b = some ob)
    (turn : ∀ k v rest s, W ((k, v) :: rest) s → (valueAt kb k = none ∧ Q (.bool true) s) ∨ ∃ y, valueAt kb k = some y ∧ wpAny (model prog w) A.in1 (eqBool v y) (fun r s' => (r = true ∧ W rest s') ∨ (r = false ∧ Q (.bool true) s')) E s)
    (fin : ∀ s, W [] s → Q (.bool false) s) (hne : ka.length ≠ kb.length → Q (.bool true) s) (h : ka.length = kb.length → W ka s) :
    wpAny (model prog w) A (richCompare .NotEq (.ref a) (.ref b)) Q E s := by
  have out : ∀ (r : Bool) s', Q (.bool (!r)) s' → wpAny (model prog w) A.in1 (ret (.bool (r == false))) (fun fin s' => ∃ v, fin = .done (.ret v) ∧ v ≠ .notImplemented ∧ Q v s') E s' := fun r s' q => by
    cases r <;> exact wpAny_pure ⟨_, rfl, (fun x => nomatch x), q⟩
  refine wpAny_richCompare_same_room (op := .NotEq) da.typeIs db.typeIs PySem.F.slot_dict_ne (wpAny_call_entry PySem.F.slot_dict_ne da.typeIs PySem.F.entry_dict_ne ?_ (PySem.F.args_dict_ne_2 _ _)) hu
  show wpAny _ _ (Builtin.Dict.dictSlotArgs "__ne__" ⟨[.ref a, .ref b], []⟩ >>= _) _ _ s
  refine wpAny_bind ?_
  unfold Builtin.Dict.dictSlotArgs
  refine wpAny_bind (wpAny_notOrdered_dict da.typeIs ?_)
  show wpAny _ _ (pure (Value.ref a, Value.ref b)) _ _ s
  refine wpAny_pure (wpAny_bind (wpAny_isInstance (T := "dict") db.typeIs PySem.F.sub_dict_dict ?_))
  simp only [Bool.not_true, Bool.false_eq_true, if_false]
  refine wpAny_bind (wpAny_pure (wpAny_bind (wpAny_pure (wpAny_bind (keq_samePairsB ha hb da db ga gb W st (fun k v rest s' z => ?_) (fun s' z => ?_) (fun z => ?_) h)))))
  · rcases turn k v rest s' z with ⟨z1, q⟩ | ⟨y, z1, q⟩
    · exact .inl ⟨z1, out false _ q⟩
    · exact .inr ⟨y, z1, wpAny_mono q (fun r s2 z => z.elim .inl fun z => .inr ⟨z.1, out false _ z.2⟩) fun _ _ x => x⟩
  · exact out true _ (fin _ z)
  · exact out false _ (hne z)
end
end PySem.W
namespace L2
open PySem PySem.Spec PyProof.Rows
section
variable {X : Cx} {n : Nat} {D : Eqb}
theorem rcB_dictNe (hD : MonB D) (h : EqB X n D) : RcB X (n + 1) .NotEq (fun x y b H => DDictB D x y (!b) H) := by
  intro A pins s σ H x y u v b0 sb I rx ry d
  generalize hb0 : (!b0) = b at d
  obtain rfl : b0 = !b := by rw [← hb0, Bool.not_not]
  clear hb0
  obtain ⟨p, q, ks, ls, rfl, rfl, hpq, hp, hq, hne, hpr⟩ := d
  cases rx
  cases ry
  obtain ⟨oa, I1⟩ := I.lock hp (show Mut (some (.dK ks)) from trivial)
  have hq1 : (upd H p (.frz oa (.dK ks))) q = some (.dK ls) := by rw [upd_ne (Ne.symm hpq)]; exact hq
  obtain ⟨ob, I2⟩ := I1.lock hq1 (show Mut (some (.dK ls)) from trivial)
  have fz1 := I.nofrz hp (show Mut (some (.dK ks)) from trivial)
  have fz2 := I1.nofrz hq1 (show Mut (some (.dK ls)) from trivial)
  have back : ∀ {s' : Shared} {H' : Hp}, Inv X pins σ H' s' → Ext (upd (upd H p (.frz oa (.dK ks))) q (.frz ob (.dK ls))) H' → ∃ H', Inv X pins σ H' s' ∧ Ext H H' := fun {s' H'} I' e => by
    have e2 := upd_back hq1 e
    have I3 := I'.unlock (e q _ upd_same) fz2
    exact ⟨_, I3.unlock (e2 p _ upd_same) fz1, upd_back hp e2⟩
  obtain ⟨_, ya, va, ra, da⟩ := (show ObjOk X.prog X.w H s.heap p (.dK ks) from I.hok p _ hp)
  obtain ⟨_, yb, vb, rb, db⟩ := (show ObjOk X.prog X.w H s.heap q (.dK ls) from I.hok q _ hq)
  have ga : s.heap.get? p = some oa := (show ObjOk X.prog X.w _ s.heap p (.frz oa (.dK ks)) from I2.hok p _ (by rw [upd_ne hpq]; exact upd_same)).1
  have gb : s.heap.get? q = some ob := (show ObjOk X.prog X.w _ s.heap q (.frz ob (.dK ls)) from I2.hok q _ upd_same).1
  have hlen : va.length = vb.length ↔ ks.length = ls.length := by rw [← ra.length, ← rb.length]
  refine PySem.W.keq_neB sb.room.units0 ya yb da db ga gb
    (fun l s' => ∃ ks', KV ks' l ∧ ∃ H', Inv X pins σ H' s' ∧ Ext (upd (upd H p (.frz oa (.dK ks))) q (.frz ob (.dK ls))) H' ∧ PrsD D H' ls ks' b)
    (fun l s' z => ?_) (fun k v rest s' z => ?_) (fun s' z => ?_) (fun z => ?_) (fun z => ⟨ks, ra, _, I2, Ext.rfl', hpr (hlen.mp z) oa ob⟩)
  · obtain ⟨ks', _, H', I', e, _⟩ := z
    exact ⟨(show ObjOk X.prog X.w _ s'.heap p (.frz oa (.dK ks)) from I'.hok p _ (e _ _ (by rw [upd_ne hpq]; exact upd_same))).1, (show ObjOk X.prog X.w _ s'.heap q (.frz ob (.dK ls)) from I'.hok q _ (e _ _ upd_same)).1⟩
  · obtain ⟨ks', r, H', I', e, pr⟩ := z
    cases r with
    | @cons a _ as _ hv hr =>
      obtain ⟨k', v'⟩ := a
      obtain ⟨rfl, rv⟩ := hv
      generalize hbb : b = bb at pr
      cases pr with
      | miss hm =>
        refine .inl ⟨?_, rfl, back I' e⟩
        have z := rb.val k'
        rw [hm] at z
        cases hz : PySem.valueAt vb k' with
        | none => rfl
        | some u => rw [hz] at z; exact False.elim z
      | @hit _ _ y _ b1 c1 hy hd pr2 =>
        have z := rb.val k'
        rw [hy] at z
        cases hz : PySem.valueAt vb k' with
        | none => rw [hz] at z; exact False.elim z
        | some u =>
          rw [hz] at z
          refine .inr ⟨u, rfl, wpAny_mono (h A.in1 pins s' σ H' v' y v u b1 sb.in1 I' rv z hd) (fun r s2 z => ?_) fun _ _ x => x⟩
          obtain ⟨rfl, H2, I2, e2⟩ := z
          cases r with
          | true => exact .inl ⟨rfl, _, hr, H2, I2, e.trans e2, by simpa [hbb] using pr2.mon hD e2⟩
          | false => exact .inr ⟨rfl, by simp [hbb], back I2 (e.trans e2)⟩
  · obtain ⟨ks', r, H', I', e, pr⟩ := z
    cases r with
    | nil =>
      cases pr
      exact ⟨rfl, back I' e⟩
  · exact ⟨by rw [hne (fun q => z (hlen.mpr q))]; rfl, H, I, Ext.rfl'⟩
end
end L2
end

section
set_option Elab.async false
set_option linter.all false
set_option maxRecDepth 100000
set_option maxHeartbeats 1000000
/-! checks and rivals. -/
namespace MR
open PySem PySem.Spec PyProof.Rows L2 LY GW
theorem bools_by {α : Type} {g : α → Bool} : ∀ {xs : List α} {ys : List V}, ys.length = xs.length → (∀ (i : Nat) (x : α) (y : V), xs[i]? = some x → ys[i]? = some y → y = .bl (g x)) → ys = (xs.map g).map V.bl
  | [], [], _, _ => rfl
  | x :: r, y :: s, hl, h => by
    rw [List.map_cons, List.map_cons, ← bools_by (g := g) (xs := r) (ys := s) (by simpa using hl) fun i x' y' a b => h (i + 1) x' y' (by simpa using a) (by simpa using b), h 0 x y rfl rfl]
  | [], _ :: _, hl, _ => by simp at hl
  | _ :: _, [], hl, _ => by simp at hl
theorem all_id {α : Type} {g : α → Bool} {xs : List α} : (xs.map g).all id = xs.all g := by
  rw [List.all_map]
  rfl
theorem inV_strs {x : Str} {cs : List Str} : inV (.str x) (cs.map V.str) = decide (x ∈ cs) := by
  rw [Bool.eq_iff_iff, decide_eq_true_eq]
  constructor
  · intro h
    unfold inV at h
    rw [List.any_eq_true] at h
    obtain ⟨y, hy, e⟩ := h
    obtain ⟨z, hz, rfl⟩ := List.mem_map.mp hy
    have e : (z == x) = true := e
    rw [beq_iff_eq] at e
    rw [← e]
    exact hz
  · intro h
    exact inV_str h
/-- the calls of a body are among another's -/
def subN (t u : T) : Bool := t.names.all fun x => decide (x ∈ u.names)
theorem subN_of {t u : T} {cs ds : List Str} (h : CallsOf t.names cs) (h' : CallsOf u.names ds) : (cs.all fun x => decide (x ∈ ds)) = subN t u := by
  unfold subN
  rw [Bool.eq_iff_iff, List.all_eq_true, List.all_eq_true]
  constructor
  · intro q x hx
    have := q x ((h.mem x).mpr hx)
    rw [decide_eq_true_eq] at this ⊢
    exact (h'.mem x).mp this
  · intro q x hx
    have := q x ((h.mem x).mp hx)
    rw [decide_eq_true_eq] at this ⊢
    exact (h'.mem x).mpr this
def inC (cs : List Chg) (nm : Str) : Bool := (cs.find? (fun x => decide (x.nm = nm))).isSome
/-- what is asked of a function of a rival -/
def cbB (cs : List Chg) (e e' : Ent) : Bool := decide (e'.rows = e.rows) && (if inC cs e.nm = true then T.beq e'.body e.body else subN e'.body e.body)
def rivB (cs : List Chg) (es es' : List Ent) : Bool := decide (es'.map (·.nm) = es.map (·.nm)) && ((brk es').isNone && (es.zip es').all fun p => cbB cs p.1 p.2)
section
variable {P : Program} {w : World} {K : PySem.W.Frag} {mg : Str → Option Value} {base : Heap} {cP cC cE : Addr} {c q : Kd → Addr} {fdQ : Kd → FuncData} {qC : Addr} {fdC : FuncData}
theorem rcB_Cne {X : Cx} (Z : QC X.K cC qC fdC) (ne : PySem.W.findIn X.K (.ref cC) "__ne__" = some (some (.builtin "object.__ne__"))) (F : FnOk X.prog X.w X.K X.mg X.base CX0 3 qC fdC ["self", "other"] (spEqB (RC cC))) : RcB X 4 .NotEq (fun x y b H => RC cC x y (!b) H) := by
  intro A pins s σ H x y u v b sb I rx ry d
  have d' : DInsB X.K cC (RC cC) x y (!b) H := by
    obtain ⟨rs, rs', ⟨a, dx, p, hx, h1, h2⟩, ⟨a', dx', p', hy, k1, k2⟩, e⟩ := d
    exact ⟨a, a', cC, dx, dx', _, _, hx, hy, h1, k1, Z.kf.cls, Z.kf.nf, rs, rs', ⟨a, dx, p, hx, h1, h2⟩, ⟨a', dx', p', hy, k1, k2⟩, e⟩
  exact rcB_insNe (E := E0) F Z.at_ ne Z.kf.cm Z.isf Z.b pass0 A pins s σ H x y u v b sb I rx ry d'
abbrev sCkP : Stmt := top 27
theorem scCkP : FnScope ["program"] ["program"] (defScope sCkP) := ⟨rfl, rfl, rfl, by decide +kernel, rfl, by decide +kernel, by decide +kernel⟩
theorem PG.ty {H : Hp} {n : Nat} {es : List Ent} {a kc kb kr : Addr} (Z : PF K cP) (g : PG cP cC c H n es a kc kb kr) : TyX K H (.ref a) (.ref cP) := by
  obtain ⟨dx, bv, ha, _⟩ := g.at_
  exact .base (.ins ha Z.cls Z.ca Z.cn Z.ctk Z.cm)
theorem ckP_ok {f pK gK : Addr} {fd fdK : FuncData} (F : Fun K "check_program" "check_program" sCkP f fd) (bn : BN mg) (Z : PF K cP) (mgP : mg "Program" = some (.ref cP)) (hK : PropOf K cP "kept" pK gK)
    (FK : FnOk P w K mg base CX0 1 gK fdK ["self"] (spPG cP cC c fun _ es _ _ _ _ H Q => Q (.bl (brk es).isNone) H)) (bK : Binds K fdK ["self"] []) : FnOk P w K mg base CX0 3 f fd ["program"] (spPG cP cC c fun _ es _ _ _ _ H Q => brk es = none ∧ Q .non H) := by
  refine F.ok (k := 2) scCkP (fun vs H Q E h => ?_) (fun cdv A outer s H vs Q E hr h => ?_)
  · obtain ⟨n, es, a, kc, kb, kr, rfl, _⟩ := h
    rfl
  · obtain ⟨n, es, a, kc, kb, kr, rfl, g, hb, kk⟩ := h
    refine ⟨_, pss_one (ps_if (PW.pt (pw_or (pt_not (pt_val (pe_is bn (pa_cons (pv 0) (pa_cons (pe_glob (v := .ref cP) (by rfl) mgP rfl) pa_nil))))) (pw_or1 (pt_not (pt_val (pe_propD (p := pK) (pv 0) FK hr bK)))))) (pss_one ps_never) pss_nil), ?_⟩
    obtain ⟨dx, bv, ha, _⟩ := g.at_
    refine ⟨_, rfl, _, _, true, rfl, g.ty Z, Z.kk, _, rfl, iteF ⟨_, rfl, a, _, dx, _, rfl, ha, Z.cls, hK, n, es, a, kc, kb, kr, rfl, g, _, rfl, ?_⟩⟩
    rw [hb]
    exact iteF kk
abbrev sChP : Stmt := top 28
theorem scChP : FnScope ["program", "change"] ["program", "change"] (defScope sChP) := ⟨rfl, rfl, rfl, by decide +kernel, rfl, by decide +kernel, by decide +kernel⟩
/-- a change that may be made -/
def spChW (cP cC : Addr) (c : Kd → Addr) : Sp := fun vs H Q _ => ∃ n es a kc kb kr ch cs, vs = [.ref a, .ref ch] ∧ PG cP cC c H n es a kc kb kr ∧ H ch = some (.dK (kvG cs)) ∧ ch ≠ kc ∧ ch ≠ kb ∧ ch ≠ kr ∧ 1 ≤ cs.length ∧ cs.length ≤ 6 ∧ 1 ≤ es.length ∧
  (∀ x ∈ cs, ∃ k e, e.nm = x.nm ∧ NewOk c H n es k e x.body x.bv) ∧ brk es = none ∧ ∀ v H', Ext H H' → Q v H'
theorem chP_ok {f gC : Addr} {fd fdG : FuncData} (F : Fun K "changed_program" "changed_program" sChP f fd) (Z : PF K cP) (cK : Cal P w K mg base 3 "check_program" (spPG cP cC c fun _ es _ _ _ _ H Q => brk es = none ∧ Q .non H))
    (FC : FnZ P w K mg base 20 gC fdG ["self", "change"] (spChg cP cC c)) (bC : Binds K fdG ["self", "change"] []) (mC : Meth K cP "changed" gC) : FnZ P w K mg base 21 f fd ["program", "change"] (spChW cP cC c) := by
  refine Fun.okZ F (k := 20) scChP (fun vs H Q E h => ?_) (fun cdv A outer s H vs Q E hr h => ?_)
  · obtain ⟨n, es, a, kc, kb, kr, ch, cs, rfl, _⟩ := h
    rfl
  · obtain ⟨n, es, a, kc, kb, kr, ch, cs, rfl, g, hch, h1, h2, h3, h4, h5, h6, h7, hb, kk⟩ := h
    refine ⟨_, pssz_cons (psz_of (ps_expr (pe_c (j := 20) cK hr (by decide) (pa_cons (pv 0) pa_nil)))) (pssz_one (psz_ret (pez_meth (E := E0) (pv 0) FC hr bC .nil Z.cls mC (pa_cons (pv 1) pa_nil)))), ?_⟩
    obtain ⟨dx, bv, ha, _⟩ := g.at_
    exact ⟨_, rfl, n, es, a, kc, kb, kr, rfl, g, hb, _, rfl, a, dx, _, rfl, ha, rfl, _, rfl, n, es, a, kc, kb, kr, ch, cs, rfl, g, hch, h1, h2, h3, h4, h5, h6, h7, fun H' es' a' kc' kb' kr' e _ _ _ _ _ => kk _ _ e⟩
abbrev sCB : Stmt := top 31
abbrev nCB : List Str := ["program", "change", "other", "name", "known", "called"]
theorem scCB : FnScope nCB ["program", "change", "other", "name"] (defScope sCB) := ⟨rfl, rfl, rfl, by decide +kernel, rfl, by decide +kernel, by decide +kernel⟩
def spCB (cP cC : Addr) (c : Kd → Addr) : Sp := fun vs H Q _ => ∃ n es a kc kb kr n' es' a' kc' kb' kr' ch cs k e e', vs = [.ref a, .ref ch, .ref a', .str e.nm] ∧ PG cP cC c H n es a kc kb kr ∧ PG cP cC c H n' es' a' kc' kb' kr' ∧ H ch = some (.dK (kvG cs)) ∧
  es[(k : Nat)]? = some e ∧ es'[(k : Nat)]? = some e' ∧ e'.nm = e.nm ∧ ∀ H', Ext H H' → Q (.bl (cbB cs e e')) H'
theorem couldBe_ok {f pC gC : Addr} {fd fdCa : FuncData} (F : Fun K "could_be" "could_be" sCB f fd) (bn : BN mg) (Z : PF K cP) (ZE : CF K c cE) (ZQ : QF K mg c cE q fdQ) (ZC : QC K cC qC fdC) (ne : PySem.W.findIn K (.ref cC) "__ne__" = some (some (.builtin "object.__ne__"))) (FC : FnOk P w K mg base CX0 3 qC fdC ["self", "other"] (spEqB (RC cC)))
    (hC : ∀ k, PropOf K (c k) "calls" pC gC) (FCa : FnOk P w K mg base CX0 1 gC fdCa ["self"] (spGetL K "_calls")) (bCa : Binds K fdCa ["self"] [])
    (mC : Met P w K mg base 3 cP "contract" (spItem cP cC c fun e => e.cv)) (mB : Met P w K mg base 3 cP "body" (spItem cP cC c fun e => e.bv)) : FnOk P w K mg base CX0 10 f fd ["program", "change", "other", "name"] (spCB cP cC c) := by
  refine F.ok (k := 9) scCB (fun vs H Q E h => ?_) (fun cdv A outer s H vs Q E hr h => ?_)
  · obtain ⟨n, es, a, kc, kb, kr, n', es', a', kc', kb', kr', ch, cs, k, e, e', rfl, _⟩ := h
    rfl
  · obtain ⟨n, es, a, kc, kb, kr, n', es', a', kc', kb', kr', ch, cs, k, e, e', rfl, g, g', hch, he, he', hnm, kk⟩ := h
    refine ⟨_, pss_cons (ps_if (pt_cmpR (op_neB (rcB_Cne (X := (cxOf CX0 P w K mg base nCB "could_be" (defScope sCB) f cdv A outer s H E).nox) ZC ne FC) (hr.mono (show 4 ≤ 9 by decide))) (pe_mt (j := 9) mC hr (by decide) (pv 2) (pa_cons (pv 3) pa_nil)) (pe_mt (j := 9) mC hr (by decide) (pv 0) (pa_cons (pv 3) pa_nil)) rfl) (pss_one (ps_ret pe_bl)) pss_nil)
      (pss_cons (ps_if (pt_cmp (pc_din (by have := hu_of hr; exact this) (pv 3) (pv 1))) (pss_one (ps_ret (pe_cmpR (op_eqB (rcB_E (X := (cxOf CX0 P w K mg base nCB "could_be" (defScope sCB) f cdv A outer s H E).nox) (n := 9) (m := 4) ZQ (eq_ok ZQ bn 4)) hr) (pe_mt (j := 9) mB hr (by decide) (pv 2) (pa_cons (pv 3) pa_nil)) (pe_mt (j := 9) mB hr (by decide) (pv 0) (pa_cons (pv 3) pa_nil)) rfl))) pss_nil)
      (pss_cons (ps_asg (pe_propD (p := pC) (pe_mt (j := 9) mB hr (by decide) (pv 0) (pa_cons (pv 3) pa_nil)) FCa (hr.mono (show 2 ≤ 9 by decide)) bCa) (pg_name (i := 4) scCB.nd rfl (by first | exact .inl rfl | exact .inr rfl)))
      (pss_one (ps_ret (pe_callB (cr_all rfl) (by rfl) (bn "all" (by decide)) boot_bAll (pa_cons
          (pe_lc (own := [("called", 5)]) (g := gName 5) (tt := tYes) (te := tOp (rIn K false) (tVar 5) (tVar 4)) rfl scCB.nd (pi_list (pe_propD (p := pC) (pe_mt (j := 9) mB hr (by decide) (pv 2) (pa_cons (pv 3) pa_nil)) FCa (hr.mono (show 2 ≤ 9 by decide)) bCa)) (blkOk_by (N := nCB) (sc := defScope sCB) (by decide +kernel))
            (fun _ _ _ _ _ => pg_name (i := 5) scCB.nd rfl (by first | exact .inl rfl | exact .inr rfl)) (fun _ _ _ _ _ => pts_nil) (fun _ _ _ _ _ => pe_cmpR op_in_seq (pv 5) (pv 4) rfl)) pa_nil)))))), ?_⟩
    obtain ⟨dx, bv, ha, _⟩ := g.at_
    obtain ⟨dx', bv', ha', _⟩ := g'.at_
    have harg : ([.ref a', .str e.nm] : List V) = [.ref a', .str e'.nm] := by rw [hnm]
    have ge := g.hes e (List.mem_of_getElem? he)
    have ge' := g'.hes e' (List.mem_of_getElem? he')
    have hd' : e'.body.depth ≤ 4 := g'.dep (List.mem_of_getElem? he')
    refine ⟨_, rfl, a', dx', _, rfl, ha', rfl, _, rfl, n', es', a', kc', kb', kr', k, e', harg, g', he', _, rfl, a, dx, _, rfl, ha, rfl, _, rfl, n, es, a, kc, kb, kr, k, e, rfl, g, he, !decide (e'.rows = e.rows), ⟨e'.rows, e.rows, ge'.cn, ge.cn, by rw [Bool.not_not]⟩, fun H1 e1 => ⟨_, rfl, ?_⟩⟩
    by_cases hrw : e'.rows = e.rows
    case neg =>
      refine iteTb (by rw [decide_eq_false hrw]; rfl) ?_
      show Q (.bl false) H1
      have : cbB cs e e' = false := by unfold cbB; rw [decide_eq_false hrw]; rfl
      rw [← this]
      exact kk _ e1
    refine iteFb (by rw [decide_eq_true hrw]; rfl) ?_
    have hcb : cbB cs e e' = if inC cs e.nm = true then T.beq e'.body e.body else subN e'.body e.body := by unfold cbB; rw [decide_eq_true hrw, Bool.true_and]
    have hvG := valV_kvG (cs := cs) (nm := e.nm)
    have hin : (valV (kvG cs) (.inr e.nm)).isSome = inC cs e.nm := by
      rw [hvG]
      unfold inC
      cases cs.find? (fun x => decide (x.nm = e.nm)) <;> rfl
    have g1 := g.ext e1
    have g1' := g'.ext e1
    refine ⟨_, rfl, _, rfl, ch, _, rfl, .inl ⟨_, .inr e.nm, .inl (e1 _ _ hch), rfl, rfl⟩, _, rfl, ?_⟩
    cases hic : inC cs e.nm with
    | true =>
      rw [hic] at hin hcb
      refine iteTb hin ?_
      refine ⟨_, rfl, a', dx', _, rfl, e1 _ _ ha', rfl, _, rfl, n', es', a', kc', kb', kr', k, e', harg, g1', he', _, rfl, a, dx, _, rfl, e1 _ _ ha, rfl, _, rfl, n, es, a, kc, kb, kr, k, e, rfl, g1, he, T.beq e'.body e.body, ⟨e'.body, e.body, EE.fx (Fx.of e1) ge'.ee, EE.fx (Fx.of e1) ge.ee, hd', rfl⟩, fun H2 e2 => ?_⟩
      have := kk H2 (e1.trans e2)
      rw [hcb] at this
      exact this
    | false =>
      rw [hic] at hin hcb
      refine iteFb hin ?_
      obtain ⟨b, C, bdx, pt, ct, o, hv, hc, hbb, ds, us, qt, ho, _, hct, hds, har, _⟩ := EE.view (EE.fx (Fx.of e1) ge.ee)
      obtain ⟨b', C', bdx', pt', ct', o', hv', hc', hbb', ds', us', qt', ho', _, hct', hds', har', _⟩ := EE.view (EE.fx (Fx.of e1) ge'.ee)
      subst hc ho hc' ho'
      refine ⟨_, rfl, a, dx, _, rfl, e1 _ _ ha, rfl, _, rfl, n, es, a, kc, kb, kr, k, e, rfl, g1, he, b, _, bdx, _, hv, hbb, ZE.cls _, hC _, b, _, bdx, _, ct, _, rfl, hbb, ZE.cls _, ZE.na _ _ (by decide), look_calls, .inl (.inl hct), fun l hl => ?_⟩
      have e2 : Ext H1 (upd H1 l (.lst (ds.map V.str))) := Ext.upd hl
      have hll : (upd H1 l (.lst (ds.map V.str))) l = some (.lst (ds.map V.str)) := upd_same
      generalize (upd H1 l (.lst (ds.map V.str))) = H2 at e2 hll ⊢
      have g2' := g1'.ext e2
      refine ⟨_, rfl, a', dx', _, rfl, e2 _ _ (e1 _ _ ha'), rfl, _, rfl, n', es', a', kc', kb', kr', k, e', harg, g2', he', b', _, bdx', _, hv', e2 _ _ hbb', ZE.cls _, hC _, b', _, bdx', _, ct', _, rfl, e2 _ _ hbb', ZE.cls _, ZE.na _ _ (by decide), look_calls, .inl (.inl (e2 _ _ hct')), fun l2 hl2 => ?_⟩
      have e3 : Ext H2 (upd H2 l2 (.lst (ds'.map V.str))) := Ext.upd hl2
      have hll2 : (upd H2 l2 (.lst (ds'.map V.str))) l2 = some (.lst (ds'.map V.str)) := upd_same
      generalize (upd H2 l2 (.lst (ds'.map V.str))) = H3 at e3 hll2 ⊢
      have hdl : ds'.length ≤ 60 := by
        have := hds'.le
        have := T.names_le e'.body
        obtain ⟨j, hj, ej⟩ := List.getElem_of_mem (List.mem_of_getElem? he')
        have := (g'.inp k e' he').size
        omega
      refine ⟨l2, rfl, ⟨_, .inl (.inl hll2)⟩, fun D hD => ?_⟩
      refine lcm_list (xs := ds'.map V.str) (R := fun i y _ => ∀ x, ds'[i]? = some x → y = .bl (decide (x ∈ ds))) (fun _ _ _ _ _ h => h) (.inl (.inl hll2)) hD (by rw [List.length_map, sizeLine_eq]; omega) ?hw (fun i x H4 Qk e4 hx k2 => ?_) (fun H4 ys e4 hD4 hys hR => ?_)
      case hw => intro x; rfl
      · rw [List.getElem?_map] at hx
        obtain ⟨nm, hnmi, rfl⟩ := Option.map_eq_some_iff.mp hx
        refine ⟨_, rfl, _, rfl, l, _, rfl, .inl (.inl (.inl (e4 _ _ (e3 _ _ hll)))), rfl, flat_strs, k2 _ _ Ext.rfl' fun x hx => ?_⟩
        rw [hnmi] at hx
        cases hx
        rw [inV_strs]
        rfl
      · rw [List.length_map] at hys
        have hb := bools_by (g := fun x => decide (x ∈ ds)) (xs := ds') hys fun i x y h1 h2 => hR i y h2 x h1
        refine ⟨D, ds'.map fun x => decide (x ∈ ds), rfl, .inl (.inl (by rw [← hb]; exact hD4)), ?_⟩
        rw [all_id, subN_of hds' hds]
        have := kk H4 (((e1.trans e2).trans e3).trans e4)
        rw [hcb] at this
        exact this
end
end MR
end

section
set_option Elab.async false
set_option linter.all false
set_option maxRecDepth 100000
set_option maxHeartbeats 1000000
/-! is_rival, differing. -/
namespace MR
open PySem PySem.Spec PyProof.Rows L2 LY GW
section
variable {te : TE} {tt : TT} {vs : List Nat} {σ : L2.St} {H1 : Hp} {D : Addr} {Qd : Hp → Prop} {J : It} {n j : Nat} {G : Hp → Prop} {Y : Nat → Hp → V → Hp → Prop}
/-- a comprehension with a test, that makes only new things -/
theorem lcm_filt (w : Walk J n G Y) (f : Nat → Bool) (v : Nat → V) (hG : ∀ H, Ext H1 H → G H) (hD : H1 D = none) (hz : n ≤ sizeLine) (hY : ∀ i H x H', Y i H x H' → Ext H H') (hw : ∀ x, wipe ((wipe σ vs).set j (some x)) vs = wipe σ vs)
    (test : ∀ i x H H' (Qt : Bool → Hp → Prop), Ext H1 H → i < n → Y i H x H' → (∀ H3, Ext H' H3 → Qt (f i) H3) → tt ((wipe σ vs).set j (some x)) H' Qt)
    (elt : ∀ i x H H' H3 (Qe : VK), Ext H1 H → i < n → Y i H x H' → Ext H' H3 → (∀ H4, Ext H3 H4 → Qe (v i) H4) → te ((wipe σ vs).set j (some x)) H3 Qe)
    (fin : ∀ H, Ext H1 H → H D = some (.lst (((List.range n).filter f).map v)) → Qd H) :
    ∃ W : Nat → Nat → Hp → Prop, (∃ m, W 0 m (upd H1 D (.lst []))) ∧ ∀ i m H, W i m H →
      (J.stop i H ∧ Qd H) ∨ (J.go i H ∧ ∃ Nx : Hp → Prop, (∀ H', Nx H' → ∃ m', m' < m ∧ W (i + 1) m' H') ∧ ∀ x H', J.yld i H x H' → gName j x (wipe σ vs) H' fun σ2 H2 => wipe σ2 vs = wipe σ vs ∧ tt σ2 H2 fun b H3 =>
        if b = true then te σ2 H3 fun y H4 => ∃ acc, H4 D = some (.lst acc) ∧ acc.length < sizeLine ∧ Nx (upd H4 D (.lst (acc ++ [y]))) else Nx H3) := by
  refine lc_it w (fun i H => Ext H1 H ∧ H D = some (.lst (((List.range i).filter f).map v))) ⟨Ext.upd hD, upd_same⟩ (fun i H _ I => hG H I.1) (fun i x H H' hi I hy => ?_) fun H I => fin H I.1 I.2
  obtain ⟨e, hd⟩ := I
  have e1 := hY _ _ _ _ hy
  refine ⟨hw x, test i x H H' _ e hi hy fun H3 e3 => ?_⟩
  cases hf : f i with
  | true =>
    rw [if_pos rfl]
    refine elt i x H H' H3 _ e hi hy e3 fun H4 e4 => ?_
    have h4 := e4 _ _ (e3 _ _ (e1 _ _ hd))
    refine ⟨_, h4, ?_, fun b o h => ?_, ?_⟩
    · have := List.length_filter_le f (List.range i)
      rw [List.length_range] at this
      rw [List.length_map]
      omega
    · rw [upd_ne (ne_of_none h hD)]
      exact e4 _ _ (e3 _ _ (e1 _ _ (e _ _ h)))
    · rw [upd_same, List.range_succ, List.filter_append, List.map_append]
      simp [hf]
  | false =>
    rw [if_neg (by decide)]
    refine ⟨(e.trans e1).trans e3, ?_⟩
    rw [e3 _ _ (e1 _ _ hd), List.range_succ, List.filter_append, List.map_append]
    simp [hf]
end
def dfF (es es' : List Ent) (i : Nat) : Bool := match es[i]?, es'[i]? with
  | some e, some e' => !(T.beq e.body e'.body)
  | _, _ => false
def dfN (es : List Ent) (i : Nat) : Str := ((es.map (·.nm))[i]?).getD Str.empty
/-- the names at which bodies differ -/
def dfL (es es' : List Ent) : List Str := ((List.range es.length).filter (dfF es es')).map (dfN es)
theorem dfN_of {es : List Ent} {i : Nat} {e : Ent} (h : es[i]? = some e) : dfN es i = e.nm := by
  unfold dfN
  rw [List.getElem?_map, h]
  rfl
theorem at_nm {es es' : List Ent} (h : es'.map (·.nm) = es.map (·.nm)) {k : Nat} {e : Ent} (he : es[k]? = some e) : ∃ e', es'[k]? = some e' ∧ e'.nm = e.nm := by
  have h1 : (es.map (·.nm))[k]? = some e.nm := by rw [List.getElem?_map, he]; rfl
  rw [← h, List.getElem?_map] at h1
  exact Option.map_eq_some_iff.mp h1
section
variable {P : Program} {w : World} {K : PySem.W.Frag} {mg : Str → Option Value} {base : Heap} {cP cC cE : Addr} {c q : Kd → Addr} {fdQ : Kd → FuncData} {qC : Addr} {fdC : FuncData}
abbrev sRv : Stmt := top 30
abbrev nRv : List Str := ["program", "change", "other", "name"]
theorem scRv : FnScope nRv ["program", "change", "other"] (defScope sRv) := ⟨rfl, rfl, rfl, by decide +kernel, rfl, by decide +kernel, by decide +kernel⟩
def spRv (cP cC : Addr) (c : Kd → Addr) : Sp := fun vs H Q _ => ∃ n es a kc kb kr ch cs es' a' kc' kb' kr', vs = [.ref a, .ref ch, .ref a'] ∧ PG cP cC c H n es a kc kb kr ∧ PG cP cC c H n es' a' kc' kb' kr' ∧ H ch = some (.dK (kvG cs)) ∧ ch ≠ kc ∧ ch ≠ kb ∧ ch ≠ kr ∧ 1 ≤ cs.length ∧ cs.length ≤ 6 ∧ 1 ≤ es.length ∧
  (∀ x ∈ cs, ∃ k e, e.nm = x.nm ∧ NewOk c H n es k e x.body x.bv) ∧ brk es = none ∧ ∀ H', Ext H H' → Q (.bl (rivB cs es es')) H'
theorem rv_ok {f pS gS pN gN pK gK : Addr} {fd fdS fdN fdK : FuncData} (F : Fun K "is_rival" "is_rival" sRv f fd) (bn : BN mg) (Z : PF K cP) (mgP : mg "Program" = some (.ref cP)) (cCh : CalZ P w K mg base 21 "changed_program" (spChW cP cC c)) (cCB : Cal P w K mg base 10 "could_be" (spCB cP cC c))
    (hS : PropOf K cP "size" pS gS) (FS : FnOk P w K mg base CX0 1 gS fdS ["self"] (spPG cP cC c fun n _ _ _ _ _ H Q => Q (.int n) H)) (bS : Binds K fdS ["self"] [])
    (hN : PropOf K cP "names" pN gN) (FN : FnOk P w K mg base CX0 1 gN fdN ["self"] (spPG cP cC c fun _ es _ _ _ _ H Q => ∀ l, H l = none → Q (.ref l) (upd H l (.lst ((es.map (·.nm)).map V.str))))) (bN : Binds K fdN ["self"] [])
    (hK : PropOf K cP "kept" pK gK) (FK : FnOk P w K mg base CX0 1 gK fdK ["self"] (spPG cP cC c fun _ es _ _ _ _ H Q => Q (.bl (brk es).isNone) H)) (bK : Binds K fdK ["self"] []) : FnZ P w K mg base 22 f fd ["program", "change", "other"] (spRv cP cC c) := by
  refine Fun.okZ F (k := 21) scRv (fun vs H Q E h => ?_) (fun cdv A outer s H vs Q E hr h => ?_)
  · obtain ⟨n, es, a, kc, kb, kr, ch, cs, es', a', kc', kb', kr', rfl, _⟩ := h
    rfl
  · obtain ⟨n, es, a, kc, kb, kr, ch, cs, es', a', kc', kb', kr', rfl, g, g', hch, h1, h2, h3, h4, h5, h6, h7, hb, kk⟩ := h
    have r2 : Room 2 _ := hr.mono (show 2 ≤ 21 by decide)
    refine ⟨_, pssz_cons (psz_expr (pez_c (j := 21) cCh hr (by decide) (pa_cons (pv 0) (pa_cons (pv 1) pa_nil))) rfl)
      (pssz_cons (psz_of (ps_if (pt_not (pt_val (pe_is bn (pa_cons (pv 2) (pa_cons (pe_glob (v := .ref cP) (by rfl) mgP rfl) pa_nil))))) (pss_one ps_never) pss_nil))
      (pssz_cons (psz_of (ps_if (PW.pt (pw_or (pt_cmpR op_ne (pe_propD (p := pS) (pv 2) FS r2 bS) (pe_propD (p := pS) (pv 0) FS r2 bS) rfl) (pw_or (pt_cmpR (op_neD (by have := hr.units; exact this)) (pe_propD (p := pN) (pv 2) FN r2 bN) (pe_propD (p := pN) (pv 0) FN r2 bN) rfl) (pw_or1 (pt_not (pt_val (pe_propD (p := pK) (pv 2) FK r2 bK))))))) (pss_one (ps_ret pe_bl)) pss_nil))
      (pssz_one (psz_of (ps_ret (pe_callB (cr_all rfl) (by rfl) (bn "all" (by decide)) boot_bAll (pa_cons
          (pe_lc (own := [("name", 3)]) (g := gName 3) (tt := tYes) (te := tCall (spCB cP cC c) [] E0 (tCons (tVar 0) (tCons (tVar 1) (tCons (tVar 2) (tCons (tVar 3) tNil))))) rfl scRv.nd (pi_list (pe_propD (p := pN) (pv 0) FN r2 bN)) (blkOk_by (N := nRv) (sc := defScope sRv) (by decide +kernel))
            (fun _ _ _ _ _ => pg_name (i := 3) scRv.nd rfl (by first | exact .inl rfl | exact .inr rfl)) (fun _ _ _ _ _ => pts_nil) (fun _ _ _ _ _ => pe_c (j := 21) cCB hr (by decide) (pa_cons (pv 0) (pa_cons (pv 1) (pa_cons (pv 2) (pa_cons (pv 3) pa_nil)))))) pa_nil))))))), ?_⟩
    refine ⟨_, rfl, _, rfl, n, es, a, kc, kb, kr, ch, cs, rfl, g, hch, h1, h2, h3, h4, h5, h6, h7, hb, fun _ H1 e1 => ?_⟩
    have g1 := g.ext e1
    have g1' := g'.ext e1
    obtain ⟨dx, bv, ha, _⟩ := g1.at_
    obtain ⟨dx', bv', ha', _⟩ := g1'.at_
    refine ⟨_, rfl, _, _, true, rfl, g1'.ty Z, Z.kk, _, rfl, iteF ?_⟩
    refine ⟨_, rfl, a', _, dx', _, rfl, ha', Z.cls, hS, n, es', a', kc', kb', kr', rfl, g1', _, rfl, a, _, dx, _, rfl, ha, Z.cls, hS, n, es, a, kc, kb, kr, rfl, g1, rfl, _, rfl, iteFb (b := !decide (V.int (n : Int) = V.int (n : Int))) (by simp) ?_⟩
    refine ⟨_, rfl, a', _, dx', _, rfl, ha', Z.cls, hN, n, es', a', kc', kb', kr', rfl, g1', fun l1 hl1 => ?_⟩
    have e2 : Ext H1 (upd H1 l1 (.lst ((es'.map (·.nm)).map V.str))) := Ext.upd hl1
    have hl11 : (upd H1 l1 (.lst ((es'.map (·.nm)).map V.str))) l1 = some (.lst ((es'.map (·.nm)).map V.str)) := upd_same
    generalize (upd H1 l1 (.lst ((es'.map (·.nm)).map V.str))) = H2 at e2 hl11 ⊢
    refine ⟨_, rfl, a, _, dx, _, rfl, e2 _ _ ha, Z.cls, hN, n, es, a, kc, kb, kr, rfl, g1.ext e2, fun l2 hl2 => ?_⟩
    have e3 : Ext H2 (upd H2 l2 (.lst ((es.map (·.nm)).map V.str))) := Ext.upd hl2
    have hl22 : (upd H2 l2 (.lst ((es.map (·.nm)).map V.str))) l2 = some (.lst ((es.map (·.nm)).map V.str)) := upd_same
    generalize (upd H2 l2 (.lst ((es.map (·.nm)).map V.str))) = H3 at e3 hl22 ⊢
    refine ⟨_, _, .lst (.inl (.inl (e3 _ _ hl11))) Dp.strs, .lst (.inl (.inl hl22)) Dp.strs, shaped_strs g'.names, shaped_strs g.names, _, rfl, ?_⟩
    rw [eqv_strs g'.names g.names]
    have e13 := e2.trans e3
    have e03 := e1.trans e13
    by_cases hnm : es'.map (·.nm) = es.map (·.nm)
    case neg =>
      refine iteTb (by rw [decide_eq_false hnm]; rfl) ?_
      refine iteT ?_
      have : rivB cs es es' = false := by unfold rivB; rw [decide_eq_false hnm]; rfl
      show Q (.bl false) H3
      rw [← this]
      exact kk _ e03
    refine iteFb (by rw [decide_eq_true hnm]; rfl) ?_
    have g3 := g.ext e03
    have g3' := g'.ext e03
    refine ⟨_, rfl, a', _, dx', _, rfl, e13 _ _ ha', Z.cls, hK, n, es', a', kc', kb', kr', rfl, g3', _, rfl, ?_⟩
    have hrv : rivB cs es es' = ((brk es').isNone && (es.zip es').all fun p => cbB cs p.1 p.2) := by unfold rivB; rw [decide_eq_true hnm, Bool.true_and]
    cases hbk : (brk es').isNone with
    | false =>
      refine iteT ?_
      rw [hbk, Bool.false_and] at hrv
      show Q (.bl false) H3
      rw [← hrv]
      exact kk _ e03
    | true =>
      refine iteF ?_
      rw [hbk, Bool.true_and] at hrv
      refine ⟨_, rfl, a, _, dx, _, rfl, e13 _ _ ha, Z.cls, hN, n, es, a, kc, kb, kr, rfl, g3, fun l4 hl4 => ?_⟩
      have e4 : Ext H3 (upd H3 l4 (.lst ((es.map (·.nm)).map V.str))) := Ext.upd hl4
      have hl44 : (upd H3 l4 (.lst ((es.map (·.nm)).map V.str))) l4 = some (.lst ((es.map (·.nm)).map V.str)) := upd_same
      generalize (upd H3 l4 (.lst ((es.map (·.nm)).map V.str))) = H4 at e4 hl44 ⊢
      have e04 := e03.trans e4
      have hlen : es'.length = es.length := by have := congrArg List.length hnm; rwa [List.length_map, List.length_map] at this
      refine ⟨l4, rfl, ⟨_, .inl (.inl hl44)⟩, fun D hD => ?_⟩
      refine lcm_list (xs := (es.map (·.nm)).map V.str) (R := fun i y _ => ∀ e e', es[i]? = some e → es'[i]? = some e' → y = .bl (cbB cs e e')) (fun _ _ _ _ _ h => h) (.inl (.inl hl44)) hD (by rw [List.length_map, List.length_map, sizeLine_eq]; have := g.le; omega) ?hw (fun i x H5 Qk e5 hx k2 => ?_) (fun H5 ys e5 hD5 hys hR => ?_)
      case hw => intro x; rfl
      · rw [List.getElem?_map, List.getElem?_map] at hx
        obtain ⟨nm, hnmi, rfl⟩ := Option.map_eq_some_iff.mp hx
        obtain ⟨e, he, rfl⟩ := Option.map_eq_some_iff.mp hnmi
        obtain ⟨e', he', hn'⟩ := at_nm hnm he
        refine ⟨_, rfl, _, rfl, _, rfl, _, rfl, n, es, a, kc, kb, kr, n, es', a', kc', kb', kr', ch, cs, i, e, e', rfl, g.ext (e04.trans e5), g'.ext (e04.trans e5), (e04.trans e5) _ _ hch, he, he', hn', fun H6 e6 => k2 _ _ e6 fun x x' hx hx' => ?_⟩
        rw [he] at hx
        rw [he'] at hx'
        cases hx
        cases hx'
        rfl
      · rw [List.length_map, List.length_map] at hys
        have hb := bools_by (g := fun p : Ent × Ent => cbB cs p.1 p.2) (xs := es.zip es') (ys := ys) (by rw [hys, List.length_zip, hlen, Nat.min_self]) fun i x y h1 h2 => by
          obtain ⟨k1, k2⟩ := List.getElem?_zip_eq_some.mp h1
          exact hR i y h2 _ _ k1 k2
        refine ⟨D, (es.zip es').map fun p => cbB cs p.1 p.2, rfl, .inl (.inl (by rw [← hb]; exact hD5)), ?_⟩
        rw [all_id, ← hrv]
        exact kk _ (e04.trans e5)
abbrev sDf : Stmt := top 32
abbrev nDf : List Str := ["program", "other", "name"]
theorem scDf : FnScope nDf ["program", "other"] (defScope sDf) := ⟨rfl, rfl, rfl, by decide +kernel, rfl, by decide +kernel, by decide +kernel⟩
def spDf (cP cC : Addr) (c : Kd → Addr) : Sp := fun vs H Q _ => ∃ n es a kc kb kr n' es' a' kc' kb' kr', vs = [.ref a, .ref a'] ∧ PG cP cC c H n es a kc kb kr ∧ PG cP cC c H n' es' a' kc' kb' kr' ∧ es'.map (·.nm) = es.map (·.nm) ∧
  ∀ H' l, Ext H H' → H l = none → H' l = some (.lst ((dfL es es').map V.str)) → Q (.ref l) H'
theorem df_ok {f pN gN : Addr} {fd fdN : FuncData} (F : Fun K "differing" "differing" sDf f fd) (bn : BN mg) (Z : PF K cP) (ZQ : QF K mg c cE q fdQ) (mgP : mg "Program" = some (.ref cP)) (mB : Met P w K mg base 3 cP "body" (spItem cP cC c fun e => e.bv))
    (hN : PropOf K cP "names" pN gN) (FN : FnOk P w K mg base CX0 1 gN fdN ["self"] (spPG cP cC c fun _ es _ _ _ _ H Q => ∀ l, H l = none → Q (.ref l) (upd H l (.lst ((es.map (·.nm)).map V.str))))) (bN : Binds K fdN ["self"] []) : FnOk P w K mg base CX0 11 f fd ["program", "other"] (spDf cP cC c) := by
  refine F.ok (k := 10) scDf (fun vs H Q E h => ?_) (fun cdv A outer s H vs Q E hr h => ?_)
  · obtain ⟨n, es, a, kc, kb, kr, n', es', a', kc', kb', kr', rfl, _⟩ := h
    rfl
  · obtain ⟨n, es, a, kc, kb, kr, n', es', a', kc', kb', kr', rfl, g, g', hnm, kk⟩ := h
    have r2 : Room 2 _ := hr.mono (show 2 ≤ 10 by decide)
    refine ⟨_, pss_cons (ps_if (PW.pt (pw_or (pt_not (pt_val (pe_is bn (pa_cons (pv 0) (pa_cons (pe_glob (v := .ref cP) (by rfl) mgP rfl) pa_nil))))) (pw_or1 (pt_not (pt_val (pe_is bn (pa_cons (pv 1) (pa_cons (pe_glob (v := .ref cP) (by rfl) mgP rfl) pa_nil)))))))) (pss_one ps_never) pss_nil)
      (pss_cons (ps_if (pt_cmpR (op_neD (by have := hr.units; exact this)) (pe_propD (p := pN) (pv 0) FN r2 bN) (pe_propD (p := pN) (pv 1) FN r2 bN) rfl) (pss_one ps_never) pss_nil)
      (pss_one (ps_ret (pe_lc (own := [("name", 2)]) (g := gName 2) (tt := tTest (tOp (rEqB fun x y b H => REe c 4 x y (!b) H) (tMeth cP "body" (spItem cP cC c fun e => e.bv) [] E0 (tVar 0) (tCons (tVar 2) tNil)) (tMeth cP "body" (spItem cP cC c fun e => e.bv) [] E0 (tVar 1) (tCons (tVar 2) tNil)))) (te := tVar 2) rfl scDf.nd (pi_list (pe_propD (p := pN) (pv 0) FN r2 bN)) (blkOk_by (N := nDf) (sc := defScope sDf) (by decide +kernel))
            (fun _ _ _ _ _ => pg_name (i := 2) scDf.nd rfl (by first | exact .inl rfl | exact .inr rfl)) (fun _ _ _ _ _ => pts_one (pt_cmpR (op_neB (rcB_Ene (n := 9) (m := 4) ZQ (eq_ok ZQ bn 4)) hr) (pe_mt (j := 10) mB hr (by decide) (pv 0) (pa_cons (pv 2) pa_nil)) (pe_mt (j := 10) mB hr (by decide) (pv 1) (pa_cons (pv 2) pa_nil)) rfl)) (fun _ _ _ _ _ => pv 2))))), ?_⟩
    obtain ⟨dx, bv, ha, _⟩ := g.at_
    obtain ⟨dx', bv', ha', _⟩ := g'.at_
    refine ⟨_, rfl, _, _, true, rfl, g.ty Z, Z.kk, _, rfl, iteF ⟨_, rfl, _, _, true, rfl, g'.ty Z, Z.kk, _, rfl, iteF ?_⟩⟩
    refine ⟨_, rfl, a, _, dx, _, rfl, ha, Z.cls, hN, n, es, a, kc, kb, kr, rfl, g, fun l1 hl1 => ?_⟩
    have e2 : Ext H (upd H l1 (.lst ((es.map (·.nm)).map V.str))) := Ext.upd hl1
    have hl11 : (upd H l1 (.lst ((es.map (·.nm)).map V.str))) l1 = some (.lst ((es.map (·.nm)).map V.str)) := upd_same
    generalize (upd H l1 (.lst ((es.map (·.nm)).map V.str))) = H2 at e2 hl11 ⊢
    refine ⟨_, rfl, a', _, dx', _, rfl, e2 _ _ ha', Z.cls, hN, n', es', a', kc', kb', kr', rfl, g'.ext e2, fun l2 hl2 => ?_⟩
    have e3 : Ext H2 (upd H2 l2 (.lst ((es'.map (·.nm)).map V.str))) := Ext.upd hl2
    have hl22 : (upd H2 l2 (.lst ((es'.map (·.nm)).map V.str))) l2 = some (.lst ((es'.map (·.nm)).map V.str)) := upd_same
    generalize (upd H2 l2 (.lst ((es'.map (·.nm)).map V.str))) = H3 at e3 hl22 ⊢
    refine ⟨_, _, .lst (.inl (.inl (e3 _ _ hl11))) Dp.strs, .lst (.inl (.inl hl22)) Dp.strs, shaped_strs g.names, shaped_strs g'.names, _, rfl, iteFb (by rw [eqv_strs g.names g'.names, hnm, decide_eq_true rfl]; rfl) ?_⟩
    have e03 := e2.trans e3
    have g3 := g.ext e03
    refine ⟨_, rfl, a, _, dx, _, rfl, e03 _ _ ha, Z.cls, hN, n, es, a, kc, kb, kr, rfl, g3, fun l4 hl4 => ?_⟩
    have e4 : Ext H3 (upd H3 l4 (.lst ((es.map (·.nm)).map V.str))) := Ext.upd hl4
    have hl44 : (upd H3 l4 (.lst ((es.map (·.nm)).map V.str))) l4 = some (.lst ((es.map (·.nm)).map V.str)) := upd_same
    generalize (upd H3 l4 (.lst ((es.map (·.nm)).map V.str))) = H4 at e4 hl44 ⊢
    have e04 := e03.trans e4
    refine ⟨l4, rfl, ⟨_, .inl (.inl hl44)⟩, fun D hD => ?_⟩
    have wl : Walk (Itl K l4) es.length (fun H => SqL K H l4 ((es.map (·.nm)).map V.str)) (YAt ((es.map (·.nm)).map V.str)) := by
      have := walk_list (K := K) (a := l4) (xs := (es.map (·.nm)).map V.str)
      rwa [List.length_map, List.length_map] at this
    refine lcm_filt wl (dfF es es') (fun i => .str (dfN es i)) (fun H e => .inl (.inl (e _ _ hl44))) hD (by rw [sizeLine_eq]; have := g.le; omega) (fun i H x H' h => by rw [h.1]; exact Ext.rfl') ?hw (fun i x H5 H6 Qt e5 hi hY k2 => ?_) (fun i x H5 H6 H7 Qe e5 hi hY e7 k2 => ?_) (fun H5 e5 hD5 => ?_)
    case hw => intro x; rfl
    · obtain ⟨rfl, hx⟩ := hY
      rw [List.getElem?_map, List.getElem?_map] at hx
      obtain ⟨nm, hnmi, rfl⟩ := Option.map_eq_some_iff.mp hx
      obtain ⟨e, he, rfl⟩ := Option.map_eq_some_iff.mp hnmi
      obtain ⟨e', he', hn'⟩ := at_nm hnm he
      have e06 := e04.trans e5
      have hff : dfF es es' i = !(T.beq e.body e'.body) := by unfold dfF; rw [he, he']
      refine ⟨_, rfl, a, dx, _, rfl, e06 _ _ ha, rfl, _, rfl, n, es, a, kc, kb, kr, i, e, rfl, g.ext e06, he, _, rfl, a', dx', _, rfl, e06 _ _ ha', rfl, _, rfl, n', es', a', kc', kb', kr', i, e', by rw [hn']; rfl, g'.ext e06, he', dfF es es' i, ⟨e.body, e'.body, EE.fx (Fx.of e06) (g.hes e (List.mem_of_getElem? he)).ee, EE.fx (Fx.of e06) (g'.hes e' (List.mem_of_getElem? he')).ee, g.dep (List.mem_of_getElem? he), by rw [hff, Bool.not_not]⟩, fun H7 e7 => ⟨_, rfl, k2 _ e7⟩⟩
    · obtain ⟨rfl, hx⟩ := hY
      rw [List.getElem?_map, List.getElem?_map] at hx
      obtain ⟨nm, hnmi, rfl⟩ := Option.map_eq_some_iff.mp hx
      obtain ⟨e, he, rfl⟩ := Option.map_eq_some_iff.mp hnmi
      refine ⟨_, rfl, ?_⟩
      have := k2 _ Ext.rfl'
      rw [dfN_of he] at this
      exact this
    · refine kk _ D (e04.trans e5) (Same.free (fun b o h => e04 b o h) hD) ?_
      rw [hD5]
      unfold dfL
      rw [List.map_map]
      rfl
end
end MR
end

section
set_option Elab.async false
set_option linter.all false
set_option maxRecDepth 100000
set_option maxHeartbeats 1000000
/-! The law's defs: numbers drawn from the script, and the pool of them. -/
namespace MR
open PySem PySem.Spec PyProof.Rows L2 LY GW
section
variable {P : Program} {w : World} {K : PySem.W.Frag} {mg : Str → Option Value} {base : Heap}
theorem boot_bAbs : bootBuiltins "abs" = some (.builtin "abs") := by decide +kernel
abbrev sDraw : Stmt := top 34
theorem scDraw : FnScope ["cell", "k", "many", "primes"] ["cell", "k", "many"] (defScope sDraw) := ⟨rfl, rfl, rfl, by decide +kernel, rfl, by decide +kernel, by decide +kernel⟩
def primesL : List Int := [1000003, 1000033, 1000037, 1000039, 1000081, 1000099, 1000117, 1000121, 1000133, 1000151, 1000159, 1000171, 1000183, 1000187, 1000193, 1000199]
def spDraw : Sp := fun vs H Q _ => ∃ (cell k many : Int), vs = [.int cell, .int k, .int many] ∧ 0 ≤ k ∧ k < 1000 ∧ 1 ≤ many ∧ ∀ r H', 0 ≤ r → r < many → Ext H H' → Q (.int r) H'
theorem draw_ok {f : Addr} {fd : FuncData} (F : Fun K "_law_draw" "_law_draw" sDraw f fd) (bn : BN mg) : FnOk P w K mg base CX0 1 f fd ["cell", "k", "many"] spDraw := by
  refine F.ok scDraw (fun vs H Q E h => ?_) (fun cdv A outer s H vs Q E hr h => ?_)
  · obtain ⟨cell, k, many, rfl, _⟩ := h
    rfl
  · obtain ⟨cell, k, many, rfl, hk0, hk1, hb, kk⟩ := h
    refine ⟨_, pss_cons (ps_asg (pe_tup (pa_cons pe_int (pa_cons pe_int (pa_cons pe_int (pa_cons pe_int (pa_cons pe_int (pa_cons pe_int (pa_cons pe_int (pa_cons pe_int (pa_cons pe_int (pa_cons pe_int (pa_cons pe_int (pa_cons pe_int (pa_cons pe_int (pa_cons pe_int (pa_cons pe_int (pa_cons pe_int pa_nil))))))))))))))))) (pg_name (i := 3) scDraw.nd rfl (.inl rfl)))
      (pss_one (ps_ret (pe_op op_mod (pe_op op_mod (pe_op op_add (pe_op op_mul (pv 0) pe_int) (pe_op op_mul (pv 1) pe_int)) (pe_ix ix_tup (pv 3) (pe_op op_mod (pv 1) pe_int) (fun _ _ => rfl))) (pv 2)))), ?_⟩
    refine ⟨(show 16 ≤ sizeLine by decide), fun p hp => ?_⟩
    have hpp : (upd H p (.tup (primesL.map V.int))) p = some (.tup (primesL.map V.int)) := upd_same
    have ep : Ext H (upd H p (.tup (primesL.map V.int))) := Ext.upd hp
    have hj : (k % 16).toNat < primesL.length := by show (k % 16).toNat < 16; omega
    have hpr : 0 < primesL[(k % 16).toNat] := (by decide : ∀ z ∈ primesL, (0 : Int) < z) _ (List.getElem_mem hj)
    refine ⟨_, rfl, _, _, rfl, rfl, .inr ⟨by decide, by decide⟩, _, rfl, _, _, rfl, rfl, .inr ⟨by decide, by decide⟩, _, _, rfl, rfl, _, rfl, _, rfl, _, _, rfl, rfl, (by show (0 : Int) < 16; decide), p, primesL.map V.int, k % 16, .int primesL[(k % 16).toNat], rfl, rfl, .inl (.inl hpp), ?_, _, _, rfl, rfl, hpr, _, rfl, _, _, rfl, rfl, (by omega), kk _ _ (Int.emod_nonneg _ (by omega)) (Int.emod_lt_of_pos _ (by omega)) ep⟩
    unfold atI ixN
    rw [if_pos (by omega), if_pos (by show k % 16 < 16; omega)]
    show (primesL.map V.int)[(k % 16).toNat]? = _
    rw [List.getElem?_map, List.getElem?_eq_getElem hj]
    rfl
abbrev sCellAt : Stmt := top 35
theorem scCellAt : FnScope ["script", "k"] ["script", "k"] (defScope sCellAt) := ⟨rfl, rfl, rfl, by decide +kernel, rfl, by decide +kernel, by decide +kernel⟩
def spCellAt (K : PySem.W.Frag) : Sp := fun vs H Q _ => ∃ (sl : Addr) (k : Int) (xs : List Int), vs = [.ref sl, .int k] ∧ 0 ≤ k ∧ k < 100 ∧ SqL K H sl (xs.map V.int) ∧ ∀ z H', 0 ≤ z → Ext H H' → Q (.int z) H'
theorem cellAt_ok {f : Addr} {fd : FuncData} (F : Fun K "_law_cell_at" "_law_cell_at" sCellAt f fd) (bn : BN mg) (nAbs : mg "abs" = none) (cD : Cal P w K mg base 1 "_law_draw" spDraw) : FnOk P w K mg base CX0 2 f fd ["script", "k"] (spCellAt K) := by
  refine F.ok (k := 1) scCellAt (fun vs H Q E h => ?_) (fun cdv A outer s H vs Q E hr h => ?_)
  · obtain ⟨sl, k, xs, rfl, _⟩ := h
    rfl
  · obtain ⟨sl, k, xs, rfl, h0, h100, hs, kk⟩ := h
    refine ⟨_, pss_cons (ps_if (pt_cmpR op_lt (pv 1) (pe_len bn (pa_cons (pv 0) pa_nil)) rfl) (pss_one (ps_ret (pe_callB call_abs (by rfl) nAbs boot_bAbs (pa_cons (pe_ix ix_list (pv 0) (pv 1) (fun _ _ => rfl)) pa_nil)))) pss_nil)
      (pss_one (ps_ret (pe_c (j := 1) cD hr (by decide) (pa_cons (pe_op op_add (pe_callB call_abs (by rfl) nAbs boot_bAbs (pa_cons (pe_callB (cr_sum rfl) (by rfl) (bn "sum" (by decide)) boot_bSum (pa_cons (pv 0) pa_nil)) pa_nil)) (pe_op op_mul pe_int (pv 1))) (pa_cons (pv 1) (pa_cons pe_int pa_nil)))))), ?_⟩
    have habs : ∀ i : Int, 0 ≤ (if i < 0 then -i else i) := fun i => by split <;> omega
    refine ⟨_, rfl, _, rfl, sl, _, rfl, .inl hs, _, _, rfl, rfl, _, rfl, ite2 (fun h => ?_) fun h => ?_⟩
    · have hk : k < (xs.map V.int).length := of_decide_eq_true h
      have hl : k.toNat < xs.length := by rw [List.length_map] at hk; omega
      refine ⟨_, rfl, _, rfl, sl, _, k, .int xs[k.toNat], rfl, rfl, hs, ?_, _, rfl, kk _ _ (habs _) Ext.rfl'⟩
      unfold atI ixN
      rw [if_pos h0, if_pos (by omega)]
      show (xs.map V.int)[k.toNat]? = _
      rw [List.getElem?_map, List.getElem?_eq_getElem hl]
      rfl
    · exact ⟨_, rfl, sl, xs, rfl, hs, _, rfl, _, rfl, _, _, rfl, rfl, .inl ⟨by decide, by decide⟩, _, _, rfl, rfl, _, rfl, _, k, 999983, rfl, h0, by omega, by decide, fun r H' r0 _ e => kk r H' r0 e⟩
abbrev sDigits : Stmt := top 36
abbrev nDigits : List Str := ["script", "at", "many", "base", "cell", "found", "left", "turn", "blend", "more"]
theorem scDigits : FnScope nDigits ["script", "at", "many", "base"] (defScope sDigits) := ⟨rfl, rfl, rfl, by decide +kernel, rfl, by decide +kernel, by decide +kernel⟩
def spDigits (K : PySem.W.Frag) : Sp := fun vs H Q _ => ∃ (sl : Addr) (at' : Int) (m : Nat) (base' : Int) (xs : List Int), vs = [.ref sl, .int at', .int m, .int base'] ∧ 0 ≤ at' ∧ at' < 100 ∧ m ≤ 1000 ∧ 0 < base' ∧ base' < 1073741824 ∧ SqL K H sl (xs.map V.int) ∧
  ∀ H' F (zs : List Int), Ext H H' → H F = none → H' F = some (.lst (zs.map V.int)) → zs.length = m → Q (.ref F) H'
theorem digits_ok {f : Addr} {fd : FuncData} (F : Fun K "_law_digits" "_law_digits" sDigits f fd) (bn : BN mg) (cD : Cal P w K mg base 1 "_law_draw" spDraw) (cA : Cal P w K mg base 2 "_law_cell_at" (spCellAt K)) : FnOk P w K mg base CX0 3 f fd ["script", "at", "many", "base"] (spDigits K) := by
  refine F.ok (k := 2) scDigits (fun vs H Q E h => ?_) (fun cdv A outer s H vs Q E hr h => ?_)
  · obtain ⟨sl, at', m, base', xs, rfl, _⟩ := h
    rfl
  · obtain ⟨sl, at', m, base', xs, rfl, h0, h1, hm, hb0, hb1, hs, kk⟩ := h
    refine ⟨_, pss_cons (ps_par rfl scDigits.nd (i := 4) (j := 5) rfl rfl (by decide) rfl rfl (pa_cons (pe_c (j := 2) cA hr (by decide) (pa_cons (pv 0) (pa_cons (pv 1) pa_nil))) (pa_cons (pe_lst pa_nil) pa_nil)) (by rfl))
      (pss_cons (ps_asg (pe_op op_sub (pv 4) (pe_op op_pow pe_int pe_int)) (pg_name (i := 6) scDigits.nd rfl (by first | exact .inl rfl | exact .inr rfl)))
      (pss_cons (ps_for PassesOwn.never rfl (pi_range1 (by rfl) (bn "range" (by decide)) (pa_cons (pv 2) pa_nil)) (pg_name (i := 7) scDigits.nd rfl (by first | exact .inl rfl | exact .inr rfl))
        (pss_one (ps_if (pt_cmpR op_ge (pv 4) (pe_op op_pow pe_int pe_int) rfl)
          (pss_cons (ps_expr (pe_bm PySem.F.plainAttrs_list PySem.F.slot_list_append PySem.F.type_list_append mt_append (pv 5) (pa_cons (pe_op op_mod (pv 6) (pv 3)) pa_nil)))
            (pss_one (ps_asg (pe_op op_fdiv (pv 6) (pv 3)) (pg_name (i := 6) scDigits.nd rfl (by first | exact .inl rfl | exact .inr rfl)))))
          (pss_cons (ps_asg (pe_c (j := 2) cD hr (by decide) (pa_cons (pe_op op_mul (pe_op op_add (pv 4) (pe_op op_mul pe_int (pv 7))) (pe_op op_add (pe_op op_add (pv 4) (pe_op op_mul pe_int (pv 7))) pe_int)) (pa_cons (pe_op op_add (pe_op op_mod (pv 7) pe_int) pe_int) (pa_cons pe_int pa_nil)))) (pg_name (i := 8) scDigits.nd rfl (by first | exact .inl rfl | exact .inr rfl)))
          (pss_cons (ps_asg (pe_c (j := 2) cD hr (by decide) (pa_cons (pe_op op_add (pe_op op_mul (pe_op op_add (pv 4) (pe_op op_mul pe_int (pv 7))) (pe_op op_add (pv 4) pe_int)) (pe_op op_mul pe_int (pv 7))) (pa_cons (pe_op op_add (pe_op op_mod (pv 7) pe_int) pe_int) (pa_cons pe_int pa_nil)))) (pg_name (i := 9) scDigits.nd rfl (by first | exact .inl rfl | exact .inr rfl)))
          (pss_one (ps_expr (pe_bm PySem.F.plainAttrs_list PySem.F.slot_list_append PySem.F.type_list_append mt_append (pv 5) (pa_cons (pe_op op_mod (pe_op op_add (pe_op op_mul (pv 8) pe_int) (pv 9)) (pv 3)) pa_nil)))))))))
      (pss_one (ps_ret (pv 5))))), ?_⟩
    refine ⟨_, rfl, _, rfl, sl, at', xs, rfl, h0, h1, hs, fun cell H1 hc0 e1 => ⟨(show 0 ≤ sizeLine by decide), fun Fd hF => ?_⟩⟩
    have e2 : Ext H1 (upd H1 Fd (.lst [])) := Ext.upd hF
    have h2F : (upd H1 Fd (.lst [])) Fd = some (.lst (([] : List Int).map V.int)) := upd_same
    have nF : H Fd = none := by
      cases q : H Fd with
      | none => rfl
      | some u => have := e1 _ _ q; rw [hF] at this; cases this
    have e12 := e1.trans e2
    generalize (upd H1 Fd (.lst [])) = H2 at e2 h2F e12 ⊢
    refine ⟨_, _, rfl, _, rfl, _, _, rfl, rfl, ⟨by decide, by decide, by decide⟩, _, _, rfl, rfl, ?_⟩
    refine ⟨_, rfl, m, rfl, by omega, by omega, for_range (lo := 0) (n := m) (fun i σ H' => ∃ (zs : List Int) (lf : Int) (u7 u8 u9 : Option V), zs.length = i ∧ H' Fd = some (.lst (zs.map V.int)) ∧ (∀ b o, b ≠ Fd → H2 b = some o → H' b = some o) ∧ σ = [some (.ref sl), some (.int at'), some (.int m), some (.int base'), some (.int cell), some (.ref Fd), some (.int lf), u7, u8, u9]) ⟨[], _, none, none, none, rfl, h2F, fun b o _ h => h, rfl⟩ (fun i σ H' hi ⟨zs, lf, u7, u8, u9, hz, hf, hk, hσ⟩ => ?_) (fun σ H' ⟨zs, lf, u7, u8, u9, hz, hf, hk, hσ⟩ => ?_)⟩
    · subst hσ
      refine ⟨_, rfl, _, _, rfl, rfl, ⟨by decide, by decide, by decide⟩, _, _, rfl, rfl, _, rfl, ite2 (fun hc => ?_) fun hc => ?_⟩
      · refine ⟨_, rfl, .inl ⟨rfl, _, .inl (.inl hf)⟩, _, rfl, _, rfl, _, _, rfl, rfl, hb0, Fd, _, _, rfl, rfl, hf, by rw [List.length_map, sizeLine_eq]; omega, ?_⟩
        exact ⟨_, rfl, _, rfl, _, _, rfl, rfl, ⟨hb0, hb1⟩, zs ++ [lf % base'], _, _, _, _, by rw [List.length_append, hz]; rfl, by rw [upd_same, List.map_append]; rfl, fun b o hb h => by rw [upd_ne hb]; exact hk b o hb h, rfl⟩
      · have hlt : cell < 1000000000000000000 := by
          have h' : ¬ ((10 : Int) ^ (18 : Int).toNat ≤ cell) := fun z => hc (decide_eq_true z)
          have e : (10 : Int) ^ (18 : Int).toNat = 1000000000000000000 := by decide
          rw [e] at h'
          omega
        have hi' : (i : Int) < 1000 := by omega
        have hm9 := Int.emod_nonneg (i : Int) (show (9 : Int) ≠ 0 by decide)
        have hm9' := Int.emod_lt_of_pos (i : Int) (show (0 : Int) < 9 by decide)
        have hm7 := Int.emod_nonneg (i : Int) (show (7 : Int) ≠ 0 by decide)
        have hm7' := Int.emod_lt_of_pos (i : Int) (show (0 : Int) < 7 by decide)
        have hi0 : (0 : Int) + (i : Int) = i := Int.zero_add _
        refine ⟨_, rfl, _, rfl, _, _, rfl, rfl, .inl ⟨by decide, by decide⟩, _, _, rfl, rfl, _, rfl, _, rfl, _, _, rfl, rfl, .inl ⟨by decide, by decide⟩, _, _, rfl, rfl, _, _, rfl, rfl, _, _, rfl, rfl, .inl ⟨?b0, ?b1⟩, _, rfl, _, _, rfl, rfl, (by show (0 : Int) < 9; decide), _, _, rfl, rfl, _, (0 + (i : Int)) % 9 + 1, 999983, rfl, by rw [hi0]; omega, by rw [hi0]; omega, by decide, fun bl H3 _ _ e3 => ?_⟩
        case b0 => show -(2 ^ 64) < cell + 977 * (0 + (i : Int)); omega
        case b1 => show cell + 977 * (0 + (i : Int)) < 2 ^ 64; omega
        refine ⟨_, rfl, _, rfl, _, _, rfl, rfl, .inl ⟨by decide, by decide⟩, _, _, rfl, rfl, _, rfl, _, _, rfl, rfl, _, _, rfl, rfl, .inl ⟨?b2, ?b3⟩, _, rfl, _, _, rfl, rfl, .inl ⟨by decide, by decide⟩, _, _, rfl, rfl, _, rfl, _, _, rfl, rfl, (by show (0 : Int) < 7; decide), _, _, rfl, rfl, _, (0 + (i : Int)) % 7 + 2, 1000003, rfl, by rw [hi0]; omega, by rw [hi0]; omega, by decide, fun mo H4 _ _ e4 => ?_⟩
        case b2 => show -(2 ^ 64) < cell + 31 * (0 + (i : Int)); omega
        case b3 => show cell + 31 * (0 + (i : Int)) < 2 ^ 64; omega
        have e34 := e3.trans e4
        have hf4 := e34 _ _ hf
        refine ⟨_, rfl, .inl ⟨rfl, _, .inl (.inl hf4)⟩, _, rfl, _, _, rfl, rfl, .inr ⟨by decide, by decide⟩, _, rfl, _, _, rfl, rfl, _, rfl, _, _, rfl, rfl, hb0, Fd, _, _, rfl, rfl, hf4, by rw [List.length_map, sizeLine_eq]; omega, zs ++ [(bl * 1000003 + mo) % base'], _, _, _, _, by rw [List.length_append, hz]; rfl, by rw [upd_same, List.map_append]; rfl, fun b o hb h => by rw [upd_ne hb]; exact e34 _ _ (hk b o hb h), rfl⟩
    · subst hσ
      refine ⟨_, rfl, kk H' Fd zs (fun b o h => hk b o (fun z => by rw [z, nF] at h; cases h) (e12 _ _ h)) nF hf hz⟩
end
end MR
end

section
set_option Elab.async false
set_option linter.all false
set_option maxRecDepth 100000
set_option maxHeartbeats 1000000
/-! The law's defs: the draws. -/
namespace MR
open PySem PySem.Spec PyProof.Rows L2 LY GW
/-- all but the draws stays -/
def But (st : Addr) (H H' : Hp) : Prop := ∀ b o, b ≠ st → H b = some o → H' b = some o
theorem But.trans {st : Addr} {H H1 H2 : Hp} (a : But st H H1) (b : But st H1 H2) : But st H H2 := fun x o hx h => b x o hx (a x o hx h)
theorem But.of {st : Addr} {H H' : Hp} (e : Ext H H') : But st H H' := fun b o _ h => e b o h
theorem But.upd {st : Addr} {H : Hp} {u : HO} : But st H (upd H st u) := fun b o hb h => by rw [upd_ne hb]; exact h
theorem SqL.but {K : PySem.W.Frag} {st l : Addr} {H H' : Hp} {xs : List V} (hl : l ≠ st) (e : But st H H') (h : SqL K H l xs) : SqL K H' l xs := by
  rcases h with (h | ⟨o, h⟩) | h
  · exact .inl (.inl (e _ _ hl h))
  · exact .inl (.inr ⟨o, e _ _ hl h⟩)
  · exact .inr h
/-- the draws that are left -/
def StA (K : PySem.W.Frag) (st : Addr) (sc : Addr × List Int) (H : Hp) : Prop := ∃ xs : List Int, H st = some (.lst (xs.map V.int)) ∧ xs.length ≤ 1000
theorem StA.ext {K : PySem.W.Frag} {st : Addr} {sc : Addr × List Int} {H H' : Hp} (e : Ext H H') (h : StA K st sc H) : StA K st sc H' := by
  obtain ⟨xs, h1, h2⟩ := h
  exact ⟨xs, e _ _ h1, h2⟩
/-- the state went on -/
structure Nxt (K : PySem.W.Frag) (st : Addr) (sc : Addr × List Int) (H H' : Hp) : Prop where
  but : But st H H'
  st : StA K st sc H'
theorem Nxt.trans {K : PySem.W.Frag} {st : Addr} {sc : Addr × List Int} {H H1 H2 : Hp} (a : Nxt K st sc H H1) (b : Nxt K st sc H1 H2) : Nxt K st sc H H2 := ⟨a.but.trans b.but, b.st⟩
theorem Nxt.ext {K : PySem.W.Frag} {st : Addr} {sc : Addr × List Int} {H H1 H2 : Hp} (a : Nxt K st sc H H1) (e : Ext H1 H2) : Nxt K st sc H H2 := ⟨a.but.trans (But.of e), a.st.ext e⟩
theorem Nxt.of {K : PySem.W.Frag} {st : Addr} {sc : Addr × List Int} {H H2 : Hp} (s : StA K st sc H) (e : Ext H H2) : Nxt K st sc H H2 := ⟨But.of e, s.ext e⟩
theorem StA.is {K : PySem.W.Frag} {st : Addr} {sc : Addr × List Int} {H : Hp} (h : StA K st sc H) : ∃ xs, H st = some (.lst xs) := let ⟨_, h, _⟩ := h; ⟨_, h⟩
theorem StA.fx {K : PySem.W.Frag} {st : Addr} {sc : Addr × List Int} {H H' : Hp} (h : StA K st sc H) (e : But st H H') : Fx H H' := fun b o f hb => e b o (fun z => by
  obtain ⟨xs, hx⟩ := h.is
  rw [z, hx] at hb
  cases hb
  exact f) hb
theorem StA.new {K : PySem.W.Frag} {st : Addr} {sc : Addr × List Int} {H0 H : Hp} {D : Addr} {o : HO} (h0 : StA K st sc H0) (hD : H0 D = none) (h : StA K st sc H) : StA K st sc (upd H D o) := by
  have hDs : st ≠ D := fun z => by
    obtain ⟨xs, hx⟩ := h0.is
    rw [z, hD] at hx
    cases hx
  obtain ⟨xs, h1, h2⟩ := h
  exact ⟨xs, by rw [upd_ne hDs]; exact h1, h2⟩
section
variable {P : Program} {w : World} {K : PySem.W.Frag} {mg : Str → Option Value} {base : Heap}
abbrev sTake : Stmt := top 37
theorem scTake : FnScope ["draws", "many"] ["draws", "many"] (defScope sTake) := ⟨rfl, rfl, rfl, by decide +kernel, rfl, by decide +kernel, by decide +kernel⟩
def spNext (K : PySem.W.Frag) : Sp := fun vs H Q _ => ∃ (st : Addr) (sc : Addr × List Int) (below : Int), vs = [.ref st, .int below] ∧ StA K st sc H ∧ 1 ≤ below ∧ ∀ r H', 0 ≤ r → r < below → Nxt K st sc H H' → Q (.int r) H'
theorem shaped_ints {xs : List Int} : SeqAt.shaped (.list (xs.map .int)) = true := by
  refine shaped_nb (by rw [nb]; exact nb_ints) ?_
  rw [PyData.depth, depth_ints]
  decide
theorem seq0 {n : Nat} (h : 0 < n) : seqIndex? 0 n = some 0 := by
  show (if (decide ((0 : Int) ≤ 0) && decide ((0 : Int) < (n : Int))) = true then some (0 : Int).toNat else none) = some 0
  rw [if_pos (by rw [Bool.and_eq_true, decide_eq_true_eq, decide_eq_true_eq]; omega)]
  rfl
theorem take_ok {f : Addr} {fd : FuncData} (F : Fun K "_law_take" "_law_take" sTake f fd) (bn : BN mg) : FnOk P w K mg base CX0 1 f fd ["draws", "many"] (spNext K) := by
  refine F.ok scTake (fun vs H Q E h => ?_) (fun cdv A outer s H vs Q E hr h => ?_)
  · obtain ⟨st, sc, below, rfl, _⟩ := h
    rfl
  · obtain ⟨st, sc, below, rfl, ⟨xs, h1, h2⟩, hb, kk⟩ := h
    refine ⟨_, pss_one (ps_ret (pe_ifExp (pt_cmpR (op_neD (by have := hr.units; exact this)) (pv 0) (pe_lst pa_nil) rfl) (pe_op op_mod (pe_bm PySem.F.plainAttrs_list PySem.F.slot_list_pop PySem.F.type_list_pop mt_popAt (pv 0) (pa_cons pe_int pa_nil)) (pv 1)) pe_int)), ?_⟩
    refine ⟨_, rfl, (show 0 ≤ sizeLine by decide), fun q hq => ?_⟩
    have eq : Ext H (upd H q (.lst [])) := Ext.upd hq
    have hqq : (upd H q (.lst [])) q = some (.lst []) := upd_same
    generalize (upd H q (.lst [])) = H1 at eq hqq ⊢
    have h11 := eq _ _ h1
    refine ⟨.list (xs.map .int), .list [], .lst (.inl (.inl h11)) Dp.ints, .lst (.inl (.inl hqq)) .nil, shaped_ints, shaped_ints (xs := []), _, rfl, ?_⟩
    cases xs with
    | nil =>
      refine iteFb (by rfl) ?_
      exact kk 0 H1 (Int.le_refl _) (by omega) ⟨But.of eq, [], h11, h2⟩
    | cons x r =>
      refine iteTb (by rfl) ?_
      refine ⟨_, rfl, .inl ⟨rfl, _, .inl (.inl h11)⟩, st, _, 0, 0, .int x, rfl, rfl, h11, by decide, by decide, seq0 (by simp), rfl, _, rfl, _, _, rfl, rfl, by omega, ?_⟩
      refine kk _ _ (Int.emod_nonneg _ (by omega)) (Int.emod_lt_of_pos _ (by omega)) ⟨(But.of eq).trans But.upd, r, ?_, ?_⟩
      · rw [upd_same]
        rfl
      · rw [List.length_cons] at h2
        omega
abbrev sPool : Stmt := top 38
theorem scPool : FnScope ["script", "bases", "found", "at", "base"] ["script", "bases"] (defScope sPool) := ⟨rfl, rfl, rfl, by decide +kernel, rfl, by decide +kernel, by decide +kernel⟩
def spPool (K : PySem.W.Frag) : Sp := fun vs H Q _ => ∃ (sl bt : Addr) (xs : List Int), vs = [.ref sl, .ref bt] ∧ SqL K H sl (xs.map V.int) ∧ H bt = some (.tup [.int 1000003, .int 999983]) ∧
  ∀ H' F (zs : List Int), Ext H H' → H F = none → H' F = some (.lst (zs.map V.int)) → zs.length ≤ 300 → Q (.ref F) H'
theorem pool_ok {f : Addr} {fd : FuncData} (F : Fun K "_law_pool" "_law_pool" sPool f fd) (bn : BN mg) (cG : Cal P w K mg base 3 "_law_digits" (spDigits K)) : FnOk P w K mg base CX0 4 f fd ["script", "bases"] (spPool K) := by
  refine F.ok (k := 3) scPool (fun vs H Q E h => ?_) (fun cdv A outer s H vs Q E hr h => ?_)
  · obtain ⟨sl, bt, xs, rfl, _⟩ := h
    rfl
  · obtain ⟨sl, bt, xs, rfl, hs, hb, kk⟩ := h
    refine ⟨_, pss_cons (ps_asg (pe_lst pa_nil) (pg_name (i := 2) scPool.nd rfl (by first | exact .inl rfl | exact .inr rfl)))
      (pss_cons (ps_for PassesOwn.never rfl (pi_enumT (by rfl) (bn "enumerate" (by decide)) (pa_cons (pv 1) pa_nil)) (pg_tup rfl (pgs_cons (pg_name (i := 3) scPool.nd rfl (by first | exact .inl rfl | exact .inr rfl)) (pgs_cons (pg_name (i := 4) scPool.nd rfl (by first | exact .inl rfl | exact .inr rfl)) pgs_nil)))
        (pss_one (ps_asg (pe_op op_cat (pv 2) (pe_c (j := 3) cG hr (by decide) (pa_cons (pv 0) (pa_cons (pv 3) (pa_cons pe_int (pa_cons (pv 4) pa_nil)))))) (pg_name (i := 2) scPool.nd rfl (by first | exact .inl rfl | exact .inr rfl)))))
      (pss_one (ps_ret (pv 2)))), ?_⟩
    refine ⟨(show 0 ≤ sizeLine by decide), fun l hl => ?_⟩
    have el : Ext H (upd H l (.lst [])) := Ext.upd hl
    have hll : (upd H l (.lst [])) l = some (.lst (([] : List Int).map V.int)) := upd_same
    generalize (upd H l (.lst [])) = H1 at el hll ⊢
    refine ⟨_, rfl, bt, _, rfl, .inl (.inl (el _ _ hb)), for_it (walk_enumT (xs := [.int 1000003, .int 999983])) (fun j σ Ha => ∃ l zs u3 u4, Ext H Ha ∧ H l = none ∧ Ha l = some (.lst ((zs : List Int).map V.int)) ∧ zs.length = 150 * j ∧ σ = [some (.ref sl), some (.ref bt), some (.ref l), u3, u4]) ⟨l, [], none, none, el, hl, hll, rfl, rfl⟩ (fun j σ Ha _ ⟨l, zs, u3, u4, e, _⟩ => .inl (.inl (e _ _ hb))) (fun j x σ Ha Hb hj ⟨l', zs, u3, u4, e, nl, hz, hzl, hσ⟩ hY => ?_) (fun σ Ha ⟨l', zs, u3, u4, e, nl, hz, hzl, hσ⟩ => ?_)⟩
    · subst hσ
      obtain ⟨T, x', y', rfl, hT, rfl, hx, hy⟩ := hY
      have hx : some (V.int (j : Nat)) = some x' := hx
      cases hx
      have hy : ([V.int 1000003, V.int 999983] : List V)[j]? = some y' := hy
      have hj2 : j < 2 := hj
      obtain ⟨bs, rfl, hb0, hb1⟩ : ∃ bs : Int, y' = .int bs ∧ 0 < bs ∧ bs < 1073741824 := by
        match j, hy, hj2 with
        | 0, hy, _ => cases hy; exact ⟨_, rfl, by decide, by decide⟩
        | 1, hy, _ => cases hy; exact ⟨_, rfl, by decide, by decide⟩
      have eT : Ext H (upd Ha T (.tup [.int (j : Nat), .int bs])) := e.upd' hT
      have hz2 : (upd Ha T (.tup [.int (j : Nat), .int bs])) l' = some (.lst (zs.map V.int)) := Ext.upd hT _ _ hz
      refine ⟨T, _, rfl, .inl (.inl upd_same), rfl, _, _, rfl, _, _, rfl, rfl, ?_⟩
      generalize (upd Ha T (.tup [.int (j : Nat), .int bs])) = Hc at eT hz2 ⊢
      refine ⟨_, rfl, _, rfl, _, rfl, _, rfl, sl, (j : Nat), 150, bs, xs, rfl, by omega, by omega, by decide, hb0, hb1, SqL.ext hs eT, fun Hd Fd ws ed nF hF hws => ⟨l', Fd, _, _, rfl, rfl, ed _ _ hz2, hF, by rw [List.length_map, List.length_map, sizeLine_eq]; omega, fun p hp => ⟨p, zs ++ ws, _, _, (eT.trans ed).upd' hp, ?_, by rw [upd_same, List.map_append], by rw [List.length_append]; omega, rfl⟩⟩⟩
      cases q : H p with
      | none => rfl
      | some u => have := (eT.trans ed) _ _ q; rw [hp] at this; cases this
    · subst hσ
      exact ⟨_, rfl, kk Ha l' zs e nl hz (by rw [hzl]; decide)⟩
end
end MR
end

section
set_option Elab.async false
set_option linter.all false
set_option maxRecDepth 100000
set_option maxHeartbeats 1000000
/-! The law's bodies. -/
namespace MR
open PySem PySem.Spec PyProof.Rows L2 LY GW
/-- the tuple of a law's body -/
def lTup (us : List V) (qt : Addr) : Tag → List V
  | .const n => [.str "const", .int n]
  | .arg => [.str "arg"]
  | .call f => .str "call" :: .str f :: us
  | .choose => [.str "choose", us.headD .non, .ref qt]
mutual
/-- v is a law's body that says t -/
def LT (H : Hp) : T → V → Prop
  | .mk g ks, v => ∃ p us qt, v = .ref p ∧ H p = some (.tup (lTup us qt g)) ∧ g.arity ks.length ∧ (g = .choose → H qt = some (.tup us.tail)) ∧ LTs H ks us
def LTs (H : Hp) : List T → List V → Prop
  | [], us => us = []
  | t :: r, us => ∃ u s, us = u :: s ∧ LT H t u ∧ LTs H r s
end
section
variable {H H' : Hp}
mutual
theorem LT.fx (e : Fx H H') : ∀ {t : T} {v : V}, LT H t v → LT H' t v
  | .mk g ks, v, h => by
    rw [LT] at h ⊢
    obtain ⟨p, us, qt, h1, h2, h3, h4, h5⟩ := h
    exact ⟨p, us, qt, h1, e _ _ True.intro h2, h3, fun z => e _ _ True.intro (h4 z), LTs.fx e h5⟩
theorem LTs.fx (e : Fx H H') : ∀ {ts : List T} {us : List V}, LTs H ts us → LTs H' ts us
  | [], us, h => by rw [LTs] at h ⊢; exact h
  | t :: r, us, h => by
    rw [LTs] at h ⊢
    obtain ⟨u, s, h1, h2, h3⟩ := h
    exact ⟨u, s, h1, LT.fx e h2, LTs.fx e h3⟩
end
theorem LTs.len : ∀ {ts : List T} {us : List V}, LTs H ts us → us.length = ts.length
  | [], us, h => by rw [LTs] at h; rw [h]; rfl
  | t :: r, us, h => by
    rw [LTs] at h
    obtain ⟨u, s, rfl, _, h3⟩ := h
    rw [List.length_cons, List.length_cons, LTs.len h3]
theorem LTs.get : ∀ {ts : List T} {us : List V} {i : Nat} {t : T}, LTs H ts us → ts[i]? = some t → ∃ u, us[i]? = some u ∧ LT H t u
  | [], _, _, _, _, e => by simp at e
  | t :: r, us, 0, t', h, e => by
    rw [LTs] at h
    obtain ⟨u, s, rfl, h2, _⟩ := h
    simp at e
    subst e
    exact ⟨u, by simp, h2⟩
  | t :: r, us, i + 1, t', h, e => by
    rw [LTs] at h
    obtain ⟨u, s, rfl, _, h3⟩ := h
    obtain ⟨v, hv, q⟩ := LTs.get h3 (by simpa using e)
    exact ⟨v, by simpa using hv, q⟩
theorem LTs.of : ∀ {us : List V} {ok : T → Prop}, (∀ (i : Nat) (u : V), us[i]? = some u → ∃ t, LT H t u ∧ ok t) → ∃ ts, LTs H ts us ∧ ts.length = us.length ∧ ∀ t ∈ ts, ok t
  | [], ok, _ => ⟨[], by rw [LTs], rfl, fun t h => by simp at h⟩
  | u :: r, ok, h => by
    obtain ⟨t, h1, h2⟩ := h 0 u rfl
    obtain ⟨ts, k1, k2, k3⟩ := LTs.of (us := r) (ok := ok) fun i v hv => h (i + 1) v (by simpa using hv)
    refine ⟨t :: ts, ?_, by rw [List.length_cons, List.length_cons, k2], fun x hx => ?_⟩
    · rw [LTs]
      exact ⟨u, r, rfl, h1, k1⟩
    · rcases List.mem_cons.mp hx with e | e
      · rw [e]; exact h2
      · exact k3 x e
end
/-- how big a body of that depth is at most -/
def szd : Nat → Nat
  | 0 => 1
  | d + 1 => 1 + 4 * szd d
/-- what is asked of a body -/
structure BodyOk (n : Nat) (es : List Str) (deep : Nat) (t : T) : Prop where
  ok : T.Ok n t
  names : ∀ x ∈ t.names, x ∈ es
  dep : t.depth ≤ deep + 1
  size : t.size ≤ szd deep
theorem szd_pos : ∀ d, 1 ≤ szd d
  | 0 => Nat.le_refl _
  | d + 1 => by rw [szd]; omega
/-! comprehensions whose elements move the state on -/
section
variable {K : PySem.W.Frag} {te : TE} {vs : List Nat} {σ : L2.St} {H1 : Hp} {D : Addr} {Qd : Hp → Prop} {j : Nat} {st : Addr} {sc : Addr × List Int}
structure LcN (K : PySem.W.Frag) (st : Addr) (sc : Addr × List Int) (H0 : Hp) (R : Nat → V → Hp → Prop) (D : Addr) (i : Nat) (H : Hp) : Prop where
  ex : ∃ acc, H D = some (.lst acc) ∧ acc.length = i ∧ ∀ j y, acc[j]? = some y → R j y H
  sub : Nxt K st sc H0 H
theorem lcn_range {lo : Int} {n : Nat} (R : Nat → V → Hp → Prop) (mon : ∀ i y H H', Fx H H' → R i y H → R i y H') (hst : StA K st sc H1) (hD : H1 D = none) (hz : n ≤ sizeLine) (hw : ∀ x, wipe ((wipe σ vs).set j (some x)) vs = wipe σ vs)
    (step : ∀ i H (Qk : VK), Nxt K st sc H1 H → i < n → (∀ y H', Nxt K st sc H H' → R i y H' → Qk y H') → te ((wipe σ vs).set j (some (.int (lo + i)))) H Qk)
    (fin : ∀ H ys, Nxt K st sc H1 H → H D = some (.lst ys) → ys.length = n → (∀ i y, ys[i]? = some y → R i y H) → Qd H) :
    ∃ W : Nat → Nat → Hp → Prop, (∃ m, W 0 m (upd H1 D (.lst []))) ∧ ∀ i m H, W i m H →
      ((Itr lo n).stop i H ∧ Qd H) ∨ ((Itr lo n).go i H ∧ ∃ Nx : Hp → Prop, (∀ H', Nx H' → ∃ m', m' < m ∧ W (i + 1) m' H') ∧ ∀ x H', (Itr lo n).yld i H x H' → gName j x (wipe σ vs) H' fun σ2 H2 => wipe σ2 vs = wipe σ vs ∧ tYes σ2 H2 fun b H3 =>
        if b = true then te σ2 H3 fun y H4 => ∃ acc, H4 D = some (.lst acc) ∧ acc.length < sizeLine ∧ Nx (upd H4 D (.lst (acc ++ [y]))) else Nx H3) := by
  have hDs : D ≠ st := fun z => by
    obtain ⟨xs, hx⟩ := hst.is
    rw [← z, hD] at hx
    cases hx
  refine lc_range (lo := lo) (n := n) (LcN K st sc H1 R D) ⟨⟨[], upd_same, rfl, fun j y h => by simp at h⟩, Nxt.of hst (Ext.upd hD)⟩ (fun i H hx I => ⟨hw _, ?_⟩) fun H I => ?_
  · show (if true = true then te _ H _ else LcN K st sc H1 R D (i + 1) H)
    rw [if_pos rfl]
    refine step i H _ I.sub hx fun y H4 e r => ?_
    obtain ⟨acc, h1, h2, h3⟩ := I.ex
    have h4 := e.but _ _ hDs h1
    have f : Fx H H4 := I.sub.st.fx e.but
    refine ⟨acc, h4, by omega, ⟨⟨acc ++ [y], upd_same, by rw [List.length_append, h2]; rfl, fun k z hz => ?_⟩, ⟨fun b o hb ho => ?_, ?_⟩⟩⟩
    · refine mon _ _ _ _ (Fx.lst h4) ?_
      rw [List.getElem?_append] at hz
      split at hz
      · exact mon _ _ _ _ f (h3 k z hz)
      · rename_i hk
        have : k = i := by
          have := (List.getElem?_eq_some_iff.mp hz).1
          simp at this
          omega
        subst this
        rw [h2, Nat.sub_self] at hz
        simp at hz
        subst hz
        exact r
    · rw [upd_ne (ne_of_none ho hD)]
      exact (I.sub.trans e).but _ _ hb ho
    · exact StA.new hst hD e.st
  · obtain ⟨acc, h1, h2, h3⟩ := I.ex
    exact fin H acc I.sub h1 h2 h3
end
theorem oks_of {n : Nat} : ∀ {ts : List T}, (∀ t ∈ ts, T.Ok n t) → T.Oks n ts
  | [], _ => by rw [T.Oks]; trivial
  | t :: r, h => by
    rw [T.Oks]
    exact ⟨h t List.mem_cons_self, oks_of fun x hx => h x (List.mem_cons_of_mem _ hx)⟩
theorem depths_le {d : Nat} : ∀ {ts : List T}, (∀ t ∈ ts, t.depth ≤ d) → T.depths ts ≤ d
  | [], _ => by rw [T.depths]; omega
  | t :: r, h => by
    rw [T.depths]
    have := h t List.mem_cons_self
    have := depths_le fun x hx => h x (List.mem_cons_of_mem t hx)
    omega
theorem sizes_le {z : Nat} : ∀ {ts : List T}, (∀ t ∈ ts, t.size ≤ z) → T.sizes ts ≤ ts.length * z
  | [], _ => by rw [T.sizes]; omega
  | t :: r, h => by
    rw [T.sizes, List.length_cons, Nat.add_mul]
    have := h t List.mem_cons_self
    have := sizes_le fun x hx => h x (List.mem_cons_of_mem t hx)
    omega
theorem iteC {b : Bool} {x y : V} {σ : L2.St} {H : Hp} {Qk : VK} (h : Qk (if b = true then x else y) H) : if b = true then tC x σ H Qk else tC y σ H Qk := by
  cases b <;> exact h
section
variable {P : Program} {w : World} {K : PySem.W.Frag} {mg : Str → Option Value} {base : Heap}
abbrev sBody : Stmt := top 39
theorem scBody : FnScope ["draws", "size", "earlier", "deep", "kind", "cases", "case"] ["draws", "size", "earlier", "deep"] (defScope sBody) := ⟨rfl, rfl, rfl, by decide +kernel, rfl, by decide +kernel, by decide +kernel⟩
def spBody (K : PySem.W.Frag) (m : Nat) : Sp := fun vs H Q _ => ∃ (st : Addr) (sc : Addr × List Int) (n : Nat) (l : Addr) (es : List Str) (deep : Nat), vs = [.ref st, .int n, .ref l, .int deep] ∧ deep < m ∧ StA K st sc H ∧ (n = 2 ∨ n = 3) ∧ H l = some (.lst (es.map V.str)) ∧ l ≠ st ∧ es.length ≤ 6 ∧ (∀ x ∈ es, PyData.strOk x = true) ∧
  ∀ v t H', Nxt K st sc H H' → LT H' t v → BodyOk n es deep t → Q v H'
theorem body_ok {f : Addr} {fd : FuncData} (F : Fun K "_law_drawn_tree" "_law_drawn_tree" sBody f fd) (bn : BN mg) (mgF : mg "_law_drawn_tree" = some (.ref f)) (kp : PySem.W.keepIn K (.ref f) = true) (bF : Binds K fd ["draws", "size", "earlier", "deep"] [])
    (cN : Cal P w K mg base 1 "_law_take" (spNext K)) : ∀ m, FnOk P w K mg base CX0 (m + 4) f fd ["draws", "size", "earlier", "deep"] (spBody K m)
  | 0 => by
    have no : ∀ vs H Q E, ¬ spBody K 0 vs H Q E := fun vs H Q E h => by
      obtain ⟨_, _, _, _, _, deep, _, h0, _⟩ := h
      omega
    exact ⟨fun vs H Q E h => absurd h (no vs H Q E), fun A outer s H args us vs Q E _ _ _ _ h => absurd h (no vs H Q E)⟩
  | m + 1 => by
    have cB : Cal P w K mg base (m + 4) "_law_drawn_tree" (spBody K m) := ⟨⟨f, fd, _, body_ok F bn mgF kp bF cN m, mgF, kp, bF⟩⟩
    refine F.ok (k := m + 4) scBody (fun vs H Q E h => ?_) (fun cdv A outer s H vs Q E hr h => ?_)
    · obtain ⟨st, sc, n, l, es, deep, rfl, _⟩ := h
      rfl
    · obtain ⟨st, sc, n, l, es, deep, rfl, hdm, hst, hn, hl, hls, hel, hes, kk⟩ := h
      have hn3 : n ≤ 3 := by rcases hn with z | z <;> omega
      have hn1 : 1 ≤ n := by rcases hn with z | z <;> omega
      -- the choice
      obtain ⟨t5, h5, r5⟩ : ∃ t5, PSs (cxOf CX0 P w K mg base ["draws", "size", "earlier", "deep", "kind", "cases", "case"] "_law_drawn_tree" (defScope sBody) f cdv A outer s H E).nox ((defBody sBody).drop 4) t5 ∧ ∀ (wd : Int) H2, Nxt K st sc H H2 → 0 < deep → t5 { nx := fun _ H' => Q .non H', rt := Q } [some (.ref st), some (.int n), some (.ref l), some (.int deep), some (.int wd), none, none] H2 := by
        refine ⟨_, pss_cons (ps_setLc (own := [("case", 6)]) (g := gName 6) (tt := tYes) (te := tCall (spBody K m) [] E0 (tCons (tVar 0) (tCons (tVar 1) (tCons (tVar 2) (tCons (tOp (rI0 fun i j => .int (i - j)) (tVar 3) (tC (.int 1))) tNil))))) rfl scBody.nd (i := 5) rfl rfl (sw_true rfl rfl rfl (by decide +kernel)) (pi_range1 (by rfl) (bn "range" (by decide)) (pa_cons (pv 1) pa_nil)) (blkOk_by (N := ["draws", "size", "earlier", "deep", "kind", "cases", "case"]) (sc := defScope sBody) (by decide +kernel))
              (fun _ _ _ _ _ => pg_name (i := 6) scBody.nd rfl (.inl rfl)) (fun _ _ _ _ _ => pts_nil) (fun _ _ _ _ _ => pe_c (j := m + 4) cB hr (Nat.le_refl _) (pa_cons (pv 0) (pa_cons (pv 1) (pa_cons (pv 2) (pa_cons (pe_op op_sub (pv 3) pe_int) pa_nil))))))
        (pss_one (ps_ret (pe_tup (pa_cons pe_str (pa_cons (pe_c (j := m + 4) cB hr (Nat.le_refl _) (pa_cons (pv 0) (pa_cons (pv 1) (pa_cons (pv 2) (pa_cons (pe_op op_sub (pv 3) pe_int) pa_nil))))) (pa_cons (pe_callTy call_tuple_of (by rfl) (bn "tuple" (by decide)) boot_tTuple (pa_cons (pv 5) pa_nil)) pa_nil)))))), fun wd H2 nx hd => ?_⟩
        obtain ⟨dp, rfl⟩ : ∃ d, deep = d + 1 := ⟨deep - 1, by omega⟩
        have hdp : (((dp + 1 : Nat) : Int) - 1) = ((dp : Nat) : Int) := by omega
        refine ⟨_, rfl, n, rfl, by omega, by omega, fun D hD => ?_⟩
        have hl2 : ∀ {H3 : Hp}, Nxt K st sc H H3 → H3 l = some (.lst (es.map V.str)) := fun nx => nx.but _ _ hls hl
        refine lcn_range (lo := 0) (n := n) (R := fun _ y H => ∃ t, LT H t y ∧ BodyOk n es dp t) (fun i y H H' e ⟨t, h1, h2⟩ => ⟨t, LT.fx e h1, h2⟩) nx.st hD (by rw [sizeLine_eq]; omega) ?hw (fun i H3 Qk e3 hi k2 => ?_) (fun H3 ys e3 hD3 hys hR => ?_)
        case hw => intro x; rfl
        · exact ⟨_, rfl, _, rfl, _, rfl, _, rfl, _, _, rfl, rfl, st, sc, n, l, es, dp, by rw [← hdp]; rfl, by omega, e3.st, hn, hl2 (nx.trans e3), hls, hel, hes, fun v t H4 nx4 hL hB => k2 _ _ nx4 ⟨t, hL, hB⟩⟩
        obtain ⟨ts, hts, htl, hok⟩ := LTs.of (ok := BodyOk n es dp) hR
        have nx3 : Nxt K st sc H H3 := nx.trans e3
        have hDs : D ≠ st := fun z => by
          obtain ⟨xs, hx⟩ := nx.st.is
          rw [← z, hD] at hx
          cases hx
        refine ⟨_, rfl, _, rfl, _, rfl, _, rfl, _, _, rfl, rfl, st, sc, n, l, es, dp, by rw [← hdp]; rfl, by omega, nx3.st, hn, hl2 nx3, hls, hel, hes, fun v t H4 nx4 hL hB => ⟨_, rfl, D, ys, rfl, .inl ⟨.inl (.inl (nx4.but _ _ hDs hD3)), fun p hp => ?_⟩⟩⟩
        have ep : Ext H4 (upd H4 p (.tup ys)) := Ext.upd hp
        have hpp : (upd H4 p (.tup ys)) p = some (.tup ys) := upd_same
        have f34 := nx3.st.fx nx4.but
        generalize (upd H4 p (.tup ys)) = H5 at ep hpp ⊢
        refine ⟨(show 3 ≤ sizeLine by decide), fun q hq => ?_⟩
        have eq : Ext H5 (upd H5 q (.tup [.str "choose", v, .ref p])) := Ext.upd hq
        refine kk _ (.mk .choose (t :: ts)) _ ((nx3.trans nx4).ext (ep.trans eq)) ?_ ⟨?_, ?_, ?_, ?_⟩
        · rw [LT]
          refine ⟨q, v :: ys, p, rfl, upd_same, ?_, fun _ => eq _ _ hpp, ?_⟩
          · show _ = 3 ∨ _ = 4
            rw [List.length_cons, htl, hys]
            rcases hn with z | z <;> omega
          · rw [LTs]
            exact ⟨v, ys, rfl, LT.fx (Fx.of (ep.trans eq)) hL, LTs.fx (f34.trans (Fx.of (ep.trans eq))) hts⟩
        · rw [T.Ok, T.Oks]
          refine ⟨?_, hB.ok, oks_of fun t ht => (hok t ht).ok⟩
          show _ = n + 1
          rw [List.length_cons, htl, hys]
        · intro x hx
          rw [T.names, T.namesL] at hx
          rcases List.mem_append.mp hx with h | h
          · simp [Tag.name] at h
          · rcases List.mem_append.mp h with h | h
            · exact hB.names x h
            · obtain ⟨i, t', h1, h2⟩ := mem_namesL.mp h
              exact (hok t' (List.mem_of_getElem? h1)).names x h2
        · rw [T.depth, T.depths]
          have := hB.dep
          have := depths_le (d := dp + 1) fun t ht => (hok t ht).dep
          omega
        · rw [T.size, T.sizes, szd]
          have := hB.size
          have := sizes_le (z := szd dp) fun t ht => (hok t ht).size
          have : ts.length ≤ 3 := by rw [htl, hys]; exact hn3
          have : ts.length * szd dp ≤ 3 * szd dp := Nat.mul_le_mul_right _ this
          omega
      have dpS : ∀ {H2 : Hp}, Nxt K st sc H H2 → ∀ {q : Addr}, H2 q = none → Dp K (upd H2 q (.lst [])) (.ref l) (.list (es.map .str)) ∧ Dp K (upd H2 q (.lst [])) (.ref q) (.list []) := fun nx q hq => ⟨.lst (.inl (.inl (Ext.upd hq _ _ (nx.but _ _ hls hl)))) Dp.strs, .lst (.inl (.inl upd_same)) .nil⟩
      have hev : PyData.eqv (.list (es.map .str)) (.list []) = decide (es = []) := by
        have := eqv_strs (r := es) (s := []) hes (fun x h => by simp at h)
        exact this
      have hsh : SeqAt.shaped (.list (es.map .str)) = true := shaped_strs hes
      have hsh0 : SeqAt.shaped (.list []) = true := shaped_strs (r := []) (fun x h => by simp at h)
      -- the call
      obtain ⟨t4, h4, r4⟩ : ∃ t4, PSs (cxOf CX0 P w K mg base ["draws", "size", "earlier", "deep", "kind", "cases", "case"] "_law_drawn_tree" (defScope sBody) f cdv A outer s H E).nox ((defBody sBody).drop 3) t4 ∧ ∀ (wd : Int) H2, Nxt K st sc H H2 → 0 < deep → (wd < 6 → es ≠ []) → t4 { nx := fun _ H' => Q .non H', rt := Q } [some (.ref st), some (.int n), some (.ref l), some (.int deep), some (.int wd), none, none] H2 := by
        refine ⟨_, pss_cons (ps_if (pt_cmpR op_lt (pv 4) pe_int rfl) (pss_one (ps_ret (pe_tup (pa_cons pe_str (pa_cons (pe_ix ix_list (pv 2) (pe_c (j := m + 4) cN hr (by omega) (pa_cons (pv 0) (pa_cons (pe_len bn (pa_cons (pv 2) pa_nil)) pa_nil))) (fun _ _ => rfl)) (pa_cons (pe_c (j := m + 4) cB hr (Nat.le_refl _) (pa_cons (pv 0) (pa_cons (pv 1) (pa_cons (pv 2) (pa_cons (pe_op op_sub (pv 3) pe_int) pa_nil))))) pa_nil)))))) pss_nil) h5, fun wd H2 nx hd hne => ?_⟩
        refine ⟨_, rfl, _, _, rfl, rfl, _, rfl, ite2 (fun h => ?_) fun h => r5 wd H2 nx hd⟩
        have hem : es ≠ [] := hne (of_decide_eq_true h)
        obtain ⟨dp, rfl⟩ : ∃ d, deep = d + 1 := ⟨deep - 1, by omega⟩
        have hdp : (((dp + 1 : Nat) : Int) - 1) = ((dp : Nat) : Int) := by omega
        have hlen : 1 ≤ (es.map V.str).length := by
          rw [List.length_map]
          cases es with
          | nil => exact absurd rfl hem
          | cons _ _ => simp
        refine ⟨_, rfl, _, rfl, _, rfl, l, _, rfl, .inl (.inl (.inl (nx.but _ _ hls hl))), st, sc, _, rfl, nx.st, by omega, fun r H4 r0 r1 nx4 => ?_⟩
        have hrl : r.toNat < es.length := by rw [List.length_map] at r1; omega
        have nx04 := nx.trans nx4
        refine ⟨l, _, r, .str es[r.toNat], rfl, rfl, .inl (.inl (nx04.but _ _ hls hl)), ?at_, ?_⟩
        case at_ =>
          unfold atI ixN
          rw [if_pos r0, if_pos r1]
          show (es.map V.str)[r.toNat]? = _
          rw [List.getElem?_map, List.getElem?_eq_getElem hrl]
          rfl
        · have hnm : es[r.toNat]? = some es[r.toNat] := List.getElem?_eq_getElem hrl
          generalize es[r.toNat] = nm at hnm ⊢
          refine ⟨_, rfl, _, rfl, _, rfl, _, rfl, _, _, rfl, rfl, st, sc, n, l, es, dp, by rw [← hdp]; rfl, by omega, nx04.st, hn, nx04.but _ _ hls hl, hls, hel, hes, fun v t H5 nx5 hL hB => ⟨(show 3 ≤ sizeLine by decide), fun q hq => ?_⟩⟩
          have eq : Ext H5 (upd H5 q (.tup [.str "call", .str nm, v])) := Ext.upd hq
          refine kk _ (.mk (.call nm) [t]) _ ((nx04.trans nx5).ext eq) ?_ ⟨?_, ?_, ?_, ?_⟩
          · rw [LT]
            refine ⟨q, [v], q, rfl, upd_same, rfl, (fun z => by cases z), ?_⟩
            rw [LTs]
            exact ⟨v, [], rfl, LT.fx (Fx.of eq) hL, by rw [LTs]⟩
          · rw [T.Ok, T.Oks, T.Oks]
            exact ⟨rfl, hB.ok, trivial⟩
          · intro x hx
            rw [T.names, T.namesL, T.namesL] at hx
            rcases List.mem_append.mp hx with h | h
            · have : x = nm := by simpa [Tag.name] using h
              rw [this]
              exact List.mem_of_getElem? hnm
            · rw [List.append_nil] at h
              exact hB.names x h
          · rw [T.depth, T.depths, T.depths]
            have := hB.dep
            omega
          · rw [T.size, T.sizes, T.sizes, szd]
            have := hB.size
            have := szd_pos dp
            omega
      have argQ : ∀ {H2 : Hp} {p : Addr}, Nxt K st sc H H2 → H2 p = none → Q (.ref p) (upd H2 p (.tup [.str "arg"])) := fun {H2 p} nx hp => by
        refine kk _ (.mk .arg []) _ (nx.ext (Ext.upd hp)) ?_ ⟨?_, ?_, ?_, ?_⟩
        · rw [LT]
          exact ⟨p, [], p, rfl, upd_same, rfl, (fun z => by cases z), by rw [LTs]⟩
        · rw [T.Ok, T.Oks]
          exact ⟨rfl, trivial⟩
        · intro x hx
          rw [T.names, T.namesL] at hx
          simp [Tag.name] at hx
        · rw [T.depth, T.depths]; omega
        · rw [T.size, T.sizes]; have := szd_pos deep; omega
      refine ⟨_, pss_cons (ps_asg (pe_c (j := m + 4) cN hr (by omega) (pa_cons (pv 0) (pa_cons (pe_ifExp (pt_cmpR op_gt (pv 3) pe_int rfl) pe_int pe_int) pa_nil))) (pg_name (i := 4) scBody.nd rfl (.inl rfl)))
        (pss_cons (ps_if (pt_cmpR op_eq (pv 4) pe_int rfl) (pss_one (ps_ret (pe_tup (pa_cons pe_str (pa_cons (pe_c (j := m + 4) cN hr (by omega) (pa_cons (pv 0) (pa_cons (pv 1) pa_nil))) pa_nil))))) pss_nil)
        (pss_cons (ps_if (PW.pt (pw_or (pt_cmpR op_lt (pv 4) pe_int rfl) (pw_or1 (PW.pt (pw_and (pt_cmpR op_lt (pv 4) pe_int rfl) (pw_and1 (pt_cmpR (op_eqD (by have := hr.units; exact this)) (pv 2) (pe_lst pa_nil) rfl))))))) (pss_one (ps_ret (pe_tup (pa_cons pe_str pa_nil)))) pss_nil) h4)), ?_⟩
      refine ⟨_, rfl, _, rfl, _, _, rfl, rfl, _, rfl, iteC ⟨st, sc, if decide ((0 : Int) < deep) = true then 8 else 3, by
        cases decide ((0 : Int) < deep) <;> rfl, hst, by cases decide ((0 : Int) < deep) <;> decide, fun wd H1 w0 w1 nx => ?_⟩⟩
      refine ⟨_, rfl, rfl, _, rfl, ite2 (fun h => ?_) fun h => ?_⟩
      · refine ⟨_, rfl, _, rfl, st, sc, n, rfl, nx.st, by omega, fun r H2 r0 r1 nx2 => ⟨(show 2 ≤ sizeLine by decide), fun p hp => ?_⟩⟩
        obtain ⟨k, rfl⟩ := Int.eq_ofNat_of_zero_le r0
        refine kk _ (.mk (.const k) []) _ ((nx.trans nx2).ext (Ext.upd hp)) ?_ ⟨?_, ?_, ?_, ?_⟩
        · rw [LT]
          exact ⟨p, [], p, rfl, upd_same, ⟨rfl, by omega⟩, (fun z => by cases z), by rw [LTs]⟩
        · rw [T.Ok, T.Oks]
          exact ⟨⟨by omega, rfl⟩, trivial⟩
        · intro x hx
          rw [T.names, T.namesL] at hx
          simp [Tag.name] at hx
        · rw [T.depth, T.depths]; omega
        · rw [T.size, T.sizes]; have := szd_pos deep; omega
      · refine ⟨_, rfl, _, _, rfl, rfl, _, rfl, ite2 (fun h3 => ⟨(show 1 ≤ sizeLine by decide), fun p hp => argQ nx hp⟩) fun h3 => ?_⟩
        have hd : 0 < deep := by
          have h3 : ¬ wd < 3 := fun z => h3 (decide_eq_true z)
          by_cases hd : 0 < deep
          · exact hd
          · have : decide ((0 : Int) < deep) = false := decide_eq_false (by omega)
            rw [this] at w1
            have w1 : wd < 3 := w1
            exact absurd w1 h3
        refine ⟨_, rfl, _, _, rfl, rfl, _, rfl, ite2 (fun h5 => ?_) fun h5 => iteF (r4 wd H1 nx hd fun z => absurd (decide_eq_true z) h5)⟩
        refine ⟨_, rfl, (show 0 ≤ sizeLine by decide), fun q hq => ⟨_, _, (dpS nx hq).1, (dpS nx hq).2, hsh, hsh0, _, rfl, ?_⟩⟩
        have nxq := nx.ext (Ext.upd (o := .lst []) hq)
        generalize (upd H1 q (.lst [])) = H3 at nxq ⊢
        by_cases hem : es = []
        · exact iteTb (by rw [hev, decide_eq_true hem]) ⟨(show 1 ≤ sizeLine by decide), fun p hp => argQ nxq hp⟩
        · exact iteFb (by rw [hev, decide_eq_false hem]) (r4 wd H3 nxq hd fun _ => hem)
end
end MR
end

section
set_option Elab.async false
set_option linter.all false
set_option maxRecDepth 100000
set_option maxHeartbeats 1000000
/-! The law's walks over its bodies. -/
namespace MR
open PySem PySem.Spec PyProof.Rows L2 LY GW
theorem size_get : ∀ {ts : List T} {i : Nat} {t : T}, ts[i]? = some t → t.size ≤ T.sizes ts
  | [], _, _, e => by simp at e
  | t :: r, 0, _, e => by
    simp at e
    subst e
    rw [T.sizes]
    omega
  | t :: r, i + 1, _, e => by
    rw [T.sizes]
    have := size_get (ts := r) (i := i) (by simpa using e)
    omega
theorem sne {x y : Str} (h : (x == y) = false) : decide (V.str x = V.str y) = false := decide_eq_false fun z => by
  cases z
  simp at h
section
variable {P : Program} {w : World} {K : PySem.W.Frag} {mg : Str → Option Value} {base : Heap} {c : Kd → Addr}
abbrev sMade : Stmt := top 40
theorem scMade : FnScope ["tree", "case"] ["tree"] (defScope sMade) := ⟨rfl, rfl, rfl, by decide +kernel, rfl, by decide +kernel, by decide +kernel⟩
def spMade (c : Kd → Addr) (m : Nat) : Sp := fun vs H Q _ => ∃ (v : V) (t : T), vs = [v] ∧ LT H t v ∧ t.depth ≤ m ∧ t.size ≤ 60 ∧ (∀ x ∈ t.names, okName x = true) ∧ ∀ v' H', Ext H H' → EE c H' t v' → Q v' H'
/-- the four classes -/
structure MkF (P : Program) (w : World) (K : PySem.W.Frag) (mg : Str → Option Value) (base : Heap) (c : Kd → Addr) : Prop where
  const : Mak P w K mg base 4 "Const" (c .const) (spMk c .const preConst)
  arg : Mak P w K mg base 4 "Arg" (c .arg) (spMk c .arg preArg)
  call : Mak P w K mg base 4 "Call" (c .call) (spMk c .call (preCall c))
  choose : Mak P w K mg base 4 "Choose" (c .choose) (spMk c .choose (preChoose c))
theorem mk_heap {H : Hp} {x dx : Addr} {C : Addr} (hx : H x = none) (hd : H dx = none) (hne : dx ≠ x) : Ext H (upd (upd H dx (.own x)) x (.ins C dx [])) := (Ext.upd hd).upd' (by rw [upd_ne (Ne.symm hne)]; exact hx)
theorem ees_of {H : Hp} : ∀ {ts : List T} {us : List V}, ts.length = us.length → (∀ (i : Nat) (t : T) (u : V), ts[i]? = some t → us[i]? = some u → EE c H t u) → EEs c H ts us
  | [], [], _, _ => by rw [EEs]
  | t :: r, u :: s, hl, h => by
    rw [EEs]
    exact ⟨u, s, rfl, h 0 t u rfl rfl, ees_of (by simpa using hl) fun i t' u' h1 h2 => h (i + 1) t' u' (by simpa using h1) (by simpa using h2)⟩
  | [], _ :: _, hl, _ => by simp at hl
  | _ :: _, [], hl, _ => by simp at hl
theorem made_ok {f : Addr} {fd : FuncData} (F : Fun K "_law_made" "_law_made" sMade f fd) (bn : BN mg) (mgF : mg "_law_made" = some (.ref f)) (kp : PySem.W.keepIn K (.ref f) = true) (bF : Binds K fd ["tree"] []) (M : MkF P w K mg base c) : ∀ m, FnOk P w K mg base CX0 (m + 5) f fd ["tree"] (spMade c m)
  | 0 => by
    have no : ∀ vs H Q E, ¬ spMade c 0 vs H Q E := fun vs H Q E h => by
      obtain ⟨_, t, _, _, h0, _⟩ := h
      cases t
      rw [T.depth] at h0
      omega
    exact ⟨fun vs H Q E h => absurd h (no vs H Q E), fun A outer s H args us vs Q E _ _ _ _ h => absurd h (no vs H Q E)⟩
  | m + 1 => by
    have cB : Cal P w K mg base (m + 5) "_law_made" (spMade c m) := ⟨⟨f, fd, _, made_ok F bn mgF kp bF M m, mgF, kp, bF⟩⟩
    refine F.ok (k := m + 5) scMade (fun vs H Q E h => ?_) (fun cdv A outer s H vs Q E hr h => ?_)
    · obtain ⟨v, t, rfl, _⟩ := h
      rfl
    · obtain ⟨v, t, rfl, hL, hd, hz, hn, kk⟩ := h
      refine ⟨_, pss_cons (ps_if (pt_cmpR op_eq (pe_ix ix_tup (pv 0) pe_int (fun _ _ => rfl)) pe_str rfl) (pss_one (ps_ret (pe_mk (j := m + 5) M.const hr (by omega) (pa_cons (pe_ix ix_tup (pv 0) pe_int (fun _ _ => rfl)) pa_nil)))) pss_nil)
        (pss_cons (ps_if (pt_cmpR op_eq (pe_ix ix_tup (pv 0) pe_int (fun _ _ => rfl)) pe_str rfl) (pss_one (ps_ret (pe_mk0 (j := m + 5) M.arg hr (by omega)))) pss_nil)
        (pss_cons (ps_if (pt_cmpR op_eq (pe_ix ix_tup (pv 0) pe_int (fun _ _ => rfl)) pe_str rfl) (pss_one (ps_ret (pe_mk (j := m + 5) M.call hr (by omega) (pa_cons (pe_ix ix_tup (pv 0) pe_int (fun _ _ => rfl)) (pa_cons (pe_c (j := m + 5) cB hr (Nat.le_refl _) (pa_cons (pe_ix ix_tup (pv 0) pe_int (fun _ _ => rfl)) pa_nil)) pa_nil))))) pss_nil)
        (pss_one (ps_ret (pe_mk (j := m + 5) M.choose hr (by omega) (pa_cons (pe_c (j := m + 5) cB hr (Nat.le_refl _) (pa_cons (pe_ix ix_tup (pv 0) pe_int (fun _ _ => rfl)) pa_nil)) (pa_cons (pe_callTy call_tuple_of (by rfl) (bn "tuple" (by decide)) boot_tTuple (pa_cons
            (pe_lc (own := [("case", 1)]) (g := gName 1) (tt := tYes) (te := tCall (spMade c m) [] E0 (tCons (tVar 1) tNil)) rfl scMade.nd (pi_tup (pe_ix ix_tup (pv 0) pe_int (fun _ _ => rfl))) (blkOk_by (N := ["tree", "case"]) (sc := defScope sMade) (by decide +kernel))
              (fun _ _ _ _ _ => pg_name (i := 1) scMade.nd rfl (.inl rfl)) (fun _ _ _ _ _ => pts_nil) (fun _ _ _ _ _ => pe_c (j := m + 5) cB hr (Nat.le_refl _) (pa_cons (pv 1) pa_nil))) pa_nil)) pa_nil))))))), ?_⟩
      cases t with
      | mk g ks =>
        rw [LT] at hL
        obtain ⟨p, us, qt, rfl, hp, har, hq, hus⟩ := hL
        cases g with
        | const n =>
          refine ⟨_, rfl, p, _, 0, .str "const", rfl, rfl, .inl (.inl hp), rfl, rfl, _, rfl, iteTb (decide_eq_true rfl) ?_⟩
          refine ⟨_, rfl, p, _, 1, .int n, rfl, rfl, .inl (.inl hp), rfl, fun x dx hx hdx hne => ⟨x, dx, [.int n], _, rfl, upd_same, ⟨n, rfl, har.2, rfl⟩, fun H' hk hE => ⟨rfl, kk _ _ (fun b o h => hk b o (fun z => by rw [z, hx] at h; cases h) (mk_heap hx hdx hne b o h)) ?_⟩⟩⟩
          obtain rfl : ks = [] := List.length_eq_zero_iff.mp har.1
          exact hE
        | arg =>
          refine ⟨_, rfl, p, _, 0, .str "arg", rfl, rfl, .inl (.inl hp), rfl, rfl, _, rfl, iteFb (sne (by decide)) ?_⟩
          refine ⟨_, rfl, p, _, 0, .str "arg", rfl, rfl, .inl (.inl hp), rfl, rfl, _, rfl, iteTb (decide_eq_true rfl) ?_⟩
          refine fun x dx hx hdx hne => ⟨x, dx, [], _, rfl, upd_same, ⟨rfl, rfl⟩, fun H' hk hE => ⟨rfl, kk _ _ (fun b o h => hk b o (fun z => by rw [z, hx] at h; cases h) (mk_heap hx hdx hne b o h)) ?_⟩⟩
          obtain rfl : ks = [] := List.length_eq_zero_iff.mp har
          exact hE
        | call nm =>
          obtain ⟨t1, rfl⟩ : ∃ t1, ks = [t1] := List.length_eq_one_iff.mp har
          unfold LTs at hus
          obtain ⟨v1, s1, rfl, hv1, hs1⟩ := hus
          unfold LTs at hs1
          subst hs1
          refine ⟨_, rfl, p, _, 0, .str "call", rfl, rfl, .inl (.inl hp), rfl, rfl, _, rfl, iteFb (sne (by decide)) ?_⟩
          refine ⟨_, rfl, p, _, 0, .str "call", rfl, rfl, .inl (.inl hp), rfl, rfl, _, rfl, iteFb (sne (by decide)) ?_⟩
          refine ⟨_, rfl, p, _, 0, .str "call", rfl, rfl, .inl (.inl hp), rfl, rfl, _, rfl, iteTb (decide_eq_true rfl) ?_⟩
          refine ⟨_, rfl, p, _, 1, .str nm, rfl, rfl, .inl (.inl hp), rfl, _, rfl, p, _, 2, v1, rfl, rfl, .inl (.inl hp), rfl, v1, t1, rfl, hv1, ?_, ?_, ?_, fun u H1 e1 hE1 => fun x dx hx hdx hne => ⟨x, dx, [.str nm, u], _, rfl, upd_same, ⟨nm, u, t1, rfl, ?_, EE.fx (Fx.of (mk_heap hx hdx hne)) hE1, rfl, hz⟩, fun H' hk hE => ⟨rfl, kk _ _ (fun b o h => hk b o (fun z => by have := e1 _ _ h; rw [z, hx] at this; cases this) (mk_heap hx hdx hne b o (e1 _ _ h))) hE⟩⟩⟩
          · rw [T.depth, T.depths, T.depths] at hd; omega
          · rw [T.size, T.sizes, T.sizes] at hz; omega
          · intro x hx
            refine hn x ?_
            rw [T.names, T.namesL, T.namesL]
            exact List.mem_append_right _ (List.mem_append_left _ hx)
          · refine hn nm ?_
            rw [T.names]
            exact List.mem_append_left _ (by simp [Tag.name])
        | choose =>
          have hq0 := hq rfl
          cases ks with
          | nil => exact absurd har (by show ¬ (0 = 3 ∨ 0 = 4); decide)
          | cons t1 ts =>
            unfold LTs at hus
            obtain ⟨v1, s1, rfl, hv1, hs1⟩ := hus
            have hq0 : H qt = some (.tup s1) := hq0
            have hsl := LTs.len hs1
            have hts : ts.length = 2 ∨ ts.length = 3 := by
              have : (t1 :: ts).length = 3 ∨ (t1 :: ts).length = 4 := har
              rw [List.length_cons] at this
              omega
            refine ⟨_, rfl, p, _, 0, .str "choose", rfl, rfl, .inl (.inl hp), rfl, rfl, _, rfl, iteFb (sne (by decide)) ?_⟩
            refine ⟨_, rfl, p, _, 0, .str "choose", rfl, rfl, .inl (.inl hp), rfl, rfl, _, rfl, iteFb (sne (by decide)) ?_⟩
            refine ⟨_, rfl, p, _, 0, .str "choose", rfl, rfl, .inl (.inl hp), rfl, rfl, _, rfl, iteFb (sne (by decide)) ?_⟩
            refine ⟨_, rfl, p, _, 1, v1, rfl, rfl, .inl (.inl hp), rfl, v1, t1, rfl, hv1, ?_, ?_, ?_, fun u H1 e1 hE1 => ?_⟩
            · rw [T.depth, T.depths] at hd; omega
            · rw [T.size, T.sizes] at hz; omega
            · intro x hx
              refine hn x ?_
              rw [T.names, T.namesL]
              exact List.mem_append_right _ (List.mem_append_left _ hx)
            · refine ⟨_, rfl, p, _, 2, .ref qt, rfl, rfl, .inl (.inl (e1 _ _ hp)), rfl, qt, rfl, ⟨s1, .inl (.inl (e1 _ _ hq0))⟩, fun D hD => ?_⟩
              refine lcm_tup (xs := s1) (R := fun i y H => ∃ t, ts[i]? = some t ∧ EE c H t y) (fun i y H H' e ⟨t, h1, h2⟩ => ⟨t, h1, EE.fx e h2⟩) (.inl (.inl (e1 _ _ hq0))) hD (by rw [hsl, sizeLine_eq]; omega) ?hw (fun i x H2 Qk e2 hx k2 => ?_) (fun H2 ys e2 hD2 hys hR => ?_)
              case hw => intro x; rfl
              · have hi : i < ts.length := by rw [← hsl]; exact (List.getElem?_eq_some_iff.mp hx).1
                obtain ⟨u2, hu2, hL2⟩ := LTs.get hs1 (List.getElem?_eq_getElem hi)
                rw [hx] at hu2
                cases hu2
                have hti : ts[i]? = some ts[i] := List.getElem?_eq_getElem hi
                refine ⟨_, rfl, x, ts[i], rfl, LT.fx ((Fx.of e1).trans (Fx.of e2)) hL2, ?_, ?_, ?_, fun y H3 e3 hE3 => k2 _ _ e3 ⟨_, hti, hE3⟩⟩
                · have := depth_get hti
                  rw [T.depth, T.depths] at hd; omega
                · have := size_get hti
                  rw [T.size, T.sizes] at hz; omega
                · intro y hy
                  refine hn y ?_
                  rw [T.names, T.namesL]
                  exact List.mem_append_right _ (List.mem_append_right _ (mem_namesL.mpr ⟨i, _, hti, hy⟩))
              · refine ⟨D, ys, rfl, .inl ⟨.inl (.inl hD2), fun q hq => fun x dx hx hdx hne => ?_⟩⟩
                have eq : Ext H2 (upd H2 q (.tup ys)) := Ext.upd hq
                have hqq : (upd H2 q (.tup ys)) q = some (.tup ys) := upd_same
                generalize (upd H2 q (.tup ys)) = H3 at eq hqq hx hdx ⊢
                have em := mk_heap (C := c .choose) hx hdx hne
                have hE2 : EEs c H2 ts ys := ees_of (by rw [hys, hsl]) fun i t y h1 h2 => by
                  obtain ⟨t', k1, k2⟩ := hR i y h2
                  rw [h1] at k1
                  cases k1
                  exact k2
                refine ⟨x, dx, [u, .ref q], _, rfl, upd_same, ⟨u, q, ys, t1, ts, rfl, em _ _ hqq, EE.fx (((Fx.of e2).trans (Fx.of eq)).trans (Fx.of em)) hE1, EEs.fx ((Fx.of eq).trans (Fx.of em)) hE2, hts, rfl, hz⟩, fun H' hk hE => ⟨rfl, kk _ _ (fun b o h => hk b o (fun z => by have := eq _ _ (e2 _ _ (e1 _ _ h)); rw [z, hx] at this; cases this) (em b o (eq _ _ (e2 _ _ (e1 _ _ h))))) hE⟩⟩
end
end MR
end

section
set_option Elab.async false
set_option linter.all false
set_option maxRecDepth 100000
set_option maxHeartbeats 1000000
/-! The law's worth, called. -/
namespace MR
open PySem PySem.Spec PyProof.Rows L2 LY GW
section
variable {P : Program} {w : World} {K : PySem.W.Frag} {mg : Str → Option Value} {base : Heap}
abbrev sWorth : Stmt := top 42
theorem scWorth : FnScope ["tree", "argument", "tables"] ["tree", "argument", "tables"] (defScope sWorth) := ⟨rfl, rfl, rfl, by decide +kernel, rfl, by decide +kernel, by decide +kernel⟩
def spWorth (K : PySem.W.Frag) (m : Nat) : Sp := fun vs H Q _ => ∃ v t x tb tab r, vs = [v, .int x, .ref tb] ∧ LT H t v ∧ t.depth ≤ m ∧ TabAt K tab tb H ∧ T.ev tab x t = some r ∧ Q (.int r) H
theorem worth_ok {f : Addr} {fd : FuncData} (F : Fun K "_law_value" "_law_value" sWorth f fd) (mgF : mg "_law_value" = some (.ref f)) (kp : PySem.W.keepIn K (.ref f) = true) (bF : Binds K fd ["tree", "argument", "tables"] []) : ∀ m, FnOk P w K mg base CX0 (m + 1) f fd ["tree", "argument", "tables"] (spWorth K m)
  | 0 => by
    have no : ∀ vs H Q E, ¬ spWorth K 0 vs H Q E := fun vs H Q E h => by
      obtain ⟨_, t, _, _, _, _, _, _, h0, _⟩ := h
      cases t
      rw [T.depth] at h0
      omega
    exact ⟨fun vs H Q E h => absurd h (no vs H Q E), fun A outer s H args us vs Q E _ _ _ _ h => absurd h (no vs H Q E)⟩
  | m + 1 => by
    have cB : Cal P w K mg base (m + 1) "_law_value" (spWorth K m) := ⟨⟨f, fd, _, worth_ok F mgF kp bF m, mgF, kp, bF⟩⟩
    refine F.ok (k := m + 1) scWorth (fun vs H Q E h => ?_) (fun cdv A outer s H vs Q E hr h => ?_)
    · obtain ⟨v, t, x, tb, tab, r, rfl, _⟩ := h
      rfl
    · obtain ⟨v, t, x, tb, tab, r, rfl, hL, hd, ht, he, kk⟩ := h
      refine ⟨_, pss_cons (ps_if (pt_cmpR op_eq (pe_ix ix_tup (pv 0) pe_int (fun _ _ => rfl)) pe_str rfl) (pss_one (ps_ret (pe_ix ix_tup (pv 0) pe_int (fun _ _ => rfl)))) pss_nil)
        (pss_cons (ps_if (pt_cmpR op_eq (pe_ix ix_tup (pv 0) pe_int (fun _ _ => rfl)) pe_str rfl) (pss_one (ps_ret (pv 1))) pss_nil)
        (pss_cons (ps_if (pt_cmpR op_eq (pe_ix ix_tup (pv 0) pe_int (fun _ _ => rfl)) pe_str rfl) (pss_one (ps_ret (pe_ix ix_tup (pe_dget (by have := hu_of hr; exact this) (pv 2) (pe_ix ix_tup (pv 0) pe_int (fun _ _ => rfl)) (fun _ _ => rfl)) (pe_c (j := m + 1) cB hr (Nat.le_refl _) (pa_cons (pe_ix ix_tup (pv 0) pe_int (fun _ _ => rfl)) (pa_cons (pv 1) (pa_cons (pv 2) pa_nil)))) (fun _ _ => rfl)))) pss_nil)
        (pss_one (ps_ret (pe_c (j := m + 1) cB hr (Nat.le_refl _) (pa_cons (pe_ix ix_tup (pe_ix ix_tup (pv 0) pe_int (fun _ _ => rfl)) (pe_c (j := m + 1) cB hr (Nat.le_refl _) (pa_cons (pe_ix ix_tup (pv 0) pe_int (fun _ _ => rfl)) (pa_cons (pv 1) (pa_cons (pv 2) pa_nil)))) (fun _ _ => rfl)) (pa_cons (pv 1) (pa_cons (pv 2) pa_nil)))))))), ?_⟩
      cases t with
      | mk g ks =>
        rw [LT] at hL
        obtain ⟨p, us, qt, rfl, hp, har, hq, hus⟩ := hL
        cases g with
        | const n =>
          rw [T.ev, evTag] at he
          cases he
          exact ⟨_, rfl, p, _, 0, .str "const", rfl, rfl, .inl (.inl hp), rfl, rfl, _, rfl, iteTb (decide_eq_true rfl) ⟨_, rfl, p, _, 1, .int n, rfl, rfl, .inl (.inl hp), rfl, kk⟩⟩
        | arg =>
          rw [T.ev, evTag] at he
          cases he
          exact ⟨_, rfl, p, _, 0, .str "arg", rfl, rfl, .inl (.inl hp), rfl, rfl, _, rfl, iteFb (sne (by decide)) ⟨_, rfl, p, _, 0, .str "arg", rfl, rfl, .inl (.inl hp), rfl, rfl, _, rfl, iteTb (decide_eq_true rfl) ⟨_, rfl, kk⟩⟩⟩
        | call nm =>
          obtain ⟨t1, rfl⟩ : ∃ t1, ks = [t1] := List.length_eq_one_iff.mp har
          unfold LTs at hus
          obtain ⟨v1, s1, rfl, hv1, hs1⟩ := hus
          unfold LTs at hs1
          subst hs1
          rw [T.ev, T.evs, evTag] at he
          obtain ⟨i, hi, hti⟩ := Option.bind_eq_some_iff.mp he
          obtain ⟨kvs, hkv, htab⟩ := id ht
          obtain ⟨q, xs, hqv, hxs, hat⟩ := htab _ _ _ hti
          refine ⟨_, rfl, p, _, 0, .str "call", rfl, rfl, .inl (.inl hp), rfl, rfl, _, rfl, iteFb (sne (by decide)) ?_⟩
          refine ⟨_, rfl, p, _, 0, .str "call", rfl, rfl, .inl (.inl hp), rfl, rfl, _, rfl, iteFb (sne (by decide)) ?_⟩
          refine ⟨_, rfl, p, _, 0, .str "call", rfl, rfl, .inl (.inl hp), rfl, rfl, _, rfl, iteTb (decide_eq_true rfl) ?_⟩
          refine ⟨_, rfl, _, rfl, p, _, 1, .str nm, rfl, rfl, .inl (.inl hp), rfl, tb, .ref q, rfl, .inl ⟨kvs, .inr nm, hkv, rfl, hqv.symm⟩, _, rfl, p, _, 2, v1, rfl, rfl, .inl (.inl hp), rfl, _, rfl, _, rfl, v1, t1, x, tb, tab, i, rfl, hv1, ?_, ht, hi, q, xs, i, _, rfl, rfl, hxs, hat, kk⟩
          rw [T.depth, T.depths, T.depths] at hd; omega
        | choose =>
          have hq0 := hq rfl
          cases ks with
          | nil => exact absurd har (by show ¬ (0 = 3 ∨ 0 = 4); decide)
          | cons t1 ts =>
            unfold LTs at hus
            obtain ⟨v1, s1, rfl, hv1, hs1⟩ := hus
            have hq0 : H qt = some (.tup s1) := hq0
            rw [T.ev, T.evs, evTag] at he
            obtain ⟨i, hi, hti⟩ := Option.bind_eq_some_iff.mp he
            split at hti
            case isFalse => cases hti
            case isTrue h0 =>
            rw [T.evs_get] at hti
            cases hts : ts[i.toNat]? with
            | none => rw [hts] at hti; cases hti
            | some t2 =>
              rw [hts] at hti
              have hti : T.ev tab x t2 = some r := hti
              obtain ⟨v2, hv2, hL2⟩ := LTs.get hs1 hts
              have hd2 := depth_get hts
              have hat : atI s1 i = some v2 := by
                have hl := (List.getElem?_eq_some_iff.mp hv2).1
                unfold atI ixN
                rw [if_pos h0, if_pos (by omega)]
                exact hv2
              refine ⟨_, rfl, p, _, 0, .str "choose", rfl, rfl, .inl (.inl hp), rfl, rfl, _, rfl, iteFb (sne (by decide)) ?_⟩
              refine ⟨_, rfl, p, _, 0, .str "choose", rfl, rfl, .inl (.inl hp), rfl, rfl, _, rfl, iteFb (sne (by decide)) ?_⟩
              refine ⟨_, rfl, p, _, 0, .str "choose", rfl, rfl, .inl (.inl hp), rfl, rfl, _, rfl, iteFb (sne (by decide)) ?_⟩
              refine ⟨_, rfl, p, _, 2, .ref qt, rfl, rfl, .inl (.inl hp), rfl, _, rfl, p, _, 1, v1, rfl, rfl, .inl (.inl hp), rfl, _, rfl, _, rfl, v1, t1, x, tb, tab, i, rfl, hv1, ?_, ht, hi, qt, s1, i, v2, rfl, rfl, .inl (.inl hq0), hat, _, rfl, _, rfl, v2, t2, x, tb, tab, r, rfl, hL2, ?_, ht, hti, kk⟩
              · rw [T.depth, T.depths] at hd; omega
              · rw [T.depth, T.depths] at hd; omega
/-! ### called -/
abbrev sCalled : Stmt := top 41
theorem scCalled : FnScope ["tree", "found", "case"] ["tree"] (defScope sCalled) := ⟨rfl, rfl, rfl, by decide +kernel, rfl, by decide +kernel, by decide +kernel⟩
def spCalled (m : Nat) : Sp := fun vs H Q _ => ∃ v t, vs = [v] ∧ LT H t v ∧ t.depth ≤ m ∧ t.size ≤ 60 ∧ ∀ l H', Ext H H' → H l = none → H' l = some (.lst (t.names.map V.str)) → Q (.ref l) H'
theorem none_of {H H' : Hp} {a : Addr} (e : Ext H H') (h : H' a = none) : H a = none := by
  cases q : H a with
  | none => rfl
  | some u => have := e _ _ q; rw [h] at this; cases this
theorem namesL_snoc {ts : List T} {t : T} : T.namesL (ts ++ [t]) = T.namesL ts ++ t.names := by
  induction ts with
  | nil => rw [List.nil_append, T.namesL, T.namesL, T.namesL, List.append_nil, List.nil_append]
  | cons x r ih => rw [List.cons_append, T.namesL, ih, T.namesL, List.append_assoc]
theorem called_ok {f : Addr} {fd : FuncData} (F : Fun K "_law_called" "_law_called" sCalled f fd) (bn : BN mg) (mgF : mg "_law_called" = some (.ref f)) (kp : PySem.W.keepIn K (.ref f) = true) (bF : Binds K fd ["tree"] []) : ∀ m, FnOk P w K mg base CX0 (m + 2) f fd ["tree"] (spCalled m)
  | 0 => by
    have no : ∀ vs H Q E, ¬ spCalled 0 vs H Q E := fun vs H Q E h => by
      obtain ⟨_, t, _, _, h0, _⟩ := h
      cases t
      rw [T.depth] at h0
      omega
    exact ⟨fun vs H Q E h => absurd h (no vs H Q E), fun A outer s H args us vs Q E _ _ _ _ h => absurd h (no vs H Q E)⟩
  | m + 1 => by
    have cB : Cal P w K mg base (m + 2) "_law_called" (spCalled m) := ⟨⟨f, fd, _, called_ok F bn mgF kp bF m, mgF, kp, bF⟩⟩
    refine F.ok (k := m + 2) scCalled (fun vs H Q E h => ?_) (fun cdv A outer s H vs Q E hr h => ?_)
    · obtain ⟨v, t, rfl, _⟩ := h
      rfl
    · obtain ⟨v, t, rfl, hL, hd, hz, kk⟩ := h
      refine ⟨_, pss_cons (ps_if (pt_cmpR op_in_seq (pe_ix ix_tup (pv 0) pe_int (fun _ _ => rfl)) (pe_tup (pa_cons pe_str (pa_cons pe_str pa_nil))) rfl) (pss_one (ps_ret (pe_lst pa_nil))) pss_nil)
        (pss_cons (ps_if (pt_cmpR op_eq (pe_ix ix_tup (pv 0) pe_int (fun _ _ => rfl)) pe_str rfl) (pss_one (ps_ret (pe_op op_cat (pe_lst (pa_cons (pe_ix ix_tup (pv 0) pe_int (fun _ _ => rfl)) pa_nil)) (pe_c (j := m + 2) cB hr (Nat.le_refl _) (pa_cons (pe_ix ix_tup (pv 0) pe_int (fun _ _ => rfl)) pa_nil))))) pss_nil)
        (pss_cons (ps_asg (pe_c (j := m + 2) cB hr (Nat.le_refl _) (pa_cons (pe_ix ix_tup (pv 0) pe_int (fun _ _ => rfl)) pa_nil)) (pg_name (i := 1) scCalled.nd rfl (.inl rfl)))
        (pss_cons (ps_for PassesOwn.never rfl (pi_tup (pe_ix ix_tup (pv 0) pe_int (fun _ _ => rfl))) (pg_name (i := 2) scCalled.nd rfl (.inl rfl))
            (pss_one (ps_asg (pe_op op_cat (pv 1) (pe_c (j := m + 2) cB hr (Nat.le_refl _) (pa_cons (pv 2) pa_nil))) (pg_name (i := 1) scCalled.nd rfl (.inl rfl)))))
        (pss_one (ps_ret (pv 1)))))), ?_⟩
      cases t with
      | mk g ks =>
        rw [LT] at hL
        obtain ⟨p, us, qt, rfl, hp, har, hq, hus⟩ := hL
        cases g with
        | const n =>
          obtain rfl : ks = [] := List.length_eq_zero_iff.mp har.1
          exact ⟨_, rfl, p, _, 0, .str "const", rfl, rfl, .inl (.inl hp), rfl, (show 2 ≤ sizeLine by decide), fun b hb => ⟨b, _, rfl, .inr (.inl (.inl upd_same)), rfl, rfl, _, rfl, iteTb (by decide +kernel) ⟨(show 0 ≤ sizeLine by decide), fun l hl => kk l _ ((Ext.upd hb).upd' hl) (none_of (Ext.upd hb) hl) (by rw [upd_same, T.names, T.namesL]; rfl)⟩⟩⟩
        | arg =>
          obtain rfl : ks = [] := List.length_eq_zero_iff.mp har
          exact ⟨_, rfl, p, _, 0, .str "arg", rfl, rfl, .inl (.inl hp), rfl, (show 2 ≤ sizeLine by decide), fun b hb => ⟨b, _, rfl, .inr (.inl (.inl upd_same)), rfl, rfl, _, rfl, iteTb (by decide +kernel) ⟨(show 0 ≤ sizeLine by decide), fun l hl => kk l _ ((Ext.upd hb).upd' hl) (none_of (Ext.upd hb) hl) (by rw [upd_same, T.names, T.namesL]; rfl)⟩⟩⟩
        | call nm =>
          obtain ⟨t1, rfl⟩ : ∃ t1, ks = [t1] := List.length_eq_one_iff.mp har
          unfold LTs at hus
          obtain ⟨v1, s1, rfl, hv1, hs1⟩ := hus
          unfold LTs at hs1
          subst hs1
          refine ⟨_, rfl, p, _, 0, .str "call", rfl, rfl, .inl (.inl hp), rfl, (show 2 ≤ sizeLine by decide), fun b hb => ⟨b, _, rfl, .inr (.inl (.inl upd_same)), rfl, rfl, _, rfl, iteFb (by decide +kernel) ?_⟩⟩
          have eb : Ext H (upd H b (.tup [.str "const", .str "arg"])) := Ext.upd hb
          generalize (upd H b (.tup [.str "const", .str "arg"])) = H1 at eb ⊢
          have hp1 := eb _ _ hp
          refine ⟨_, rfl, p, _, 0, .str "call", rfl, rfl, .inl (.inl hp1), rfl, rfl, _, rfl, iteTb (decide_eq_true rfl) ?_⟩
          refine ⟨_, rfl, p, _, 1, .str nm, rfl, rfl, .inl (.inl hp1), rfl, (show 1 ≤ sizeLine by decide), fun b1 hb1 => ?_⟩
          have eb1 : Ext H1 (upd H1 b1 (.lst [.str nm])) := Ext.upd hb1
          have hbb : (upd H1 b1 (.lst [.str nm])) b1 = some (.lst [.str nm]) := upd_same
          generalize (upd H1 b1 (.lst [.str nm])) = H2 at eb1 hbb ⊢
          have e02 := eb.trans eb1
          have hnl : t1.names.length ≤ 60 := by
            have := T.names_le t1
            rw [T.size, T.sizes, T.sizes] at hz
            omega
          refine ⟨_, rfl, p, _, 2, v1, rfl, rfl, .inl (.inl (e02 _ _ hp)), rfl, v1, t1, rfl, LT.fx (Fx.of e02) hv1, ?_, ?_, fun l H3 e3 nl hl => ⟨b1, l, _, _, rfl, rfl, e3 _ _ hbb, hl, by rw [List.length_singleton, List.length_map, sizeLine_eq]; omega, fun q hq => kk q _ ((e02.trans e3).upd' hq) (none_of (e02.trans e3) hq) ?_⟩⟩
          · rw [T.depth, T.depths, T.depths] at hd; omega
          · rw [T.size, T.sizes, T.sizes] at hz; omega
          · rw [upd_same, T.names, T.namesL, T.namesL, List.append_nil]
            rfl
        | choose =>
          have hq0 := hq rfl
          cases ks with
          | nil => exact absurd har (by show ¬ (0 = 3 ∨ 0 = 4); decide)
          | cons t1 ts =>
            have hus' := hus
            unfold LTs at hus
            obtain ⟨v1, s1, rfl, hv1, hs1⟩ := hus
            have hq0 : H qt = some (.tup s1) := hq0
            have hsl := LTs.len hs1
            have hz1 : T.sizes (t1 :: ts) ≤ 59 := by rw [T.size] at hz; omega
            have hd1 : T.depths (t1 :: ts) ≤ m := by rw [T.depth] at hd; omega
            refine ⟨_, rfl, p, _, 0, .str "choose", rfl, rfl, .inl (.inl hp), rfl, (show 2 ≤ sizeLine by decide), fun b hb => ⟨b, _, rfl, .inr (.inl (.inl upd_same)), rfl, rfl, _, rfl, iteFb (by decide +kernel) ?_⟩⟩
            have eb : Ext H (upd H b (.tup [.str "const", .str "arg"])) := Ext.upd hb
            generalize (upd H b (.tup [.str "const", .str "arg"])) = H1 at eb ⊢
            have hp1 := eb _ _ hp
            refine ⟨_, rfl, p, _, 0, .str "choose", rfl, rfl, .inl (.inl hp1), rfl, rfl, _, rfl, iteFb (sne (by decide)) ?_⟩
            have hd1a := hd1
            have hz1a := hz1
            rw [T.depths] at hd1a
            rw [T.sizes] at hz1a
            refine ⟨_, rfl, p, _, 1, v1, rfl, rfl, .inl (.inl hp1), rfl, v1, t1, rfl, LT.fx (Fx.of eb) hv1, by omega, by omega, fun l0 H2 e2 nl0 hl0 => ?_⟩
            have e02 := eb.trans e2
            have hnl : ∀ {t' : T}, t' ∈ t1 :: ts → t'.names.length ≤ 60 := fun {t'} ht => by
              have := T.names_le t'
              have := size_get (ts := t1 :: ts) (t := t') (List.getElem?_of_mem ht).choose_spec
              omega
            refine ⟨_, rfl, p, _, 2, .ref qt, rfl, rfl, .inl (.inl (e02 _ _ hp)), rfl, qt, rfl, ⟨_, .inl (.inl (e02 _ _ hq0))⟩, for_tup (xs := s1) (fun i σ H' => Ext H2 H' ∧ ∃ b u2, H b = none ∧ σ = [some (.ref p), some (.ref b), u2] ∧ H' b = some (.lst ((t1.names ++ T.namesL (ts.take i)).map V.str)) ∧ (t1.names ++ T.namesL (ts.take i)).length ≤ 60 * (i + 1)) ⟨Ext.rfl', l0, none, none_of eb nl0, rfl, by rw [hl0, List.take_zero, T.namesL, List.append_nil], by rw [List.take_zero, T.namesL, List.append_nil]; have := hnl (t' := t1) List.mem_cons_self; omega⟩ (fun i σ H' _ ⟨e, _⟩ => .inl (.inl (e _ _ (e02 _ _ hq0)))) ?_ ?_⟩
            · rintro i x σ H' hx ⟨e, b, u2, nb, rfl, hbl, hle⟩
              have hi : i < ts.length := by
                have := (List.getElem?_eq_some_iff.mp hx).1
                rw [hsl] at this
                exact this
              have hti : ts[i]? = some ts[i] := List.getElem?_eq_getElem hi
              obtain ⟨u, hu, hLu⟩ := LTs.get hs1 hti
              rw [hx] at hu
              cases hu
              have hmem : ts[i] ∈ t1 :: ts := List.mem_cons_of_mem _ (List.getElem_mem hi)
              have hn60 := hnl hmem
              have hszi := size_get hti
              have hdpi := depth_get hti
              have hi3 : ts.length ≤ 3 := by
                have : (t1 :: ts).length = 3 ∨ (t1 :: ts).length = 4 := har
                rw [List.length_cons] at this
                omega
              have e0' := e02.trans e
              refine ⟨_, rfl, _, rfl, x, ts[i], rfl, LT.fx (Fx.of e0') hLu, by rw [T.depths] at hd1; omega, by rw [T.sizes] at hz1; omega, fun l H3 e3 nl hl => ⟨b, l, _, _, rfl, rfl, e3 _ _ hbl, hl, by rw [List.length_map, List.length_map, sizeLine_eq]; omega, fun q hq => ⟨(e.trans e3).upd' hq, q, _, none_of (e0'.trans e3) hq, rfl, ?_, ?_⟩⟩⟩
              · rw [upd_same, ← List.map_append, List.append_assoc, List.take_add_one, hti, Option.toList_some, namesL_snoc]
              · rw [List.take_add_one, hti, Option.toList_some, namesL_snoc, ← List.append_assoc, List.length_append]
                omega
            · rintro σ H' ⟨e, b, u2, nb, rfl, hbl, hle⟩
              refine ⟨_, rfl, kk b H' (e02.trans e) nb ?_⟩
              rw [hbl, T.names, T.namesL, hsl, List.take_length]
              rfl
end
end MR
end

section
set_option Elab.async false
set_option linter.all false
set_option maxRecDepth 100000
set_option maxHeartbeats 1000000
/-! The law's tables. The law's bodies are told by entries too: bv is the law's own tuple. -/
namespace MR
open PySem PySem.Spec PyProof.Rows L2 LY GW
/-- what is asked of a body at its place -/
structure BIn (n : Nat) (pre : List Str) (nm : Str) (t : T) : Prop where
  nm : okName nm = true
  ok : T.Ok n t
  names : ∀ k ∈ t.names, k ∈ pre
  dep : t.depth ≤ 4
  size : t.size ≤ 60
/-- the law's bodies -/
structure LB (H : Hp) (n : Nat) (es : List Ent) : Prop where
  lt : ∀ e ∈ es, LT H e.body e.bv
  nd : (es.map (·.nm)).Nodup
  inp : ∀ k e, es[k]? = some e → BIn n ((es.take k).map (·.nm)) e.nm e.body
  le : es.length ≤ 6
theorem LB.fx {H H' : Hp} {n : Nat} {es : List Ent} (h : LB H n es) (e : Fx H H') : LB H' n es := ⟨fun x hx => LT.fx e (h.lt x hx), h.nd, h.inp, h.le⟩
def Ent.key (e : Ent) : Str × List (List Int) × T × V × V := (e.nm, e.rows, e.body, e.cv, e.bv)
theorem nm_key {es es' : List Ent} (h : es'.map Ent.key = es.map Ent.key) : es'.map (·.nm) = es.map (·.nm) := by
  have := congrArg (List.map Prod.fst) h
  rw [List.map_map, List.map_map] at this
  exact this
theorem kvB_key {es es' : List Ent} (h : es'.map Ent.key = es.map Ent.key) : kvB es' = kvB es := by
  have := congrArg (List.map fun p : Str × List (List Int) × T × V × V => ((Sum.inr p.1 : Key), p.2.2.2.2)) h
  rw [List.map_map, List.map_map] at this
  exact this
theorem at_key {es es' : List Ent} (h : es'.map Ent.key = es.map Ent.key) {k : Nat} {e : Ent} (he : es'[k]? = some e) : ∃ i, es[k]? = some i ∧ e.nm = i.nm ∧ e.rows = i.rows ∧ e.body = i.body ∧ e.cv = i.cv ∧ e.bv = i.bv := by
  have h1 : (es'.map Ent.key)[k]? = some e.key := by rw [List.getElem?_map, he]; rfl
  rw [h, List.getElem?_map] at h1
  obtain ⟨i, h2, h3⟩ := Option.map_eq_some_iff.mp h1
  unfold Ent.key at h3
  simp only [Prod.mk.injEq] at h3
  exact ⟨i, h2, h3.1.symm, h3.2.1.symm, h3.2.2.1.symm, h3.2.2.2.1.symm, h3.2.2.2.2.symm⟩
theorem LB.key {H : Hp} {n : Nat} {es es' : List Ent} (h : LB H n es) (hk : es'.map Ent.key = es.map Ent.key) : LB H n es' := by
  have hnm := nm_key hk
  refine ⟨fun e he => ?_, by rw [hnm]; exact h.nd, fun k e he => ?_, ?_⟩
  · obtain ⟨k, hk', ek⟩ := List.getElem_of_mem he
    obtain ⟨i, h1, h2, h3, h4, h5, h6⟩ := at_key hk (k := k) (e := e) (by rw [← ek]; exact List.getElem?_eq_getElem hk')
    rw [h4, h6]
    exact h.lt i (List.mem_of_getElem? h1)
  · obtain ⟨i, h1, h2, h3, h4, h5, h6⟩ := at_key hk he
    rw [h2, h4, List.map_take, hnm, ← List.map_take]
    exact h.inp k i h1
  · have := congrArg List.length hnm
    rw [List.length_map, List.length_map] at this
    have := h.le
    omega
section
variable {P : Program} {w : World} {K : PySem.W.Frag} {mg : Str → Option Value} {base : Heap}
abbrev sTables : Stmt := top 43
theorem scTables : FnScope ["size", "trees", "found", "name", "argument"] ["size", "trees"] (defScope sTables) := ⟨rfl, rfl, rfl, by decide +kernel, rfl, by decide +kernel, by decide +kernel⟩
/-- the tables as they lie -/
structure TB (H : Hp) (n : Nat) (es : List Ent) (F : Addr) : Prop where
  at_ : H F = some (.dK (kvR es))
  rs : ∀ e ∈ es, H e.rp = some (.tup (e.res.map V.int))
  right : Right n es
def spTables : Sp := fun vs H Q _ => ∃ (B : Addr) (n : Nat) (es : List Ent), vs = [.int n, .ref B] ∧ (n = 2 ∨ n = 3) ∧ H B = some (.dK (kvB es)) ∧ LB H n es ∧
  ∀ H' F es', Ext H H' → H F = none → es'.map Ent.key = es.map Ent.key → TB H' n es' F → Q (.ref F) H'
structure TbI (H0 : Hp) (n : Nat) (es : List Ent) (F : Addr) (k : Nat) (es' : List Ent) (H' : Hp) : Prop where
  key : es'.map Ent.key = (es.take k).map Ent.key
  tb : TB H' n es' F
  keep : ∀ b o, b ≠ F → H0 b = some o → H' b = some o
theorem tables_ok {f : Addr} {fd : FuncData} (F : Fun K "_law_tables" "_law_tables" sTables f fd) (bn : BN mg) (cW : Cal P w K mg base 5 "_law_value" (spWorth K 4)) : FnOk P w K mg base CX0 6 f fd ["size", "trees"] spTables := by
  refine F.ok (k := 5) scTables (fun vs H Q E h => ?_) (fun cdv A outer s H vs Q E hr h => ?_)
  · obtain ⟨B, n, es, rfl, _⟩ := h
    rfl
  · obtain ⟨B, n, es, rfl, hn, hB, hL, kk⟩ := h
    refine ⟨_, pss_cons (ps_asg pe_dnewK (pg_name (i := 2) scTables.nd rfl (by first | exact .inl rfl | exact .inr rfl)))
      (pss_cons (ps_lock (ps_for PassesOwn.never rfl (pi_keys (pv 1)) (pg_name (i := 3) scTables.nd rfl (by first | exact .inl rfl | exact .inr rfl))
        (pss_one (ps_dput (by have := hu_of hr; exact this) (pv 2) (pv 3) (pe_callTy call_tuple_of (by rfl) (bn "tuple" (by decide)) boot_tTuple (pa_cons
          (pe_lc (own := [("argument", 4)]) (g := gName 4) (tt := tYes) (te := tCall (spWorth K 4) [] E0 (tCons (tDGet (tVar 1) (tVar 3)) (tCons (tVar 4) (tCons (tVar 2) tNil)))) rfl scTables.nd (pi_range1 (by rfl) (bn "range" (by decide)) (pa_cons (pv 0) pa_nil)) (blkOk_by (N := ["size", "trees", "found", "name", "argument"]) (sc := defScope sTables) (by decide +kernel))
            (fun _ _ _ _ _ => pg_name (i := 4) scTables.nd rfl (.inl rfl)) (fun _ _ _ _ _ => pts_nil) (fun _ _ _ _ _ => pe_c (j := 5) cW hr (Nat.le_refl _) (pa_cons (pe_dget (by have := hu_of hr; exact this) (pv 1) (pv 3) (fun _ _ => rfl)) (pa_cons (pv 4) (pa_cons (pv 2) pa_nil))))) pa_nil)) rfl))))
      (pss_one (ps_ret (pv 2)))), ?_⟩
    refine fun Fd hFd => ?_
    have e1 : Ext H (upd H Fd (.dK [])) := Ext.upd hFd
    have h1F : (upd H Fd (.dK [])) Fd = some (.dK []) := upd_same
    generalize (upd H Fd (.dK [])) = H1 at e1 h1F ⊢
    have hBF : B ≠ Fd := fun z => by rw [z, hFd] at hB; cases hB
    refine ⟨B, _, e1 _ _ hB, trivial, fun ob => ?_⟩
    have f2 : Fx H1 (upd H1 B (.frz ob (.dK (kvB es)))) := fx_lock (e1 _ _ hB) (fun q => q)
    have h2B : (upd H1 B (.frz ob (.dK (kvB es)))) B = some (.frz ob (.dK (kvB es))) := upd_same
    have h2F : (upd H1 B (.frz ob (.dK (kvB es)))) Fd = some (.dK []) := by rw [upd_ne (Ne.symm hBF)]; exact h1F
    have k2 : ∀ b o, b ≠ B → H b = some o → (upd H1 B (.frz ob (.dK (kvB es)))) b = some o := fun b o hb h => by rw [upd_ne hb]; exact e1 _ _ h
    generalize (upd H1 B (.frz ob (.dK (kvB es)))) = H2 at f2 h2B h2F k2 ⊢
    have hL2 : LB H2 n es := hL.fx ((Fx.of e1).trans f2)
    have wK : Walk (Itk B ob (kvB es)) es.length (fun H' => H' B = some (.frz ob (.dK (kvB es)))) (fun i H' x H'' => H'' = H' ∧ ∃ k v, (kvB es)[i]? = some (k, v) ∧ x = kV k) := by
      have := walk_keys (d := B) (o := ob) (kvs := kvB es)
      unfold kvB at this ⊢
      rwa [List.length_map] at this
    refine ⟨_, rfl, B, ob, rfl, .inl ⟨_, h2B, for_it wK (fun k σ H' => ∃ es' u3 u4, TbI H2 n es Fd k es' H' ∧ σ = [some (.int n), some (.ref B), some (.ref Fd), u3, u4]) ⟨[], none, none, ⟨rfl, ⟨h2F, fun e he => by simp at he, fun k e h => by simp at h⟩, fun b o _ h => h⟩, rfl⟩ (fun i σ H' _ ⟨es', _, _, I, _⟩ => I.keep _ _ hBF h2B) (fun i x σ H' H'' hi ⟨es', u3, u4, I, hσ⟩ hY => ?_) (fun σ H' ⟨es', u3, u4, I, hσ⟩ => ?_)⟩⟩
    · subst hσ
      obtain ⟨rfl, k', v', hkv, rfl⟩ := hY
      obtain ⟨e, he⟩ : ∃ e, es[i]? = some e := ⟨es[i], List.getElem?_eq_getElem hi⟩
      have : (kvB es)[i]? = some (.inr e.nm, e.bv) := by unfold kvB; rw [List.getElem?_map, he]; rfl
      rw [this] at hkv
      cases hkv
      have hnm := nm_key I.key
      have hb := hL.inp i e he
      have hnd : (es'.map (·.nm)).Nodup := by rw [hnm, List.map_take]; exact hL.nd.sublist (List.take_sublist _ _)
      have htot : TabTot (tabE es') n e.body.names := tabTot_of hnd I.tb.right (by rw [hnm]; exact hb.names)
      have hn3 : n ≤ 3 := by rcases hn with z | z <;> omega
      have fk : Fx H2 H'' := fun b o f h => I.keep b o (fun z => by rw [z, h2F] at h; cases h; exact f) h
      have hLe : LT H'' e.body e.bv := LT.fx fk (hL2.lt e (List.mem_of_getElem? he))
      refine ⟨_, rfl, n, rfl, by omega, by omega, fun D hD => ?_⟩
      refine lcm_range (lo := 0) (n := n) (R := fun i y _ => ∃ r : Int, y = .int r ∧ MR.T.ev (tabE es') i e.body = some r ∧ 0 ≤ r ∧ r < n) (fun _ _ _ _ _ h => h) hD (by rw [sizeLine_eq]; omega) ?hw (fun i2 H8 Qk e8 hi2 k2 => ?_) (fun H8 ys e8 hD8 hys hR => ?_)
      case hw => intro x; rfl
      · obtain ⟨r, hr1, hr2, hr3⟩ := ev_tot (x := (i2 : Int)) (by omega) (by omega) hb.ok htot
        refine ⟨_, rfl, _, rfl, B, e.bv, rfl, .inl ⟨_, .inr e.nm, .inr ⟨_, e8 _ _ (I.keep _ _ hBF h2B)⟩, rfl, (valV_map (g := fun e => e.bv) hL.nd he).symm⟩, _, rfl, _, rfl, e.bv, e.body, _, Fd, tabE es', r, rfl, LT.fx (Fx.of e8) hLe, hb.dep, tabAt_of hnd (.inl (e8 _ _ I.tb.at_)) (fun x hx => e8 _ _ (I.tb.rs x hx)), by rw [Int.zero_add]; exact hr1, k2 _ _ Ext.rfl' ⟨r, rfl, hr1, hr2, hr3⟩⟩
      obtain ⟨zs, hzs, _⟩ := ints_all ys fun i y hy => let ⟨r, h, _⟩ := hR i y hy; ⟨r, h⟩
      subst hzs
      rw [List.length_map] at hys
      refine ⟨D, _, rfl, .inl ⟨.inl (.inl hD8), fun p2 hp2 => ?_⟩⟩
      have e9 : Ext H'' (upd H8 p2 (.tup (zs.map V.int))) := e8.upd' hp2
      have hp9 : (upd H8 p2 (.tup (zs.map V.int))) p2 = some (.tup (zs.map V.int)) := upd_same
      generalize (upd H8 p2 (.tup (zs.map V.int))) = H9 at e9 hp9 ⊢
      have hel : es'.length ≤ 6 := by
        have := congrArg List.length hnm
        rw [List.length_map, List.length_map, List.length_take] at this
        have := hL.le
        omega
      refine ⟨_, rfl, _, rfl, Fd, _, rfl, .inl ⟨_, .inr e.nm, e9 _ _ I.tb.at_, rfl, by unfold kvR; rw [List.length_map, sizeLine_eq]; omega, rfl⟩, ?_⟩
      have r10 : (upd H9 Fd (.dK (putK (kvR es') (.inr e.nm) (.ref p2)))) Fd = some (.dK (putK (kvR es') (.inr e.nm) (.ref p2))) := upd_same
      have k10 : ∀ b o, b ≠ Fd → H'' b = some o → (upd H9 Fd (.dK (putK (kvR es') (.inr e.nm) (.ref p2)))) b = some o := fun b o hb h => by rw [upd_ne hb]; exact e9 _ _ h
      have p10 : (upd H9 Fd (.dK (putK (kvR es') (.inr e.nm) (.ref p2)))) p2 = some (.tup (zs.map V.int)) := by
        rw [upd_ne (fun z => by rw [z] at hp9; have := e9 _ _ I.tb.at_; rw [hp9] at this; cases this)]
        exact hp9
      generalize (upd H9 Fd (.dK (putK (kvR es') (.inr e.nm) (.ref p2)))) = H10 at r10 k10 p10 ⊢
      have hnew : e.nm ∉ es'.map (·.nm) := by rw [hnm]; exact not_beforeE hL.nd he
      refine ⟨es' ++ [⟨e.nm, e.rows, e.body, zs, e.cv, e.bv, p2⟩], _, _, ⟨?_, ⟨?_, fun x hx => ?_, right_snoc I.tb.right ⟨hys, fun i2 hi2 => ?_⟩⟩, fun b o hb h => k10 _ _ hb (I.keep _ _ hb h)⟩, rfl⟩
      · rw [List.take_add_one, he, List.map_append, List.map_append, I.key]
        rfl
      · rw [r10]
        unfold kvR
        rw [putK_new hnew, List.map_append]
        rfl
      · rcases List.mem_append.mp hx with h | h
        · exact k10 _ _ (fun z => by have := I.tb.rs x h; rw [z, I.tb.at_] at this; cases this) (I.tb.rs x h)
        · rw [List.mem_singleton] at h
          subst h
          exact p10
      · have hl : i2 < zs.length := by rw [hys]; exact hi2
        obtain ⟨r, h1, h2, h3, h4⟩ := hR i2 (.int zs[i2]) (by rw [List.getElem?_map, List.getElem?_eq_getElem hl]; rfl)
        cases h1
        exact ⟨_, List.getElem?_eq_getElem hl, h2, h3, h4⟩
    · subst hσ
      refine ⟨I.keep _ _ hBF h2B, _, rfl, ?_⟩
      have hkey := I.key
      rw [List.take_length] at hkey
      have nB : ∀ {b : Addr} {o : HO}, H' b = some o → (∀ o', o ≠ .frz ob o') → b ≠ B := fun h hne z => by rw [z, I.keep _ _ hBF h2B] at h; cases h; exact hne _ rfl
      refine kk _ Fd es' (fun b o h => ?_) hFd hkey ⟨by rw [upd_ne (Ne.symm hBF)]; exact I.tb.at_, fun e he => ?_, I.tb.right⟩
      · by_cases hb : b = B
        · subst hb
          rw [upd_same]
          exact hB.symm.trans h
        · rw [upd_ne hb]
          exact I.keep _ _ (fun z => by rw [z, hFd] at h; cases h) (k2 _ _ hb h)
      · have := I.tb.rs e he
        rw [upd_ne (nB this fun o' z => by cases z)]
        exact this
end
end MR
end

section
set_option Elab.async false
set_option linter.all false
set_option maxRecDepth 100000
set_option maxHeartbeats 1000000
/-! The law's plans. -/
namespace MR
open PySem PySem.Spec PyProof.Rows L2 LY GW
def Ent.d3 (e : Ent) : Str × T × V := (e.nm, e.body, e.bv)
theorem nm_d3 {es es' : List Ent} (h : es'.map Ent.d3 = es.map Ent.d3) : es'.map (·.nm) = es.map (·.nm) := by
  have := congrArg (List.map Prod.fst) h
  rw [List.map_map, List.map_map] at this
  exact this
theorem kvB_d3 {es es' : List Ent} (h : es'.map Ent.d3 = es.map Ent.d3) : kvB es' = kvB es := by
  have := congrArg (List.map fun p : Str × T × V => ((Sum.inr p.1 : Key), p.2.2)) h
  rw [List.map_map, List.map_map] at this
  exact this
theorem at_d3 {es es' : List Ent} (h : es'.map Ent.d3 = es.map Ent.d3) {k : Nat} {e : Ent} (he : es'[k]? = some e) : ∃ i, es[k]? = some i ∧ e.nm = i.nm ∧ e.body = i.body ∧ e.bv = i.bv := by
  have h1 : (es'.map Ent.d3)[k]? = some e.d3 := by rw [List.getElem?_map, he]; rfl
  rw [h, List.getElem?_map] at h1
  obtain ⟨i, h2, h3⟩ := Option.map_eq_some_iff.mp h1
  unfold Ent.d3 at h3
  simp only [Prod.mk.injEq] at h3
  exact ⟨i, h2, h3.1.symm, h3.2.1.symm, h3.2.2.symm⟩
theorem LB.d3 {H : Hp} {n : Nat} {es es' : List Ent} (h : LB H n es) (hk : es'.map Ent.d3 = es.map Ent.d3) : LB H n es' := by
  have hnm := nm_d3 hk
  refine ⟨fun e he => ?_, by rw [hnm]; exact h.nd, fun k e he => ?_, ?_⟩
  · obtain ⟨k, hk', ek⟩ := List.getElem_of_mem he
    obtain ⟨i, h1, h2, h3, h4⟩ := at_d3 hk (k := k) (e := e) (by rw [← ek]; exact List.getElem?_eq_getElem hk')
    rw [h3, h4]
    exact h.lt i (List.mem_of_getElem? h1)
  · obtain ⟨i, h1, h2, h3, h4⟩ := at_d3 hk he
    rw [h2, h3, List.map_take, hnm, ← List.map_take]
    exact h.inp k i h1
  · have := congrArg List.length hnm
    rw [List.length_map, List.length_map] at this
    have := h.le
    omega
theorem asc_snoc {acc : List Int} {z : Int} (h : ∀ (m : Nat) (a b : Int), acc[m]? = some a → acc[m + 1]? = some b → a < b) (hz : ∀ x ∈ acc, x < z) : ∀ (m : Nat) (a b : Int), (acc ++ [z])[m]? = some a → (acc ++ [z])[m + 1]? = some b → a < b := by
  intro m a b h1 h2
  have hl := (List.getElem?_eq_some_iff.mp h2).1
  rw [List.length_append, List.length_singleton] at hl
  rw [List.getElem?_append_left (by omega)] at h1
  by_cases hm : m + 1 < acc.length
  · rw [List.getElem?_append_left hm] at h2
    exact h m a b h1 h2
  · have : m + 1 = acc.length := by omega
    rw [this, List.getElem?_append_right (Nat.le_refl _), Nat.sub_self] at h2
    cases h2
    exact hz a (List.mem_of_getElem? h1)
theorem tabE_nr : ∀ {es es' : List Ent}, es.map (fun e => (e.nm, e.res)) = es'.map (fun e => (e.nm, e.res)) → tabE es = tabE es'
  | [], [], _ => rfl
  | e :: r, e' :: r', h => by
    simp only [List.map_cons, List.cons.injEq, Prod.mk.injEq] at h
    have ih := tabE_nr h.2
    funext f i
    have ih := congrFun (congrFun ih f) i
    unfold tabE at ih ⊢
    rw [List.find?_cons, List.find?_cons, h.1.1]
    cases decide (e'.nm = f) with
    | true => rw [Option.bind_some, Option.bind_some, h.1.2]
    | false => exact ih
  | [], _ :: _, h => by simp at h
  | _ :: _, [], h => by simp at h
theorem Right.as {n : Nat} {es es' : List Ent} (h : Right n es') (h3 : es.map Ent.d3 = es'.map Ent.d3) (hr : es.map (·.res) = es'.map (·.res)) : Right n es := by
  intro k e he
  obtain ⟨i, h1, h2, h4, _⟩ := at_d3 h3 he
  have hres : e.res = i.res := by
    have q : (es.map (·.res))[k]? = some e.res := by rw [List.getElem?_map, he]; rfl
    rw [hr, List.getElem?_map, h1] at q
    exact (Option.some.inj q).symm
  have ht : tabE (es.take k) = tabE (es'.take k) := tabE_nr (by
    have : ∀ l : List Ent, l.map (fun e => (e.nm, e.res)) = (l.map (·.nm)).zip (l.map (·.res)) := fun l => by induction l with | nil => rfl | cons x r ih => rw [List.map_cons, ih]; rfl
    rw [this, this, List.map_take, List.map_take, List.map_take, List.map_take, nm_d3 h3, hr])
  obtain ⟨q1, q2⟩ := h k i h1
  refine ⟨by rw [hres]; exact q1, ?_⟩
  rw [hres, ht, h4]
  exact q2
theorem brk_none {es : List Ent} (nd : (es.map (·.nm)).Nodup) (h : ∀ x ∈ es, ∀ (j : Nat) (r : Int), x.res[j]? = some r → r ∈ (x.rows[j]?).getD []) : brk es = none := by
  unfold brk
  rw [Option.map_eq_none_iff, List.find?_eq_none]
  intro p hp
  obtain ⟨i, hi, ei⟩ := List.getElem_of_mem hp
  obtain ⟨k, j, e, he, h1, h2, h3⟩ := pls_get (es := es) (i := i) (p := p) (by rw [← ei]; exact List.getElem?_eq_getElem hi)
  unfold bad
  rw [← h1, find_nm nd he]
  show ¬ (!(((e.rows[p.2.1.toNat]?).getD []).contains p.2.2)) = true
  rw [h2, Int.toNat_natCast]
  have := h e (List.mem_of_getElem? he) j _ h3
  simp [this]
/-- rows in a list -/
def RwsL (H : Hp) (p : Addr) (rs : List (List Int)) : Prop := ∃ us, H p = some (.lst us) ∧ us.length = rs.length ∧ ∀ (i : Nat) (u : V), us[i]? = some u → ∃ r q, rs[i]? = some r ∧ u = .ref q ∧ H q = some (.tup (r.map V.int))
theorem RwsL.keep {H H' : Hp} {p : Addr} {rs : List (List Int)} (h : RwsL H p rs) (k : ∀ o, H p = some o → H' p = some o) (f : Fx H H') : RwsL H' p rs := by
  obtain ⟨us, h1, h2, h3⟩ := h
  exact ⟨us, k _ h1, h2, fun i u hu => let ⟨r, q, a, b, c⟩ := h3 i u hu; ⟨r, q, a, b, f _ _ (show Fixed (.tup _) from trivial) c⟩⟩
theorem RwsL.ne {K : PySem.W.Frag} {st : Addr} {sc : Addr × List Int} {H : Hp} (hs : StA K st sc H) {p : Addr} {rs : List (List Int)} (h : RwsL H p rs) (hn : 1 ≤ rs.length) : p ≠ st := fun z => by
  obtain ⟨xs, hx, _⟩ := hs
  obtain ⟨us, h1, h2, h3⟩ := h
  rw [z, hx] at h1
  cases h1
  rw [List.length_map] at h2
  obtain ⟨r, q, _, k2, _⟩ := h3 0 (.int xs[0]) (by rw [List.getElem?_map, List.getElem?_eq_getElem (by omega)]; rfl)
  cases k2
theorem StA.strs {K : PySem.W.Frag} {st : Addr} {sc : Addr × List Int} {H : Hp} (h : StA K st sc H) {l : Addr} {ss : List Str} (hl : H l = some (.lst (ss.map V.str))) (hn : 1 ≤ ss.length) : l ≠ st := fun z => by
  obtain ⟨xs, hx, _⟩ := h
  rw [z, hx] at hl
  cases ss with
  | nil => simp at hn
  | cons s r =>
    cases xs with
    | nil => cases hl
    | cons _ _ => cases hl
theorem StA.dk {K : PySem.W.Frag} {st : Addr} {sc : Addr × List Int} {H : Hp} (h : StA K st sc H) {x : Addr} {kvs : List (Key × V)} (hx : H x = some (.dK kvs)) : x ≠ st := fun z => by obtain ⟨xs, q⟩ := h.is; rw [← z, hx] at q; cases q
theorem Nxt.put {K : PySem.W.Frag} {st : Addr} {sc : Addr × List Int} {H0 H : Hp} (h0 : StA K st sc H0) {x : Addr} (hx : H0 x = none) (h : Nxt K st sc H0 H) {o : HO} : Nxt K st sc H0 (upd H x o) :=
  ⟨fun b u hb h' => by rw [upd_ne (fun z => by rw [z, hx] at h'; cases h')]; exact h.but b u hb h', h0.new hx h.st⟩
theorem LB.snoc' {H : Hp} {n : Nat} {es : List Ent} {e : Ent} (h : LB H n es) (hl : LT H e.body e.bv) (hb : BIn n (es.map (·.nm)) e.nm e.body) (hn : e.nm ∉ es.map (·.nm)) (h5 : es.length < 6) : LB H n (es ++ [e]) := by
  refine ⟨fun x hx => ?_, ?_, fun k x hx => ?_, by rw [List.length_append, List.length_singleton]; omega⟩
  · rcases List.mem_append.mp hx with q | q
    · exact h.lt x q
    · rw [List.mem_singleton] at q; subst q; exact hl
  · rw [List.map_append]
    exact List.nodup_append.mpr ⟨h.nd, by simp, fun a ha b hb => by
      have hb : b = e.nm := by simpa using hb
      rw [hb]
      exact fun z => hn (z ▸ ha)⟩
  · by_cases hk : k < es.length
    · rw [List.getElem?_append_left hk] at hx
      rw [List.take_append_of_le_length (by omega)]
      exact h.inp k x hx
    · have hk2 := (List.getElem?_eq_some_iff.mp hx).1
      rw [List.length_append, List.length_singleton] at hk2
      have : k = es.length := by omega
      subst this
      rw [List.getElem?_append_right (Nat.le_refl _), Nat.sub_self] at hx
      cases hx
      rw [List.take_append_of_le_length (Nat.le_refl _), List.take_length]
      exact hb
section
variable {P : Program} {w : World} {K : PySem.W.Frag} {mg : Str → Option Value} {base : Heap}
abbrev sPlan : Stmt := top 44
abbrev nPlan : List Str := ["draws", "most", "deep", "size", "names", "trees", "rows", "name", "tables", "argument", "row", "number"]
theorem scPlan : FnScope nPlan ["draws", "most", "deep"] (defScope sPlan) := ⟨rfl, rfl, rfl, by decide +kernel, rfl, by decide +kernel, by decide +kernel⟩
structure LRl (H : Hp) (n : Nat) (es : List Ent) : Prop where
  at_ : ∀ e ∈ es, ∃ p, e.cv = .ref p ∧ RwsL H p e.rows
  ok : ∀ e ∈ es, e.rows.length = n ∧ ∀ r ∈ e.rows, OkRow n r
def gNames : List Str := ["f", "arg", "h", "abcdefgh", "k"]
def spPlan (K : PySem.W.Frag) : Sp := fun vs H Q _ => ∃ (st : Addr) (sc : Addr × List Int) (m : Nat), vs = [.ref st, .int m, .int 2] ∧ StA K st sc H ∧ 1 ≤ m ∧ m ≤ 5 ∧
  ∀ H' q B R n es, Nxt K st sc H H' → (n = 2 ∨ n = 3) → H' q = some (.tup [.int (n : Nat), .ref R, .ref B]) → H' B = some (.dK (kvB es)) → H' R = some (.dK (kvC es)) → B ≠ R → H B = none → H R = none → LB H' n es → LRl H' n es → Right n es → brk es = none → (∀ x ∈ es.map (·.nm), x ∈ gNames) → 1 ≤ es.length → es.length ≤ m → Q (.ref q) H'
theorem plan_ok {f : Addr} {fd : FuncData} (F : Fun K "_law_drawn_plan" "_law_drawn_plan" sPlan f fd) (bn : BN mg) (cN : Cal P w K mg base 1 "_law_take" (spNext K)) (cB : Cal P w K mg base 7 "_law_drawn_tree" (spBody K 3)) (cT : Cal P w K mg base 6 "_law_tables" spTables) : FnOk P w K mg base CX0 8 f fd ["draws", "most", "deep"] (spPlan K) := by
  refine F.ok (k := 7) scPlan (fun vs H Q E h => ?_) (fun cdv A outer s H vs Q E hr h => ?_)
  · obtain ⟨st, sc, m, rfl, _⟩ := h
    rfl
  · obtain ⟨st, sc, m, rfl, hst, hm1, hm5, kk⟩ := h
    have u1 := hu_of hr
    obtain ⟨t1, h1, r1⟩ : ∃ t1, PSs (cxOf CX0 P w K mg base nPlan "_law_drawn_plan" (defScope sPlan) f cdv A outer s H E).nox ((defBody sPlan).drop 1) t1 ∧ ∀ (n kn : Nat) (p : Addr) (H4 : Hp), (n = 2 ∨ n = 3) → Nxt K st sc H H4 → H4 p = some (.lst ((gNames.take kn).map V.str)) → 1 ≤ kn → kn ≤ m →
        t1 { nx := fun _ H' => Q .non H', rt := Q } [some (.ref st), some (.int m), some (.int 2), some (.int n), some (.ref p), none, none, none, none, none, none, none] H4 := by
      refine ⟨_, pss_cons (ps_par rfl scPlan.nd (i := 5) (j := 6) rfl rfl (by decide) rfl rfl (pa_cons pe_dnewK (pa_cons pe_dnewK pa_nil)) (by rfl))
      (pss_cons (ps_for PassesOwn.never rfl (pi_list (pv 4)) (pg_name (i := 7) scPlan.nd rfl (by first | exact .inl rfl | exact .inr rfl))
        (pss_one (ps_dput (by exact u1) (pv 5) (pv 7) (pe_c (j := 7) cB hr (by decide) (pa_cons (pv 0) (pa_cons (pv 3) (pa_cons (pe_callTy (call_listD rfl) (by rfl) (bn "list" (by decide)) boot_tList (pa_cons (pv 5) pa_nil)) (pa_cons (pv 2) pa_nil))))) rfl)))
      (pss_cons (ps_asg (pe_c (j := 7) cT hr (by decide) (pa_cons (pv 3) (pa_cons (pv 5) pa_nil))) (pg_name (i := 8) scPlan.nd rfl (by first | exact .inl rfl | exact .inr rfl)))
      (pss_cons (ps_for PassesOwn.never rfl (pi_list (pv 4)) (pg_name (i := 7) scPlan.nd rfl (by first | exact .inl rfl | exact .inr rfl))
        (pss_cons (ps_dput (by exact u1) (pv 6) (pv 7) (pe_lst pa_nil) rfl)
        (pss_one (ps_for PassesOwn.never rfl (pi_range1 (by rfl) (bn "range" (by decide)) (pa_cons (pv 3) pa_nil)) (pg_name (i := 9) scPlan.nd rfl (by first | exact .inl rfl | exact .inr rfl))
          (pss_cons (ps_setLc (own := [("number", 11)]) (g := gName 11) (tt := tOr (tTest (tOp rEq (tVar 11) (tOp (rIxT K) (tDGet (tVar 8) (tVar 7)) (tVar 9)))) (tTest (tOp rEq (tCall (spNext K) [] E0 (tCons (tVar 0) (tCons (tC (.int 3)) tNil))) (tC (.int 0))))) (te := tVar 11) rfl scPlan.nd (i := 10) rfl rfl (sw_true rfl rfl rfl (by decide +kernel)) (pi_range1 (by rfl) (bn "range" (by decide)) (pa_cons (pv 3) pa_nil)) (blkOk_by (N := nPlan) (sc := defScope sPlan) (by decide +kernel))
              (fun _ _ _ _ _ => pg_name (i := 11) scPlan.nd rfl (by first | exact .inl rfl | exact .inr rfl)) (fun _ _ _ _ _ => pts_one (PW.pt (pw_or (pt_cmpR op_eq (pv 11) (pe_ix ix_tup (pe_dget (by exact u1) (pv 8) (pv 7) (fun _ _ => rfl)) (pv 9) (fun _ _ => rfl)) rfl) (pw_or1 (pt_cmpR op_eq (pe_c (j := 7) cN hr (by decide) (pa_cons (pv 0) (pa_cons pe_int pa_nil))) pe_int rfl))))) (fun _ _ _ _ _ => pv 11))
          (pss_one (ps_expr (pe_bm PySem.F.plainAttrs_list PySem.F.slot_list_append PySem.F.type_list_append mt_append (pe_dget (by exact u1) (pv 6) (pv 7) (fun _ _ => rfl)) (pa_cons (pe_callTy call_tuple_of (by rfl) (bn "tuple" (by decide)) boot_tTuple (pa_cons (pv 10) pa_nil)) pa_nil)))))))))
      (pss_one (ps_ret (pe_tup (pa_cons (pv 3) (pa_cons (pv 6) (pa_cons (pv 5) pa_nil))))))))), fun n kn p H4 hn nx4 hp4 hk1 hkm => ?_⟩
      have hnl : (gNames.take kn).length = kn := by rw [List.length_take]; show min kn 5 = kn; omega
      have hnd : (gNames.take kn).Nodup := (by decide +kernel : gNames.Nodup).sublist (List.take_sublist _ _)
      have hok : ∀ x ∈ gNames.take kn, okName x = true := fun x hx => (by decide +kernel : ∀ x ∈ gNames, okName x = true) x (List.mem_of_mem_take hx)
      have hps : p ≠ st := nx4.st.strs hp4 (by rw [hnl]; exact hk1)
      refine fun B hB => fun R hR => ⟨_, _, rfl, ?_⟩
      have hRB : R ≠ B := fun z => by rw [z, upd_same] at hR; cases hR
      have hRn : H4 R = none := by rw [upd_ne hRB] at hR; exact hR
      have hpB : p ≠ B := fun z => by rw [z, hB] at hp4; cases hp4
      have hpR : p ≠ R := fun z => by rw [z, hRn] at hp4; cases hp4
      have e1 : Ext H4 (upd (upd H4 B (.dK [])) R (.dK [])) := (Ext.upd hB).upd' hR
      have h1B : (upd (upd H4 B (.dK [])) R (.dK [])) B = some (.dK []) := by rw [upd_ne (Ne.symm hRB)]; exact upd_same
      have h1R : (upd (upd H4 B (.dK [])) R (.dK [])) R = some (.dK []) := upd_same
      generalize (upd (upd H4 B (.dK [])) R (.dK [])) = H3 at e1 h1B h1R ⊢
      have nx3 := nx4.ext e1
      have hp3 := e1 _ _ hp4
      have hBs := nx3.st.dk h1B
      have hRs := nx3.st.dk h1R
      have n0B : H B = none := by
        cases q : H B with
        | none => rfl
        | some u => have := nx4.but _ _ hBs q; rw [hB] at this; cases this
      have n0R : H R = none := by
        cases q : H R with
        | none => rfl
        | some u => have := nx4.but _ _ hRs q; rw [hRn] at this; cases this
      refine ⟨_, rfl, p, rfl, ⟨_, .inl (.inl hp3)⟩, for_list (xs := (gNames.take kn).map V.str) (fun i σ H' => ∃ es u5, es.map (·.nm) = (gNames.take kn).take i ∧ LB H' n es ∧ H' B = some (.dK (kvB es)) ∧ StA K st sc H' ∧ (∀ b o, b ≠ st → b ≠ B → H3 b = some o → H' b = some o) ∧ σ = [some (.ref st), some (.int m), some (.int 2), some (.int n), some (.ref p), some (.ref B), some (.ref R), u5, none, none, none, none]) ⟨[], none, rfl, ⟨fun e he => by simp at he, List.nodup_nil, fun k e h => by simp at h, by simp⟩, h1B, nx3.st, fun b o _ _ h => h, rfl⟩ (fun i σ H' _ ⟨es, u5, _, _, _, _, hk, _⟩ => .inl (.inl (hk _ _ hps hpB hp3))) ?_ ?_⟩
      · rintro i x σ H' hx ⟨es, u5, hnm, hLB, hB', hst', hk, rfl⟩
        rw [List.getElem?_map] at hx
        obtain ⟨nm, hnmi, rfl⟩ := Option.map_eq_some_iff.mp hx
        have hsub : ∀ x ∈ es.map (·.nm), x ∈ gNames.take kn := fun x hx => by rw [hnm] at hx; exact List.mem_of_mem_take hx
        refine ⟨_, rfl, _, rfl, _, rfl, B, _, rfl, .inl hB', fun l hl => ?_⟩
        have el : Ext H' (upd H' l (.lst ((kvB es).map fun kv => kV kv.1))) := Ext.upd hl
        have hll : (upd H' l (.lst ((kvB es).map fun kv => kV kv.1))) l = some (.lst ((es.map (·.nm)).map V.str)) := by rw [upd_same, keys_kv]
        generalize (upd H' l (.lst ((kvB es).map fun kv => kV kv.1))) = H5 at el hll ⊢
        have hls : l ≠ st := fun z => by obtain ⟨xs, hx⟩ := hst'.is; rw [← z, hl] at hx; cases hx
        refine ⟨_, rfl, st, sc, n, l, es.map (·.nm), 2, rfl, by decide, hst'.ext el, hn, hll, hls, by rw [List.length_map]; exact hLB.le, fun x hx => ok_str (hok x (hsub x hx)), fun v t H6 nx6 hL hBd => ?_⟩
        have nx46 : Nxt K st sc H' H6 := (Nxt.of hst' el).trans nx6
        have hB6 := nx46.but _ _ hBs hB'
        refine ⟨_, rfl, _, rfl, B, _, rfl, .inl ⟨_, .inr nm, hB6, rfl, by unfold kvB; rw [List.length_map, sizeLine_eq]; have := hLB.le; omega, rfl⟩, ?_⟩
        have hnew : nm ∉ es.map (·.nm) := by
          rw [hnm]
          intro hm
          obtain ⟨j, hj, ej⟩ := List.getElem_of_mem hm
          rw [List.length_take] at hj
          rw [List.getElem_take] at ej
          obtain ⟨g1, g2⟩ := List.getElem?_eq_some_iff.mp hnmi
          exact (List.pairwise_iff_getElem.mp hnd) j i (by omega) g1 (by omega) (by rw [ej, g2])
        have f5 : Fx H' (upd H6 B (.dK (putK (kvB es) (.inr nm) v))) := (hst'.fx nx46.but).trans (Fx.upd fun u hu => by rw [hB6] at hu; cases hu; exact fun q => q)
        have fB : Fx H6 (upd H6 B (.dK (putK (kvB es) (.inr nm) v))) := Fx.upd fun u hu => by rw [hB6] at hu; cases hu; exact fun q => q
        have hesl : es.length < 6 := by
          have := congrArg List.length hnm
          rw [List.length_map, List.length_take, hnl] at this
          omega
        refine ⟨es ++ [⟨nm, [], t, [], .non, v, 0⟩], _, ?_, LB.snoc' (hLB.fx f5) (LT.fx fB hL) ⟨hok nm (List.mem_of_getElem? hnmi), hBd.ok, hBd.names, Nat.le_trans hBd.dep (by decide), Nat.le_trans hBd.size (by decide)⟩ hnew hesl, ?_, ?_, fun b o h1 h2 h => ?_, rfl⟩
        · rw [List.map_append, hnm, List.take_add_one, hnmi]
          rfl
        · rw [upd_same]
          unfold kvB
          rw [putK_new hnew, List.map_append]
          rfl
        · exact (Nxt.put nx4.st hB ⟨fun b o h1 h2 => nx46.but _ _ h1 (hk _ _ h1 (fun z => by rw [z, hB] at h2; cases h2) (e1 _ _ h2)), nx46.st⟩).st
        · rw [upd_ne h2]
          exact nx46.but _ _ h1 (hk _ _ h1 h2 h)
      · rintro σ H' ⟨es, u5, hnm, hLB, hB', hst', hk, rfl⟩
        rw [List.length_map, List.take_length] at hnm
        have hlen : es.length = kn := by have := congrArg List.length hnm; rw [List.length_map, hnl] at this; exact this
        have hR' := hk _ _ hRs hRB h1R
        have hp' := hk _ _ hps hpB hp3
        refine ⟨_, rfl, _, rfl, B, n, es, rfl, hn, hB', hLB, fun H6 F es' e6 hF hkey tb => ?_⟩
        have hB6 : H6 B = some (.dK (kvB es')) := by rw [kvB_key hkey]; exact e6 _ _ hB'
        have hL6 : LB H6 n es' := (hLB.fx (Fx.of e6)).key hkey
        have hR6 := e6 _ _ hR'
        have hp6 := e6 _ _ hp'
        have hst6 := hst'.ext e6
        have hnm6 : es'.map (·.nm) = gNames.take kn := (nm_key hkey).trans hnm
        have hlen' : es'.length = kn := by have := congrArg List.length hnm6; rw [List.length_map, hnl] at this; exact this
        have hFs : F ≠ st := fun z => by obtain ⟨xs, hx⟩ := hst'.is; rw [← z, hF] at hx; cases hx
        have hFR : F ≠ R := fun z => by rw [z, hR'] at hF; cases hF
        refine ⟨_, rfl, p, rfl, ⟨_, .inl (.inl hp6)⟩, for_list (xs := (gNames.take kn).map V.str) (fun k σ H' => ∃ es2 u7 u9 u10 u11, es2.map Ent.d3 = (es'.take k).map Ent.d3 ∧ es2.map (·.res) = (es'.take k).map (·.res) ∧ (∀ x ∈ es2, ∀ (j : Nat) (r : Int), x.res[j]? = some r → r ∈ (x.rows[j]?).getD []) ∧ H' R = some (.dK (kvC es2)) ∧ LRl H' n es2 ∧ StA K st sc H' ∧ (∀ b o, b ≠ st → b ≠ R → H6 b = some o → H' b = some o) ∧ σ = [some (.ref st), some (.int m), some (.int 2), some (.int n), some (.ref p), some (.ref B), some (.ref R), u7, some (.ref F), u9, u10, u11]) ⟨[], _, none, none, none, rfl, rfl, fun x hx => by simp at hx, hR6, ⟨fun e he => by simp at he, fun e he => by simp at he⟩, hst6, fun b o _ _ h => h, rfl⟩ (fun i σ H' _ ⟨es2, u7, u9, u10, u11, _, _, _, _, _, _, hk2, _⟩ => .inl (.inl (hk2 _ _ hps hpR hp6))) ?_ ?_⟩
        · rintro i x σ H'' hx ⟨es2, u7, u9, u10, u11, hd3, hrs2, hkp2, hRd, hLR, hst2, hk2, rfl⟩
          rw [List.getElem?_map, ← hnm6, List.getElem?_map] at hx
          obtain ⟨nm, hnmi, rfl⟩ := Option.map_eq_some_iff.mp hx
          obtain ⟨e, he, rfl⟩ := Option.map_eq_some_iff.mp hnmi
          have heR := tb.right i e he
          have hn2 : 2 ≤ n := by rcases hn with z | z <;> omega
          have hn3 : n ≤ 3 := by rcases hn with z | z <;> omega
          have hndes : (es'.map (·.nm)).Nodup := hL6.nd
          have hnm2 : es2.map (·.nm) = (es'.take i).map (·.nm) := nm_d3 hd3
          have hnew : e.nm ∉ es2.map (·.nm) := by rw [hnm2]; exact not_beforeE hndes he
          have hes2 : es2.length ≤ 6 := by
            have := congrArg List.length hnm2
            rw [List.length_map, List.length_map, List.length_take] at this
            omega
          refine ⟨(show 0 ≤ sizeLine by decide), fun lr hlr => ?_⟩
          have e8 : Ext H'' (upd H'' lr (.lst [])) := Ext.upd hlr
          have h8l : (upd H'' lr (.lst [])) lr = some (.lst []) := upd_same
          have hlrR : lr ≠ R := fun z => by rw [z, hRd] at hlr; cases hlr
          have hlrs : lr ≠ st := fun z => by obtain ⟨xs, hx⟩ := hst2.is; rw [← z, hlr] at hx; cases hx
          generalize (upd H'' lr (.lst [])) = H8 at e8 h8l ⊢
          have h8R := e8 _ _ hRd
          refine ⟨_, rfl, _, rfl, R, _, rfl, .inl ⟨_, .inr e.nm, h8R, rfl, by unfold kvC; rw [List.length_map, sizeLine_eq]; omega, rfl⟩, ?_⟩
          have f89 : Fx H8 (upd H8 R (.dK (putK (kvC es2) (.inr e.nm) (.ref lr)))) := Fx.upd fun u hu => by rw [h8R] at hu; cases hu; exact fun q => q
          have h9R : (upd H8 R (.dK (putK (kvC es2) (.inr e.nm) (.ref lr)))) R = some (.dK (kvC (es2 ++ [⟨e.nm, [], e.body, e.res, .ref lr, e.bv, 0⟩]))) := by
            rw [upd_same]
            unfold kvC
            rw [putK_new hnew, List.map_append]
            rfl
          have h9l : (upd H8 R (.dK (putK (kvC es2) (.inr e.nm) (.ref lr)))) lr = some (.lst []) := by rw [upd_ne hlrR]; exact h8l
          have k9 : ∀ b o, b ≠ R → H'' b = some o → (upd H8 R (.dK (putK (kvC es2) (.inr e.nm) (.ref lr)))) b = some o := fun b o h1 h => by rw [upd_ne h1]; exact e8 _ _ h
          have st9 : StA K st sc (upd H8 R (.dK (putK (kvC es2) (.inr e.nm) (.ref lr)))) := by
            obtain ⟨xs, q1, q2⟩ := hst2.ext e8
            exact ⟨xs, by rw [upd_ne (Ne.symm hRs)]; exact q1, q2⟩
          generalize (upd H8 R (.dK (putK (kvC es2) (.inr e.nm) (.ref lr)))) = H9 at f89 h9R h9l k9 st9 ⊢
          have keep9 : ∀ b o, b ≠ st → b ≠ R → H6 b = some o → H9 b = some o := fun b o h1 h2 h => k9 _ _ h2 (hk2 _ _ h1 h2 h)
          have hF9 := keep9 _ _ hFs hFR tb.at_
          have hrp6 := tb.rs e (List.mem_of_getElem? he)
          have tupn : ∀ {b : Addr} {xs : List V}, H6 b = some (.tup xs) → b ≠ st ∧ b ≠ R := fun {b xs} h => ⟨(fun z => by obtain ⟨ys, hy⟩ := hst6.is; rw [← z, h] at hy; cases hy), (fun z => by rw [z, hR6] at h; cases h)⟩
          have hrp9 := keep9 _ _ (tupn hrp6).1 (tupn hrp6).2 hrp6
          have hvF : valV (kvR es') (.inr e.nm) = some (.ref e.rp) := valV_map (g := fun e => V.ref e.rp) hndes he
          have hndS : ((es2 ++ [(⟨e.nm, [], e.body, e.res, .ref lr, e.bv, 0⟩ : Ent)]).map (·.nm)).Nodup := by
            rw [List.map_append, hnm2]
            have := hndes.sublist ((List.take_sublist (i + 1) es').map (·.nm))
            rw [List.take_add_one, he, List.map_append] at this
            exact this
          have hvR : valV (kvC (es2 ++ [⟨e.nm, [], e.body, e.res, .ref lr, e.bv, 0⟩])) (.inr e.nm) = some (.ref lr) := valV_map (g := fun e => e.cv) (k := es2.length) (e := ⟨e.nm, [], e.body, e.res, .ref lr, e.bv, 0⟩) hndS (by rw [List.getElem?_append_right (Nat.le_refl _), Nat.sub_self]; rfl)
          refine ⟨_, rfl, n, rfl, by omega, by omega, for_range (lo := 0) (n := n) (fun j σ Ha => ∃ rows us v9 v10 v11, (∀ (m' : Nat) (r : Int), m' < j → e.res[m']? = some r → r ∈ ((rows : List (List Int))[m']?).getD []) ∧ rows.length = j ∧ us.length = j ∧ (∀ (i : Nat) (u : V), us[i]? = some u → ∃ r q, rows[i]? = some r ∧ u = .ref q ∧ Ha q = some (.tup (r.map V.int))) ∧ (∀ r ∈ rows, OkRow n r) ∧ Ha lr = some (.lst us) ∧ StA K st sc Ha ∧ (∀ b o, b ≠ st → b ≠ lr → H9 b = some o → Ha b = some o) ∧ σ = [some (.ref st), some (.int m), some (.int 2), some (.int n), some (.ref p), some (.ref B), some (.ref R), some (.str e.nm), some (.ref F), v9, v10, v11]) ⟨[], [], _, _, _, fun m' r h => absurd h (Nat.not_lt_zero _), rfl, rfl, fun i u h => by simp at h, fun r h => by simp at h, h9l, st9, fun b o _ _ h => h, rfl⟩ (fun j σ Ha hj ⟨rows, us, v9, v10, v11, hkp, hrl, hul, hus, hro, hfa, hsa, hka, hσ⟩ => ?_) (fun σ Ha ⟨rows, us, v9, v10, v11, hkp, hrl, hul, hus, hro, hfa, hsa, hka, hσ⟩ => ?_)⟩
          · subst hσ
            obtain ⟨rr, g1, _, g3, g4⟩ := heR.val j hj
            refine ⟨_, rfl, n, rfl, by omega, by omega, fun D hD => ?_⟩
            have hDs : D ≠ st := fun z => by obtain ⟨ys, hy⟩ := hsa.is; rw [← z, hD] at hy; cases hy
            have hDl : lr ≠ D := fun z => by rw [z, hD] at hfa; cases hfa
            have hFl : F ≠ lr := fun z => by rw [z, h9l] at hF9; cases hF9
            have hRa := hka _ _ hRs (Ne.symm hlrR) h9R
            have hFa := hka _ _ hFs hFl hF9
            have hrpa := hka _ _ (tupn hrp6).1 (fun z => by rw [z, h9l] at hrp9; cases hrp9) hrp9
            have nD : ∀ {b : Addr} {o : HO}, Ha b = some o → b ≠ D := fun h z => by rw [z, hD] at h; cases h
            refine lc_range (lo := 0) (n := n) (fun i Hx => ∃ acc : List Int, Hx D = some (.lst (acc.map V.int)) ∧ StA K st sc Hx ∧ (∀ b o, b ≠ st → b ≠ D → Ha b = some o → Hx b = some o) ∧ (∀ z ∈ acc, 0 ≤ z ∧ z < i) ∧ (∀ (m : Nat) (a b : Int), acc[m]? = some a → acc[m + 1]? = some b → a < b) ∧ (rr < i → rr ∈ acc) ∧ acc.length ≤ i) ⟨[], upd_same, StA.new hsa hD hsa, fun b o _ h2 h => by rw [upd_ne h2]; exact h, fun z h => by simp at h, fun m a b h => by simp at h, fun h => by omega, by simp⟩ (fun i Hx hi ⟨acc, a1, a2, a3, a4, a5, a6, a7⟩ => ⟨rfl, ?_⟩) (fun Hx ⟨acc, a1, a2, a3, a4, a5, a6, a7⟩ => ?_)
            · have app : ∀ {Hy : Hp}, (∀ b o, b ≠ st → Hx b = some o → Hy b = some o) → StA K st sc Hy → ∃ acc, Hy D = some (.lst acc) ∧ acc.length < sizeLine ∧ ∃ acc' : List Int, (upd Hy D (.lst (acc ++ [V.int (0 + (i : Int))]))) D = some (.lst (acc'.map V.int)) ∧ StA K st sc (upd Hy D (.lst (acc ++ [V.int (0 + (i : Int))]))) ∧ (∀ b o, b ≠ st → b ≠ D → Ha b = some o → (upd Hy D (.lst (acc ++ [V.int (0 + (i : Int))]))) b = some o) ∧ (∀ z ∈ acc', 0 ≤ z ∧ z < ((i + 1 : Nat) : Int)) ∧ (∀ (m : Nat) (a b : Int), acc'[m]? = some a → acc'[m + 1]? = some b → a < b) ∧ (rr < ((i + 1 : Nat) : Int) → rr ∈ acc') ∧ acc'.length ≤ i + 1 := fun {Hy} hb hs => by
                refine ⟨acc.map V.int, hb _ _ hDs a1, by rw [List.length_map, sizeLine_eq]; omega, acc ++ [(i : Int)], by rw [upd_same, List.map_append, Int.zero_add]; rfl, StA.new hsa hD hs, fun b o h1 h2 h => by rw [upd_ne h2]; exact hb _ _ h1 (a3 _ _ h1 h2 h), fun z hz => ?_, asc_snoc a5 (fun z hz => (a4 z hz).2), fun h => ?_, by rw [List.length_append, List.length_singleton]; omega⟩
                · rcases List.mem_append.mp hz with q | q
                  · have := a4 z q; omega
                  · have : z = i := by simpa using q
                    omega
                · by_cases hri : rr < i
                  · exact List.mem_append_left _ (a6 hri)
                  · have : rr = i := by omega
                    rw [this]
                    exact List.mem_append_right _ (by simp)
              refine ⟨_, rfl, _, rfl, _, rfl, F, .ref e.rp, rfl, .inl ⟨_, .inr e.nm, .inl (a3 _ _ hFs (nD hFa) hFa), rfl, hvF.symm⟩, _, rfl, e.rp, _, _, .int rr, rfl, rfl, .inl (.inl (a3 _ _ (tupn hrp6).1 (nD hrpa) hrpa)), ?at_, rfl, _, rfl, ite2 (fun h => iteT ⟨_, rfl, app (fun b o _ h => h) a2⟩) fun h => ?_⟩
              case at_ =>
                have hjl := (List.getElem?_eq_some_iff.mp g1).1
                unfold atI ixN
                rw [if_pos (by omega), if_pos (by rw [List.length_map]; omega)]
                show (e.res.map V.int)[(0 + (j : Int)).toNat]? = _
                rw [show (0 + (j : Int)).toNat = j by omega, List.getElem?_map, g1]
                rfl
              have hne : rr ≠ (i : Int) := fun z => h (decide_eq_true (by rw [z, Int.zero_add]))
              refine ⟨_, rfl, st, sc, 3, rfl, a2, by decide, fun r2 Hz _ _ nxz => ⟨rfl, _, rfl, ite2 (fun _ => ⟨_, rfl, app (fun b o hb h => nxz.but _ _ hb h) nxz.st⟩) fun _ => ⟨acc, nxz.but _ _ hDs a1, nxz.st, fun b o h1 h2 h => nxz.but _ _ h1 (a3 _ _ h1 h2 h), fun z hz => by have := a4 z hz; omega, a5, fun hr => a6 (by omega), by omega⟩⟩⟩
            · have hRx := a3 _ _ hRs (nD hRa) hRa
              have hlx := a3 _ _ hlrs hDl hfa
              refine ⟨_, rfl, _, rfl, R, .ref lr, rfl, .inl ⟨_, .inr e.nm, .inl hRx, rfl, hvR.symm⟩, .inl ⟨rfl, _, .inl (.inl hlx)⟩, _, rfl, D, _, rfl, .inl ⟨.inl (.inl a1), fun q hq => ?_⟩⟩
              have eq : Ext Hx (upd Hx q (.tup (acc.map V.int))) := Ext.upd hq
              have hqq : (upd Hx q (.tup (acc.map V.int))) q = some (.tup (acc.map V.int)) := upd_same
              generalize (upd Hx q (.tup (acc.map V.int))) = Hy at eq hqq ⊢
              have hly := eq _ _ hlx
              have hm := a6 (by omega)
              have ok : OkRow n acc := ⟨List.length_pos_of_mem hm, by omega, a4, a5⟩
              have qlr : q ≠ lr := fun z => by rw [z, hly] at hqq; cases hqq
              refine ⟨lr, us, .ref q, rfl, rfl, hly, by rw [hul, sizeLine_eq]; omega, rows ++ [acc], us ++ [.ref q], _, _, _, fun m' r hm' hr => ?_, by rw [List.length_append, hrl]; rfl, by rw [List.length_append, hul]; rfl, fun i u hu => ?_, fun r hr => ?_, upd_same, ?_, fun b o h1 h2 h => ?_, rfl⟩
              · by_cases hmj : m' < j
                · rw [List.getElem?_append_left (by omega)]
                  exact hkp m' r hmj hr
                · have : m' = j := by omega
                  subst this
                  rw [g1] at hr
                  cases hr
                  rw [List.getElem?_append_right (by omega), hrl, Nat.sub_self]
                  exact hm
              · rw [List.getElem?_append] at hu
                split at hu
                · rename_i hlt
                  obtain ⟨r, q', h1, h2, h3⟩ := hus i u hu
                  have hq's : q' ≠ st := fun z => by obtain ⟨ys, hy⟩ := hsa.is; rw [← z, h3] at hy; cases hy
                  refine ⟨r, q', by rw [List.getElem?_append_left (by omega)]; exact h1, h2, ?_⟩
                  rw [upd_ne (fun z => by rw [z, hfa] at h3; cases h3)]
                  exact eq _ _ (a3 _ _ hq's (nD h3) h3)
                · rename_i hge
                  have : i = us.length := by
                    have := (List.getElem?_eq_some_iff.mp hu).1
                    simp at this
                    omega
                  subst this
                  rw [Nat.sub_self] at hu
                  simp at hu
                  subst hu
                  refine ⟨acc, q, by rw [hul, ← hrl, List.getElem?_append_right (Nat.le_refl _), Nat.sub_self]; rfl, rfl, ?_⟩
                  rw [upd_ne qlr]
                  exact hqq
              · rcases List.mem_append.mp hr with h | h
                · exact hro r h
                · have : r = acc := by simpa using h
                  rw [this]; exact ok
              · obtain ⟨xs, q1, q2⟩ := a2.ext eq
                exact ⟨xs, by rw [upd_ne (Ne.symm hlrs)]; exact q1, q2⟩
              · rw [upd_ne h2]
                have := hka _ _ h1 h2 h
                exact eq _ _ (a3 _ _ h1 (nD this) this)
          · subst hσ
            have f9a : Fx H9 Ha := fun b o f h => hka b o (fun z => by obtain ⟨ys, hy⟩ := st9.is; rw [z, hy] at h; cases h; exact f) (fun z => by rw [z, h9l] at h; cases h; exact f) h
            have fall : Fx H'' Ha := ((Fx.of e8).trans f89).trans f9a
            have hRa := hka _ _ hRs (Ne.symm hlrR) h9R
            refine ⟨es2 ++ [⟨e.nm, rows, e.body, e.res, .ref lr, e.bv, 0⟩], _, _, _, _, ?_, ?_, fun x hx m' r hm => ?kp, ?_, ⟨fun x hx => ?_, fun x hx => ?_⟩, hsa, fun b o h1 h2 h => ?_, rfl⟩
            case kp =>
              rcases List.mem_append.mp hx with h | h
              · exact hkp2 x h m' r hm
              · rw [List.mem_singleton] at h
                subst h
                have hml := (List.getElem?_eq_some_iff.mp hm).1
                have hml : m' < e.res.length := hml
                rw [heR.len] at hml
                exact hkp m' r hml hm
            · rw [List.take_add_one, he, List.map_append, List.map_append, hd3]
              rfl
            · rw [List.take_add_one, he, List.map_append, List.map_append, hrs2]
              rfl
            · rw [hRa]
              unfold kvC
              rw [List.map_append, List.map_append]
              rfl
            · rcases List.mem_append.mp hx with h | h
              · obtain ⟨p', h1, h2⟩ := hLR.at_ x h
                have hl := (hLR.ok x h).1
                refine ⟨p', h1, h2.keep (fun o ho => ?_) fall⟩
                have n1 := h2.ne hst2 (by omega)
                have n2 : p' ≠ R := fun z => by obtain ⟨us', q, _⟩ := h2; rw [z, hRd] at q; cases q
                exact hka _ _ n1 (fun z => by rw [z, hlr] at ho; cases ho) (k9 _ _ n2 ho)
              · rw [List.mem_singleton] at h
                subst h
                exact ⟨lr, rfl, us, hfa, by rw [hul, hrl], hus⟩
            · rcases List.mem_append.mp hx with h | h
              · exact hLR.ok x h
              · rw [List.mem_singleton] at h
                subst h
                exact ⟨hrl, hro⟩
            · have := k9 _ _ h2 (hk2 _ _ h1 h2 h)
              exact hka _ _ h1 (fun z => by have := hk2 _ _ h1 h2 h; rw [z, hlr] at this; cases this) this
        · rintro σ H' ⟨es2, u7, u9, u10, u11, hd3, hrs2, hkp2, hRd, hLR, hst2, hk2, rfl⟩
          have htk : es'.take ((gNames.take kn).map V.str).length = es' := by rw [List.length_map, hnl, ← hlen', List.take_length]
          rw [htk] at hd3 hrs2
          have hnm2 : es2.map (·.nm) = es'.map (·.nm) := nm_d3 hd3
          have f67 : Fx H6 H' := fun b o f h => hk2 b o (fun z => by obtain ⟨ys, hy⟩ := hst6.is; rw [z, hy] at h; cases h; exact f) (fun z => by rw [z, hR6] at h; cases h; exact f) h
          have hB7 := hk2 _ _ hBs (Ne.symm hRB) hB6
          refine ⟨_, rfl, _, rfl, _, rfl, (show 3 ≤ sizeLine by decide), fun q hq => ?_⟩
          have eq : Ext H' (upd H' q (.tup [.int (n : Nat), .ref R, .ref B])) := Ext.upd hq
          have hl2 : es2.length = kn := by have := congrArg List.length hnm2; rw [List.length_map, List.length_map] at this; omega
          refine kk _ q B R n es2 ⟨fun b o hb h => ?_, hst2.ext eq⟩ hn upd_same ?_ (eq _ _ hRd) (Ne.symm hRB) n0B n0R ((hL6.fx (f67.trans (Fx.of eq))).d3 hd3) ⟨fun e he => ?_, hLR.ok⟩ (tb.right.as hd3 hrs2) (brk_none (by rw [hnm2]; exact hL6.nd) hkp2) (fun x hx => by rw [hnm2, hnm6] at hx; exact List.mem_of_mem_take hx) (by omega) (by omega)
          · have hbB : b ≠ B := fun z => by rw [z, n0B] at h; cases h
            have hbR : b ≠ R := fun z => by rw [z, n0R] at h; cases h
            exact eq _ _ (hk2 _ _ hb hbR (e6 _ _ (hk _ _ hb hbB (nx3.but _ _ hb h))))
          · rw [kvB_d3 hd3]
            exact eq _ _ hB7
          · obtain ⟨p', h1, h2⟩ := hLR.at_ e he
            exact ⟨p', h1, h2.keep (fun o ho => eq _ _ ho) (Fx.of eq)⟩
    refine ⟨_, pss_cons (ps_par rfl scPlan.nd (i := 3) (j := 4) rfl rfl (by decide) rfl rfl (pa_cons (pe_op op_add pe_int (pe_op op_fdiv (pe_c (j := 7) cN hr (by decide) (pa_cons (pv 0) (pa_cons pe_int pa_nil))) pe_int)) (pa_cons (pe_slice sl_list (pe_lst (pa_cons pe_str (pa_cons pe_str (pa_cons pe_str (pa_cons pe_str (pa_cons pe_str pa_nil)))))) po_none (po_some (pe_op op_add pe_int (pe_c (j := 7) cN hr (by decide) (pa_cons (pv 0) (pa_cons (pv 1) pa_nil)))))) pa_nil)) (by rfl)) h1, ?_⟩
    refine ⟨_, rfl, st, sc, 3, rfl, hst, by decide, fun r H1 r0 r1' nx1 => ⟨_, _, rfl, rfl, ⟨by decide, by decide⟩, _, _, rfl, rfl, (show 5 ≤ sizeLine by decide), fun l0 hl0 => ?_⟩⟩
    have e2 : Ext H1 (upd H1 l0 (.lst (gNames.map V.str))) := Ext.upd hl0
    have hl00 : (upd H1 l0 (.lst (gNames.map V.str))) l0 = some (.lst (gNames.map V.str)) := upd_same
    have nx2 := nx1.ext e2
    have hl0s : l0 ≠ st := nx2.st.strs hl00 (by decide)
    refine ⟨_, rfl, _, rfl, st, sc, m, rfl, nx2.st, by omega, fun r2 H3 q0 q1 nx3 => ⟨_, _, rfl, rfl, _, rfl, l0, _, rfl, .inl (.inl (nx3.but _ _ hl0s hl00)), fun p hp => ⟨_, _, rfl, ?_⟩⟩⟩
    obtain ⟨kn, hkn, hk1, hk2⟩ : ∃ kn : Nat, 1 + r2 = (kn : Int) ∧ 1 ≤ kn ∧ kn ≤ m := ⟨(1 + r2).toNat, by omega, by omega, by omega⟩
    obtain ⟨n, hne, hn⟩ : ∃ n : Nat, 2 + r / 2 = (n : Int) ∧ (n = 2 ∨ n = 3) := ⟨(2 + r / 2).toNat, by omega, by omega⟩
    have hcut : cutV (gNames.map V.str) none (some (1 + r2)) = (gNames.take kn).map V.str := by
      unfold cutV
      rw [hkn, HT.sIx_none, HT.sIx_nat, List.length_map, List.drop_zero, Nat.sub_zero, Nat.min_eq_left (show kn ≤ gNames.length from Nat.le_trans hk2 hm5), ← List.map_take]
    have := r1 n kn p (upd H3 p (.lst (cutV (gNames.map V.str) none (some (1 + r2))))) hn ((nx2.trans nx3).ext (Ext.upd hp)) (by rw [upd_same, hcut]) hk1 hk2
    have e : V.int (2 + r / 2) = V.int (n : Int) := by rw [hne]
    rw [← e] at this
    exact this
end
end MR
end

section
set_option Elab.async false
set_option linter.all false
set_option maxRecDepth 100000
set_option maxHeartbeats 1000000
/-! The law's whole program. -/
namespace MR
open PySem PySem.Spec PyProof.Rows L2 LY GW
/-- while the functions are made -/
structure WhI (cC : Addr) (c : Kd → Addr) (H0 : Hp) (es : List Ent) (Fd : Addr) (k : Nat) (ins : List Inp) (H' : Hp) : Prop where
  dat : ins.map Inp.dat = (es.take k).map Ent.dat
  hF : H' Fd = some (.dK (ins.map fun e => (.inr e.nm, .ref e.pp)))
  ok : ∀ i ∈ ins, H' i.pp = some (.tup [i.cv, i.bv]) ∧ CN cC H' i.rows i.cv ∧ EE c H' i.body i.bv
  keep : ∀ b o, b ≠ Fd → H0 b = some o → H' b = some o
theorem LB.okn {H : Hp} {n : Nat} {es : List Ent} (h : LB H n es) {k : Nat} {e : Ent} (he : es[k]? = some e) : ∀ x ∈ e.body.names, okName x = true := by
  intro x hx
  have := (h.inp k e he).names x hx
  obtain ⟨e', he', rfl⟩ := List.mem_map.mp this
  obtain ⟨j, hj, ej⟩ := List.getElem_of_mem (List.mem_of_mem_take he')
  exact (h.inp j e' (by rw [← ej]; exact List.getElem?_eq_getElem hj)).nm
section
variable {P : Program} {w : World} {K : PySem.W.Frag} {mg : Str → Option Value} {base : Heap} {cP cC : Addr} {c : Kd → Addr}
abbrev sBuilt : Stmt := top 45
theorem scBuilt : FnScope ["plan", "parts", "name"] ["plan"] (defScope sBuilt) := ⟨rfl, rfl, rfl, by decide +kernel, rfl, by decide +kernel, by decide +kernel⟩
def spBuilt (cP cC : Addr) (c : Kd → Addr) : Sp := fun vs H Q _ => ∃ (q B R : Addr) (n : Nat) (es : List Ent), vs = [.ref q] ∧ H q = some (.tup [.int n, .ref R, .ref B]) ∧ (n = 2 ∨ n = 3) ∧ H B = some (.dK (kvB es)) ∧ H R = some (.dK (kvC es)) ∧ B ≠ R ∧ LB H n es ∧ LRl H n es ∧ 1 ≤ es.length ∧
  ∀ H' es' a kc kb kr, Ext H H' → H a = none → H kc = none → H kb = none → H kr = none → es'.map Ent.dat = es.map Ent.dat → PG cP cC c H' n es' a kc kb kr → Q (.ref a) H'
theorem built_ok {f gI : Addr} {fd fdI : FuncData} (F : Fun K "_law_built" "_law_built" sBuilt f fd) (bn : BN mg) (MC : Mak P w K mg base 3 "Contract" cC (spCInit cC)) (cM : Cal P w K mg base 9 "_law_made" (spMade c 4))
    (M : Mk K cP gI) (FI : FnZ P w K mg base 17 gI fdI ["self", "size", "functions"] (spPInit cP cC c)) (bI : Binds K fdI ["self", "size", "functions"] []) (mgP : mg "Program" = some (.ref cP)) : FnZ P w K mg base 20 f fd ["plan"] (spBuilt cP cC c) := by
  refine Fun.okZ F (k := 19) scBuilt (fun vs H Q E h => ?_) (fun cdv A outer s H vs Q E hr h => ?_)
  · obtain ⟨q, B, R, n, es, rfl, _⟩ := h
    rfl
  · obtain ⟨q, B, R, n, es, rfl, hq, hn, hB, hR, hBR, hL, hLR, hel, kk⟩ := h
    refine ⟨_, pssz_cons (psz_of (ps_asg pe_dnewK (pg_name (i := 1) scBuilt.nd rfl (.inl rfl))))
      (pssz_cons (psz_of (ps_lock (ps_for PassesOwn.never rfl (pi_keys (pe_ix ix_tup (pv 0) pe_int (fun _ _ => rfl))) (pg_name (i := 2) scBuilt.nd rfl (.inl rfl))
        (pss_one (ps_dput (by have := hu_of hr; exact this) (pv 1) (pv 2) (pe_tup (pa_cons (pe_mk (j := 19) MC hr (by decide) (pa_cons (pe_callTy call_tuple_of (by rfl) (bn "tuple" (by decide)) boot_tTuple (pa_cons (pe_dget (by have := hu_of hr; exact this) (pe_ix ix_tup (pv 0) pe_int (fun _ _ => rfl)) (pv 2) (fun _ _ => rfl)) pa_nil)) pa_nil)) (pa_cons (pe_c (j := 19) cM hr (by decide) (pa_cons (pe_dget (by have := hu_of hr; exact this) (pe_ix ix_tup (pv 0) pe_int (fun _ _ => rfl)) (pv 2) (fun _ _ => rfl)) pa_nil)) pa_nil))) rfl)))))
      (pssz_one (psz_ret (pez_make (E := E0) M FI (hr.mono (by decide)) rfl mgP bI .nil (pa_cons (pe_ix ix_tup (pv 0) pe_int (fun _ _ => rfl)) (pa_cons (pv 1) pa_nil)))))), ?_⟩
    refine fun Fd hFd => ?_
    have e1 : Ext H (upd H Fd (.dK [])) := Ext.upd hFd
    have h1F : (upd H Fd (.dK [])) Fd = some (.dK []) := upd_same
    generalize (upd H Fd (.dK [])) = H1 at e1 h1F ⊢
    have hBF : B ≠ Fd := fun z => by rw [z, hFd] at hB; cases hB
    have hqF : q ≠ Fd := fun z => by rw [z, hFd] at hq; cases hq
    have hqB : q ≠ B := fun z => by rw [z, hB] at hq; cases hq
    have hRF : R ≠ Fd := fun z => by rw [z, hFd] at hR; cases hR
    refine ⟨B, _, e1 _ _ hB, trivial, fun ob => ?_⟩
    have f2 : Fx H1 (upd H1 B (.frz ob (.dK (kvB es)))) := fx_lock (e1 _ _ hB) (fun q => q)
    have h2B : (upd H1 B (.frz ob (.dK (kvB es)))) B = some (.frz ob (.dK (kvB es))) := upd_same
    have h2F : (upd H1 B (.frz ob (.dK (kvB es)))) Fd = some (.dK []) := by rw [upd_ne (Ne.symm hBF)]; exact h1F
    have k2 : ∀ b o, b ≠ B → H b = some o → (upd H1 B (.frz ob (.dK (kvB es)))) b = some o := fun b o hb h => by rw [upd_ne hb]; exact e1 _ _ h
    generalize (upd H1 B (.frz ob (.dK (kvB es)))) = H2 at f2 h2B h2F k2 ⊢
    have f02 : Fx H H2 := (Fx.of e1).trans f2
    have hL2 : LB H2 n es := hL.fx f02
    have hR2 := k2 _ _ (Ne.symm hBR) hR
    have hq2 := k2 _ _ hqB hq
    have wK : Walk (Itk B ob (kvB es)) es.length (fun H' => H' B = some (.frz ob (.dK (kvB es)))) (fun i H' x H'' => H'' = H' ∧ ∃ k v, (kvB es)[i]? = some (k, v) ∧ x = kV k) := by
      have := walk_keys (d := B) (o := ob) (kvs := kvB es)
      unfold kvB at this ⊢
      rwa [List.length_map] at this
    refine ⟨_, rfl, q, _, 2, .ref B, rfl, rfl, .inl (.inl hq2), rfl, B, ob, rfl, .inl ⟨_, h2B, for_it wK (fun k σ H' => ∃ ins u4, WhI cC c H2 es Fd k ins H' ∧ σ = [some (.ref q), some (.ref Fd), u4]) ⟨[], none, ⟨rfl, h2F, fun e he => by simp at he, fun b o _ h => h⟩, rfl⟩ (fun i σ H' _ ⟨ins, _, I, _⟩ => I.keep _ _ hBF h2B) (fun i x σ H' H'' hi ⟨ins, u4, I, hσ⟩ hY => ?_) (fun σ H' ⟨ins, u4, I, hσ⟩ => ?_)⟩⟩
    · subst hσ
      obtain ⟨rfl, k', v', hkv, rfl⟩ := hY
      obtain ⟨e, he⟩ : ∃ e, es[i]? = some e := ⟨es[i], List.getElem?_eq_getElem hi⟩
      have : (kvB es)[i]? = some (.inr e.nm, e.bv) := by unfold kvB; rw [List.getElem?_map, he]; rfl
      rw [this] at hkv
      cases hkv
      have hmem := List.mem_of_getElem? he
      have hnm : ins.map (·.nm) = (es.take i).map (·.nm) := by
        have := congrArg (List.map Prod.fst) I.dat
        rw [List.map_map, List.map_map] at this
        exact this
      have hil : ins.length ≤ 6 := by
        have := congrArg List.length hnm
        rw [List.length_map, List.length_map, List.length_take] at this
        have := hL.le
        omega
      obtain ⟨pr, hcv, hrw⟩ := hLR.at_ e hmem
      obtain ⟨hrn, hro⟩ := hLR.ok e hmem
      have fk : Fx H2 H'' := fun b o f h => I.keep b o (fun z => by rw [z, h2F] at h; cases h; exact f) h
      have hRd := I.keep _ _ hRF hR2
      have hq' := I.keep _ _ hqF hq2
      obtain ⟨us, hus, hul, hu⟩ := hrw.keep (H' := H'') (fun o ho => I.keep _ _ (fun z => by rw [z, hFd] at ho; cases ho) (k2 _ _ (fun z => by obtain ⟨us, q1, _⟩ := hrw; rw [z, hB] at q1; cases q1) ho)) (f02.trans fk)
      refine ⟨_, rfl, q, _, 1, .ref R, rfl, rfl, .inl (.inl hq'), rfl, _, rfl, R, .ref pr, rfl, .inl ⟨_, .inr e.nm, .inl hRd, rfl, by rw [← hcv]; exact (valV_map (g := fun e => e.cv) hL.nd he).symm⟩, pr, _, rfl, .inl ⟨.inl (.inl hus), fun tp htp => ?_⟩⟩
      have eT : Ext H'' (upd H'' tp (.tup us)) := Ext.upd htp
      have hRw : Rws (upd H'' tp (.tup us)) tp e.rows := ⟨us, upd_same, hul, fun i u h => let ⟨r, q', a, b, c'⟩ := hu i u h; ⟨r, q', a, b, eT _ _ c'⟩⟩
      generalize (upd H'' tp (.tup us)) = Ha at eT hRw ⊢
      refine fun x dx hx hdx hne => ?_
      have em := mk_heap (C := cC) hx hdx hne
      refine ⟨x, dx, tp, e.rows, rfl, upd_same, hRw.fx (Fx.of em), by rw [hrn]; exact hn, fun r hr => by rw [hrn]; exact hro r hr, fun H3 hk3 hCN => ⟨rfl, ?_⟩⟩
      have e3 : Ext H'' H3 := eT.trans fun b o h => hk3 _ _ (fun z => by rw [z, hx] at h; cases h) (em _ _ h)
      have hbi := hL.inp i e he
      refine ⟨_, rfl, q, _, 2, .ref B, rfl, rfl, .inl (.inl (e3 _ _ hq')), rfl, _, rfl, B, e.bv, rfl, .inl ⟨_, .inr e.nm, .inr ⟨_, e3 _ _ (I.keep _ _ hBF h2B)⟩, rfl, (valV_map (g := fun e => e.bv) hL.nd he).symm⟩, e.bv, e.body, rfl, LT.fx (fk.trans (Fx.of e3)) (hL2.lt e hmem), hbi.dep, hbi.size, hL.okn he, fun v' H4 e4 hE => ⟨(show 2 ≤ sizeLine by decide), fun p hp => ?_⟩⟩
      have ep : Ext H4 (upd H4 p (.tup [.ref x, v'])) := Ext.upd hp
      have hpp : (upd H4 p (.tup [.ref x, v'])) p = some (.tup [.ref x, v']) := upd_same
      generalize (upd H4 p (.tup [.ref x, v'])) = H5 at ep hpp ⊢
      have e5 : Ext H'' H5 := (e3.trans e4).trans ep
      have hF5 := e5 _ _ I.hF
      have f6 : Fx H5 (upd H5 Fd (.dK (putK (ins.map fun e => ((.inr e.nm : Key), V.ref e.pp)) (.inr e.nm) (.ref p)))) := Fx.upd fun u hu => by rw [hF5] at hu; cases hu; exact fun q => q
      refine ⟨_, rfl, _, rfl, Fd, _, rfl, .inl ⟨_, .inr e.nm, hF5, rfl, by rw [List.length_map, sizeLine_eq]; omega, rfl⟩, ins ++ [⟨e.nm, e.rows, e.body, .ref x, v', p⟩], _, ⟨?_, ?_, fun y hy => ?_, fun b o hb h => ?_⟩, rfl⟩
      · rw [List.take_add_one, he, List.map_append, List.map_append, I.dat]
        rfl
      · rw [upd_same, putK_inp (by rw [hnm]; exact not_beforeE hL.nd he), List.map_append]
        rfl
      · rcases List.mem_append.mp hy with h | h
        · obtain ⟨q1, q2, q3⟩ := I.ok y h
          have f := (Fx.of e5).trans f6
          exact ⟨f _ _ (show Fixed (.tup _) from trivial) q1, q2.fx f, EE.fx f q3⟩
        · rw [List.mem_singleton] at h
          subst h
          exact ⟨f6 _ _ (show Fixed (.tup _) from trivial) hpp, hCN.fx (((Fx.of e4).trans (Fx.of ep)).trans f6), EE.fx ((Fx.of ep).trans f6) hE⟩
      · rw [upd_ne hb]
        exact e5 _ _ (I.keep _ _ hb h)
    · subst hσ
      have hB' := I.keep _ _ hBF h2B
      refine ⟨hB', ?_⟩
      have e5 : Ext H (upd H' B (.dK (kvB es))) := fun b o h => by
        by_cases hb : b = B
        · subst hb
          rw [upd_same]
          exact hB.symm.trans h
        · rw [upd_ne hb]
          exact I.keep _ _ (fun z => by rw [z, hFd] at h; cases h) (k2 _ _ hb h)
      have f5 : Fx H' (upd H' B (.dK (kvB es))) := Fx.upd fun u hu => by rw [hB'] at hu; cases hu; exact fun q => q
      have h5F : (upd H' B (.dK (kvB es))) Fd = some (.dK (ins.map fun e => (.inr e.nm, .ref e.pp))) := by rw [upd_ne (Ne.symm hBF)]; exact I.hF
      generalize (upd H' B (.dK (kvB es))) = H5 at e5 f5 h5F ⊢
      have hdat := I.dat
      rw [List.take_length] at hdat
      have hnm : ins.map (·.nm) = es.map (·.nm) := by
        have := congrArg (List.map Prod.fst) hdat
        rw [List.map_map, List.map_map] at this
        exact this
      have hlen : ins.length = es.length := by have := congrArg List.length hnm; rwa [List.length_map, List.length_map] at this
      refine ⟨_, rfl, q, _, 0, .int n, rfl, rfl, .inl (.inl (e5 _ _ hq)), rfl, _, rfl, fun x dxx hx hdx hne => ?_⟩
      have e6 := mk_heap (C := cP) hx hdx hne
      have h6x : (upd (upd H5 dxx (.own x)) x (.ins cP dxx [])) x = some (.ins cP dxx []) := upd_same
      generalize (upd (upd H5 dxx (.own x)) x (.ins cP dxx [])) = H6 at e6 h6x ⊢
      have e06 := e5.trans e6
      have f56 := f5.trans (Fx.of e6)
      have hHx : H x = none := Same.free (fun b o e => e5 b o e) hx
      refine ⟨x, dxx, n, Fd, ins, rfl, hn, h6x, e6 _ _ h5F, by omega, by have := hL.le; omega, by rw [hnm]; exact hL.nd, fun k i hi => ?_, fun H9 es' kc' kb' kr' hk h1 h2 h3 hd pg => ⟨rfl, ?_⟩⟩
      · have hkl : k < es.length := by rw [← hlen]; exact (List.getElem?_eq_some_iff.mp hi).1
        have he : es[k]? = some es[k] := List.getElem?_eq_getElem hkl
        generalize es[k] = e at he
        have d1 : (ins.map Inp.dat)[k]? = some i.dat := by rw [List.getElem?_map, hi]; rfl
        rw [hdat, List.getElem?_map, he] at d1
        have d1 := Option.some.inj d1
        unfold Ent.dat Inp.dat at d1
        simp only [Prod.mk.injEq] at d1
        obtain ⟨q1, q2, q3⟩ := d1
        obtain ⟨p1, p2, p3⟩ := I.ok i (List.mem_of_getElem? hi)
        have hb := hL.inp k e he
        have htk : (ins.take k).map (·.nm) = (es.take k).map (·.nm) := by rw [List.map_take, hnm, ← List.map_take]
        refine ⟨?_, f56 _ _ (show Fixed (.tup _) from trivial) p1, p2.fx f56, EE.fx f56 p3⟩
        rw [htk, ← q1, ← q2, ← q3]
        exact ⟨hb.nm, hb.ok, hb.names, hb.dep, hb.size, (hLR.ok e (List.mem_of_getElem? he)).1⟩
      · exact kk H9 es' x kc' kb' kr' (fun b o h => hk _ _ (fun z => by rw [z, hHx] at h; cases h) (e06 _ _ h)) hHx (Same.free (fun b o e => e06 b o e) h1) (Same.free (fun b o e => e06 b o e) h2) (Same.free (fun b o e => e06 b o e) h3) (by rw [hd, hdat]) pg
end
end MR
end

section
set_option Elab.async false
set_option linter.all false
set_option maxRecDepth 100000
set_option maxHeartbeats 1000000
/-! The law's first broken place; its changes made. -/
namespace MR
open PySem PySem.Spec PyProof.Rows L2 LY GW
section
variable {P : Program} {w : World} {K : PySem.W.Frag} {mg : Str → Option Value} {base : Heap} {cP cC : Addr} {c : Kd → Addr}
abbrev sFBr : Stmt := top 48
theorem scFBr : FnScope ["plan", "tables", "name", "argument"] ["plan", "tables"] (defScope sFBr) := ⟨rfl, rfl, rfl, by decide +kernel, rfl, by decide +kernel, by decide +kernel⟩
def spFBr : Sp := fun vs H Q _ => ∃ (q B R F : Addr) (n : Nat) (es : List Ent), vs = [.ref q, .ref F] ∧ H q = some (.tup [.int n, .ref R, .ref B]) ∧ n ≤ 3 ∧ H B = some (.dK (kvB es)) ∧ H R = some (.dK (kvC es)) ∧ R ≠ B ∧ F ≠ B ∧ H F = some (.dK (kvR es)) ∧ (∀ e ∈ es, (∃ p, e.cv = .ref p ∧ RwsL H p e.rows) ∧ H e.rp = some (.tup (e.res.map V.int)) ∧ e.rows.length = n ∧ e.res.length = n) ∧ (es.map (·.nm)).Nodup ∧
  ∀ v H', Ext H H' → BV H' (brk es) v → Q v H'
theorem fbroken_ok {f : Addr} {fd : FuncData} (F : Fun K "_law_first_broken" "_law_first_broken" sFBr f fd) (bn : BN mg) : FnOk P w K mg base CX0 1 f fd ["plan", "tables"] spFBr := by
  refine F.ok scFBr (fun vs H Q E h => ?_) (fun cdv A outer s H vs Q E hr h => ?_)
  · obtain ⟨q, B, R, Fd, n, es, rfl, _⟩ := h
    rfl
  · obtain ⟨q, B, R, Fd, n, es, rfl, hq, hn, hB, hR, hRB, hFB, hF, hes, nd, kk⟩ := h
    have u1 := hu_of hr
    refine ⟨_, pss_cons (ps_lock (ps_for PassesOwn.never rfl (pi_keys (pe_ix ix_tup (pv 0) pe_int (fun _ _ => rfl))) (pg_name (i := 2) scFBr.nd rfl (.inl rfl))
        (pss_one (ps_for PassesOwn.never rfl (pi_range1 (by rfl) (bn "range" (by decide)) (pa_cons (pe_ix ix_tup (pv 0) pe_int (fun _ _ => rfl)) pa_nil)) (pg_name (i := 3) scFBr.nd rfl (.inl rfl))
          (pss_one (ps_if (pt_cmpR op_notIn_seq (pe_ix ix_tup (pe_dget (by exact u1) (pv 1) (pv 2) (fun _ _ => rfl)) (pv 3) (fun _ _ => rfl)) (pe_ix ix_list (pe_dget (by exact u1) (pe_ix ix_tup (pv 0) pe_int (fun _ _ => rfl)) (pv 2) (fun _ _ => rfl)) (pv 3) (fun _ _ => rfl)) rfl) (pss_one (ps_ret (pe_tup (pa_cons (pv 2) (pa_cons (pv 3) pa_nil))))) pss_nil))))))
      (pss_one (ps_ret pe_non)), ?_⟩
    refine ⟨B, _, hB, trivial, fun ob => ?_⟩
    have f1 : Fx H (upd H B (.frz ob (.dK (kvB es)))) := fx_lock hB (fun q => q)
    have h1B : (upd H B (.frz ob (.dK (kvB es)))) B = some (.frz ob (.dK (kvB es))) := upd_same
    have h1R : (upd H B (.frz ob (.dK (kvB es)))) R = some (.dK (kvC es)) := by rw [upd_ne hRB]; exact hR
    have h1F : (upd H B (.frz ob (.dK (kvB es)))) Fd = some (.dK (kvR es)) := by rw [upd_ne hFB]; exact hF
    have k1 : ∀ b o, b ≠ B → H b = some o → (upd H B (.frz ob (.dK (kvB es)))) b = some o := fun b o hb h => by rw [upd_ne hb]; exact h
    have back : ∀ {H' : Hp}, Ext (upd H B (.frz ob (.dK (kvB es)))) H' → Ext H (upd H' B (.dK (kvB es))) := fun e => upd_back hB e
    generalize (upd H B (.frz ob (.dK (kvB es)))) = H1 at f1 h1B h1R h1F k1 back ⊢
    have h1q := f1 _ _ (show Fixed (.tup _) from trivial) hq
    have wK : Walk (Itk B ob (kvB es)) es.length (fun H' => H' B = some (.frz ob (.dK (kvB es)))) (fun i H' x H'' => H'' = H' ∧ ∃ k v, (kvB es)[i]? = some (k, v) ∧ x = kV k) := by
      have := walk_keys (d := B) (o := ob) (kvs := kvB es)
      unfold kvB at this ⊢
      rwa [List.length_map] at this
    refine ⟨_, rfl, q, _, 2, .ref B, rfl, rfl, .inl (.inl h1q), rfl, B, ob, rfl, .inl ⟨_, h1B, for_it wK (fun k σ H' => Ext H1 H' ∧ (∀ j p, j < poff es k → (pls es)[j]? = some p → bad es p = false) ∧ ∃ u2 u3, σ = [some (.ref q), some (.ref Fd), u2, u3]) ⟨Ext.rfl', fun j p hj => absurd hj (Nat.not_lt_zero _), none, none, rfl⟩ (fun i σ H' _ ⟨e, _⟩ => e _ _ h1B) (fun i x σ H' H'' hi ⟨e1, hb, u2, u3, hσ⟩ hY => ?_) (fun σ H' ⟨e1, hb, u2, u3, hσ⟩ => ?_)⟩⟩
    · subst hσ
      obtain ⟨rfl, k', v', hkv, rfl⟩ := hY
      obtain ⟨e, he⟩ : ∃ e, es[i]? = some e := ⟨es[i], List.getElem?_eq_getElem hi⟩
      have : (kvB es)[i]? = some (.inr e.nm, e.bv) := by unfold kvB; rw [List.getElem?_map, he]; rfl
      rw [this] at hkv
      cases hkv
      obtain ⟨⟨rp', hcv, hrw⟩, hrp, hrl, hlen⟩ := hes e (List.mem_of_getElem? he)
      have hrp1 := f1 _ _ (show Fixed (.tup _) from trivial) hrp
      refine ⟨_, rfl, q, _, 0, .int n, rfl, rfl, .inl (.inl (e1 _ _ h1q)), rfl, n, rfl, by omega, by omega, for_range (lo := 0) (n := n) (fun j σ Ha => Ext H1 Ha ∧ (∀ m p, m < poff es i + j → (pls es)[m]? = some p → bad es p = false) ∧ ∃ u3, σ = [some (.ref q), some (.ref Fd), some (.str e.nm), u3]) ⟨e1, hb, _, rfl⟩ (fun j σ Ha hj ⟨ea, hba, v3, hσ⟩ => ?_) (fun σ Ha ⟨ea, hba, v3, hσ⟩ => ?_)⟩
      · subst hσ
        obtain ⟨rr, hrr⟩ : ∃ rr, e.res[j]? = some rr := ⟨_, List.getElem?_eq_getElem (by omega)⟩
        have hat := pls_at he hrr
        obtain ⟨us, hus, hul, hu⟩ := hrw.keep (H' := Ha) (fun o ho => ea _ _ (k1 _ _ (fun z => by obtain ⟨us, q1, _⟩ := hrw; rw [z, hB] at q1; cases q1) ho)) (f1.trans (Fx.of ea))
        obtain ⟨row, q', hrow, huq, hq'⟩ := hu j us[j] (List.getElem?_eq_getElem (by omega))
        have hbad : bad es (e.nm, ((j : Nat) : Int), rr) = !(row.contains rr) := by
          unfold bad
          rw [find_nm nd he]
          show (!((e.rows[((j : Nat) : Int).toNat]?).getD []).contains rr) = _
          rw [Int.toNat_natCast, hrow]
          rfl
        have hin : inV (.int rr) (row.map V.int) = row.contains rr := by
          unfold inV
          rw [List.any_map, List.contains_eq_any_beq]
          congr 1
          funext y
          show (y == rr) = (rr == y)
          rw [Bool.eq_iff_iff, beq_iff_eq, beq_iff_eq]
          exact eq_comm
        refine ⟨_, rfl, _, rfl, Fd, .ref e.rp, rfl, .inl ⟨_, .inr e.nm, .inl (ea _ _ h1F), rfl, (valV_map (g := fun e => V.ref e.rp) nd he).symm⟩, _, rfl, e.rp, _, _, .int rr, rfl, rfl, .inl (.inl (ea _ _ hrp1)), ?a1, _, rfl, q, _, 1, .ref R, rfl, rfl, .inl (.inl (ea _ _ h1q)), rfl, _, rfl, R, e.cv, rfl, .inl ⟨_, .inr e.nm, .inl (ea _ _ h1R), rfl, (valV_map (g := fun e => e.cv) nd he).symm⟩, _, rfl, rp', us, _, .ref q', hcv, rfl, .inl (.inl hus), ?a2, q', _, rfl, .inr (.inl (.inl hq')), rfl, ?a3, _, rfl, ite2 (fun hc => ?_) fun hc => ?_⟩
        case a1 =>
          unfold atI ixN
          rw [if_pos (by omega), if_pos (by rw [List.length_map]; omega)]
          show (e.res.map V.int)[(0 + (j : Int)).toNat]? = _
          rw [show (0 + (j : Int)).toNat = j by omega, List.getElem?_map, hrr]
          rfl
        case a2 =>
          unfold atI ixN
          rw [if_pos (by omega), if_pos (by omega)]
          show us[(0 + (j : Int)).toNat]? = _
          rw [show (0 + (j : Int)).toNat = j by omega, List.getElem?_eq_getElem (by omega), huq]
        case a3 =>
          rw [List.all_eq_true]
          intro x hx
          obtain ⟨z, _, rfl⟩ := List.mem_map.mp hx
          rfl
        · have hc : (!inV (.int rr) (row.map V.int)) = true := hc
          rw [hin, ← hbad] at hc
          refine ⟨_, rfl, _, rfl, (show 2 ≤ sizeLine by decide), fun l hl => ⟨(ea.upd' hl) _ _ h1B, kk _ _ (back (ea.upd' hl)) ?_⟩⟩
          have : brk es = some (e.nm, ((j : Nat) : Int)) := by
            unfold brk
            rw [find_at hat hc hba]
            rfl
          rw [this]
          refine ⟨l, rfl, ?_⟩
          have hlk : l ≠ B := fun z => by
            have := ea _ _ h1B
            rw [← z, hl] at this
            cases this
          rw [upd_ne hlk, upd_same, Int.zero_add]
        · have hc : ¬ (!inV (.int rr) (row.map V.int)) = true := hc
          rw [hin, ← hbad] at hc
          refine ⟨ea, fun m p' hm hp' => ?_, _, rfl⟩
          rcases Nat.lt_or_ge m (poff es i + j) with h | h
          · exact hba m p' h hp'
          · have : m = poff es i + j := by omega
            subst this
            rw [hat] at hp'
            cases hp'
            exact Bool.eq_false_iff.mpr hc
      · subst hσ
        rw [← hlen, ← poff_succ he] at hba
        exact ⟨ea, hba, _, _, rfl⟩
    · subst hσ
      refine ⟨e1 _ _ h1B, kk .non _ (back e1) ?_⟩
      have : brk es = none := by
        unfold brk
        rw [Option.map_eq_none_iff, List.find?_eq_none]
        intro p hp
        obtain ⟨j, hj, ej⟩ := List.getElem_of_mem hp
        rw [hb j p (by rw [poff_all]; exact hj) (by rw [← ej]; exact List.getElem?_eq_getElem hj)]
        decide
      rw [this]
      rfl
end
end MR
end

section
set_option Elab.async false
set_option linter.all false
set_option maxRecDepth 100000
set_option maxHeartbeats 1000000
/-! The law's changes made. -/
namespace MR
open PySem PySem.Spec PyProof.Rows L2 LY GW
/-- a law's changed body as it is asked for -/
structure LCh (H : Hp) (x : Chg) : Prop where
  lt : LT H x.body x.bv
  dep : x.body.depth ≤ 4
  size : x.body.size ≤ 60
  nms : ∀ y ∈ x.body.names, okName y = true
theorem find_chg' {cs : List Chg} (nd : (cs.map (·.nm)).Nodup) : ∀ {x : Chg}, x ∈ cs → cs.find? (fun y => decide (y.nm = x.nm)) = some x := by
  induction cs with
  | nil => intro x h; simp at h
  | cons y r ih =>
    intro x h
    rw [List.map_cons, List.nodup_cons] at nd
    rw [List.find?_cons]
    rcases List.mem_cons.mp h with e | e
    · rw [e, decide_eq_true rfl]
    · have : ¬ y.nm = x.nm := fun z => nd.1 (by rw [z]; exact List.mem_map_of_mem e)
      rw [decide_eq_false this]
      exact ih nd.2 e
theorem kvG_snoc {cs : List Chg} {x : Chg} (h : x.nm ∉ cs.map (·.nm)) : putK (kvG cs) (.inr x.nm) x.bv = kvG (cs ++ [x]) := by
  unfold kvG
  unfold putK
  rw [if_neg, List.map_append]
  · rfl
  · rw [List.any_map, List.any_eq_true]
    rintro ⟨e, he, hd⟩
    have hd : decide ((Sum.inr e.nm : Key) = .inr x.nm) = true := hd
    rw [decide_eq_true_eq] at hd
    injection hd with hd
    exact h (hd ▸ List.mem_map_of_mem he)
section
variable {P : Program} {w : World} {K : PySem.W.Frag} {mg : Str → Option Value} {base : Heap} {cP cC : Addr} {c : Kd → Addr}
abbrev sMCh : Stmt := top 47
theorem scMCh : FnScope ["trees", "found", "name"] ["trees"] (defScope sMCh) := ⟨rfl, rfl, rfl, by decide +kernel, rfl, by decide +kernel, by decide +kernel⟩
def spMCh (c : Kd → Addr) : Sp := fun vs H Q _ => ∃ (C : Addr) (cs : List Chg), vs = [.ref C] ∧ H C = some (.dK (kvG cs)) ∧ (cs.map (·.nm)).Nodup ∧ cs.length ≤ 6 ∧ (∀ x ∈ cs, LCh H x) ∧
  ∀ H' D cs', Ext H H' → H D = none → H' D = some (.dK (kvG cs')) → cs'.map (fun x => (x.nm, x.body)) = cs.map (fun x => (x.nm, x.body)) → (∀ x ∈ cs', EE c H' x.body x.bv) → Q (.ref D) H'
theorem mch_ok {f : Addr} {fd : FuncData} (F : Fun K "_law_made_change" "_law_made_change" sMCh f fd) (bn : BN mg) (cM : Cal P w K mg base 9 "_law_made" (spMade c 4)) : FnOk P w K mg base CX0 10 f fd ["trees"] (spMCh c) := by
  refine F.ok (k := 9) scMCh (fun vs H Q E h => ?_) (fun cdv A outer s H vs Q E hr h => ?_)
  · obtain ⟨C, cs, rfl, _⟩ := h
    rfl
  · obtain ⟨C, cs, rfl, hC, nd, hle, hcs, kk⟩ := h
    have u1 := hu_of hr
    refine ⟨_, pss_cons (ps_asg pe_dnewK (pg_name (i := 1) scMCh.nd rfl (.inl rfl)))
      (pss_cons (ps_lock (ps_for PassesOwn.never rfl (pi_keys (pv 0)) (pg_name (i := 2) scMCh.nd rfl (.inl rfl))
        (pss_one (ps_dput (by exact u1) (pv 1) (pv 2) (pe_c (j := 9) cM hr (Nat.le_refl _) (pa_cons (pe_dget (by exact u1) (pv 0) (pv 2) (fun _ _ => rfl)) pa_nil)) rfl))))
      (pss_one (ps_ret (pv 1)))), ?_⟩
    refine fun D hD => ?_
    have e1 : Ext H (upd H D (.dK [])) := Ext.upd hD
    have h1D : (upd H D (.dK [])) D = some (.dK []) := upd_same
    have hCD : C ≠ D := fun z => by rw [z, hD] at hC; cases hC
    generalize (upd H D (.dK [])) = H1 at e1 h1D ⊢
    have h1C := e1 _ _ hC
    refine ⟨C, _, h1C, trivial, fun ob => ?_⟩
    have f2 : Fx H1 (upd H1 C (.frz ob (.dK (kvG cs)))) := fx_lock h1C (fun q => q)
    have h2C : (upd H1 C (.frz ob (.dK (kvG cs)))) C = some (.frz ob (.dK (kvG cs))) := upd_same
    have h2D : (upd H1 C (.frz ob (.dK (kvG cs)))) D = some (.dK []) := by rw [upd_ne (Ne.symm hCD)]; exact h1D
    have k2 : ∀ b o, b ≠ C → H b = some o → (upd H1 C (.frz ob (.dK (kvG cs)))) b = some o := fun b o hb h => by rw [upd_ne hb]; exact e1 _ _ h
    generalize (upd H1 C (.frz ob (.dK (kvG cs)))) = H2 at f2 h2C h2D k2 ⊢
    have wK : Walk (Itk C ob (kvG cs)) cs.length (fun H' => H' C = some (.frz ob (.dK (kvG cs)))) (fun i H' x H'' => H'' = H' ∧ ∃ k v, (kvG cs)[i]? = some (k, v) ∧ x = kV k) := by
      have := walk_keys (d := C) (o := ob) (kvs := kvG cs)
      unfold kvG at this ⊢
      rwa [List.length_map] at this
    refine ⟨_, rfl, C, ob, rfl, .inl ⟨_, h2C, for_it wK (fun k σ H' => ∃ cs' u2, cs'.map (fun x => (x.nm, x.body)) = (cs.take k).map (fun x => (x.nm, x.body)) ∧ H' D = some (.dK (kvG cs')) ∧ (∀ x ∈ cs', EE c H' x.body x.bv) ∧ (∀ b o, b ≠ D → H2 b = some o → H' b = some o) ∧ σ = [some (.ref C), some (.ref D), u2]) ⟨[], none, rfl, h2D, fun x hx => by simp at hx, fun b o _ h => h, rfl⟩ (fun i σ H' _ ⟨_, _, _, _, _, hk, _⟩ => hk _ _ hCD h2C) (fun i x σ H' H'' hi ⟨cs', u2, hm, hd, hE, hk, hσ⟩ hY => ?_) (fun σ H' ⟨cs', u2, hm, hd, hE, hk, hσ⟩ => ?_)⟩⟩
    · subst hσ
      obtain ⟨rfl, k', v', hkv, rfl⟩ := hY
      obtain ⟨y, hy⟩ : ∃ y, cs[i]? = some y := ⟨cs[i], List.getElem?_eq_getElem hi⟩
      have : (kvG cs)[i]? = some (.inr y.nm, y.bv) := by unfold kvG; rw [List.getElem?_map, hy]; rfl
      rw [this] at hkv
      cases hkv
      have hym := List.mem_of_getElem? hy
      have hch := hcs y hym
      have hv : valV (kvG cs) (.inr y.nm) = some y.bv := by
        rw [valV_kvG, find_chg' nd hym]
        rfl
      have fk : Fx H2 H'' := fun b o f h => hk b o (fun z => by rw [z, h2D] at h; cases h; exact f) h
      have hnm : cs'.map (·.nm) = (cs.take i).map (·.nm) := by
        have := congrArg (List.map Prod.fst) hm
        rw [List.map_map, List.map_map] at this
        exact this
      have hnew : y.nm ∉ cs'.map (·.nm) := by
        rw [hnm]
        intro hmem
        obtain ⟨z, hz, ez⟩ := List.mem_map.mp hmem
        obtain ⟨j, hj, ej⟩ := List.getElem_of_mem hz
        rw [List.length_take] at hj
        rw [List.getElem_take] at ej
        have g1 := (List.getElem?_eq_some_iff.mp hy).2
        exact (List.pairwise_iff_getElem.mp nd) j i (by rw [List.length_map]; omega) (by rw [List.length_map]; exact hi) (by omega) (by rw [List.getElem_map, List.getElem_map, ej, g1, ez])
      have hl : cs'.length ≤ 6 := by
        have := congrArg List.length hnm
        rw [List.length_map, List.length_map, List.length_take] at this
        omega
      refine ⟨_, rfl, _, rfl, C, y.bv, rfl, .inl ⟨_, .inr y.nm, .inr ⟨_, hk _ _ hCD h2C⟩, rfl, hv.symm⟩, y.bv, y.body, rfl, LT.fx (((Fx.of e1).trans f2).trans fk) hch.lt, hch.dep, hch.size, hch.nms, fun v' H3 e3 hEE => ?_⟩
      have hd3 := e3 _ _ hd
      refine ⟨_, rfl, _, rfl, D, _, rfl, .inl ⟨_, .inr y.nm, hd3, rfl, by unfold kvG; rw [List.length_map, sizeLine_eq]; omega, rfl⟩, cs' ++ [⟨y.nm, y.body, v'⟩], _, ?_, ?_, fun x hx => ?_, fun b o hb h => ?_, rfl⟩
      · rw [List.take_add_one, hy, List.map_append, List.map_append, hm]
        rfl
      · rw [upd_same, ← kvG_snoc (x := ⟨y.nm, y.body, v'⟩) hnew]
      · have fD : Fx H3 (upd H3 D (.dK (putK (kvG cs') (.inr y.nm) v'))) := Fx.upd fun u hu => by rw [hd3] at hu; cases hu; exact fun q => q
        rcases List.mem_append.mp hx with q | q
        · exact EE.fx ((Fx.of e3).trans fD) (hE x q)
        · rw [List.mem_singleton] at q
          subst q
          exact EE.fx fD hEE
      · rw [upd_ne hb]
        exact e3 _ _ (hk _ _ hb h)
    · subst hσ
      have hC' := hk _ _ hCD h2C
      refine ⟨hC', _, rfl, ?_⟩
      rw [List.take_length] at hm
      have f5 : Fx H' (upd H' C (.dK (kvG cs))) := Fx.upd fun u hu => by rw [hC'] at hu; cases hu; exact fun q => q
      refine kk _ D cs' (fun b o h => ?_) hD (by rw [upd_ne (Ne.symm hCD)]; exact hd) hm fun x hx => EE.fx f5 (hE x hx)
      by_cases hb : b = C
      · subst hb
        rw [upd_same]
        exact hC.symm.trans h
      · rw [upd_ne hb]
        exact hk _ _ (fun z => by rw [z, hD] at h; cases h) (k2 _ _ hb h)
end
end MR
end

section
set_option Elab.async false
set_option linter.all false
set_option maxRecDepth 100000
set_option maxHeartbeats 1000000
/-! The law's bodies as data. -/
namespace MR
open PySem PySem.Spec PyProof.Rows L2 LY GW
def dTag : Tag → List PyData → List PyData
  | .const n, _ => [.str "const", .int n]
  | .arg, _ => [.str "arg"]
  | .call f, ds => .str "call" :: .str f :: ds
  | .choose, ds => [.str "choose", ds.headD .none, .tuple ds.tail]
mutual
def T.dB : T → PyData
  | .mk g ks => .tuple (dTag g (T.dBs ks))
def T.dBs : List T → List PyData
  | [] => []
  | t :: r => T.dB t :: T.dBs r
end
section
variable {K : PySem.W.Frag} {H : Hp}
mutual
theorem LT.dp : ∀ {t : T} {v : V}, LT H t v → Dp K H v t.dB
  | .mk g ks, v, h => by
    rw [LT] at h
    obtain ⟨p, us, qt, rfl, hp, har, hq, hus⟩ := h
    rw [T.dB]
    cases g with
    | const n => exact .tup (.inl (.inl hp)) (.cons (.str _) (.cons (.int _) .nil))
    | arg => exact .tup (.inl (.inl hp)) (.cons (.str _) .nil)
    | call f => exact .tup (.inl (.inl hp)) (.cons (.str _) (.cons (.str _) (LTs.dp hus)))
    | choose =>
      have hd := LTs.dp hus
      cases ks with
      | nil => exact absurd har (by show ¬ (0 = 3 ∨ 0 = 4); decide)
      | cons t1 ts =>
        rw [dTag]
        rw [T.dBs] at hd ⊢
        cases hd with
        | cons h1 h2 => exact .tup (.inl (.inl hp)) (.cons (.str _) (.cons h1 (.cons (.tup (.inl (.inl (hq rfl))) h2) .nil)))
theorem LTs.dp : ∀ {ts : List T} {us : List V}, LTs H ts us → DpAll K H us (T.dBs ts)
  | [], us, h => by
    rw [LTs] at h
    subst h
    rw [T.dBs]
    exact .nil
  | t :: r, us, h => by
    rw [LTs] at h
    obtain ⟨u, s, rfl, h1, h2⟩ := h
    rw [T.dBs]
    exact .cons (LT.dp h1) (LTs.dp h2)
end
end
theorem nb_head {ds : List PyData} (h : nbAll ds = true) : nb (ds.headD .none) = true := by
  cases ds with
  | nil => rw [List.headD_nil, nb]
  | cons d r => rw [nbAll, Bool.and_eq_true] at h; exact h.1
theorem nb_tail {ds : List PyData} (h : nbAll ds = true) : nbAll ds.tail = true := by
  cases ds with
  | nil => rw [List.tail_nil, nbAll]
  | cons d r => rw [nbAll, Bool.and_eq_true] at h; exact h.2
mutual
theorem T.nb_dB : ∀ {t : T}, (∀ x ∈ t.names, PyData.strOk x = true) → nb t.dB = true
  | .mk g ks, h => by
    rw [T.names] at h
    have ih := T.nb_dBs (ts := ks) fun x hx => h x (List.mem_append_right _ hx)
    rw [T.dB, nb]
    cases g with
    | const n => rw [dTag, nbAll, nbAll, nbAll, nb, nb]; decide +kernel
    | arg => rw [dTag, nbAll, nbAll, nb]; decide +kernel
    | call f =>
      rw [dTag, nbAll, nbAll, nb, nb, ih, h f (List.mem_append_left _ (by simp [Tag.name]))]
      decide +kernel
    | choose =>
      rw [dTag, nbAll, nbAll, nbAll, nbAll, nb_head ih, nb, nb, nb_tail ih]
      decide +kernel
theorem T.nb_dBs : ∀ {ts : List T}, (∀ x ∈ T.namesL ts, PyData.strOk x = true) → nbAll (T.dBs ts) = true
  | [], _ => by rw [T.dBs, nbAll]
  | t :: r, h => by
    rw [T.namesL] at h
    rw [T.dBs, nbAll, T.nb_dB fun x hx => h x (List.mem_append_left _ hx), T.nb_dBs fun x hx => h x (List.mem_append_right _ hx)]
    rfl
end
theorem depth_head {ds : List PyData} : (ds.headD .none).depth ≤ PyData.depthAll ds := by
  cases ds with
  | nil => rw [List.headD_nil, PyData.depth]; omega
  | cons d r => rw [PyData.depthAll]; exact Nat.le_max_left _ _
theorem depth_tail {ds : List PyData} : PyData.depthAll ds.tail ≤ PyData.depthAll ds := by
  cases ds with
  | nil => exact Nat.le_refl _
  | cons d r => rw [PyData.depthAll]; exact Nat.le_max_right _ _
mutual
theorem T.depth_dB : ∀ {t : T}, t.dB.depth ≤ 2 * t.depth
  | .mk g ks => by
    have ih := T.depth_dBs (ts := ks)
    rw [T.dB, PyData.depth, T.depth]
    cases g with
    | const n => rw [dTag, PyData.depthAll, PyData.depthAll, PyData.depthAll, PyData.depth, PyData.depth]; omega
    | arg => rw [dTag, PyData.depthAll, PyData.depthAll, PyData.depth]; omega
    | call f => rw [dTag, PyData.depthAll, PyData.depthAll, PyData.depth, PyData.depth]; omega
    | choose =>
      rw [dTag, PyData.depthAll, PyData.depthAll, PyData.depthAll, PyData.depthAll, PyData.depth, PyData.depth]
      have := depth_head (ds := T.dBs ks)
      have := depth_tail (ds := T.dBs ks)
      omega
theorem T.depth_dBs : ∀ {ts : List T}, PyData.depthAll (T.dBs ts) ≤ 2 * T.depths ts
  | [] => by rw [T.dBs, PyData.depthAll, T.depths]; omega
  | t :: r => by
    rw [T.dBs, PyData.depthAll, T.depths]
    have := T.depth_dB (t := t)
    have := T.depth_dBs (ts := r)
    omega
end
def hdS : PyData → Option Str
  | .tuple (.str s :: _) => some s
  | _ => none
mutual
theorem T.dB_inj {n : Nat} : ∀ {t u : T}, T.Ok n t → T.Ok n u → t.dB = u.dB → t = u
  | .mk g ks, .mk g' ls, h1, h2, h => by
    rw [T.Ok] at h1 h2
    rw [T.dB, T.dB] at h
    cases g with
    | const k =>
      cases g' with
      | const k' =>
        simp only [dTag, PyData.tuple.injEq, List.cons.injEq, PyData.int.injEq, and_true, true_and] at h
        have hk : ks = [] := List.length_eq_zero_iff.mp h1.1.2
        have hl : ls = [] := List.length_eq_zero_iff.mp h2.1.2
        rw [hk, hl]
        have : k = k' := by omega
        rw [this]
      | arg => exact absurd (congrArg hdS h) (by simp only [dTag, hdS]; decide)
      | call f => exact absurd (congrArg hdS h) (by simp only [dTag, hdS]; decide)
      | choose => exact absurd (congrArg hdS h) (by simp only [dTag, hdS]; decide)
    | arg =>
      cases g' with
      | const k' => exact absurd (congrArg hdS h) (by simp only [dTag, hdS]; decide)
      | arg =>
        have hk : ks = [] := List.length_eq_zero_iff.mp h1.1
        have hl : ls = [] := List.length_eq_zero_iff.mp h2.1
        rw [hk, hl]
      | call f => exact absurd (congrArg hdS h) (by simp only [dTag, hdS]; decide)
      | choose => exact absurd (congrArg hdS h) (by simp only [dTag, hdS]; decide)
    | call f =>
      cases g' with
      | const k' => exact absurd (congrArg hdS h) (by simp only [dTag, hdS]; decide)
      | arg => exact absurd (congrArg hdS h) (by simp only [dTag, hdS]; decide)
      | call f' =>
        simp only [dTag, PyData.tuple.injEq, List.cons.injEq, PyData.str.injEq, true_and] at h
        rw [h.1, T.dBs_inj h1.2 h2.2 h.2]
      | choose => exact absurd (congrArg hdS h) (by simp only [dTag, hdS]; decide)
    | choose =>
      cases g' with
      | const k' => exact absurd (congrArg hdS h) (by simp only [dTag, hdS]; decide)
      | arg => exact absurd (congrArg hdS h) (by simp only [dTag, hdS]; decide)
      | call f => exact absurd (congrArg hdS h) (by simp only [dTag, hdS]; decide)
      | choose =>
        simp only [dTag, PyData.tuple.injEq, List.cons.injEq, and_true, true_and] at h
        have hk : ks.length = n + 1 := h1.1
        have hl : ls.length = n + 1 := h2.1
        cases ks with
        | nil => simp at hk
        | cons t1 ts =>
          cases ls with
          | nil => simp at hl
          | cons u1 us =>
            rw [T.dBs, T.dBs] at h
            have e1 : t1.dB = u1.dB := h.1
            have e2 : T.dBs ts = T.dBs us := h.2
            rw [T.dBs_inj (ts := t1 :: ts) (us := u1 :: us) h1.2 h2.2 (by rw [T.dBs, T.dBs, e1, e2])]
theorem T.dBs_inj {n : Nat} : ∀ {ts us : List T}, T.Oks n ts → T.Oks n us → T.dBs ts = T.dBs us → ts = us
  | [], [], _, _, _ => rfl
  | t :: r, u :: s, h1, h2, h => by
    rw [T.Oks] at h1 h2
    rw [T.dBs, T.dBs, List.cons.injEq] at h
    rw [T.dB_inj h1.1 h2.1 h.1, T.dBs_inj h1.2 h2.2 h.2]
  | [], _ :: _, _, _, h => by rw [T.dBs, T.dBs] at h; cases h
  | _ :: _, [], _, _, h => by rw [T.dBs, T.dBs] at h; cases h
end
theorem eqv_dB {n : Nat} {t u : T} (ht : T.Ok n t) (hu : T.Ok n u) (h1 : ∀ x ∈ t.names, PyData.strOk x = true) (h2 : ∀ x ∈ u.names, PyData.strOk x = true) : PyData.eqv t.dB u.dB = T.beq t u := by
  rw [Bool.eq_iff_iff, eqv_iff (T.nb_dB h1) (T.nb_dB h2)]
  constructor
  · intro h
    rw [T.dB_inj ht hu h]
    exact T.beq_refl u
  · intro h
    rw [T.eq_of_beq h]
theorem shaped_dB {t : T} (h1 : ∀ x ∈ t.names, PyData.strOk x = true) (hd : t.depth ≤ 4) : SeqAt.shaped t.dB = true := shaped_nb (T.nb_dB h1) (Nat.le_trans T.depth_dB (by omega))
end MR
end

section
set_option Elab.async false
set_option linter.all false
set_option maxRecDepth 100000
set_option maxHeartbeats 1000000
/-! The law's changes drawn. -/
namespace MR
open PySem PySem.Spec PyProof.Rows L2 LY GW
/-- a changed body of the law -/
structure CgOk (H : Hp) (n : Nat) (es : List Ent) (x : Chg) : Prop where
  ex : ∃ k e, es[(k : Nat)]? = some e ∧ e.nm = x.nm ∧ (∀ y ∈ x.body.names, y ∈ (es.take k).map (·.nm)) ∧ T.beq x.body e.body = false
  lt : LT H x.body x.bv
  ok : T.Ok n x.body
  dep : x.body.depth ≤ 4
  size : x.body.size ≤ 60
theorem CgOk.fx {H H' : Hp} {n : Nat} {es : List Ent} {x : Chg} (h : CgOk H n es x) (f : Fx H H') : CgOk H' n es x := ⟨h.ex, LT.fx f h.lt, h.ok, h.dep, h.size⟩
theorem const_facts {n k : Nat} (h : k < n) : T.Ok n (.mk (.const k) []) ∧ (T.mk (.const k) []).names = [] ∧ (T.mk (.const k) []).depth ≤ 1 ∧ (T.mk (.const k) []).size ≤ 1 :=
  ⟨by rw [T.Ok, T.Oks]; exact ⟨⟨h, rfl⟩, trivial⟩, by rw [T.names, T.namesL]; rfl, by rw [T.depth, T.depths]; omega, by rw [T.size, T.sizes]; omega⟩
theorem namesL_nil : ∀ {ts : List T}, (∀ t ∈ ts, t.names = []) → T.namesL ts = []
  | [], _ => by rw [T.namesL]
  | t :: r, h => by rw [T.namesL, h t List.mem_cons_self, namesL_nil fun x hx => h x (List.mem_cons_of_mem _ hx)]; rfl
theorem choose_facts {n : Nat} {t0 : T} {ts : List T} (h1 : T.Ok n t0) (h2 : t0.names = []) (h3 : t0.depth ≤ 1) (h4 : t0.size ≤ 1) (hl : ts.length = n) (hn : n ≤ 3) (h : ∀ t ∈ ts, T.Ok n t ∧ t.names = [] ∧ t.depth ≤ 1 ∧ t.size ≤ 1) :
    T.Ok n (.mk .choose (t0 :: ts)) ∧ (T.mk .choose (t0 :: ts)).names = [] ∧ (T.mk .choose (t0 :: ts)).depth ≤ 4 ∧ (T.mk .choose (t0 :: ts)).size ≤ 60 := by
  refine ⟨?_, ?_, ?_, ?_⟩
  · rw [T.Ok, T.Oks]
    refine ⟨?_, h1, oks_of fun t ht => (h t ht).1⟩
    show _ = n + 1
    rw [List.length_cons, hl]
  · rw [T.names, T.namesL, h2, namesL_nil fun t ht => (h t ht).2.1]
    rfl
  · rw [T.depth, T.depths]
    have := depths_le (d := 1) fun t ht => (h t ht).2.2.1
    omega
  · rw [T.size, T.sizes]
    have := sizes_le (z := 1) fun t ht => (h t ht).2.2.2
    rw [hl] at this
    omega
theorem putG {cs : List Chg} {nm : Str} {t : T} {v : V} (nd : (cs.map (·.nm)).Nodup) : ∃ cs' : List Chg, putK (kvG cs) (.inr nm) v = kvG cs' ∧ (cs'.map (·.nm)).Nodup ∧ cs'.length ≤ cs.length + 1 ∧ 1 ≤ cs'.length ∧ ∀ x ∈ cs', x ∈ cs ∨ x = ⟨nm, t, v⟩ := by
  by_cases h : nm ∈ cs.map (·.nm)
  · have hnm : (cs.map fun x => if x.nm = nm then (⟨nm, t, v⟩ : Chg) else x).map (·.nm) = cs.map (·.nm) := by
      rw [List.map_map]
      refine List.map_congr_left fun x _ => ?_
      show (if x.nm = nm then (⟨nm, t, v⟩ : Chg) else x).nm = x.nm
      by_cases hx : x.nm = nm
      · rw [if_pos hx, hx]
      · rw [if_neg hx]
    refine ⟨cs.map fun x => if x.nm = nm then ⟨nm, t, v⟩ else x, ?_, by rw [hnm]; exact nd, by rw [List.length_map]; omega, ?_, fun x hx => ?_⟩
    · unfold putK
      rw [if_pos]
      · unfold kvG
        rw [List.map_map, List.map_map]
        refine List.map_congr_left fun x _ => ?_
        show (if (Sum.inr x.nm : Key) = .inr nm then ((Sum.inr x.nm : Key), v) else (.inr x.nm, x.bv)) = (.inr (if x.nm = nm then (⟨nm, t, v⟩ : Chg) else x).nm, (if x.nm = nm then (⟨nm, t, v⟩ : Chg) else x).bv)
        by_cases hx : x.nm = nm
        · rw [if_pos (by rw [hx]), if_pos hx, hx]
        · rw [if_neg (fun z => hx (by injection z)), if_neg hx]
      · obtain ⟨x, hx, e⟩ := List.mem_map.mp h
        unfold kvG
        rw [List.any_map, List.any_eq_true]
        exact ⟨x, hx, decide_eq_true (show (Sum.inr x.nm : Key) = .inr nm by rw [e])⟩
    · rw [List.length_map]
      obtain ⟨x, hx, _⟩ := List.mem_map.mp h
      exact List.length_pos_of_mem hx
    · obtain ⟨y, hy, rfl⟩ := List.mem_map.mp hx
      by_cases hyn : y.nm = nm
      · rw [if_pos hyn]; exact .inr rfl
      · rw [if_neg hyn]; exact .inl hy
  · refine ⟨cs ++ [⟨nm, t, v⟩], kvG_snoc (x := ⟨nm, t, v⟩) h, ?_, by rw [List.length_append]; exact Nat.le_refl _, by rw [List.length_append, List.length_singleton]; omega, fun x hx => ?_⟩
    · rw [List.map_append]
      exact List.nodup_append.mpr ⟨nd, by simp, fun a ha b hb => by
        have hb : b = nm := by simpa using hb
        rw [hb]
        exact fun z => h (z ▸ ha)⟩
    · rcases List.mem_append.mp hx with q | q
      · exact .inl q
      · rw [List.mem_singleton] at q; exact .inr q
section
variable {P : Program} {w : World} {K : PySem.W.Frag} {mg : Str → Option Value} {base : Heap} {cP cC : Addr} {c : Kd → Addr}
abbrev sTurn : Stmt := top 46
abbrev nTurn : List Str := ["draws", "plan", "names", "found", "turn", "name", "tree", "number"]
theorem scTurn : FnScope nTurn ["draws", "plan"] (defScope sTurn) := ⟨rfl, rfl, rfl, by decide +kernel, rfl, by decide +kernel, by decide +kernel⟩
def forBody : Stmt → List Stmt
  | .For _ _ b _ _ => b
  | _ => []
abbrev bTurn : List Stmt := forBody (((defBody sTurn)[1]?).getD (defBody sTurn).head!)
def spTurn (K : PySem.W.Frag) : Sp := fun vs H Q _ => ∃ (st : Addr) (sc : Addr × List Int) (q B R : Addr) (n : Nat) (es : List Ent), vs = [.ref st, .ref q] ∧ StA K st sc H ∧ (n = 2 ∨ n = 3) ∧ H q = some (.tup [.int n, .ref R, .ref B]) ∧ H B = some (.dK (kvB es)) ∧ LB H n es ∧ 1 ≤ es.length ∧
  ∀ H' F cs, Nxt K st sc H H' → H F = none → H' F = some (.dK (kvG cs)) → 1 ≤ cs.length → (cs.map (·.nm)).Nodup → cs.length ≤ 6 → (∀ x ∈ cs, CgOk H' n es x) → Q (.ref F) H'
/-- while changes are drawn -/
structure TuI (K : PySem.W.Frag) (st : Addr) (sc : Addr × List Int) (n : Nat) (es : List Ent) (Fd : Addr) (H1 : Hp) (i : Nat) (cs : List Chg) (H' : Hp) : Prop where
  hF : H' Fd = some (.dK (kvG cs))
  cg : ∀ x ∈ cs, CgOk H' n es x
  nd : (cs.map (·.nm)).Nodup
  le : cs.length ≤ i
  sa : StA K st sc H'
  keep : ∀ b o, b ≠ st → b ≠ Fd → H1 b = some o → H' b = some o
def TuS (st q l Fd : Addr) (σ : L2.St) : Prop := ∃ u4 u5 u6 u7, σ = [some (.ref st), some (.ref q), some (.ref l), some (.ref Fd), u4, u5, u6, u7]
theorem td_ok {f : Addr} {cdv : Value} {A : Around} {outer : List Env} {s : Shared} {H E} (bn : BN mg) (hr : Room 7 (A.deeper (envOfC "_law_turned" (defScope sTurn) s.heap.objs.size f cdv))) :
    ∃ t, PSs (cxOf CX0 P w K mg base nTurn "_law_turned" (defScope sTurn) f cdv A outer s H E).nox (bTurn.drop 3) t ∧ ∀ (st : Addr) (sc : Addr × List Int) (q l B R Fd : Addr) (n : Nat) (es : List Ent) (cs : List Chg) (H1 H' : Hp) (i k : Nat) (e : Ent) (tr : T) (v : V) (u4 u7 : Option V) (D : Ends),
      StA K st sc H1 → H1 Fd = some (.dK []) → H1 q = some (.tup [.int n, .ref R, .ref B]) → H1 B = some (.dK (kvB es)) → B ≠ Fd → LB H1 n es → i ≤ 2 → TuI K st sc n es Fd H1 i cs H' → es[k]? = some e → LT H' tr v → T.Ok n tr → (∀ y ∈ tr.names, y ∈ (es.take k).map (·.nm)) → tr.depth ≤ 4 → tr.size ≤ 60 → (∀ σ H'' cs', TuS st q l Fd σ → TuI K st sc n es Fd H1 (i + 1) cs' H'' → D.nx σ H'') →
      t D [some (.ref st), some (.ref q), some (.ref l), some (.ref Fd), u4, some (.str e.nm), some v, u7] H' := by
  have u1 := hu_of hr
  refine ⟨_, pss_one (ps_if (pt_cmpR (op_neD (by have := hr.units; exact this)) (pv 6) (pe_dget (by exact u1) (pe_ix ix_tup (pv 1) pe_int (fun _ _ => rfl)) (pv 5) (fun _ _ => rfl)) rfl) (pss_one (ps_dput (by exact u1) (pv 3) (pv 5) (pv 6) rfl)) pss_nil), ?_⟩
  intro st sc q l B R Fd n es cs H1 H' i k e tr v u4 u7 D h1s h1F h1q h1B hBF hL hi I he hLt hok hnms hdep hsz hD
  have hBs := h1s.dk h1B
  have hFs := h1s.dk h1F
  have tupn : ∀ {b : Addr} {xs : List V}, H1 b = some (.tup xs) → b ≠ st ∧ b ≠ Fd := fun {b xs} h => ⟨(fun z => by obtain ⟨ys, hy⟩ := h1s.is; rw [← z, h] at hy; cases hy), (fun z => by rw [z, h1F] at h; cases h)⟩
  have hq' := I.keep _ _ (tupn h1q).1 (tupn h1q).2 h1q
  have hB' := I.keep _ _ hBs hBF h1B
  have fk : Fx H1 H' := fun b o f h => I.keep b o (fun z => by obtain ⟨ys, hy⟩ := h1s.is; rw [z, hy] at h; cases h; exact f) (fun z => by rw [z, h1F] at h; cases h; exact f) h
  have hLe := LT.fx fk (hL.lt e (List.mem_of_getElem? he))
  have hbe := hL.inp k e he
  have okN : ∀ x ∈ es.map (·.nm), PyData.strOk x = true := fun x hx => by
    obtain ⟨e', he', rfl⟩ := List.mem_map.mp hx
    obtain ⟨j, hj, ej⟩ := List.getElem_of_mem he'
    exact ok_str (hL.inp j e' (by rw [← ej]; exact List.getElem?_eq_getElem hj)).nm
  have oke : ∀ x ∈ e.body.names, PyData.strOk x = true := fun x hx => ok_str (hL.okn he x hx)
  have okt : ∀ x ∈ tr.names, PyData.strOk x = true := fun x hx => okN x (by have := hnms x hx; rw [List.map_take] at this; exact List.mem_of_mem_take this)
  have hev := eqv_dB hok hbe.ok okt oke
  refine ⟨_, rfl, _, rfl, q, _, 2, .ref B, rfl, rfl, .inl (.inl hq'), rfl, _, rfl, B, e.bv, rfl, .inl ⟨_, .inr e.nm, .inl hB', rfl, (valV_map (g := fun e : Ent => e.bv) hL.nd he).symm⟩, tr.dB, e.body.dB, hLt.dp, hLe.dp, shaped_dB okt hdep, shaped_dB oke hbe.dep, _, rfl, ?_⟩
  cases hb : T.beq tr e.body with
  | true =>
    refine iteFb (by rw [hev, hb]; rfl) (hD _ _ cs ⟨_, _, _, _, rfl⟩ ⟨I.hF, I.cg, I.nd, by have := I.le; omega, I.sa, I.keep⟩)
  | false =>
    refine iteTb (by rw [hev, hb]; rfl) ?_
    refine ⟨_, rfl, _, rfl, _, rfl, Fd, _, rfl, .inl ⟨_, .inr e.nm, I.hF, rfl, by unfold kvG; rw [List.length_map, sizeLine_eq]; have := I.le; omega, rfl⟩, ?_⟩
    obtain ⟨cs', h1, h2, h3, h4, h5⟩ := putG (nm := e.nm) (t := tr) (v := v) I.nd
    have f8 : Fx H' (upd H' Fd (.dK (putK (kvG cs) (.inr e.nm) v))) := Fx.upd fun u hu => by rw [I.hF] at hu; cases hu; exact fun q => q
    refine hD _ _ cs' ⟨_, _, _, _, rfl⟩ ⟨by rw [upd_same, h1], fun x hx => ?_, h2, by have := I.le; omega, ?_, fun b o hb1 hb2 h => by rw [upd_ne hb2]; exact I.keep _ _ hb1 hb2 h⟩
    · rcases h5 x hx with q' | q'
      · exact (I.cg x q').fx f8
      · subst q'
        exact ⟨⟨k, e, he, rfl, hnms, hb⟩, LT.fx f8 hLt, hok, hdep, hsz⟩
    · obtain ⟨xs, q1, q2⟩ := I.sa
      exact ⟨xs, by rw [upd_ne (Ne.symm hFs)]; exact q1, q2⟩
end
end MR
end

section
set_option Elab.async false
set_option linter.all false
set_option maxRecDepth 100000
set_option maxHeartbeats 1000000
/-! The law's changes drawn, whole. -/
namespace MR
open PySem PySem.Spec PyProof.Rows L2 LY GW
section
variable {P : Program} {w : World} {K : PySem.W.Frag} {mg : Str → Option Value} {base : Heap} {cP cC : Addr} {c : Kd → Addr}
theorem turned_ok {f : Addr} {fd : FuncData} (F : Fun K "_law_turned" "_law_turned" sTurn f fd) (bn : BN mg) (cN : Cal P w K mg base 1 "_law_take" (spNext K)) (cB : Cal P w K mg base 7 "_law_drawn_tree" (spBody K 3)) : FnOk P w K mg base CX0 8 f fd ["draws", "plan"] (spTurn K) := by
  refine F.ok (k := 7) scTurn (fun vs H Q E h => ?_) (fun cdv A outer s H vs Q E hr h => ?_)
  · obtain ⟨st, sc, q, B, R, n, es, rfl, _⟩ := h
    rfl
  · obtain ⟨st, sc, q, B, R, n, es, rfl, hst, hn, hq, hB, hL, hel, kk⟩ := h
    have u1 := hu_of hr
    obtain ⟨td, hd, rd⟩ := td_ok (P := P) (w := w) (K := K) (mg := mg) (base := base) (f := f) (cdv := cdv) (outer := outer) (H := H) (E := E) bn hr
    refine ⟨_, pss_cons (ps_par rfl scTurn.nd (i := 2) (j := 3) rfl rfl (by decide) rfl rfl (pa_cons (pe_callTy (call_listD rfl) (by rfl) (bn "list" (by decide)) boot_tList (pa_cons (pe_ix ix_tup (pv 1) pe_int (fun _ _ => rfl)) pa_nil)) (pa_cons pe_dnewK pa_nil)) (by rfl))
      (pss_cons (ps_for PassesOwn.never rfl (pi_range1 (by rfl) (bn "range" (by decide)) (pa_cons (pe_op op_add pe_int (pe_c (j := 7) cN hr (by decide) (pa_cons (pv 0) (pa_cons pe_int pa_nil)))) pa_nil)) (pg_name (i := 4) scTurn.nd rfl (by first | exact .inl rfl | exact .inr rfl))
        (pss_cons (ps_asg (pe_ix ix_list (pv 2) (pe_c (j := 7) cN hr (by decide) (pa_cons (pv 0) (pa_cons (pe_len bn (pa_cons (pv 2) pa_nil)) pa_nil))) (fun _ _ => rfl)) (pg_name (i := 5) scTurn.nd rfl (by first | exact .inl rfl | exact .inr rfl)))
        (pss_cons (ps_asg (pe_c (j := 7) cB hr (by decide) (pa_cons (pv 0) (pa_cons (pe_ix ix_tup (pv 1) pe_int (fun _ _ => rfl)) (pa_cons (pe_slice sl_list (pv 2) po_none (po_some (pe_bm PySem.F.plainAttrs_list PySem.F.slot_list_index PySem.F.type_list_index mt_index (pv 2) (pa_cons (pv 5) pa_nil)))) (pa_cons pe_int pa_nil))))) (pg_name (i := 6) scTurn.nd rfl (by first | exact .inl rfl | exact .inr rfl)))
        (pss_cons (ps_if (pt_cmpR (op_eqD (by have := hr.units; exact this)) (pv 6) (pe_dget (by exact u1) (pe_ix ix_tup (pv 1) pe_int (fun _ _ => rfl)) (pv 5) (fun _ _ => rfl)) rfl)
          (pss_one (ps_asg (pe_tup (pa_cons pe_str (pa_cons (pe_tup (pa_cons pe_str pa_nil)) (pa_cons (pe_callTy call_tuple_of (by rfl) (bn "tuple" (by decide)) boot_tTuple (pa_cons
            (pe_lc (own := [("number", 7)]) (g := gName 7) (tt := tYes) (te := tTup (tCons (tC (.str "const")) (tCons (tOp (rI (fun _ j => 0 < j) fun i j => .int (i % j)) (tOp (rI0 fun i j => .int (i + j)) (tVar 7) (tC (.int 1))) (tOp (rIxT K) (tVar 1) (tC (.int 0)))) tNil))) rfl scTurn.nd (pi_range1 (by rfl) (bn "range" (by decide)) (pa_cons (pe_ix ix_tup (pv 1) pe_int (fun _ _ => rfl)) pa_nil)) (blkOk_by (N := nTurn) (sc := defScope sTurn) (by decide +kernel))
              (fun _ _ _ _ _ => pg_name (i := 7) scTurn.nd rfl (by first | exact .inl rfl | exact .inr rfl)) (fun _ _ _ _ _ => pts_nil) (fun _ _ _ _ _ => pe_tup (pa_cons pe_str (pa_cons (pe_op op_mod (pe_op op_add (pv 7) pe_int) (pe_ix ix_tup (pv 1) pe_int (fun _ _ => rfl))) pa_nil)))) pa_nil)) pa_nil)))) (pg_name (i := 6) scTurn.nd rfl (by first | exact .inl rfl | exact .inr rfl)))) pss_nil)
        hd))))
      (pss_cons (ps_if (pt_cmpR (op_eqB (rcB_dict (D := DFlatB) (fun _ _ _ _ _ _ h => h) eqB_flat) (hr.mono (show 1 ≤ 7 by decide))) (pv 3) pe_dnewK rfl)
        (pss_one (ps_dput (by exact u1) (pv 3) (pe_ix ix_list (pv 2) pe_int (fun _ _ => rfl)) (pe_ifExp (pt_cmpR (op_neD (by have := hr.units; exact this)) (pe_dget (by exact u1) (pe_ix ix_tup (pv 1) pe_int (fun _ _ => rfl)) (pe_ix ix_list (pv 2) pe_int (fun _ _ => rfl)) (fun _ _ => rfl)) (pe_tup (pa_cons pe_str (pa_cons pe_int pa_nil))) rfl) (pe_tup (pa_cons pe_str (pa_cons pe_int pa_nil))) (pe_tup (pa_cons pe_str (pa_cons pe_int pa_nil)))) rfl)) pss_nil)
      (pss_one (ps_ret (pv 3))))), ?_⟩
    have hn3 : n ≤ 3 := by rcases hn with z | z <;> omega
    have hn1 : 1 ≤ n := by rcases hn with z | z <;> omega
    have okN : ∀ x ∈ es.map (·.nm), PyData.strOk x = true := fun x hx => by
      obtain ⟨e', he', rfl⟩ := List.mem_map.mp hx
      obtain ⟨j, hj, ej⟩ := List.getElem_of_mem he'
      exact ok_str (hL.inp j e' (by rw [← ej]; exact List.getElem?_eq_getElem hj)).nm
    refine ⟨_, rfl, q, _, 2, .ref B, rfl, rfl, .inl (.inl hq), rfl, B, _, rfl, .inl hB, fun l hl => ?_⟩
    have el : Ext H (upd H l (.lst ((kvB es).map fun kv => kV kv.1))) := Ext.upd hl
    have hll : (upd H l (.lst ((kvB es).map fun kv => kV kv.1))) l = some (.lst ((es.map (·.nm)).map V.str)) := by rw [upd_same, keys_kv]
    generalize (upd H l (.lst ((kvB es).map fun kv => kV kv.1))) = Ha at el hll ⊢
    refine fun Fd hFd => ⟨_, _, rfl, ?_⟩
    have eF : Ext Ha (upd Ha Fd (.dK [])) := Ext.upd hFd
    have hFF : (upd Ha Fd (.dK [])) Fd = some (.dK []) := upd_same
    have nF : H Fd = none := none_of el hFd
    generalize (upd Ha Fd (.dK [])) = Hb at eF hFF ⊢
    have nxb : Nxt K st sc H Hb := Nxt.of hst (el.trans eF)
    have hlb := eF _ _ hll
    have hls : l ≠ st := nxb.st.strs hlb (by rw [List.length_map]; exact hel)
    refine ⟨_, rfl, st, sc, 2, rfl, nxb.st, by decide, fun r H2 r0 r1 nx2 => ⟨_, _, rfl, rfl, 1 + r, rfl, by omega, by omega, ?_⟩⟩
    have hFs := nxb.st.dk hFF
    have hBb := (el.trans eF) _ _ hB
    have hqb := (el.trans eF) _ _ hq
    have hBs := nxb.st.dk hBb
    have nxh := nxb.trans nx2
    have h2F := nx2.but _ _ hFs hFF
    have h2B := nx2.but _ _ hBs hBb
    have h2q := nxb.st.fx nx2.but _ _ (show Fixed (.tup _) from trivial) hqb
    have h2l := nx2.but _ _ hls hlb
    have hL2 : LB H2 n es := (hL.fx (Fx.of (el.trans eF))).fx (nxb.st.fx nx2.but)
    have hBF : B ≠ Fd := fun z => by rw [z, nF] at hB; cases hB
    have hlF : l ≠ Fd := fun z => by rw [z, hFF] at hlb; cases hlb
    have tupn : ∀ {b : Addr} {xs : List V}, H2 b = some (.tup xs) → b ≠ st ∧ b ≠ Fd := fun {b xs} h => ⟨(fun z => by obtain ⟨ys, hy⟩ := nxh.st.is; rw [← z, h] at hy; cases hy), (fun z => by rw [z, h2F] at h; cases h)⟩
    clear nx2
    refine for_range (lo := 0) (n := (1 + r).toNat) (fun i σ H' => TuS st q l Fd σ ∧ ∃ cs, TuI K st sc n es Fd H2 i cs H') ⟨⟨_, _, _, _, rfl⟩, [], h2F, fun x h => by simp at h, List.nodup_nil, Nat.le_refl _, nxh.st, fun b o _ _ h => h⟩ (fun i σ H' hi ⟨hσ, cs, I⟩ => ?_) (fun σ H' ⟨hσ, cs, I⟩ => ?_)
    · obtain ⟨u4, u5, u6, u7, rfl⟩ := hσ
      have hl' := I.keep _ _ hls hlF h2l
      have hi2 : i ≤ 2 := by omega
      refine ⟨_, rfl, _, rfl, _, rfl, l, _, rfl, .inl (.inl (.inl hl')), st, sc, _, rfl, I.sa, by rw [List.length_map, List.length_map]; omega, fun r3 H3 q0 q1 nx3 => ?_⟩
      have hrl : r3.toNat < es.length := by rw [List.length_map, List.length_map] at q1; omega
      obtain ⟨k, hk, hkr⟩ : ∃ k : Nat, k < es.length ∧ r3 = (k : Int) := ⟨r3.toNat, hrl, by omega⟩
      subst hkr
      obtain ⟨e, he⟩ : ∃ e, es[k]? = some e := ⟨es[k], List.getElem?_eq_getElem hk⟩
      have hnk : ((es.map (·.nm)).map V.str)[k]? = some (.str e.nm) := by rw [List.getElem?_map, List.getElem?_map, he]; rfl
      have hl3 := nx3.but _ _ hls hl'
      have I3 : TuI K st sc n es Fd H2 i cs H3 := ⟨nx3.but _ _ hFs I.hF, fun x hx => (I.cg x hx).fx (I.sa.fx nx3.but), I.nd, I.le, nx3.st, fun b o h1 h2 h => nx3.but _ _ h1 (I.keep _ _ h1 h2 h)⟩
      refine ⟨l, _, (k : Int), .str e.nm, rfl, rfl, .inl (.inl hl3), ?at1, ?_⟩
      case at1 =>
        unfold atI ixN
        rw [if_pos (by omega), if_pos (by rw [List.length_map, List.length_map]; omega)]
        show ((es.map (·.nm)).map V.str)[(k : Int).toNat]? = _
        rw [Int.toNat_natCast, hnk]
      -- the tree
      have hq3 := I3.keep _ _ (tupn h2q).1 (tupn h2q).2 h2q
      refine ⟨_, rfl, _, rfl, q, _, 0, .int n, rfl, rfl, .inl (.inl hq3), rfl, _, rfl, _, rfl, .inl ⟨rfl, _, .inl (.inl hl3)⟩, _, rfl, l, _, .str e.nm, k, .str e.nm, rfl, rfl, .inl (.inl hl3), rfl, flat_strs, hnk, by simp [eqV], fun m z hm hz => ?nq, _, rfl, l, _, rfl, .inl (.inl hl3), fun p hp => ?_⟩
      case nq =>
        rw [List.getElem?_map, List.getElem?_map] at hz
        cases hem : es[m]? with
        | none => rw [hem] at hz; cases hz
        | some x =>
          rw [hem] at hz
          obtain rfl : V.str x.nm = z := Option.some.inj hz
          show (x.nm == e.nm) = false
          rw [beq_eq_false_iff_ne]
          intro hxe
          have := same_at hL.nd hem he hxe
          omega
      have hcut : cutV ((es.map (·.nm)).map V.str) none (some (k : Int)) = ((es.take k).map (·.nm)).map V.str := by
        unfold cutV
        rw [HT.sIx_none, HT.sIx_nat, List.length_map, List.length_map, List.drop_zero, Nat.sub_zero, Nat.min_eq_left (by omega), ← List.map_take, ← List.map_take]
      rw [hcut]
      have e6 : Ext H3 (upd H3 p (.lst (((es.take k).map (·.nm)).map V.str))) := Ext.upd hp
      have hp6 : (upd H3 p (.lst (((es.take k).map (·.nm)).map V.str))) p = some (.lst (((es.take k).map (·.nm)).map V.str)) := upd_same
      have hps : p ≠ st := fun z => by obtain ⟨xs, hx⟩ := I3.sa.is; rw [← z, hp] at hx; cases hx
      generalize (upd H3 p (.lst (((es.take k).map (·.nm)).map V.str))) = H6 at e6 hp6 ⊢
      refine ⟨st, sc, n, p, (es.take k).map (·.nm), 1, rfl, by decide, I3.sa.ext e6, hn, hp6, hps, by rw [List.length_map, List.length_take]; have := hL.le; omega, fun x hx => okN x (by rw [List.map_take] at hx; exact List.mem_of_mem_take hx), fun v t H7 nx7 hLt hBd => ?_⟩
      have nx37 : Nxt K st sc H3 H7 := (Nxt.of I3.sa e6).trans nx7
      have I7 : TuI K st sc n es Fd H2 i cs H7 := ⟨nx37.but _ _ hFs I3.hF, fun x hx => (I3.cg x hx).fx (I3.sa.fx nx37.but), I.nd, I.le, nx37.st, fun b o h1 h2 h => nx37.but _ _ h1 (I3.keep _ _ h1 h2 h)⟩
      have go : ∀ {H8 : Hp} {tr : T} {w' : V} {cs' : List Chg} {D : Ends} {u7' : Option V} {u4' : Option V}, TuI K st sc n es Fd H2 i cs' H8 → LT H8 tr w' → T.Ok n tr → (∀ y ∈ tr.names, y ∈ (es.take k).map (·.nm)) → tr.depth ≤ 4 → tr.size ≤ 60 → (∀ σ H'' cs', TuS st q l Fd σ → TuI K st sc n es Fd H2 (i + 1) cs' H'' → D.nx σ H'') → td D [some (.ref st), some (.ref q), some (.ref l), some (.ref Fd), u4', some (.str e.nm), some w', u7'] H8 := fun I8 a1 a2 a3 a4 a5 hD => rd st sc q l B R Fd n es _ H2 _ i k e _ _ _ _ _ nxh.st h2F h2q h2B hBF hL2 hi2 I8 he a1 a2 a3 a4 a5 hD
      have hq7 := I7.keep _ _ (tupn h2q).1 (tupn h2q).2 h2q
      have hB7 := I7.keep _ _ hBs hBF h2B
      have f27 : Fx H2 H7 := fun b o f h => I7.keep b o (fun z => by obtain ⟨ys, hy⟩ := nxh.st.is; rw [z, hy] at h; cases h; exact f) (fun z => by rw [z, h2F] at h; cases h; exact f) h
      have hLe := LT.fx f27 (hL2.lt e (List.mem_of_getElem? he))
      have hbe := hL.inp k e he
      have oke : ∀ x ∈ e.body.names, PyData.strOk x = true := fun x hx => ok_str (hL.okn he x hx)
      have okt : ∀ x ∈ t.names, PyData.strOk x = true := fun x hx => okN x (by have := hBd.names x hx; rw [List.map_take] at this; exact List.mem_of_mem_take this)
      have hev := eqv_dB hBd.ok hbe.ok okt oke
      have hD : ∀ {D : Ends}, D.nx = (fun σ H' => TuS st q l Fd σ ∧ ∃ cs, TuI K st sc n es Fd H2 (i + 1) cs H') → ∀ σ H'' cs', TuS st q l Fd σ → TuI K st sc n es Fd H2 (i + 1) cs' H'' → D.nx σ H'' := fun {D} hDn σ H'' cs' a b => by rw [hDn]; exact ⟨a, cs', b⟩
      refine ⟨_, rfl, _, rfl, q, _, 2, .ref B, rfl, rfl, .inl (.inl hq7), rfl, _, rfl, B, e.bv, rfl, .inl ⟨_, .inr e.nm, .inl hB7, rfl, (valV_map (g := fun e : Ent => e.bv) hL.nd he).symm⟩, t.dB, e.body.dB, hLt.dp, hLe.dp, shaped_dB okt (Nat.le_trans hBd.dep (by decide)), shaped_dB oke hbe.dep, _, rfl, ?_⟩
      cases hb : T.beq t e.body with
      | false => exact iteFb (by rw [hev, hb]) (go I7 hLt hBd.ok hBd.names (Nat.le_trans hBd.dep (by decide)) (Nat.le_trans hBd.size (by decide)) (hD rfl))
      | true =>
        refine iteTb (by rw [hev, hb]) ?_
        refine ⟨(show 1 ≤ sizeLine by decide), fun q1 hq1 => ?_⟩
        have e9 : Ext H7 (upd H7 q1 (.tup [.str "arg"])) := Ext.upd hq1
        have hq11 : (upd H7 q1 (.tup [.str "arg"])) q1 = some (.tup [.str "arg"]) := upd_same
        generalize (upd H7 q1 (.tup [.str "arg"])) = H9 at e9 hq11 ⊢
        have hq9 := e9 _ _ hq7
        refine ⟨_, rfl, q, _, 0, .int n, rfl, rfl, .inl (.inl hq9), rfl, n, rfl, by omega, by omega, fun D hDn => ?_⟩
        refine lcm_range (lo := 0) (n := n) (R := fun _ y H => ∃ t, LT H t y ∧ ∃ k, k < n ∧ t = .mk (.const k) []) (fun i y H H' f ⟨t, h1, h2⟩ => ⟨t, LT.fx f h1, h2⟩) hDn (by rw [sizeLine_eq]; omega) ?hw (fun i2 H8 Qk e8 hi2 k2 => ?_) (fun Hc ys e8 hDc hys hR => ?_)
        case hw => intro x; rfl
        · refine ⟨_, rfl, _, _, rfl, rfl, _, rfl, q, _, 0, .int n, rfl, rfl, .inl (.inl (e8 _ _ hq9)), rfl, _, _, rfl, rfl, (by omega), (show 2 ≤ sizeLine by decide), fun p3 hp3 => ?_⟩
          obtain ⟨k3, hk3⟩ := Int.eq_ofNat_of_zero_le (Int.emod_nonneg (0 + (i2 : Int) + 1) (show (n : Int) ≠ 0 by omega))
          have hk4 := Int.emod_lt_of_pos (0 + (i2 : Int) + 1) (show (0 : Int) < n by omega)
          refine k2 _ _ (Ext.upd hp3) ⟨.mk (.const k3) [], ?_, k3, by omega, rfl⟩
          rw [LT]
          exact ⟨p3, [], p3, rfl, (by rw [upd_same]; show some (HO.tup [V.str "const", V.int ((0 + (i2 : Int) + 1) % (n : Int))]) = _; rw [hk3]; rfl), ⟨rfl, by omega⟩, (fun z => by cases z), by rw [LTs]⟩
        obtain ⟨ts, hts, htl, hok⟩ := LTs.of (ok := fun t => ∃ k, k < n ∧ t = .mk (.const k) []) hR
        refine ⟨D, ys, rfl, .inl ⟨.inl (.inl hDc), fun q2 hq2 => ⟨(show 3 ≤ sizeLine by decide), fun q3 hq3 => ?_⟩⟩⟩
        have ec : Ext Hc (upd (upd Hc q2 (.tup ys)) q3 (.tup [.str "choose", .ref q1, .ref q2])) := (Ext.upd hq2).upd' hq3
        have hq22 : (upd (upd Hc q2 (.tup ys)) q3 (.tup [.str "choose", .ref q1, .ref q2])) q2 = some (.tup ys) := Ext.upd hq3 _ _ upd_same
        have hq33 : (upd (upd Hc q2 (.tup ys)) q3 (.tup [.str "choose", .ref q1, .ref q2])) q3 = some (.tup [.str "choose", .ref q1, .ref q2]) := upd_same
        generalize (upd (upd Hc q2 (.tup ys)) q3 (.tup [.str "choose", .ref q1, .ref q2])) = Hd at ec hq22 hq33 ⊢
        have e9d := e8.trans ec
        have hLA : LT Hd (.mk .choose (.mk .arg [] :: ts)) (.ref q3) := by
          rw [LT]
          refine ⟨q3, .ref q1 :: ys, q2, rfl, hq33, ?_, fun _ => hq22, ?_⟩
          · show _ = 3 ∨ _ = 4
            rw [List.length_cons, htl, hys]
            omega
          · rw [LTs]
            refine ⟨_, _, rfl, ?_, LTs.fx (Fx.of ec) hts⟩
            rw [LT]
            exact ⟨q1, [], q1, rfl, e9d _ _ hq11, rfl, (fun z => by cases z), by rw [LTs]⟩
        have okc : ∀ t ∈ ts, T.Ok n t ∧ t.names = [] ∧ t.depth ≤ 1 ∧ t.size ≤ 1 := fun t ht => by
          obtain ⟨k, hk, rfl⟩ := hok t ht
          exact const_facts hk
        have factsA := choose_facts (n := n) (t0 := .mk .arg []) (ts := ts) (by rw [T.Ok, T.Oks]; exact ⟨rfl, trivial⟩) (by rw [T.names, T.namesL]; rfl) (by rw [T.depth, T.depths]; omega) (by rw [T.size, T.sizes]; omega) (by rw [htl, hys]) hn3 okc
        have e7d := e9.trans e9d
        exact go ⟨e7d _ _ I7.hF, fun x hx => (I7.cg x hx).fx (Fx.of e7d), I7.nd, I7.le, I7.sa.ext e7d, fun b o h1 h2 h => e7d _ _ (I7.keep _ _ h1 h2 h)⟩ hLA factsA.1 (fun y hy => by rw [factsA.2.1] at hy; simp at hy) factsA.2.2.1 factsA.2.2.2 (hD rfl)
    · obtain ⟨u4, u5, u6, u7, rfl⟩ := hσ
      have hle : cs.length ≤ 2 := by have := I.le; omega
      refine ⟨_, rfl, fun q0 hq0 => ⟨decide (cs = []), ⟨Fd, q0, kvG cs, [], rfl, rfl, (fun z => by have := I.hF; rw [z, hq0] at this; cases this), Ext.upd hq0 _ _ I.hF, upd_same, fun h => decide_eq_false (fun z => h (by rw [z]; rfl)), fun h oa ob => ?_⟩, fun H7 e7 => ⟨_, rfl, ?_⟩⟩⟩
      · have : cs = [] := List.length_eq_zero_iff.mp (by unfold kvG at h; rw [List.length_map] at h; exact h)
        rw [this, decide_eq_true rfl]
        exact .nil
      have e67 : Ext H' H7 := (Ext.upd hq0).trans e7
      have nx7 : Nxt K st sc H H7 := ⟨fun b o hb h => e67 _ _ (I.keep _ _ hb (fun z => by rw [z, nF] at h; cases h) (nxh.but _ _ hb h)), I.sa.ext e67⟩
      have h7F := e67 _ _ I.hF
      by_cases hemp : cs = []
      case neg =>
        refine iteFb (decide_eq_false hemp) ⟨_, rfl, kk H7 Fd cs nx7 nF h7F ?_ I.nd (by omega) (fun x hx => (I.cg x hx).fx (Fx.of e67))⟩
        cases cs with
        | nil => exact absurd rfl hemp
        | cons _ _ => simp
      subst hemp
      refine iteTb (decide_eq_true rfl) ?_
      obtain ⟨e0, he0⟩ : ∃ e, es[0]? = some e := ⟨es[0], List.getElem?_eq_getElem hel⟩
      have hl7 := e67 _ _ (I.keep _ _ hls hlF h2l)
      have hq7 := e67 _ _ (I.keep _ _ (tupn h2q).1 (tupn h2q).2 h2q)
      have hB7 := e67 _ _ (I.keep _ _ hBs hBF h2B)
      have f27 : Fx H2 H7 := fun b o f h => e67 _ _ (I.keep b o (fun z => by obtain ⟨ys, hy⟩ := nxh.st.is; rw [z, hy] at h; cases h; exact f) (fun z => by rw [z, h2F] at h; cases h; exact f) h)
      have hLe := LT.fx f27 (hL2.lt e0 (List.mem_of_getElem? he0))
      have hb0 := hL.inp 0 e0 he0
      have oke : ∀ x ∈ e0.body.names, PyData.strOk x = true := fun x hx => ok_str (hL.okn he0 x hx)
      have hat : atI ((es.map (·.nm)).map V.str) 0 = some (.str e0.nm) := by
        unfold atI ixN
        rw [if_pos (by decide), if_pos (by rw [List.length_map, List.length_map]; omega)]
        show ((es.map (·.nm)).map V.str)[0]? = _
        rw [List.getElem?_map, List.getElem?_map, he0]
        rfl
      refine ⟨_, rfl, q, _, 2, .ref B, rfl, rfl, .inl (.inl hq7), rfl, _, rfl, l, _, 0, .str e0.nm, rfl, rfl, .inl (.inl hl7), hat, B, e0.bv, rfl, .inl ⟨_, .inr e0.nm, .inl hB7, rfl, (valV_map (g := fun e : Ent => e.bv) hL.nd he0).symm⟩, (show 2 ≤ sizeLine by decide), fun p1 hp1 => ?_⟩
      have e8 : Ext H7 (upd H7 p1 (.tup [.str "const", .int 0])) := Ext.upd hp1
      have hL0 : LT (upd H7 p1 (.tup [.str "const", .int 0])) (.mk (.const 0) []) (.ref p1) := by
        rw [LT]
        exact ⟨p1, [], p1, rfl, upd_same, ⟨rfl, by omega⟩, (fun z => by cases z), by rw [LTs]⟩
      generalize (upd H7 p1 (.tup [.str "const", .int 0])) = H8 at e8 hL0 ⊢
      have c0 := const_facts (n := n) (k := 0) (by omega)
      have c1 := const_facts (n := n) (k := 1) (by omega)
      have n0 : ∀ x ∈ (T.mk (.const 0) []).names, PyData.strOk x = true := fun x hx => by rw [c0.2.1] at hx; simp at hx
      have hev := eqv_dB hb0.ok c0.1 oke n0
      refine ⟨e0.body.dB, (T.mk (.const 0) []).dB, (LT.fx (Fx.of e8) hLe).dp, hL0.dp, shaped_dB oke hb0.dep, shaped_dB n0 (Nat.le_trans c0.2.2.1 (by decide)), _, rfl, ?_⟩
      have fin : ∀ {Hd : Hp} {k p2 : Addr} (kc : Nat), kc < n → Ext H7 Hd → Hd p2 = some (.tup [.str "const", .int kc]) → T.beq (.mk (.const kc) []) e0.body = false → Q (.ref Fd) (upd Hd Fd (.dK (putK (kvG []) (.inr e0.nm) (.ref p2)))) := fun {Hd k p2} kc hkc ed hp2 hb => by
        have hFd' := ed _ _ h7F
        have fF : Fx Hd (upd Hd Fd (.dK (putK (kvG []) (.inr e0.nm) (.ref p2)))) := Fx.upd fun u hu => by rw [hFd'] at hu; cases hu; exact fun q => q
        have cf := const_facts hkc
        refine kk _ Fd [⟨e0.nm, .mk (.const kc) [], .ref p2⟩] ⟨fun b o hb' h => by rw [upd_ne (fun z => by rw [z, nF] at h; cases h)]; exact ed _ _ (nx7.but _ _ hb' h), ?_⟩ nF (by rw [upd_same]; rfl) (by simp) (by simp) (by simp) fun x hx => ?_
        · exact StA.new hst nF (nx7.st.ext ed)
        · rw [List.mem_singleton] at hx
          subst hx
          refine ⟨⟨0, e0, he0, rfl, fun y hy => by rw [show (⟨e0.nm, .mk (.const kc) [], .ref p2⟩ : Chg).body.names = [] from cf.2.1] at hy; simp at hy, hb⟩, ?_, cf.1, Nat.le_trans cf.2.2.1 (by decide), Nat.le_trans cf.2.2.2 (by decide)⟩
          show LT _ (.mk (.const kc) []) (.ref p2)
          rw [LT]
          exact ⟨p2, [], p2, rfl, fF _ _ (show Fixed (.tup _) from trivial) hp2, ⟨rfl, by omega⟩, (fun z => by cases z), by rw [LTs]⟩
      cases hb : T.beq e0.body (.mk (.const 0) []) with
      | false =>
        refine iteTb (by rw [hev, hb]; rfl) ⟨(show 2 ≤ sizeLine by decide), fun p2 hp2 => ?_⟩
        have e9 : Ext H7 (upd H8 p2 (.tup [.str "const", .int 0])) := e8.upd' hp2
        refine ⟨_, rfl, _, rfl, l, _, 0, .str e0.nm, rfl, rfl, .inl (.inl (e9 _ _ hl7)), hat, Fd, _, rfl, .inl ⟨_, .inr e0.nm, e9 _ _ h7F, rfl, (show 0 < sizeLine by decide), rfl⟩, _, rfl, fin (k := 0) 0 (by omega) e9 upd_same ?_⟩
        rw [Bool.eq_false_iff]
        intro z
        rw [T.eq_of_beq z, T.beq_refl] at hb
        cases hb
      | true =>
        refine iteFb (by rw [hev, hb]; rfl) ⟨(show 2 ≤ sizeLine by decide), fun p2 hp2 => ?_⟩
        have e9 : Ext H7 (upd H8 p2 (.tup [.str "const", .int 1])) := e8.upd' hp2
        refine ⟨_, rfl, _, rfl, l, _, 0, .str e0.nm, rfl, rfl, .inl (.inl (e9 _ _ hl7)), hat, Fd, _, rfl, .inl ⟨_, .inr e0.nm, e9 _ _ h7F, rfl, (show 0 < sizeLine by decide), rfl⟩, _, rfl, fin (k := 0) 1 (by omega) e9 upd_same ?_⟩
        rw [T.eq_of_beq hb, T.beq]
        rfl
end
end MR
end

section
set_option Elab.async false
set_option linter.all false
set_option maxRecDepth 100000
set_option maxHeartbeats 1000000
/-! What the law compares: results and first broken places are told by names, rows and bodies. -/
namespace MR
open PySem PySem.Spec PyProof.Rows L2 LY GW
def Ent.nb (e : Ent) : Str × T := (e.nm, e.body)
def Ent.nr (e : Ent) : Str × List Int := (e.nm, e.res)
def Ent.nrr (e : Ent) : Str × List (List Int) × List Int := (e.nm, e.rows, e.res)
/-- tables by names and results only -/
def tabN (l : List (Str × List Int)) : Str → Int → Option Int := fun f i => (l.find? (fun p => decide (p.1 = f))).bind fun p => if 0 ≤ i then p.2[i.toNat]? else none
theorem tabE_N {es : List Ent} : tabE es = tabN (es.map Ent.nr) := by
  funext f i
  unfold tabE tabN
  rw [List.find?_map]
  have : ((fun p : Str × List Int => decide (p.1 = f)) ∘ Ent.nr) = fun e : Ent => decide (e.nm = f) := rfl
  rw [this]
  cases es.find? (fun e => decide (e.nm = f)) <;> rfl
theorem Right.take {n : Nat} {es : List Ent} (h : Right n es) (k : Nat) : Right n (es.take k) := by
  intro j e he
  have hj := (List.getElem?_eq_some_iff.mp he).1
  rw [List.length_take] at hj
  rw [List.getElem?_take] at he
  split at he
  case isFalse => cases he
  case isTrue hjk =>
  rw [List.take_take, Nat.min_eq_left (by omega)]
  exact h j e he
theorem res_one {n : Nat} {pre pre' : List Ent} {e e' : Ent} (hp : pre.map Ent.nr = pre'.map Ent.nr) (h : ResOk n pre e) (h' : ResOk n pre' e') (hb : e.body = e'.body) : e.res = e'.res := by
  refine List.ext_getElem? fun i => ?_
  by_cases hi : i < n
  · obtain ⟨r, h1, h2, _⟩ := h.val i hi
    obtain ⟨r', k1, k2, _⟩ := h'.val i hi
    rw [h1, k1]
    rw [tabE_N, hp, hb, ← tabE_N, k2] at h2
    rw [h2]
  · rw [List.getElem?_eq_none (by rw [h.len]; omega), List.getElem?_eq_none (by rw [h'.len]; omega)]
/-- results are told by names and bodies -/
theorem right_one {n : Nat} : ∀ {k : Nat} {es es' : List Ent}, es.length ≤ k → Right n es → Right n es' → es.map Ent.nb = es'.map Ent.nb → es.map Ent.nr = es'.map Ent.nr
  | 0, es, es', hk, _, _, hm => by
    have : es = [] := List.length_eq_zero_iff.mp (by omega)
    subst this
    have : es' = [] := by cases es' with | nil => rfl | cons _ _ => simp at hm
    rw [this]
  | k + 1, es, es', hk, h, h', hm => by
    have hl : es.length = es'.length := by have := congrArg List.length hm; rwa [List.length_map, List.length_map] at this
    refine List.ext_getElem? fun i => ?_
    rw [List.getElem?_map, List.getElem?_map]
    by_cases hi : i < es.length
    · obtain ⟨e, he⟩ : ∃ e, es[i]? = some e := ⟨_, List.getElem?_eq_getElem hi⟩
      obtain ⟨e', he'⟩ : ∃ e, es'[i]? = some e := ⟨_, List.getElem?_eq_getElem (by omega)⟩
      have hb : e.nb = e'.nb := by
        have h1 : (es.map Ent.nb)[i]? = some e.nb := by rw [List.getElem?_map, he]; rfl
        rw [hm, List.getElem?_map, he'] at h1
        exact (Option.some.inj h1).symm
      unfold Ent.nb at hb
      simp only [Prod.mk.injEq] at hb
      have hpre : (es.take i).map Ent.nr = (es'.take i).map Ent.nr := right_one (k := k) (by rw [List.length_take]; omega) (h.take i) (h'.take i) (by rw [List.map_take, List.map_take, hm])
      have hr := res_one hpre (h i e he) (h' i e' he') hb.2
      rw [he, he']
      show some e.nr = some e'.nr
      unfold Ent.nr
      rw [hb.1, hr]
    · rw [List.getElem?_eq_none (by omega), List.getElem?_eq_none (by omega)]
def plsN : List (Str × List (List Int) × List Int) → List (Str × Int × Int)
  | [] => []
  | p :: r => plE p.1 0 p.2.2 ++ plsN r
theorem pls_N : ∀ {es : List Ent}, pls es = plsN (es.map Ent.nrr)
  | [] => rfl
  | e :: r => by rw [pls, List.map_cons, plsN, pls_N]; rfl
def badN (l : List (Str × List (List Int) × List Int)) (p : Str × Int × Int) : Bool := match l.find? (fun q => decide (q.1 = p.1)) with
  | some q => !(((q.2.1[p.2.1.toNat]?).getD []).contains p.2.2)
  | none => false
theorem bad_N {es : List Ent} : bad es = badN (es.map Ent.nrr) := by
  funext p
  unfold bad badN
  rw [List.find?_map]
  have : ((fun q : Str × List (List Int) × List Int => decide (q.1 = p.1)) ∘ Ent.nrr) = fun e : Ent => decide (e.nm = p.1) := rfl
  rw [this]
  cases es.find? (fun e => decide (e.nm = p.1)) <;> rfl
/-- the first broken place is told by names, rows and results -/
theorem brk_one {es es' : List Ent} (h : es.map Ent.nrr = es'.map Ent.nrr) : brk es = brk es' := by
  unfold brk
  rw [pls_N, bad_N, h, ← pls_N, ← bad_N]
theorem pls_one {es es' : List Ent} (h : es.map Ent.nrr = es'.map Ent.nrr) : pls es = pls es' := by rw [pls_N, h, ← pls_N]
theorem nrr_of {es es' : List Ent} (h1 : es.map Ent.nr = es'.map Ent.nr) (h2 : es.map (·.rows) = es'.map (·.rows)) : es.map Ent.nrr = es'.map Ent.nrr := by
  induction es generalizing es' with
  | nil =>
    cases es' with
    | nil => rfl
    | cons _ _ => simp at h1
  | cons e r ih =>
    cases es' with
    | nil => simp at h1
    | cons e' r' =>
      simp only [List.map_cons, List.cons.injEq] at h1 h2 ⊢
      have h3 := h1.1
      unfold Ent.nr at h3
      simp only [Prod.mk.injEq] at h3
      exact ⟨by unfold Ent.nrr; rw [h3.1, h3.2, h2.1], ih h1.2 h2.2⟩
theorem rows_of_dat {es es' : List Ent} (h : es.map Ent.dat = es'.map Ent.dat) : es.map (·.rows) = es'.map (·.rows) := by
  have := congrArg (List.map fun p : Str × List (List Int) × T => p.2.1) h
  rw [List.map_map, List.map_map] at this
  exact this
theorem nb_of_dat {es es' : List Ent} (h : es.map Ent.dat = es'.map Ent.dat) : es.map Ent.nb = es'.map Ent.nb := by
  have := congrArg (List.map fun p : Str × List (List Int) × T => (p.1, p.2.2)) h
  rw [List.map_map, List.map_map] at this
  exact this
/-- two programs of the same functions have the same results and broken places -/
theorem same_all {n : Nat} {es es' : List Ent} (h : Right n es) (h' : Right n es') (hd : es.map Ent.dat = es'.map Ent.dat) : es.map Ent.nrr = es'.map Ent.nrr :=
  nrr_of (right_one (Nat.le_refl _) h h' (nb_of_dat hd)) (rows_of_dat hd)
/-- another body at one place of the law's bodies -/
theorem LB.set {H : Hp} {n : Nat} {es : List Ent} (h : LB H n es) {k : Nat} {e : Ent} (he : es[k]? = some e) {t : T} {v : V} (hl : LT H t v) (hb : BIn n ((es.take k).map (·.nm)) e.nm t) : LB H n (es.set k { e with body := t, bv := v }) := by
  have hk := (List.getElem?_eq_some_iff.mp he).1
  have hnm : (es.set k { e with body := t, bv := v }).map (·.nm) = es.map (·.nm) := by
    rw [List.map_set]
    show (es.map (·.nm)).set k e.nm = _
    refine List.ext_getElem? fun i => ?_
    rw [List.getElem?_set]
    split
    · rename_i hki
      subst hki
      rw [if_pos (by rw [List.length_map]; exact hk), List.getElem?_map, he]
      rfl
    · rfl
  refine ⟨fun x hx => ?_, by rw [hnm]; exact h.nd, fun i x hx => ?_, by rw [List.length_set]; exact h.le⟩
  · rcases List.mem_or_eq_of_mem_set hx with q | q
    · exact h.lt x q
    · rw [q]; exact hl
  · have htk : ((es.set k { e with body := t, bv := v }).take i).map (·.nm) = (es.take i).map (·.nm) := by rw [List.map_take, hnm, ← List.map_take]
    rw [htk]
    rw [List.getElem?_set] at hx
    split at hx
    · rename_i hki
      subst hki
      cases hx
      exact hb
    · exact h.inp i x hx
end MR
end

section
set_option Elab.async false
set_option linter.all false
set_option maxRecDepth 100000
set_option maxHeartbeats 1000000
/-! What the round compares, as data: broken places, lists of places. -/
namespace MR
open PySem PySem.Spec PyProof.Rows L2 LY GW
theorem eqv_self {d : PyData} (h : nb d = true) : PyData.eqv d d = true := (eqv_iff h h).mpr rfl
def dBV : Option (Str × Int) → PyData
  | none => .none
  | some p => .tuple [.str p.1, .int p.2]
theorem BV.dp {K : PySem.W.Frag} {H : Hp} {o : Option (Str × Int)} {v : V} (h : BV H o v) : Dp K H v (dBV o) := by
  cases o with
  | none =>
    obtain rfl : v = .non := h
    exact .non
  | some p =>
    obtain ⟨f, k⟩ := p
    obtain ⟨T, rfl, hT⟩ := h
    exact .tup (.inl (.inl hT)) (.cons (.str f) (.cons (.int k) .nil))
theorem nb_bv {o : Option (Str × Int)} (h : ∀ f k, o = some (f, k) → PyData.strOk f = true) : nb (dBV o) = true := by
  cases o with
  | none => rw [dBV, nb]
  | some p =>
    rw [dBV, nb, nbAll, nbAll, nbAll, nb, nb, h p.1 p.2 rfl]
    rfl
theorem dep_bv {o : Option (Str × Int)} : (dBV o).depth ≤ 64 := by
  cases o with
  | none => rw [dBV, PyData.depth]; omega
  | some p =>
    rw [dBV, PyData.depth, PyData.depthAll, PyData.depthAll, PyData.depthAll, PyData.depth, PyData.depth]
    omega
theorem pls_nm {es : List Ent} {p : Str × Int × Int} (h : p ∈ pls es) : p.1 ∈ es.map (·.nm) := by
  obtain ⟨i, hi, ei⟩ := List.getElem_of_mem h
  obtain ⟨k, j, e, he, hn, _⟩ := pls_get (es := es) (i := i) (p := p) (by rw [← ei]; exact List.getElem?_eq_getElem hi)
  rw [← hn]
  exact List.mem_map_of_mem (List.mem_of_getElem? he)
theorem brk_nm {es : List Ent} {f : Str} {k : Int} (h : brk es = some (f, k)) : f ∈ es.map (·.nm) := by
  unfold brk at h
  obtain ⟨p, hp, e⟩ := Option.map_eq_some_iff.mp h
  cases e
  exact pls_nm (List.mem_of_find?_eq_some hp)
theorem shaped_bv {es : List Ent} (h : ∀ x ∈ es.map (·.nm), PyData.strOk x = true) : nb (dBV (brk es)) = true ∧ SeqAt.shaped (dBV (brk es)) = true := by
  have := nb_bv (o := brk es) fun f k e => h f (brk_nm e)
  exact ⟨this, shaped_nb this dep_bv⟩
def dPl (p : Str × Int × Int) : PyData := .tuple [.str p.1, .int p.2.1, .int p.2.2]
/-- values that are places -/
def PlV (H : Hp) (vs : List V) (ps : List (Str × Int × Int)) : Prop := vs.length = ps.length ∧ ∀ (i : Nat) (v : V), vs[i]? = some v → ∃ p T, ps[i]? = some p ∧ v = .ref T ∧ H T = some (.tup [.str p.1, .int p.2.1, .int p.2.2])
theorem PlV.fx {H H' : Hp} {vs : List V} {ps : List (Str × Int × Int)} (h : PlV H vs ps) (f : Fx H H') : PlV H' vs ps :=
  ⟨h.1, fun i v hv => let ⟨p, T, h1, h2, h3⟩ := h.2 i v hv; ⟨p, T, h1, h2, f _ _ trivial h3⟩⟩
theorem PlV.app {H : Hp} {vs ws : List V} {ps qs : List (Str × Int × Int)} (h : PlV H vs ps) (g : PlV H ws qs) : PlV H (vs ++ ws) (ps ++ qs) := by
  refine ⟨by rw [List.length_append, List.length_append, h.1, g.1], fun i v hv => ?_⟩
  by_cases hi : i < vs.length
  · rw [List.getElem?_append_left hi] at hv
    obtain ⟨p, T, h1, h2, h3⟩ := h.2 i v hv
    exact ⟨p, T, by rw [List.getElem?_append_left (by rw [← h.1]; exact hi)]; exact h1, h2, h3⟩
  · rw [List.getElem?_append_right (by omega)] at hv
    obtain ⟨p, T, h1, h2, h3⟩ := g.2 _ v hv
    exact ⟨p, T, by rw [List.getElem?_append_right (by rw [← h.1]; omega), ← h.1]; exact h1, h2, h3⟩
theorem PlV.nil {H : Hp} : PlV H [] [] := ⟨rfl, fun i v h => by simp at h⟩
theorem PlV.snoc {H : Hp} {vs : List V} {ps : List (Str × Int × Int)} {i : Nat} {T : Addr} {p : Str × Int × Int} (h : PlV H vs (ps.take i)) (hp : ps[i]? = some p) (hT : H T = some (.tup [.str p.1, .int p.2.1, .int p.2.2])) : PlV H (vs ++ [.ref T]) (ps.take (i + 1)) := by
  rw [List.take_add_one, hp]
  refine h.app ⟨rfl, fun j v hv => ?_⟩
  cases j with
  | zero =>
    simp at hv
    exact ⟨p, T, rfl, hv.symm, hT⟩
  | succ j => simp at hv
theorem PlV.dp {K : PySem.W.Frag} {H : Hp} {vs : List V} {ps : List (Str × Int × Int)} {l : Addr} (h : PlV H vs ps) (hl : H l = some (.lst vs)) : Dp K H (.ref l) (.list (ps.map dPl)) := by
  refine .lst (.inl (.inl hl)) (DpAll.of (by rw [h.1, List.length_map]) fun i v d hv hd => ?_)
  obtain ⟨p, T, h1, h2, h3⟩ := h.2 i v hv
  rw [List.getElem?_map, h1] at hd
  cases hd
  rw [h2]
  exact .tup (.inl (.inl h3)) (.cons (.str _) (.cons (.int _) (.cons (.int _) .nil)))
theorem nb_pls : ∀ {ps : List (Str × Int × Int)}, (∀ p ∈ ps, PyData.strOk p.1 = true) → nbAll (ps.map dPl) = true
  | [], _ => by rw [List.map_nil, nbAll]
  | p :: r, h => by
    rw [List.map_cons, nbAll, nb_pls fun x hx => h x (List.mem_cons_of_mem _ hx), dPl, nb, nbAll, nbAll, nbAll, nbAll, nb, nb, nb, h p List.mem_cons_self]
    rfl
theorem dep_pls : ∀ {ps : List (Str × Int × Int)}, PyData.depthAll (ps.map dPl) ≤ 1
  | [] => by rw [List.map_nil, PyData.depthAll]; omega
  | p :: r => by
    have := dep_pls (ps := r)
    rw [List.map_cons, PyData.depthAll, dPl, PyData.depth, PyData.depthAll, PyData.depthAll, PyData.depthAll, PyData.depthAll, PyData.depth, PyData.depth, PyData.depth]
    omega
theorem shaped_pls {es : List Ent} (h : ∀ x ∈ es.map (·.nm), PyData.strOk x = true) : nb (.list ((pls es).map dPl)) = true ∧ SeqAt.shaped (.list ((pls es).map dPl)) = true := by
  have h1 : nb (.list ((pls es).map dPl)) = true := by rw [nb]; exact nb_pls fun p hp => h _ (pls_nm hp)
  refine ⟨h1, shaped_nb h1 ?_⟩
  rw [PyData.depth]
  have := dep_pls (ps := pls es)
  omega
theorem map_of_dat {es es' : List Ent} (h : es.map Ent.dat = es'.map Ent.dat) : es.map (·.nm) = es'.map (·.nm) := by
  have := congrArg (List.map Prod.fst) h
  rw [List.map_map, List.map_map] at this
  exact this
theorem bodies_of_dat {es es' : List Ent} (h : es.map Ent.dat = es'.map Ent.dat) : es.map (·.body) = es'.map (·.body) := by
  have := congrArg (List.map fun p : Str × List (List Int) × T => p.2.2) h
  rw [List.map_map, List.map_map] at this
  exact this
theorem dat_of_key {es es' : List Ent} (h : es.map Ent.key = es'.map Ent.key) : es.map Ent.dat = es'.map Ent.dat := by
  have := congrArg (List.map fun p : Str × List (List Int) × T × V × V => (p.1, p.2.1, p.2.2.1)) h
  rw [List.map_map, List.map_map] at this
  exact this
theorem at_dat {es es' : List Ent} (h : es'.map Ent.dat = es.map Ent.dat) {k : Nat} {e : Ent} (he : es[k]? = some e) : ∃ i, es'[k]? = some i ∧ i.nm = e.nm ∧ i.rows = e.rows ∧ i.body = e.body := by
  have h1 : (es.map Ent.dat)[k]? = some e.dat := by rw [List.getElem?_map, he]; rfl
  rw [← h, List.getElem?_map] at h1
  obtain ⟨i, h2, h3⟩ := Option.map_eq_some_iff.mp h1
  unfold Ent.dat at h3
  simp only [Prod.mk.injEq] at h3
  exact ⟨i, h2, h3.1, h3.2.1, h3.2.2⟩
theorem at_nrr {es es' : List Ent} (h : es'.map Ent.nrr = es.map Ent.nrr) {k : Nat} {e i : Ent} (he : es[k]? = some e) (hi : es'[k]? = some i) : i.res = e.res := by
  have h1 : (es.map Ent.nrr)[k]? = some e.nrr := by rw [List.getElem?_map, he]; rfl
  rw [← h, List.getElem?_map, hi] at h1
  have h3 := Option.some.inj h1
  unfold Ent.nrr at h3
  simp only [Prod.mk.injEq] at h3
  exact h3.2.2
theorem pls_le {m : Nat} : ∀ {es : List Ent}, (∀ e ∈ es, e.res.length ≤ m) → (pls es).length ≤ es.length * m
  | [], _ => by rw [pls]; simp
  | e :: r, h => by
    rw [pls, List.length_append, plE_len, List.length_cons, Nat.succ_mul]
    have := pls_le (es := r) fun x hx => h x (List.mem_cons_of_mem _ hx)
    have := h e List.mem_cons_self
    omega
theorem TB.ext {H H' : Hp} {n : Nat} {es : List Ent} {F : Addr} (h : TB H n es F) (e : Ext H H') : TB H' n es F := ⟨e _ _ h.at_, fun x hx => e _ _ (h.rs x hx), h.right⟩
theorem Right.res_le {n : Nat} {es : List Ent} (h : Right n es) : ∀ e ∈ es, e.res.length = n := fun e he => by
  obtain ⟨k, hk, ek⟩ := List.getElem_of_mem he
  exact (h k e (by rw [← ek]; exact List.getElem?_eq_getElem hk)).len
end MR
end

section
set_option Elab.async false
set_option linter.all false
set_option maxRecDepth 100000
set_option maxHeartbeats 1000000
/-! Rivals: the program's and the law's. -/
namespace MR
open PySem PySem.Spec PyProof.Rows L2 LY GW
/-- what the law asks of a function of a rival -/
def lvB (cs : List Chg) (e e' : Ent) : Bool := !(inC cs e.nm && !(T.beq e'.body e.body)) && subN e'.body e.body
def lrB (cs : List Chg) (es qs ts : List Ent) : Bool := decide (qs.map (·.nm) = es.map (·.nm)) && (decide (qs.map (·.rows) = es.map (·.rows)) && ((brk ts).isNone && (es.zip qs).all fun p => lvB cs p.1 p.2))
theorem inC_mem {nm : Str} : ∀ {cs : List Chg}, inC cs nm = decide (nm ∈ cs.map (·.nm))
  | [] => rfl
  | x :: r => by
    have ih := inC_mem (nm := nm) (cs := r)
    unfold inC at ih ⊢
    rw [List.find?_cons, List.map_cons]
    by_cases h : x.nm = nm
    · rw [decide_eq_true h]
      show true = _
      rw [decide_eq_true (by rw [h]; exact List.mem_cons_self)]
    · rw [decide_eq_false h]
      show _ = _
      rw [ih, Bool.eq_iff_iff, decide_eq_true_eq, decide_eq_true_eq, List.mem_cons]
      exact ⟨fun q => .inr q, fun q => q.resolve_left fun z => h z.symm⟩
theorem inC_same {cs cs' : List Chg} (hc : cs'.map (fun x => (x.nm, x.body)) = cs.map (fun x => (x.nm, x.body))) {nm : Str} : inC cs' nm = inC cs nm := by
  have h : cs'.map (·.nm) = cs.map (·.nm) := by
    have := congrArg (List.map Prod.fst) hc
    rw [List.map_map, List.map_map] at this
    exact this
  rw [inC_mem, inC_mem, h]
theorem subN_self {t : T} : subN t t = true := by
  unfold subN
  rw [List.all_eq_true]
  exact fun x hx => decide_eq_true hx
theorem cb_lv {cs : List Chg} {e e' : Ent} : cbB cs e e' = (decide (e'.rows = e.rows) && lvB cs e e') := by
  unfold cbB lvB
  cases inC cs e.nm with
  | false => rfl
  | true =>
    rw [if_pos rfl]
    cases hb : T.beq e'.body e.body with
    | false => rfl
    | true =>
      rw [T.eq_of_beq hb, subN_self]
      rfl
theorem all_dat {f : Ent → Ent → Bool} {g : Str × List (List Int) × T → Str × List (List Int) × T → Bool} (h : ∀ a b, f a b = g a.dat b.dat) : ∀ {es qs : List Ent}, ((es.zip qs).all fun p => f p.1 p.2) = ((es.map Ent.dat).zip (qs.map Ent.dat)).all fun p => g p.1 p.2
  | [], _ => by rw [List.zip_nil_left, List.map_nil, List.zip_nil_left]; rfl
  | _ :: _, [] => by rw [List.zip_nil_right, List.map_nil, List.zip_nil_right]; rfl
  | e :: r, q :: s => by
    rw [List.zip_cons_cons, List.map_cons, List.map_cons, List.zip_cons_cons, List.all_cons, List.all_cons, all_dat h, h]
def cbD (cs : List Chg) (d d' : Str × List (List Int) × T) : Bool := decide (d'.2.1 = d.2.1) && (if inC cs d.1 = true then T.beq d'.2.2 d.2.2 else subN d'.2.2 d.2.2)
theorem cb_dat {cs : List Chg} (a b : Ent) : cbB cs a b = cbD cs a.dat b.dat := rfl
theorem rows_all {cs : List Chg} : ∀ {es qs : List Ent}, qs.length = es.length → ((es.zip qs).all fun p => cbB cs p.1 p.2) = (decide (qs.map (·.rows) = es.map (·.rows)) && (es.zip qs).all fun p => lvB cs p.1 p.2)
  | [], [], _ => rfl
  | e :: r, q :: s, h => by
    have ih := rows_all (cs := cs) (es := r) (qs := s) (by simpa using h)
    rw [List.zip_cons_cons, List.all_cons, List.all_cons, ih, cb_lv, List.map_cons, List.map_cons]
    have : decide (q.rows :: s.map (·.rows) = e.rows :: r.map (·.rows)) = (decide (q.rows = e.rows) && decide (s.map (·.rows) = r.map (·.rows))) := by
      rw [Bool.eq_iff_iff, Bool.and_eq_true, decide_eq_true_eq, decide_eq_true_eq, decide_eq_true_eq, List.cons.injEq]
    rw [this]
    show (decide (q.rows = e.rows) && lvB cs e q && _) = _
    cases decide (q.rows = e.rows) <;> cases lvB cs e q <;> cases decide (s.map (·.rows) = r.map (·.rows)) <;> rfl
  | [], _ :: _, h => by simp at h
  | _ :: _, [], h => by simp at h
theorem riv_law {cs cs' : List Chg} {es ws os qs : List Ent} (hw : ws.map Ent.dat = es.map Ent.dat) (ho : os.map Ent.dat = qs.map Ent.dat) (hc : cs'.map (fun x => (x.nm, x.body)) = cs.map (fun x => (x.nm, x.body))) : rivB cs' ws os = lrB cs es qs os := by
  unfold rivB lrB
  rw [map_of_dat hw, map_of_dat ho]
  by_cases hnm : qs.map (·.nm) = es.map (·.nm)
  case neg => rw [decide_eq_false hnm]; rfl
  rw [decide_eq_true hnm, Bool.true_and, Bool.true_and]
  have hl : qs.length = es.length := by have := congrArg List.length hnm; rwa [List.length_map, List.length_map] at this
  have h1 : ((ws.zip os).all fun p => cbB cs' p.1 p.2) = (es.zip qs).all fun p => cbB cs p.1 p.2 := by
    rw [all_dat (cb_dat (cs := cs')), hw, ho, ← all_dat (cb_dat (cs := cs'))]
    have : (fun p : Ent × Ent => cbB cs' p.1 p.2) = fun p => cbB cs p.1 p.2 := by
      funext p
      unfold cbB
      rw [inC_same hc]
    rw [this]
  rw [h1, rows_all hl]
  cases (brk os).isNone <;> cases decide (qs.map (·.rows) = es.map (·.rows)) <;> rfl
theorem beq_comm' {t u : T} : T.beq t u = T.beq u t := by
  rw [Bool.eq_iff_iff]
  exact ⟨fun h => by rw [T.eq_of_beq h]; exact T.beq_refl _, fun h => by rw [T.eq_of_beq h]; exact T.beq_refl _⟩
theorem dat_at {es ws : List Ent} (hw : ws.map Ent.dat = es.map Ent.dat) {i : Nat} : (ws[i]?).map Ent.dat = (es[i]?).map Ent.dat := by
  have := congrArg (·[i]?) hw
  simpa only [List.getElem?_map] using this
theorem df_law {es ws os qs : List Ent} (hw : ws.map Ent.dat = es.map Ent.dat) (ho : os.map Ent.dat = qs.map Ent.dat) : dfL ws os = ((List.range es.length).filter (dfF qs es)).map (dfN es) := by
  unfold dfL
  have hl : ws.length = es.length := by have := congrArg List.length hw; rwa [List.length_map, List.length_map] at this
  have h1 : dfF ws os = dfF qs es := by
    funext i
    have a := dat_at hw (i := i)
    have b := dat_at ho (i := i)
    unfold dfF
    cases h1 : ws[i]? with
    | none =>
      rw [h1] at a
      have : es[i]? = none := by cases h : es[i]? with | none => rfl | some _ => rw [h] at a; cases a
      rw [this]
      cases qs[i]? <;> rfl
    | some x =>
      rw [h1] at a
      obtain ⟨e, he, hx⟩ := Option.map_eq_some_iff.mp a.symm
      rw [he]
      cases h2 : os[i]? with
      | none =>
        rw [h2] at b
        have : qs[i]? = none := by cases h : qs[i]? with | none => rfl | some _ => rw [h] at b; cases b
        rw [this]
      | some y =>
        rw [h2] at b
        obtain ⟨q, hq, hy⟩ := Option.map_eq_some_iff.mp b.symm
        rw [hq]
        have hx : x.body = e.body := (congrArg (fun p : Str × List (List Int) × T => p.2.2) hx).symm
        have hy : y.body = q.body := (congrArg (fun p : Str × List (List Int) × T => p.2.2) hy).symm
        show (!(T.beq x.body y.body)) = !(T.beq q.body e.body)
        rw [hx, hy, beq_comm']
  have h2 : dfN ws = dfN es := by
    funext i
    unfold dfN
    rw [map_of_dat hw]
  rw [h1, h2, hl]
theorem df_self {es ws : List Ent} : dfL ws ws = [] := by
  unfold dfL
  have : dfF ws ws = fun _ => false := by
    funext i
    unfold dfF
    cases ws[i]? with
    | none => rfl
    | some x => show (!(T.beq x.body x.body)) = false; rw [T.beq_refl]; rfl
  rw [this, List.filter_eq_nil_iff.mpr (fun _ _ => by simp)]
  rfl
theorem riv_self {cs : List Chg} {es ws os : List Ent} (hb : brk ws = none) (hc : ∀ x ∈ cs, True) : rivB cs ws ws = true := by
  unfold rivB
  rw [decide_eq_true rfl, hb, Bool.true_and, Option.isNone_none, Bool.true_and, List.all_eq_true]
  rintro ⟨a, b⟩ h
  have : a = b := by
    obtain ⟨j, hj, ej⟩ := List.getElem_of_mem h
    rw [List.getElem_zip] at ej
    cases ej
    rfl
  subst this
  unfold cbB
  rw [decide_eq_true rfl, Bool.true_and, T.beq_refl, subN_self]
  split <;> rfl
end MR
end

section
set_option Elab.async false
set_option linter.all false
set_option maxRecDepth 100000
set_option maxHeartbeats 1000000
/-! The law's is_rival. -/
namespace MR
open PySem PySem.Spec PyProof.Rows L2 LY GW
/-! ### == of lists of rows -/
theorem RwsL.dp {K : PySem.W.Frag} {H : Hp} {p : Addr} {rs : List (List Int)} (h : RwsL H p rs) : Dp K H (.ref p) (.list (rs.map dRow)) := by
  obtain ⟨us, h1, h2, h3⟩ := h
  refine .lst (.inl (.inl h1)) (DpAll.of (by rw [h2, List.length_map]) fun i v d hv hd => ?_)
  obtain ⟨r, q, k1, k2, k3⟩ := h3 i v hv
  rw [List.getElem?_map, k1] at hd
  cases hd
  rw [k2]
  exact .tup (.inl (.inl k3)) Dp.ints
theorem RwsL.inj {H : Hp} {p : Addr} {rs rs' : List (List Int)} (h : RwsL H p rs) (h' : RwsL H p rs') : rs = rs' := by
  obtain ⟨us, h1, h2, h3⟩ := h
  obtain ⟨us', k1, k2, k3⟩ := h'
  rw [h1] at k1
  cases k1
  refine List.ext_getElem? fun i => ?_
  by_cases hi : i < us.length
  · obtain ⟨r, q, a1, a2, a3⟩ := h3 i us[i] (List.getElem?_eq_getElem hi)
    obtain ⟨r', q', b1, b2, b3⟩ := k3 i us[i] (List.getElem?_eq_getElem hi)
    rw [a2] at b2
    cases b2
    rw [a3] at b3
    injection b3 with b3
    injection b3 with b3
    rw [a1, b1, map_inj (fun a b z => by cases z; rfl) b3]
  · rw [List.getElem?_eq_none (by omega), List.getElem?_eq_none (by omega)]
def DRwL : Eqb := fun x y b H => ∃ (p q : Addr) (rs rs' : List (List Int)), x = .ref p ∧ y = .ref q ∧ RwsL H p rs ∧ RwsL H q rs' ∧ b = decide (rs = rs')
theorem RwsL.ext {H H' : Hp} {p : Addr} {rs : List (List Int)} (h : RwsL H p rs) (e : Ext H H') : RwsL H' p rs := h.keep (fun o ho => e _ _ ho) (Fx.of e)
theorem LRl.ext {H H' : Hp} {n : Nat} {es : List Ent} (h : LRl H n es) (e : Ext H H') : LRl H' n es := ⟨fun x hx => let ⟨p, a, b⟩ := h.at_ x hx; ⟨p, a, b.ext e⟩, h.ok⟩
theorem DRwL.mon : MonB DRwL := fun _ _ _ _ _ e ⟨p, q, r, r', h1, h2, h3, h4, h5⟩ => ⟨p, q, r, r', h1, h2, h3.ext e, h4.ext e, h5⟩
theorem nb_rowsL {rs : List (List Int)} : nb (.list (rs.map dRow)) = true := by rw [nb]; exact nb_rowsA
theorem depth_rowsL {rs : List (List Int)} : (PyData.list (rs.map dRow)).depth ≤ 64 := by
  rw [PyData.depth]
  have := depth_rowsA (rs := rs)
  omega
theorem eqv_rowsL {rs rs' : List (List Int)} : PyData.eqv (.list (rs.map dRow)) (.list (rs'.map dRow)) = decide (rs = rs') := by
  rw [Bool.eq_iff_iff, eqv_iff nb_rowsL nb_rowsL, decide_eq_true_eq]
  constructor
  · intro h
    simp only [PyData.list.injEq] at h
    exact map_inj (fun a b z => dRow_inj z) h
  · intro h
    rw [h]
section
variable {X : Cx}
theorem eqB_rwl : EqB X 0 DRwL := by
  have h : RcB X 0 .Eq DRwL := by
    intro A pins s σ H x y u v b sb I rx ry d
    obtain ⟨p, q, rs, rs', rfl, rfl, h3, h4, rfl⟩ := d
    obtain ⟨as, r1⟩ := Dp.reads I _ _ u h3.dp rx
    obtain ⟨bs, r2⟩ := Dp.reads I _ _ v h4.dp ry
    have hu := sb.room.units
    show wpAny (model X.prog X.w) A (compareOp .Eq u v) _ _ s
    exact SeqAt.compareEq_shaped r1 r2 (shaped_nb nb_rowsL depth_rowsL) (shaped_nb nb_rowsL depth_rowsL) hu ⟨by rw [eqv_rowsL], H, I, Ext.rfl'⟩
  exact h.eqB fun x y b H d => by
    obtain ⟨p, q, r, r', rfl, rfl, h3, h4, h5⟩ := d
    refine ⟨p, q, rfl, rfl, fun e => ?_⟩
    subst e
    rw [h5]
    exact decide_eq_true (h3.inj h4)
theorem rcB_linesL : RcB X 1 .NotEq (fun x y b H => DDictB DRwL x y (!b) H) := rcB_dictNe DRwL.mon eqB_rwl
end
theorem kvC_key {es es' : List Ent} (h : es'.map Ent.key = es.map Ent.key) : kvC es' = kvC es := by
  have := congrArg (List.map fun p : Str × List (List Int) × T × V × V => ((Sum.inr p.1 : Key), p.2.2.2.1)) h
  rw [List.map_map, List.map_map] at this
  exact this
theorem cut3 (F : Prop) {S G : Prop} (a : (F → S) → G) (b : F → S) : G := a b
theorem LB.strs {H : Hp} {n : Nat} {es : List Ent} (h : LB H n es) : ∀ x ∈ es.map (·.nm), PyData.strOk x = true := fun x hx => by
  obtain ⟨e', he', rfl⟩ := List.mem_map.mp hx
  obtain ⟨j, hj, ej⟩ := List.getElem_of_mem he'
  exact ok_str (h.inp j e' (by rw [← ej]; exact List.getElem?_eq_getElem hj)).nm
section
variable {P : Program} {w : World} {K : PySem.W.Frag} {mg : Str → Option Value} {base : Heap}
abbrev sLv : Stmt := top 49
abbrev nLv : List Str := ["plan", "trees", "other", "name", "one"]
theorem scLv : FnScope nLv ["plan", "trees", "other"] (defScope sLv) := ⟨rfl, rfl, rfl, by decide +kernel, rfl, by decide +kernel, by decide +kernel⟩
def spLv : Sp := fun vs H Q _ => ∃ (q q2 G B R B2 R2 : Addr) (n : Nat) (es : List Ent) (cs : List Chg) (qs : List Ent), vs = [.ref q, .ref G, .ref q2] ∧ (n = 2 ∨ n = 3) ∧ H q = some (.tup [.int n, .ref R, .ref B]) ∧ H q2 = some (.tup [.int n, .ref R2, .ref B2]) ∧ H B = some (.dK (kvB es)) ∧ H R = some (.dK (kvC es)) ∧ H G = some (.dK (kvG cs)) ∧ H B2 = some (.dK (kvB qs)) ∧ H R2 = some (.dK (kvC qs)) ∧
  R2 ≠ R ∧ B2 ≠ B ∧ G ≠ B ∧ B2 ≠ R2 ∧ LB H n es ∧ LRl H n es ∧ LB H n qs ∧ LRl H n qs ∧ qs.map (·.nm) = es.map (·.nm) ∧ ∀ b H', Ext H H' → (∀ ts : List Ent, ts.map Ent.dat = qs.map Ent.dat → Right n ts → b = lrB cs es qs ts) → Q (.bl b) H'
theorem lv_ok {f : Addr} {fd : FuncData} (F : Fun K "_law_is_rival" "_law_is_rival" sLv f fd) (bn : BN mg) (cT : Cal P w K mg base 6 "_law_tables" spTables) (cBr : Cal P w K mg base 1 "_law_first_broken" spFBr) (cCd : Cal P w K mg base 6 "_law_called" (spCalled 4)) : FnOk P w K mg base CX0 7 f fd ["plan", "trees", "other"] spLv := by
  refine F.ok (k := 6) scLv (fun vs H Q E h => ?_) (fun cdv A outer s H vs Q E hr h => ?_)
  · obtain ⟨q, q2, G, B, R, B2, R2, n, es, cs, qs, rfl, _⟩ := h
    rfl
  · obtain ⟨q, q2, G, B, R, B2, R2, n, es, cs, qs, rfl, hn, hq, hq2, hB, hR, hG, hB2, hR2, hRR, hBB, hGB, hBR2, hL, hLR, hL2, hLR2, hnm, kk⟩ := h
    have u1 := hu_of hr
    refine ⟨_, pss_cons (ps_if (PW.pt (pw_or (pt_cmpR op_ne (pe_ix ix_tup (pv 2) pe_int (fun _ _ => rfl)) (pe_ix ix_tup (pv 0) pe_int (fun _ _ => rfl)) rfl) (pw_or (pt_cmpR (op_neD (by have := hr.units; exact this)) (pe_callTy (call_listD rfl) (by rfl) (bn "list" (by decide)) boot_tList (pa_cons (pe_ix ix_tup (pv 2) pe_int (fun _ _ => rfl)) pa_nil)) (pe_callTy (call_listD rfl) (by rfl) (bn "list" (by decide)) boot_tList (pa_cons (pe_ix ix_tup (pv 0) pe_int (fun _ _ => rfl)) pa_nil)) rfl)
          (pw_or1 (pt_cmpR (op_neB rcB_linesL (hr.mono (show 1 ≤ 6 by decide))) (pe_ix ix_tup (pv 2) pe_int (fun _ _ => rfl)) (pe_ix ix_tup (pv 0) pe_int (fun _ _ => rfl)) rfl))))) (pss_one (ps_ret pe_bl)) pss_nil)
      (pss_cons (ps_if (pt_cmpR op_notN (pe_c (j := 6) cBr hr (by decide) (pa_cons (pv 2) (pa_cons (pe_c (j := 6) cT hr (by decide) (pa_cons (pe_ix ix_tup (pv 2) pe_int (fun _ _ => rfl)) (pa_cons (pe_ix ix_tup (pv 2) pe_int (fun _ _ => rfl)) pa_nil))) pa_nil))) pe_non rfl) (pss_one (ps_ret pe_bl)) pss_nil)
      (pss_cons (ps_lock (ps_for PassesOwn.never rfl (pi_keys (pe_ix ix_tup (pv 0) pe_int (fun _ _ => rfl))) (pg_name (i := 3) scLv.nd rfl (by first | exact .inl rfl | exact .inr rfl))
        (pss_cons (ps_if (PW.pt (pw_and (pt_cmp (pc_din (by exact u1) (pv 3) (pv 1))) (pw_and1 (pt_cmpR (op_neD (by have := hr.units; exact this)) (pe_dget (by exact u1) (pe_ix ix_tup (pv 2) pe_int (fun _ _ => rfl)) (pv 3) (fun _ _ => rfl)) (pe_dget (by exact u1) (pe_ix ix_tup (pv 0) pe_int (fun _ _ => rfl)) (pv 3) (fun _ _ => rfl)) rfl)))) (pss_one (ps_ret pe_bl)) pss_nil)
        (pss_one (ps_if (pt_not (pt_val (pe_callB (cr_all rfl) (by rfl) (bn "all" (by decide)) boot_bAll (pa_cons
            (pe_lc (own := [("one", 4)]) (g := gName 4) (tt := tYes) (te := tOp (rIn K false) (tVar 4) (tCall (spCalled 4) [] E0 (tCons (tDGet (tOp (rIxT K) (tVar 0) (tC (.int 2))) (tVar 3)) tNil))) rfl scLv.nd (pi_list (pe_c (j := 6) cCd hr (by decide) (pa_cons (pe_dget (by exact u1) (pe_ix ix_tup (pv 2) pe_int (fun _ _ => rfl)) (pv 3) (fun _ _ => rfl)) pa_nil))) (blkOk_by (N := nLv) (sc := defScope sLv) (by decide +kernel))
              (fun _ _ _ _ _ => pg_name (i := 4) scLv.nd rfl (by first | exact .inl rfl | exact .inr rfl)) (fun _ _ _ _ _ => pts_nil) (fun _ _ _ _ _ => pe_cmpR op_in_seq (pv 4) (pe_c (j := 6) cCd hr (by decide) (pa_cons (pe_dget (by exact u1) (pe_ix ix_tup (pv 0) pe_int (fun _ _ => rfl)) (pv 3) (fun _ _ => rfl)) pa_nil)) rfl)) pa_nil)))) (pss_one (ps_ret pe_bl)) pss_nil)))))
      (pss_one (ps_ret pe_bl)))), ?_⟩
    -- sizes, names
    refine ⟨_, rfl, q2, _, 0, .int n, rfl, rfl, .inl (.inl hq2), rfl, _, rfl, q, _, 0, .int n, rfl, rfl, .inl (.inl hq), rfl, rfl, _, rfl, iteFb (b := !decide (V.int (n : Int) = V.int (n : Int))) (by simp) ?_⟩
    refine ⟨_, rfl, q2, _, 2, .ref B2, rfl, rfl, .inl (.inl hq2), rfl, B2, _, rfl, .inl hB2, fun l1 hl1 => ?_⟩
    have e1 : Ext H (upd H l1 (.lst ((kvB qs).map fun kv => kV kv.1))) := Ext.upd hl1
    have hl11 : (upd H l1 (.lst ((kvB qs).map fun kv => kV kv.1))) l1 = some (.lst ((qs.map (·.nm)).map V.str)) := by rw [upd_same, keys_kv]
    generalize (upd H l1 (.lst ((kvB qs).map fun kv => kV kv.1))) = H1 at e1 hl11 ⊢
    refine ⟨_, rfl, q, _, 2, .ref B, rfl, rfl, .inl (.inl (e1 _ _ hq)), rfl, B, _, rfl, .inl (e1 _ _ hB), fun l2 hl2 => ?_⟩
    have e2 : Ext H1 (upd H1 l2 (.lst ((kvB es).map fun kv => kV kv.1))) := Ext.upd hl2
    have hl22 : (upd H1 l2 (.lst ((kvB es).map fun kv => kV kv.1))) l2 = some (.lst ((es.map (·.nm)).map V.str)) := by rw [upd_same, keys_kv]
    generalize (upd H1 l2 (.lst ((kvB es).map fun kv => kV kv.1))) = H2 at e2 hl22 ⊢
    have e02 := e1.trans e2
    refine ⟨_, _, .lst (.inl (.inl (e2 _ _ hl11))) Dp.strs, .lst (.inl (.inl hl22)) Dp.strs, shaped_strs hL2.strs, shaped_strs hL.strs, _, rfl, ?_⟩
    rw [eqv_strs hL2.strs hL.strs]
    refine iteFb (by rw [decide_eq_true hnm]; rfl) ?_
    have hlen : qs.length = es.length := by have := congrArg List.length hnm; rwa [List.length_map, List.length_map] at this
    -- lines
    have q02 := e02 _ _ hq
    have q22 := e02 _ _ hq2
    refine ⟨_, rfl, q2, _, 1, .ref R2, rfl, rfl, .inl (.inl q22), rfl, _, rfl, q, _, 1, .ref R, rfl, rfl, .inl (.inl q02), rfl, !decide (qs.map (·.rows) = es.map (·.rows)), ⟨R2, R, kvC qs, kvC es, rfl, rfl, hRR, e02 _ _ hR2, e02 _ _ hR, fun h => absurd (by unfold kvC; rw [List.length_map, List.length_map]; exact hlen) h, fun _ oa ob => ?_⟩, fun H3 e3 => ⟨_, rfl, ?_⟩⟩
    · have fx := (Fx.of e02).trans (fx_lock2 (oa := oa) (ob := ob) (e02 _ _ hR2) (fun q => q) (e02 _ _ hR) (fun q => q) hRR)
      have kp : ∀ {p : Addr} {rs : List (List Int)}, RwsL H p rs → RwsL (upd (upd H2 R2 (.frz oa (.dK (kvC qs)))) R (.frz ob (.dK (kvC es)))) p rs := fun {p rs} hw => hw.keep (fun o ho => by
        have n1 : p ≠ R2 := fun z => by obtain ⟨us, q1, _⟩ := hw; rw [z, hR2] at q1; cases q1
        have n2 : p ≠ R := fun z => by obtain ⟨us, q1, _⟩ := hw; rw [z, hR] at q1; cases q1
        rw [upd_ne n2, upd_ne n1]
        exact e02 _ _ ho) fx
      obtain ⟨b, h1, h2⟩ := prsD_kv (D := DRwL) (g := fun e => e.cv) (g' := fun e => e.cv) (β := fun e e' => decide (e.rows = e'.rows)) (all := es) hnm (fun k e e' h1 h2 _ => by
          obtain ⟨p, a1, a2⟩ := hLR2.at_ e (List.mem_of_getElem? h1)
          obtain ⟨p', b1, b2⟩ := hLR.at_ e' (List.mem_of_getElem? h2)
          exact ⟨p, p', _, _, a1, b1, kp a2, kp b2, rfl⟩)
        (fun e' he' => by
          obtain ⟨k, hk, ek⟩ := List.getElem_of_mem he'
          exact valV_map (g := fun e => e.cv) hL.nd (k := k) (by rw [← ek]; exact List.getElem?_eq_getElem hk))
      rw [zip_rows hlen] at h2
      subst h2
      rw [Bool.not_not]
      exact h1
    have e03 := e02.trans e3
    by_cases hrw : qs.map (·.rows) = es.map (·.rows)
    case neg =>
      refine iteTb (by rw [decide_eq_false hrw]; rfl) ?_
      exact kk false H3 e03 fun ts _ _ => by unfold lrB; rw [decide_eq_false hrw, Bool.false_and, Bool.and_false]
    refine iteFb (by rw [decide_eq_true hrw]; rfl) ?_
    -- broken
    have q23 := e03 _ _ hq2
    refine ⟨_, rfl, _, rfl, q2, _, 0, .int n, rfl, rfl, .inl (.inl q23), rfl, _, rfl, q2, _, 2, .ref B2, rfl, rfl, .inl (.inl q23), rfl, B2, n, qs, rfl, hn, e03 _ _ hB2, hL2.fx (Fx.of e03), fun H4 F ts0 e4 nF hkey tb => ?_⟩
    have e04 := e03.trans e4
    have hFB : F ≠ B2 := fun z => by have := e03 _ _ hB2; rw [← z, nF] at this; cases this
    have hts : ∀ e ∈ ts0, (∃ p, e.cv = .ref p ∧ RwsL H4 p e.rows) ∧ H4 e.rp = some (.tup (e.res.map V.int)) ∧ e.rows.length = n ∧ e.res.length = n := fun e he => by
      obtain ⟨k, hk, ek⟩ := List.getElem_of_mem he
      have hek : ts0[k]? = some e := by rw [← ek]; exact List.getElem?_eq_getElem hk
      obtain ⟨i, h1, h2, h3, h4, h5, h6⟩ := at_key hkey hek
      obtain ⟨p, hp1, hp2⟩ := hLR2.at_ i (List.mem_of_getElem? h1)
      refine ⟨⟨p, by rw [h5, hp1], by rw [h3]; exact hp2.ext e04⟩, tb.rs e he, ?_, (tb.right k e hek).len⟩
      rw [h3, (hLR2.ok i (List.mem_of_getElem? h1)).1]
    refine ⟨q2, B2, R2, F, n, ts0, rfl, e04 _ _ hq2, by omega, by rw [kvB_key hkey]; exact e04 _ _ hB2, by rw [kvC_key hkey]; exact e04 _ _ hR2, Ne.symm hBR2, hFB, tb.at_, hts, by rw [nm_key hkey]; exact hL2.nd, fun v H5 e5 hv => ⟨rfl, _, rfl, ?_⟩⟩
    have e05 := e04.trans e5
    have hsame : ∀ ts : List Ent, ts.map Ent.dat = qs.map Ent.dat → Right n ts → brk ts = brk ts0 := fun ts h1 h2 => by
      have hd : ts0.map Ent.dat = qs.map Ent.dat := by
        have := congrArg (List.map fun p : Str × List (List Int) × T × V × V => (p.1, p.2.1, p.2.2.1)) hkey
        rw [List.map_map, List.map_map] at this
        exact this
      exact brk_one (same_all h2 tb.right (h1.trans hd.symm))
    cases hbk : brk ts0 with
    | some p =>
      rw [hbk] at hv
      obtain ⟨T, rfl, _⟩ := hv
      refine iteTb rfl ?_
      exact kk false H5 e05 fun ts h1 h2 => by unfold lrB; rw [hsame ts h1 h2, hbk, Option.isNone_some, Bool.false_and, Bool.and_false, Bool.and_false]
    | none =>
    rw [hbk] at hv
    obtain rfl : v = .non := hv
    refine iteFb rfl ?_
    have hlr : ∀ ts : List Ent, ts.map Ent.dat = qs.map Ent.dat → Right n ts → lrB cs es qs ts = (es.zip qs).all fun p => lvB cs p.1 p.2 := fun ts h1 h2 => by
      unfold lrB
      rw [decide_eq_true hnm, decide_eq_true hrw, hsame ts h1 h2, hbk, Option.isNone_none, Bool.true_and, Bool.true_and, Bool.true_and]
    -- function by function
    have hB5 := e05 _ _ hB
    refine ⟨B, _, hB5, trivial, fun ob => ?_⟩
    have f6 : Fx H5 (upd H5 B (.frz ob (.dK (kvB es)))) := fx_lock hB5 (fun q => q)
    have h6B : (upd H5 B (.frz ob (.dK (kvB es)))) B = some (.frz ob (.dK (kvB es))) := upd_same
    have k6 : ∀ b o, b ≠ B → H5 b = some o → (upd H5 B (.frz ob (.dK (kvB es)))) b = some o := fun b o hb h => by rw [upd_ne hb]; exact h
    have back6 : ∀ {H' : Hp}, Ext (upd H5 B (.frz ob (.dK (kvB es)))) H' → Ext H5 (upd H' B (.dK (kvB es))) := fun e => upd_back hB5 e
    generalize (upd H5 B (.frz ob (.dK (kvB es)))) = H6 at f6 h6B k6 back6 ⊢
    have hG6 := k6 _ _ hGB (e05 _ _ hG)
    have hB26 := k6 _ _ hBB (e05 _ _ hB2)
    have f06 : Fx H H6 := (Fx.of e05).trans f6
    have q06 := f06 _ _ (show Fixed (.tup _) from trivial) hq
    have q26 := f06 _ _ (show Fixed (.tup _) from trivial) hq2
    have wK : Walk (Itk B ob (kvB es)) es.length (fun H' => H' B = some (.frz ob (.dK (kvB es)))) (fun i H' x H'' => H'' = H' ∧ ∃ k v, (kvB es)[i]? = some (k, v) ∧ x = kV k) := by
      have := walk_keys (d := B) (o := ob) (kvs := kvB es)
      unfold kvB at this ⊢
      rwa [List.length_map] at this
    have fail : ∀ {H' : Hp} {e q : Ent} {i : Nat}, Ext H6 H' → es[i]? = some e → qs[i]? = some q → lvB cs e q = false → H' B = some (.frz ob (.dK (kvB es))) ∧ Q (.bl false) (upd H' B (.dK (kvB es))) := fun {H' e q i} ex he hq hf => by
      refine ⟨ex _ _ h6B, kk false _ (e05.trans (back6 ex)) fun ts h1 h2 => ?_⟩
      rw [hlr ts h1 h2]
      symm
      rw [Bool.eq_false_iff]
      intro z
      rw [List.all_eq_true] at z
      have := z (e, q) (List.mem_of_getElem? (List.getElem?_zip_eq_some.mpr ⟨he, hq⟩))
      rw [hf] at this
      cases this
    refine ⟨_, rfl, q, _, 2, .ref B, rfl, rfl, .inl (.inl q06), rfl, B, ob, rfl, .inl ⟨_, h6B, for_it wK (fun k σ H' => ∃ u6, Ext H6 H' ∧ (∀ (j : Nat) (e q : Ent), j < k → es[j]? = some e → qs[j]? = some q → lvB cs e q = true) ∧ σ = [some (.ref q), some (.ref G), some (.ref q2), u6, none]) ⟨none, Ext.rfl', fun j e q hj => absurd hj (Nat.not_lt_zero _), rfl⟩ (fun i σ H' _ ⟨_, ex, _⟩ => ex _ _ h6B) (fun i x σ H' H'' hi ⟨u6, ex, hok, hσ⟩ hY => ?_) (fun σ H' ⟨u6, ex, hok, hσ⟩ => ?_)⟩⟩
    · subst hσ
      obtain ⟨rfl, k', v', hkv, rfl⟩ := hY
      obtain ⟨e, he⟩ : ∃ e, es[i]? = some e := ⟨es[i], List.getElem?_eq_getElem hi⟩
      have : (kvB es)[i]? = some (.inr e.nm, e.bv) := by unfold kvB; rw [List.getElem?_map, he]; rfl
      rw [this] at hkv
      cases hkv
      obtain ⟨z, hz, hzn⟩ := at_nm hnm he
      have hbe := hL.inp i e he
      have hbq := hL2.inp i z hz
      have oke : ∀ x ∈ e.body.names, PyData.strOk x = true := fun x hx => ok_str (hL.okn he x hx)
      have okq : ∀ x ∈ z.body.names, PyData.strOk x = true := fun x hx => ok_str (hL2.okn hz x hx)
      have hvB : valV (kvB es) (.inr e.nm) = some e.bv := valV_map (g := fun e : Ent => e.bv) hL.nd he
      have hvQ : valV (kvB qs) (.inr e.nm) = some z.bv := by rw [← hzn]; exact valV_map (g := fun e : Ent => e.bv) hL2.nd hz
      have fx := f06.trans (Fx.of ex)
      have hLe := LT.fx fx (hL.lt e (List.mem_of_getElem? he))
      have hLq := LT.fx fx (hL2.lt z (List.mem_of_getElem? hz))
      have hvG := valV_kvG (cs := cs) (nm := e.nm)
      have hin : (valV (kvG cs) (.inr e.nm)).isSome = inC cs e.nm := by
        rw [hvG]
        unfold inC
        cases cs.find? (fun x => decide (x.nm = e.nm)) <;> rfl
      have q0x := ex _ _ q06
      have q2x := ex _ _ q26
      refine' cut3 ((inC cs e.nm && !(T.beq z.body e.body)) = false) (fun second => ?first) ?sec
      case first =>
        refine ⟨_, rfl, _, rfl, G, _, rfl, .inl ⟨_, .inr e.nm, .inl (ex _ _ hG6), rfl, rfl⟩, _, rfl, ?_⟩
        cases hic : inC cs e.nm with
        | false =>
          rw [hic] at hin
          exact iteFb hin (iteF (second (by rw [hic]; rfl)))
        | true =>
          rw [hic] at hin
          refine iteTb hin ?_
          refine ⟨_, rfl, q2, _, 2, .ref B2, rfl, rfl, .inl (.inl q2x), rfl, _, rfl, B2, z.bv, rfl, .inl ⟨_, .inr e.nm, .inl (ex _ _ hB26), rfl, hvQ.symm⟩, _, rfl, q, _, 2, .ref B, rfl, rfl, .inl (.inl q0x), rfl, _, rfl, B, e.bv, rfl, .inl ⟨_, .inr e.nm, .inr ⟨_, ex _ _ h6B⟩, rfl, hvB.symm⟩, z.body.dB, e.body.dB, LT.dp hLq, LT.dp hLe, shaped_dB okq hbq.dep, shaped_dB oke hbe.dep, _, rfl, ?_⟩
          rw [eqv_dB hbq.ok hbe.ok okq oke]
          cases hbt : T.beq z.body e.body with
          | true => exact iteF (second (by rw [hic, hbt]; rfl))
          | false => exact iteT (fail ex he hz (by unfold lvB; rw [hic, hbt]; rfl))
      case sec =>
        intro hgood
        refine ⟨_, rfl, q2, _, 2, .ref B2, rfl, rfl, .inl (.inl q2x), rfl, _, rfl, B2, z.bv, rfl, .inl ⟨_, .inr e.nm, .inl (ex _ _ hB26), rfl, hvQ.symm⟩, z.bv, z.body, rfl, hLq, hbq.dep, hbq.size, fun l3 H7 e7 nl3 hl3 => ⟨l3, rfl, ⟨_, .inl (.inl hl3)⟩, fun D hD => ?_⟩⟩
        have e67 := ex.trans e7
        have hle3 : z.body.names.length ≤ 60 := Nat.le_trans (T.names_le z.body) hbq.size
        refine lcm_list (xs := z.body.names.map V.str) (R := fun i y _ => ∀ x, z.body.names[i]? = some x → y = .bl (decide (x ∈ e.body.names))) (fun _ _ _ _ _ h => h) (.inl (.inl hl3)) hD (by rw [List.length_map, sizeLine_eq]; omega) ?hw (fun i2 x H8 Qk e8 hx k2 => ?_) (fun H8 ys e8 hD8 hys hR8 => ?_)
        case hw => intro x; rfl
        · rw [List.getElem?_map] at hx
          obtain ⟨nm, hnmi, rfl⟩ := Option.map_eq_some_iff.mp hx
          have e68 := e67.trans e8
          refine ⟨_, rfl, _, rfl, q, _, 2, .ref B, rfl, rfl, .inl (.inl (e68 _ _ q06)), rfl, _, rfl, B, e.bv, rfl, .inl ⟨_, .inr e.nm, .inr ⟨_, e68 _ _ h6B⟩, rfl, hvB.symm⟩, e.bv, e.body, rfl, LT.fx (Fx.of (e7.trans e8)) hLe, hbe.dep, hbe.size, fun l4 H9 e9 nl4 hl4 => ⟨l4, _, rfl, .inl (.inl (.inl hl4)), rfl, flat_strs, k2 _ _ e9 fun x hx => ?_⟩⟩
          rw [hnmi] at hx
          cases hx
          rw [inV_strs]
          rfl
        · rw [List.length_map] at hys
          have hb := bools_by (g := fun x => decide (x ∈ e.body.names)) (xs := z.body.names) hys fun i x y h1 h2 => hR8 i y h2 x h1
          refine ⟨D, z.body.names.map fun x => decide (x ∈ e.body.names), rfl, .inl (.inl (by rw [← hb]; exact hD8)), _, rfl, ?_⟩
          rw [all_id]
          have ex8 := e67.trans e8
          cases hsub : subN z.body e.body with
          | false =>
            refine iteTb (by unfold subN at hsub; rw [hsub]; rfl) (fail ex8 he hz (by unfold lvB; rw [hsub, Bool.and_false]))
          | true =>
            refine iteFb (by unfold subN at hsub; rw [hsub]; rfl) ⟨_, ex8, fun j e' q' hj h1 h2 => ?_, rfl⟩
            rcases Nat.lt_or_ge j i with h | h
            · exact hok j e' q' h h1 h2
            · have : j = i := by omega
              subst this
              rw [he] at h1
              rw [hz] at h2
              cases h1
              cases h2
              unfold lvB
              rw [hsub, Bool.and_true, hgood]
              rfl
    · subst hσ
      refine ⟨ex _ _ h6B, kk true _ (e05.trans (back6 ex)) fun ts h1 h2 => ?_⟩
      rw [hlr ts h1 h2]
      symm
      rw [List.all_eq_true]
      rintro ⟨e, z⟩ hp
      obtain ⟨j, hj, ej⟩ := List.getElem_of_mem hp
      obtain ⟨a1, a2⟩ := List.getElem?_zip_eq_some.mp (show (es.zip qs)[j]? = some (e, z) by rw [← ej]; exact List.getElem?_eq_getElem hj)
      exact hok j e z (by have := (List.getElem?_eq_some_iff.mp a1).1; omega) a1 a2
end
end MR
end

section
set_option Elab.async false
set_option linter.all false
set_option maxRecDepth 100000
set_option maxHeartbeats 1000000
/-! The law's other programs. -/
namespace MR
open PySem PySem.Spec PyProof.Rows L2 LY GW
/-- another program while it is drawn -/
structure OtI (K : PySem.W.Frag) (st : Addr) (sc : Addr × List Int) (n : Nat) (es : List Ent) (H0 : Hp) (B2 R2 : Addr) (qs : List Ent) (H : Hp) : Prop where
  nx : Nxt K st sc H0 H
  nB : H0 B2 = none
  nR : H0 R2 = none
  BR : B2 ≠ R2
  hB : H B2 = some (.dK (kvB qs))
  hR : H R2 = some (.dK (kvC qs))
  lb : LB H n qs
  lr : LRl H n qs
  fr : ∀ e ∈ qs, ∀ p, e.cv = .ref p → H0 p = none
  di : ∀ (i j : Nat) (e e' : Ent) (p : Addr), qs[i]? = some e → qs[j]? = some e' → e.cv = .ref p → e'.cv = .ref p → i = j
  nm : qs.map (·.nm) = es.map (·.nm)
theorem LRl.but {K : PySem.W.Frag} {st : Addr} {sc : Addr × List Int} {H H' : Hp} {n : Nat} {es : List Ent} (h : LRl H n es) (hs : StA K st sc H) (hn : 1 ≤ n) (b : But st H H') : LRl H' n es :=
  ⟨fun x hx => let ⟨p, a, c⟩ := h.at_ x hx; ⟨p, a, c.keep (fun o ho => b _ _ (c.ne hs (by rw [(h.ok x hx).1]; exact hn)) ho) (hs.fx b)⟩, h.ok⟩
theorem OtI.nxt {K : PySem.W.Frag} {st : Addr} {sc : Addr × List Int} {n : Nat} {es : List Ent} {H0 : Hp} {B2 R2 : Addr} {qs : List Ent} {H H' : Hp} (I : OtI K st sc n es H0 B2 R2 qs H) (hn : 1 ≤ n) (x : Nxt K st sc H H') : OtI K st sc n es H0 B2 R2 qs H' :=
  ⟨I.nx.trans x, I.nB, I.nR, I.BR, x.but _ _ (I.nx.st.dk I.hB) I.hB, x.but _ _ (I.nx.st.dk I.hR) I.hR, I.lb.fx (I.nx.st.fx x.but), I.lr.but I.nx.st hn x.but, I.fr, I.di, I.nm⟩
theorem putK_set' {es : List Ent} (nd : (es.map (·.nm)).Nodup) {k : Nat} {e : Ent} (he : es[k]? = some e) {t : T} {v : V} : putK (kvB es) (.inr e.nm) v = kvB (es.set k { e with body := t, bv := v }) := by
  unfold putK
  rw [if_pos]
  · refine List.ext_getElem? fun j => ?_
    unfold kvB
    rw [List.getElem?_map, List.getElem?_map, List.getElem?_map, List.getElem?_set]
    split
    · rename_i hkj
      subst hkj
      rw [if_pos (List.getElem?_eq_some_iff.mp he).1, he]
      simp
    · rename_i hkj
      cases hj : es[j]? with
      | none => rfl
      | some e' =>
        have hne : e'.nm ≠ e.nm := fun z => hkj (same_at nd he hj z.symm)
        have : decide ((Sum.inr e'.nm : Key) = Sum.inr e.nm) = false := decide_eq_false fun z => hne (Sum.inr.inj z)
        simp [hne]
  · rw [List.any_eq_true]
    exact ⟨(.inr e.nm, e.bv), by unfold kvB; exact List.mem_map_of_mem (f := fun e : Ent => ((.inr e.nm : Key), e.bv)) (List.mem_of_getElem? he), by simp⟩
theorem OtI.body {K : PySem.W.Frag} {st : Addr} {sc : Addr × List Int} {n : Nat} {es : List Ent} {H0 : Hp} {B2 R2 : Addr} {qs : List Ent} {H : Hp} (I : OtI K st sc n es H0 B2 R2 qs H) (h0 : StA K st sc H0) {k : Nat} {e : Ent} (he : qs[k]? = some e) {t : T} {v : V} (hl : LT H t v) (hb : BIn n ((qs.take k).map (·.nm)) e.nm t) :
    OtI K st sc n es H0 B2 R2 (qs.set k { e with body := t, bv := v }) (upd H B2 (.dK (putK (kvB qs) (.inr e.nm) v))) := by
  have f : Fx H (upd H B2 (.dK (putK (kvB qs) (.inr e.nm) v))) := Fx.upd fun u hu => by rw [I.hB] at hu; cases hu; exact fun q => q
  have hk := (List.getElem?_eq_some_iff.mp he).1
  have same : ∀ {x : Ent}, x ∈ qs.set k { e with body := t, bv := v } → ∃ y ∈ qs, x.cv = y.cv ∧ x.rows = y.rows := fun {x} hx => by
    rcases List.mem_or_eq_of_mem_set hx with q | q
    · exact ⟨x, q, rfl, rfl⟩
    · exact ⟨e, List.mem_of_getElem? he, by rw [q], by rw [q]⟩
  have sameA : ∀ {i : Nat} {x : Ent}, (qs.set k { e with body := t, bv := v })[i]? = some x → ∃ y, qs[i]? = some y ∧ x.cv = y.cv ∧ x.nm = y.nm := fun {i x} hx => by
    rw [List.getElem?_set] at hx
    split at hx
    · rename_i hki
      subst hki
      cases hx
      exact ⟨e, he, rfl, rfl⟩
    · exact ⟨x, hx, rfl, rfl⟩
  have hnm : (qs.set k { e with body := t, bv := v }).map (·.nm) = qs.map (·.nm) := by
    rw [List.map_set]
    show (qs.map (·.nm)).set k e.nm = _
    refine List.ext_getElem? fun i => ?_
    rw [List.getElem?_set]
    split
    · rename_i hki
      subst hki
      rw [if_pos (by rw [List.length_map]; exact hk), List.getElem?_map, he]
      rfl
    · rfl
  have hC : kvC (qs.set k { e with body := t, bv := v }) = kvC qs := by
    unfold kvC
    rw [List.map_set]
    refine List.ext_getElem? fun i => ?_
    rw [List.getElem?_set]
    split
    · rename_i hki
      subst hki
      rw [if_pos (by rw [List.length_map]; exact hk), List.getElem?_map, he]
      rfl
    · rfl
  refine ⟨Nxt.put h0 I.nB I.nx, I.nB, I.nR, I.BR, by rw [upd_same, putK_set' I.lb.nd he], by rw [upd_ne (Ne.symm I.BR), hC]; exact I.hR, (I.lb.set he hl hb).fx f, ⟨fun x hx => ?_, fun x hx => ?_⟩, fun x hx p hp => ?_, fun i j x y p hi hj hx hy => ?_, hnm.trans I.nm⟩
  · obtain ⟨y, hy, e1, e2⟩ := same hx
    obtain ⟨p, a, b⟩ := I.lr.at_ y hy
    exact ⟨p, e1.trans a, by rw [e2]; exact b.keep (fun o ho => by rw [upd_ne (fun z => by obtain ⟨us, q1, _⟩ := b; rw [z, I.hB] at q1; cases q1)]; exact ho) f⟩
  · obtain ⟨y, hy, e1, e2⟩ := same hx
    rw [e2]
    exact I.lr.ok y hy
  · obtain ⟨y, hy, e1, _⟩ := same hx
    exact I.fr y hy p (e1.symm.trans hp)
  · obtain ⟨x', a1, a2, _⟩ := sameA hi
    obtain ⟨y', b1, b2, _⟩ := sameA hj
    exact I.di i j x' y' p a1 b1 (a2.symm.trans hx) (b2.symm.trans hy)
/-- the first row of the first function is free -/
theorem OtI.row {K : PySem.W.Frag} {st : Addr} {sc : Addr × List Int} {n : Nat} {es : List Ent} {H0 : Hp} {B2 R2 : Addr} {qs : List Ent} {H : Hp} (I : OtI K st sc n es H0 B2 R2 qs H) (h0 : StA K st sc H0) (hn : 1 ≤ n) {e : Ent} {p : Addr} {us : List V} {r : List Int} {t : Addr} (he : qs[0]? = some e) (hp : e.cv = .ref p) (hus : H p = some (.lst us)) (ht : H t = some (.tup (r.map V.int))) (hr : OkRow n r) :
    OtI K st sc n es H0 B2 R2 (qs.set 0 { e with rows := e.rows.set 0 r }) (upd H p (.lst (us.set 0 (.ref t)))) := by
  have hk := (List.getElem?_eq_some_iff.mp he).1
  have hmem := List.mem_of_getElem? he
  have pB : p ≠ B2 := fun z => by rw [z, I.hB] at hus; cases hus
  have pR : p ≠ R2 := fun z => by rw [z, I.hR] at hus; cases hus
  have f : Fx H (upd H p (.lst (us.set 0 (.ref t)))) := Fx.upd fun u hu => by rw [hus] at hu; cases hu; exact fun q => q
  have sameA : ∀ {i : Nat} {x : Ent}, (qs.set 0 { e with rows := e.rows.set 0 r })[i]? = some x → (i ≠ 0 ∧ qs[i]? = some x) ∨ (i = 0 ∧ x = { e with rows := e.rows.set 0 r }) := fun {i x} hx => by
    rw [List.getElem?_set] at hx
    split at hx
    · rename_i hki
      cases hx
      exact .inr ⟨hki.symm, rfl⟩
    · rename_i hki
      exact .inl ⟨fun z => hki z.symm, hx⟩
  have cvA : ∀ {i : Nat} {x : Ent}, (qs.set 0 { e with rows := e.rows.set 0 r })[i]? = some x → ∃ y, qs[i]? = some y ∧ x.cv = y.cv := fun {i x} hx => by
    rcases sameA hx with ⟨_, q⟩ | ⟨q1, q2⟩
    · exact ⟨x, q, rfl⟩
    · exact ⟨e, by rw [q1]; exact he, by rw [q2]⟩
  have d3 : (qs.set 0 { e with rows := e.rows.set 0 r }).map Ent.d3 = qs.map Ent.d3 := by
    rw [List.map_set]
    refine List.ext_getElem? fun i => ?_
    rw [List.getElem?_set]
    split
    · rename_i hki
      subst hki
      rw [if_pos (by rw [List.length_map]; exact hk), List.getElem?_map, he]
      rfl
    · rfl
  have hC : kvC (qs.set 0 { e with rows := e.rows.set 0 r }) = kvC qs := by
    unfold kvC
    rw [List.map_set]
    refine List.ext_getElem? fun i => ?_
    rw [List.getElem?_set]
    split
    · rename_i hki
      subst hki
      rw [if_pos (by rw [List.length_map]; exact hk), List.getElem?_map, he]
      rfl
    · rfl
  refine ⟨Nxt.put h0 (I.fr e hmem p hp) I.nx, I.nB, I.nR, I.BR, by rw [upd_ne (Ne.symm pB), kvB_d3 d3]; exact I.hB, by rw [upd_ne (Ne.symm pR), hC]; exact I.hR, (I.lb.fx f).d3 d3, ⟨fun x hx => ?_, fun x hx => ?_⟩, fun x hx p' hp' => ?_, fun i j x y p' hi hj hx hy => ?_, (nm_d3 d3).trans I.nm⟩
  · obtain ⟨i, hi, ei⟩ := List.getElem_of_mem hx
    have hxi := List.getElem?_eq_getElem hi
    rw [ei] at hxi
    rcases sameA hxi with ⟨q0, q⟩ | ⟨q0, q⟩
    · obtain ⟨p', a, b⟩ := I.lr.at_ x (List.mem_of_getElem? q)
      have : p' ≠ p := fun z => q0 (I.di i 0 x e p q he (by rw [← z]; exact a) hp)
      exact ⟨p', a, b.keep (fun o ho => by rw [upd_ne this]; exact ho) f⟩
    · subst q
      obtain ⟨p', a, us', b1, b2, b3⟩ := I.lr.at_ e hmem
      rw [hp] at a
      cases a
      rw [hus] at b1
      cases b1
      refine ⟨p, hp, us.set 0 (.ref t), upd_same, by rw [List.length_set, List.length_set]; exact b2, fun m u hu => ?_⟩
      rw [List.getElem?_set] at hu
      by_cases hm : m = 0
      · subst hm
        rw [if_pos rfl] at hu
        split at hu
        · cases hu
          rename_i hlt
          refine ⟨r, t, ?_, rfl, f _ _ (show Fixed (.tup _) from trivial) ht⟩
          show (e.rows.set 0 r)[0]? = some r
          rw [List.getElem?_set_self (by omega)]
        · cases hu
      · rw [if_neg (fun z => hm z.symm)] at hu
        obtain ⟨r', q', c1, c2, c3⟩ := b3 m u hu
        refine ⟨r', q', ?_, c2, f _ _ (show Fixed (.tup _) from trivial) c3⟩
        show (e.rows.set 0 r)[m]? = some r'
        rw [List.getElem?_set_ne (fun z => hm z.symm)]
        exact c1
  · rcases List.mem_or_eq_of_mem_set hx with q | q
    · exact I.lr.ok x q
    · subst q
      obtain ⟨o1, o2⟩ := I.lr.ok e hmem
      refine ⟨by show (e.rows.set 0 r).length = n; rw [List.length_set]; exact o1, fun r' hr' => ?_⟩
      rcases List.mem_or_eq_of_mem_set hr' with z | z
      · exact o2 r' z
      · rw [z]; exact hr
  · obtain ⟨i, hi, ei⟩ := List.getElem_of_mem hx
    have hxi := List.getElem?_eq_getElem hi
    rw [ei] at hxi
    obtain ⟨y, a, b⟩ := cvA hxi
    exact I.fr y (List.mem_of_getElem? a) p' (b.symm.trans hp')
  · obtain ⟨x', a1, a2⟩ := cvA hi
    obtain ⟨y', b1, b2⟩ := cvA hj
    exact I.di i j x' y' p' a1 b1 (a2.symm.trans hx) (b2.symm.trans hy)
section
variable {P : Program} {w : World} {K : PySem.W.Frag} {mg : Str → Option Value} {base : Heap}
abbrev sOth : Stmt := top 50
abbrev nOth : List Str := ["draws", "plan", "rows", "trees", "name", "names", "many", "turn", "earlier", "called", "one"]
theorem scOth : FnScope nOth ["draws", "plan"] (defScope sOth) := ⟨rfl, rfl, rfl, by decide +kernel, rfl, by decide +kernel, by decide +kernel⟩
def spOth (K : PySem.W.Frag) : Sp := fun vs H Q _ => ∃ (st : Addr) (sc : Addr × List Int) (q B R : Addr) (n : Nat) (es : List Ent), vs = [.ref st, .ref q] ∧ StA K st sc H ∧ (n = 2 ∨ n = 3) ∧ H q = some (.tup [.int n, .ref R, .ref B]) ∧ H B = some (.dK (kvB es)) ∧ H R = some (.dK (kvC es)) ∧ R ≠ B ∧ LB H n es ∧ LRl H n es ∧ 1 ≤ es.length ∧ es.length ≤ 5 ∧
  ∀ H' q' B2 R2 qs, Nxt K st sc H H' → H' q' = some (.tup [.int (n : Nat), .ref R2, .ref B2]) → H' B2 = some (.dK (kvB qs)) → H' R2 = some (.dK (kvC qs)) → B2 ≠ R2 → H B2 = none → H R2 = none → LB H' n qs → LRl H' n qs → qs.map (·.nm) = es.map (·.nm) → Q (.ref q') H'
theorem other_ok {f : Addr} {fd : FuncData} (F : Fun K "_law_other" "_law_other" sOth f fd) (bn : BN mg) (cN : Cal P w K mg base 1 "_law_take" (spNext K)) (cB : Cal P w K mg base 7 "_law_drawn_tree" (spBody K 3)) (cCd : Cal P w K mg base 6 "_law_called" (spCalled 4)) : FnOk P w K mg base CX0 8 f fd ["draws", "plan"] (spOth K) := by
  refine F.ok (k := 7) scOth (fun vs H Q E h => ?_) (fun cdv A outer s H vs Q E hr h => ?_)
  · obtain ⟨st, sc, q, B, R, n, es, rfl, _⟩ := h
    rfl
  · obtain ⟨st, sc, q, B, R, n, es, rfl, hst, hn, hq, hB, hR, hRB, hL, hLR, hel, hel5, kk⟩ := h
    have u1 := hu_of hr
    obtain ⟨t2, h2, r2⟩ : ∃ t2, PSs (cxOf CX0 P w K mg base nOth "_law_other" (defScope sOth) f cdv A outer s H E).nox ((defBody sOth).drop 2) t2 ∧ ∀ (B2 R2 : Addr) (qs : List Ent) (u4 : Option V) (H4 : Hp), OtI K st sc n es H B2 R2 qs H4 →
        t2 { nx := fun _ H' => Q .non H', rt := Q } [some (.ref st), some (.ref q), some (.ref R2), some (.ref B2), u4, none, none, none, none, none, none] H4 := by
      refine ⟨_, pss_cons (ps_par rfl scOth.nd (i := 5) (j := 6) rfl rfl (by decide) rfl rfl (pa_cons (pe_callTy (call_listD rfl) (by rfl) (bn "list" (by decide)) boot_tList (pa_cons (pv 3) pa_nil)) (pa_cons (pe_op op_add pe_int (pe_c (j := 7) cN hr (by decide) (pa_cons (pv 0) (pa_cons pe_int pa_nil)))) pa_nil)) (by rfl))
      (pss_cons (ps_for PassesOwn.never rfl (pi_range1 (by rfl) (bn "range" (by decide)) (pa_cons (pv 6) pa_nil)) (pg_name (i := 7) scOth.nd rfl (by first | exact .inl rfl | exact .inr rfl))
        (pss_cons (ps_asg (pe_ix ix_list (pv 5) (pe_c (j := 7) cN hr (by decide) (pa_cons (pv 0) (pa_cons (pe_len bn (pa_cons (pv 5) pa_nil)) pa_nil))) (fun _ _ => rfl)) (pg_name (i := 4) scOth.nd rfl (by first | exact .inl rfl | exact .inr rfl)))
        (pss_cons (ps_asg (pe_slice sl_list (pv 5) po_none (po_some (pe_bm PySem.F.plainAttrs_list PySem.F.slot_list_index PySem.F.type_list_index mt_index (pv 5) (pa_cons (pv 4) pa_nil)))) (pg_name (i := 8) scOth.nd rfl (by first | exact .inl rfl | exact .inr rfl)))
        (pss_cons (ps_setLc (own := [("one", 10)]) (g := gName 10) (tt := tTest (tOp (rIn K false) (tVar 10) (tCall (spCalled 4) [] E0 (tCons (tDGet (tOp (rIxT K) (tVar 1) (tC (.int 2))) (tVar 4)) tNil)))) (te := tVar 10) rfl scOth.nd (i := 9) rfl rfl (sw_true rfl rfl rfl (by decide +kernel)) (pi_list (pv 8)) (blkOk_by (N := nOth) (sc := defScope sOth) (by decide +kernel))
            (fun _ _ _ _ _ => pg_name (i := 10) scOth.nd rfl (by first | exact .inl rfl | exact .inr rfl)) (fun _ _ _ _ _ => pts_one (pt_cmpR op_in_seq (pv 10) (pe_c (j := 7) cCd hr (by decide) (pa_cons (pe_dget (by exact u1) (pe_ix ix_tup (pv 1) pe_int (fun _ _ => rfl)) (pv 4) (fun _ _ => rfl)) pa_nil)) rfl)) (fun _ _ _ _ _ => pv 10))
        (pss_one (ps_dput (by exact u1) (pv 3) (pv 4) (pe_c (j := 7) cB hr (by decide) (pa_cons (pv 0) (pa_cons (pe_ix ix_tup (pv 1) pe_int (fun _ _ => rfl)) (pa_cons (pe_ifExp (pt_cmpR op_gt (pe_c (j := 7) cN hr (by decide) (pa_cons (pv 0) (pa_cons pe_int pa_nil))) pe_int rfl) (pv 9) (pv 8)) (pa_cons pe_int pa_nil))))) rfl))))))
      (pss_cons (ps_if (pt_cmpR op_eq (pe_c (j := 7) cN hr (by decide) (pa_cons (pv 0) (pa_cons pe_int pa_nil))) pe_int rfl)
        (pss_one (ps_asg (pe_tupRg rfl (by rfl) (bn "tuple" (by decide)) (prg_1 (by rfl) (bn "range" (by decide)) (pe_ix ix_tup (pv 1) pe_int (fun _ _ => rfl)))) (pg_sub (pe_dget (by exact u1) (pv 2) (pe_ix ix_list (pv 5) pe_int (fun _ _ => rfl)) (fun _ _ => rfl)) pe_int set_list))) pss_nil)
      (pss_one (ps_ret (pe_tup (pa_cons (pe_ix ix_tup (pv 1) pe_int (fun _ _ => rfl)) (pa_cons (pv 2) (pa_cons (pv 3) pa_nil)))))))), fun B2 R2 qs u4 H4 I4 => ?_⟩
      have hn3 : n ≤ 3 := by rcases hn with z | z <;> omega
      have hn1 : 1 ≤ n := by rcases hn with z | z <;> omega
      refine ⟨_, rfl, B2, _, rfl, .inl I4.hB, fun l hl => ?_⟩
      have el : Ext H4 (upd H4 l (.lst ((kvB qs).map fun kv => kV kv.1))) := Ext.upd hl
      have hll : (upd H4 l (.lst ((kvB qs).map fun kv => kV kv.1))) l = some (.lst ((es.map (·.nm)).map V.str)) := by rw [upd_same, keys_kv, I4.nm]
      generalize (upd H4 l (.lst ((kvB qs).map fun kv => kV kv.1))) = H5 at el hll ⊢
      have I5 := I4.nxt hn1 (Nxt.of I4.nx.st el)
      have lst_ne : ∀ {Hx : Hp} {qx : List Ent}, OtI K st sc n es H B2 R2 qx Hx → Hx l = some (.lst ((es.map (·.nm)).map V.str)) → l ≠ st ∧ l ≠ B2 := fun {Hx qx} I h => ⟨I.nx.st.strs h (by rw [List.length_map]; exact hel), fun z => by rw [z, I.hB] at h; cases h⟩
      have okN : ∀ x ∈ es.map (·.nm), PyData.strOk x = true := hL.strs
      refine ⟨_, rfl, st, sc, 2, rfl, I5.nx.st, by decide, fun r H6 r0 r1 nx6 => ⟨_, _, rfl, rfl, _, _, rfl, ?_⟩⟩
      have I6 := I5.nxt hn1 nx6
      have hl6 := nx6.but _ _ (lst_ne I5 hll).1 hll
      have keepH : ∀ {Hx : Hp} {qx : List Ent}, OtI K st sc n es H B2 R2 qx Hx → Hx q = some (.tup [.int n, .ref R, .ref B]) ∧ Hx B = some (.dK (kvB es)) ∧ LB Hx n es := fun {Hx qx} I => ⟨hst.fx I.nx.but _ _ (show Fixed (.tup _) from trivial) hq, I.nx.but _ _ (hst.dk hB) hB, hL.fx (hst.fx I.nx.but)⟩
      refine ⟨_, rfl, 1 + r, rfl, by omega, by omega, for_range (lo := 0) (n := (1 + r).toNat) (fun i σ H' => (∃ u4 u7 u8 u9, σ = [some (.ref st), some (.ref q), some (.ref R2), some (.ref B2), u4, some (.ref l), some (.int (1 + r)), u7, u8, u9, none]) ∧ H' l = some (.lst ((es.map (·.nm)).map V.str)) ∧ ∃ qs', OtI K st sc n es H B2 R2 qs' H') ⟨⟨_, _, _, _, rfl⟩, hl6, qs, I6⟩ (fun i σ H' hi ⟨hσ, hl', qs', I⟩ => ?_) (fun σ H' ⟨hσ, hl', qs', I⟩ => ?_)⟩
      · obtain ⟨u4, u7, u8, u9, rfl⟩ := hσ
        refine ⟨_, rfl, _, rfl, _, rfl, l, _, rfl, .inl (.inl (.inl hl')), st, sc, _, rfl, I.nx.st, by rw [List.length_map, List.length_map]; omega, fun r3 H3 q0 q1 nx3 => ?_⟩
        have hrl : r3.toNat < es.length := by rw [List.length_map, List.length_map] at q1; omega
        obtain ⟨k, hk, hkr⟩ : ∃ k : Nat, k < es.length ∧ r3 = (k : Int) := ⟨r3.toNat, hrl, by omega⟩
        subst hkr
        obtain ⟨e, he⟩ : ∃ e, es[k]? = some e := ⟨es[k], List.getElem?_eq_getElem hk⟩
        have hnk : ((es.map (·.nm)).map V.str)[k]? = some (.str e.nm) := by rw [List.getElem?_map, List.getElem?_map, he]; rfl
        have hl3 := nx3.but _ _ (lst_ne I hl').1 hl'
        have I3 := I.nxt hn1 nx3
        refine ⟨l, _, (k : Int), .str e.nm, rfl, rfl, .inl (.inl hl3), ?at1, ?_⟩
        case at1 =>
          unfold atI ixN
          rw [if_pos (by omega), if_pos (by rw [List.length_map, List.length_map]; omega)]
          show ((es.map (·.nm)).map V.str)[(k : Int).toNat]? = _
          rw [Int.toNat_natCast, hnk]
        -- earlier
        refine ⟨_, rfl, _, rfl, .inl ⟨rfl, _, .inl (.inl hl3)⟩, _, rfl, l, _, .str e.nm, k, .str e.nm, rfl, rfl, .inl (.inl hl3), rfl, flat_strs, hnk, by simp [eqV], fun m z hm hz => ?nq, _, rfl, l, _, rfl, .inl (.inl hl3), fun p hp => ?_⟩
        case nq =>
          rw [List.getElem?_map, List.getElem?_map] at hz
          cases hem : es[m]? with
          | none => rw [hem] at hz; cases hz
          | some x =>
            rw [hem] at hz
            obtain rfl : V.str x.nm = z := Option.some.inj hz
            show (x.nm == e.nm) = false
            rw [beq_eq_false_iff_ne]
            intro hxe
            have := same_at hL.nd hem he hxe
            omega
        have hcut : cutV ((es.map (·.nm)).map V.str) none (some (k : Int)) = ((es.take k).map (·.nm)).map V.str := by
          unfold cutV
          rw [HT.sIx_none, HT.sIx_nat, List.length_map, List.length_map, List.drop_zero, Nat.sub_zero, Nat.min_eq_left (by omega), ← List.map_take, ← List.map_take]
        rw [hcut]
        have ep : Ext H3 (upd H3 p (.lst (((es.take k).map (·.nm)).map V.str))) := Ext.upd hp
        have hpp : (upd H3 p (.lst (((es.take k).map (·.nm)).map V.str))) p = some (.lst (((es.take k).map (·.nm)).map V.str)) := upd_same
        have hps : p ≠ st := fun z => by obtain ⟨xs, hx⟩ := I3.nx.st.is; rw [← z, hp] at hx; cases hx
        generalize (upd H3 p (.lst (((es.take k).map (·.nm)).map V.str))) = H7 at ep hpp ⊢
        have I7 := I3.nxt hn1 (Nxt.of I3.nx.st ep)
        obtain ⟨hq7, hB7, hL7⟩ := keepH I7
        -- called
        have wl : Walk (Itl K p) (es.take k).length (fun H => SqL K H p (((es.take k).map (·.nm)).map V.str)) (YAt (((es.take k).map (·.nm)).map V.str)) := by
          have := walk_list (K := K) (a := p) (xs := ((es.take k).map (·.nm)).map V.str)
          rwa [List.length_map, List.length_map] at this
        have htl : (es.take k).length = k := by rw [List.length_take]; omega
        refine ⟨_, rfl, p, rfl, ⟨_, .inl (.inl hpp)⟩, fun D hD => ?_⟩
        have hbe := hL.inp k e he
        refine lcm_filt wl (fun i => decide (dfN es i ∈ e.body.names)) (fun i => .str (dfN es i)) (fun H e => .inl (.inl (e _ _ hpp))) hD (by rw [htl, sizeLine_eq]; omega) (fun i H x H' h => by rw [h.1]; exact Ext.rfl') ?hw (fun i x Ha Hb Qt ea hi hY k2 => ?_) (fun i x Ha Hb Hc Qe ea hi hY ec k2 => ?_) (fun Ha ea hDa => ?_)
        case hw => intro x; rfl
        · obtain ⟨rfl, hx⟩ := hY
          rw [List.getElem?_map, List.getElem?_map] at hx
          obtain ⟨nm, hnmi, rfl⟩ := Option.map_eq_some_iff.mp hx
          obtain ⟨y, hy, rfl⟩ := Option.map_eq_some_iff.mp hnmi
          rw [htl] at hi
          rw [List.getElem?_take_of_lt hi] at hy
          refine ⟨_, rfl, _, rfl, q, _, 2, .ref B, rfl, rfl, .inl (.inl (ea _ _ hq7)), rfl, _, rfl, B, e.bv, rfl, .inl ⟨_, .inr e.nm, .inl (ea _ _ hB7), rfl, (valV_map (g := fun e : Ent => e.bv) hL.nd he).symm⟩, e.bv, e.body, rfl, LT.fx (Fx.of ea) (hL7.lt e (List.mem_of_getElem? he)), hbe.dep, hbe.size, fun l4 H9 e9 nl4 hl4 => ⟨l4, _, rfl, .inl (.inl (.inl hl4)), rfl, flat_strs, _, rfl, ?_⟩⟩
          show Qt (inV (.str y.nm) (e.body.names.map V.str)) H9
          rw [inV_strs]
          have := k2 H9 e9
          rw [dfN_of hy] at this
          exact this
        · obtain ⟨rfl, hx⟩ := hY
          rw [List.getElem?_map, List.getElem?_map] at hx
          obtain ⟨nm, hnmi, rfl⟩ := Option.map_eq_some_iff.mp hx
          obtain ⟨y, hy, rfl⟩ := Option.map_eq_some_iff.mp hnmi
          rw [htl] at hi
          rw [List.getElem?_take_of_lt hi] at hy
          refine ⟨_, rfl, ?_⟩
          have := k2 _ Ext.rfl'
          rw [dfN_of hy] at this
          exact this
        have Ia := I7.nxt hn1 (Nxt.of I7.nx.st ea)
        obtain ⟨hqa, hBa, hLa⟩ := keepH Ia
        have hDa' : Ha D = some (.lst ((((List.range (es.take k).length).filter fun i => decide (dfN es i ∈ e.body.names)).map (dfN es)).map V.str)) := by
          rw [hDa, List.map_map]
          rfl
        have hpa := ea _ _ hpp
        have hDs : D ≠ st := fun z => by obtain ⟨xs, hx⟩ := I7.nx.st.is; rw [← z, hD] at hx; cases hx
        -- the draw
        obtain ⟨e', he', hn'⟩ := at_nm (es' := qs') Ia.nm he
        have htk : (qs'.take k).map (·.nm) = (es.take k).map (·.nm) := by rw [List.map_take, Ia.nm, ← List.map_take]
        have put : ∀ {Hc : Hp} {x : Addr} {nms : List Str} {Qx : VK}, Nxt K st sc Ha Hc → Hc x = some (.lst (nms.map V.str)) → x ≠ st → nms.length ≤ 6 → (∀ y ∈ nms, y ∈ (es.take k).map (·.nm)) → (∀ v t H9, Nxt K st sc Hc H9 → LT H9 t v → BodyOk n nms 1 t → Qx v H9) → spBody K 3 [.ref st, .int n, .ref x, .int 1] Hc Qx E0 := fun {Hc x nms Qx} nxc hx hxs hle hsub kq =>
          ⟨st, sc, n, x, nms, 1, rfl, by decide, nxc.st, hn, hx, hxs, hle, fun y hy => okN y (by have := hsub y hy; rw [List.map_take] at this; exact List.mem_of_mem_take this), kq⟩
        have fin : ∀ {Hc H9 : Hp} {nms : List Str} {v : V} {t : T} {u8 u9 : Option V}, Nxt K st sc Ha Hc → Nxt K st sc Hc H9 → LT H9 t v → BodyOk n nms 1 t → (∀ y ∈ nms, y ∈ (es.take k).map (·.nm)) → OtI K st sc n es H B2 R2 (qs'.set k { e' with body := t, bv := v }) (upd H9 B2 (.dK (putK (kvB qs') (.inr e.nm) v))) ∧ H9 B2 = some (.dK (kvB qs')) ∧ (upd H9 B2 (.dK (putK (kvB qs') (.inr e.nm) v))) l = some (.lst ((es.map (·.nm)).map V.str)) := fun {Hc H9 nms v t u8 u9} nxc nx9 hLt hBd hsub => by
          rw [← hn']
          have I9 := (Ia.nxt hn1 nxc).nxt hn1 nx9
          have hb' := I9.lb.inp k e' he'
          have hl9 := nx9.but _ _ (lst_ne I3 hl3).1 (nxc.but _ _ (lst_ne I3 hl3).1 (ea _ _ (ep _ _ hl3)))
          refine ⟨I9.body hst he' hLt ⟨hb'.nm, hBd.ok, fun y hy => by rw [htk]; exact hsub y (hBd.names y hy), Nat.le_trans hBd.dep (by decide), Nat.le_trans hBd.size (by decide)⟩, I9.hB, ?_⟩
          rw [upd_ne (lst_ne I3 hl3).2]
          exact hl9
        have hql : qs'.length ≤ 6 := Ia.lb.le
        have hpsub : ∀ y ∈ (es.take k).map (·.nm), y ∈ (es.take k).map (·.nm) := fun y hy => hy
        have hDsub : ∀ y ∈ ((List.range (es.take k).length).filter fun i => decide (dfN es i ∈ e.body.names)).map (dfN es), y ∈ (es.take k).map (·.nm) := fun y hy => by
          obtain ⟨j, hj, rfl⟩ := List.mem_map.mp hy
          have hj := List.mem_range.mp (List.mem_filter.mp hj).1
          rw [htl] at hj
          have hej : es[j]? = some es[j] := List.getElem?_eq_getElem (by omega)
          rw [dfN_of hej]
          exact List.mem_map_of_mem (List.mem_of_getElem? (i := j) (by rw [List.getElem?_take_of_lt hj]; exact hej))
        have hDlen : (((List.range (es.take k).length).filter fun i => decide (dfN es i ∈ e.body.names)).map (dfN es)).length ≤ 6 := by
          have := List.length_filter_le (fun i => decide (dfN es i ∈ e.body.names)) (List.range (es.take k).length)
          rw [List.length_range] at this
          rw [List.length_map]
          omega
        refine ⟨_, rfl, _, rfl, q, _, 0, .int n, rfl, rfl, .inl (.inl hqa), rfl, _, rfl, st, sc, 4, rfl, Ia.nx.st, by decide, fun r4 Hc s0 s1 nxc => ⟨_, _, rfl, rfl, _, rfl, ite2 (fun h => ?_) fun h => ?_⟩⟩
        · refine ⟨_, rfl, put nxc (nxc.but _ _ hDs hDa') hDs hDlen hDsub fun v t H9 nx9 hLt hBd => ?_⟩
          obtain ⟨f1, f2, f3⟩ := fin (u8 := none) (u9 := none) nxc nx9 hLt hBd hDsub
          exact ⟨_, rfl, _, rfl, B2, _, rfl, .inl ⟨_, .inr e.nm, f2, rfl, by unfold kvB; rw [List.length_map, sizeLine_eq]; omega, rfl⟩, ⟨_, _, _, _, rfl⟩, f3, _, f1⟩
        · refine ⟨_, rfl, put nxc (nxc.but _ _ hps hpa) hps (by rw [List.length_map]; omega) hpsub fun v t H9 nx9 hLt hBd => ?_⟩
          obtain ⟨f1, f2, f3⟩ := fin (u8 := none) (u9 := none) nxc nx9 hLt hBd hpsub
          exact ⟨_, rfl, _, rfl, B2, _, rfl, .inl ⟨_, .inr e.nm, f2, rfl, by unfold kvB; rw [List.length_map, sizeLine_eq]; omega, rfl⟩, ⟨_, _, _, _, rfl⟩, f3, _, f1⟩
      · obtain ⟨u4, u7, u8, u9, rfl⟩ := hσ
        have done : ∀ {Hx : Hp} {qx : List Ent} {t : Addr}, OtI K st sc n es H B2 R2 qx Hx → Hx t = none → Q (.ref t) (upd Hx t (.tup [.int (n : Nat), .ref R2, .ref B2])) := fun {Hx qx t} I ht =>
          have ex : Ext Hx (upd Hx t (.tup [.int (n : Nat), .ref R2, .ref B2])) := Ext.upd ht
          have I' := I.nxt hn1 (Nxt.of I.nx.st ex)
          kk _ t B2 R2 qx I'.nx upd_same I'.hB I'.hR I'.BR I'.nB I'.nR I'.lb I'.lr I'.nm
        refine ⟨_, rfl, st, sc, 6, rfl, I.nx.st, by decide, fun r5 H6 _ _ nx6 => ⟨rfl, _, rfl, ite2 (fun h => ?_) fun h => ?_⟩⟩
        · have I6 := I.nxt hn1 nx6
          obtain ⟨hq6, _, _⟩ := keepH I6
          have hl6 := nx6.but _ _ (lst_ne I hl').1 hl'
          refine ⟨_, rfl, q, _, 0, .int n, rfl, rfl, .inl (.inl hq6), rfl, n, rfl, RgOk.of_le (by omega) (by omega) (by omega) (by omega), fun t ht => ?_⟩
          have et : Ext H6 (upd H6 t (.tup (rgV 0 n))) := Ext.upd ht
          have htt : (upd H6 t (.tup (rgV 0 n))) t = some (.tup (rgV 0 n)) := upd_same
          generalize (upd H6 t (.tup (rgV 0 n))) = H7 at et htt ⊢
          have I7 := I6.nxt hn1 (Nxt.of I6.nx.st et)
          have hlen : qs'.length = es.length := by have := congrArg List.length I7.nm; rwa [List.length_map, List.length_map] at this
          obtain ⟨e0, he0⟩ : ∃ e, qs'[0]? = some e := ⟨qs'[0], List.getElem?_eq_getElem (by omega)⟩
          obtain ⟨p0, hp0, us, hus, hul, _⟩ := I7.lr.at_ e0 (List.mem_of_getElem? he0)
          have hrl := (I7.lr.ok e0 (List.mem_of_getElem? he0)).1
          have hat : atI ((es.map (·.nm)).map V.str) 0 = some (.str e0.nm) := by
            unfold atI ixN
            rw [if_pos (by decide), if_pos (by rw [List.length_map, List.length_map]; omega)]
            show ((es.map (·.nm)).map V.str)[0]? = _
            rw [← I7.nm, List.getElem?_map, List.getElem?_map, he0]
            rfl
          refine ⟨_, rfl, _, rfl, l, _, 0, .str e0.nm, rfl, rfl, .inl (.inl (et _ _ hl6)), hat, R2, .ref p0, rfl, .inl ⟨_, .inr e0.nm, .inl I7.hR, rfl, by rw [← hp0]; exact (valV_map (g := fun e : Ent => e.cv) I7.lb.nd he0).symm⟩, p0, us, 0, 0, rfl, rfl, hus, by unfold ixN; rw [if_pos (by decide), if_pos (by omega)]; rfl, ?_⟩
          have okr : OkRow n ((List.range n).map fun i : Nat => (i : Int)) := by
            refine ⟨by rw [List.length_map, List.length_range]; omega, by rw [List.length_map, List.length_range]; omega, fun i hi => ?_, fun i a b h1 h2 => ?_⟩
            · obtain ⟨j, hj, rfl⟩ := List.mem_map.mp hi
              have := List.mem_range.mp hj
              omega
            · rw [List.getElem?_map] at h1 h2
              obtain ⟨x, hx, rfl⟩ := Option.map_eq_some_iff.mp h1
              obtain ⟨y, hy, rfl⟩ := Option.map_eq_some_iff.mp h2
              have hx := (List.getElem?_eq_some_iff.mp hx).2
              have hy := (List.getElem?_eq_some_iff.mp hy).2
              rw [List.getElem_range] at hx hy
              omega
          have htr : H7 t = some (.tup (((List.range n).map fun i : Nat => (i : Int)).map V.int)) := by
            rw [htt, List.map_map]
            congr 2
            unfold rgV
            rw [show ((n : Int) - 0).toNat = n by omega]
            refine List.map_congr_left fun i _ => ?_
            show V.int (0 + (i : Int)) = V.int (i : Int)
            rw [Int.zero_add]
          have I8 := I7.row hst hn1 he0 hp0 hus htr okr
          obtain ⟨hq8, _, _⟩ := keepH I8
          exact ⟨_, rfl, q, _, 0, .int n, rfl, rfl, .inl (.inl hq8), rfl, _, rfl, _, rfl, (show 3 ≤ sizeLine by decide), fun t' ht' => done I8 ht'⟩
        · have I6 := I.nxt hn1 nx6
          obtain ⟨hq6, _, _⟩ := keepH I6
          exact ⟨_, rfl, q, _, 0, .int n, rfl, rfl, .inl (.inl hq6), rfl, _, rfl, _, rfl, (show 3 ≤ sizeLine by decide), fun t' ht' => done I6 ht'⟩
    refine ⟨_, pss_cons (ps_par rfl scOth.nd (i := 2) (j := 3) rfl rfl (by decide) rfl rfl (pa_cons pe_dnewK (pa_cons pe_dnewK pa_nil)) (by rfl))
      (pss_cons (ps_lock (ps_for PassesOwn.never rfl (pi_keys (pe_ix ix_tup (pv 1) pe_int (fun _ _ => rfl))) (pg_name (i := 4) scOth.nd rfl (by first | exact .inl rfl | exact .inr rfl))
        (pss_one (ps_asg (pe_tup (pa_cons (pe_callTy call_list_of (by rfl) (bn "list" (by decide)) boot_tList (pa_cons (pe_dget (by exact u1) (pe_ix ix_tup (pv 1) pe_int (fun _ _ => rfl)) (pv 4) (fun _ _ => rfl)) pa_nil)) (pa_cons (pe_dget (by exact u1) (pe_ix ix_tup (pv 1) pe_int (fun _ _ => rfl)) (pv 4) (fun _ _ => rfl)) pa_nil)))
          (pg_tup rfl (pgs_cons (pg_sub (pv 2) (pv 4) (set_dict (by exact u1))) (pgs_cons (pg_sub (pv 3) (pv 4) (set_dict (by exact u1))) pgs_nil))))))) h2), ?_⟩
    refine fun R2 hR2 => fun B2 hB2 => ⟨_, _, rfl, ?_⟩
    have hBR2 : B2 ≠ R2 := fun z => by rw [z, upd_same] at hB2; cases hB2
    have nB2 : H B2 = none := by rw [upd_ne hBR2] at hB2; exact hB2
    have e1 : Ext H (upd (upd H R2 (.dK [])) B2 (.dK [])) := (Ext.upd hR2).upd' hB2
    have h1R2 : (upd (upd H R2 (.dK [])) B2 (.dK [])) R2 = some (.dK []) := by rw [upd_ne (Ne.symm hBR2)]; exact upd_same
    have h1B2 : (upd (upd H R2 (.dK [])) B2 (.dK [])) B2 = some (.dK []) := upd_same
    generalize (upd (upd H R2 (.dK [])) B2 (.dK [])) = H1 at e1 h1R2 h1B2 ⊢
    have h1B := e1 _ _ hB
    have hBB2 : B ≠ B2 := fun z => by rw [z, nB2] at hB; cases hB
    have hBR2' : B ≠ R2 := fun z => by rw [z, hR2] at hB; cases hB
    refine ⟨B, _, h1B, trivial, fun ob => ?_⟩
    have f2 : Fx H1 (upd H1 B (.frz ob (.dK (kvB es)))) := fx_lock h1B (fun q => q)
    have h2B : (upd H1 B (.frz ob (.dK (kvB es)))) B = some (.frz ob (.dK (kvB es))) := upd_same
    have h2R2 : (upd H1 B (.frz ob (.dK (kvB es)))) R2 = some (.dK []) := by rw [upd_ne (Ne.symm hBR2')]; exact h1R2
    have h2B2 : (upd H1 B (.frz ob (.dK (kvB es)))) B2 = some (.dK []) := by rw [upd_ne (Ne.symm hBB2)]; exact h1B2
    have k2 : ∀ b o, b ≠ B → H b = some o → (upd H1 B (.frz ob (.dK (kvB es)))) b = some o := fun b o hb h => by rw [upd_ne hb]; exact e1 _ _ h
    have back : ∀ {H' : Hp}, (∀ b o, b ≠ R2 → b ≠ B2 → (upd H1 B (.frz ob (.dK (kvB es)))) b = some o → H' b = some o) → Ext H (upd H' B (.dK (kvB es))) := fun {H'} hk b o h => by
      by_cases hb : b = B
      · subst hb
        rw [upd_same]
        exact hB.symm.trans h
      · rw [upd_ne hb]
        exact hk _ _ (fun z => by rw [z, hR2] at h; cases h) (fun z => by rw [z, nB2] at h; cases h) (by rw [upd_ne hb]; exact e1 _ _ h)
    generalize (upd H1 B (.frz ob (.dK (kvB es)))) = H2 at f2 h2B h2R2 h2B2 k2 back ⊢
    have f02 : Fx H H2 := (Fx.of e1).trans f2
    have q02 := f02 _ _ (show Fixed (.tup _) from trivial) hq
    have wK : Walk (Itk B ob (kvB es)) es.length (fun H' => H' B = some (.frz ob (.dK (kvB es)))) (fun i H' x H'' => H'' = H' ∧ ∃ k v, (kvB es)[i]? = some (k, v) ∧ x = kV k) := by
      have := walk_keys (d := B) (o := ob) (kvs := kvB es)
      unfold kvB at this ⊢
      rwa [List.length_map] at this
    refine ⟨_, rfl, q, _, 2, .ref B, rfl, rfl, .inl (.inl q02), rfl, B, ob, rfl, .inl ⟨_, h2B, for_it wK (fun k σ H' => ∃ qs u4, qs.map Ent.d3 = (es.take k).map Ent.d3 ∧ H' B2 = some (.dK (kvB qs)) ∧ H' R2 = some (.dK (kvC qs)) ∧ LRl H' n qs ∧ (∀ e ∈ qs, ∀ p, e.cv = .ref p → H p = none) ∧ (∀ (i j : Nat) (e e' : Ent) (p : Addr), qs[i]? = some e → qs[j]? = some e' → e.cv = .ref p → e'.cv = .ref p → i = j) ∧ (∀ b o, b ≠ R2 → b ≠ B2 → H2 b = some o → H' b = some o) ∧ σ = [some (.ref st), some (.ref q), some (.ref R2), some (.ref B2), u4, none, none, none, none, none, none]) ⟨[], none, rfl, h2B2, h2R2, ⟨fun e h => by simp at h, fun e h => by simp at h⟩, fun e h => by simp at h, fun i j e e' p h => by simp at h, fun b o _ _ h => h, rfl⟩ (fun i σ H' _ ⟨_, _, _, _, _, _, _, _, hk, _⟩ => hk _ _ hBR2' hBB2 h2B) (fun i x σ H' H'' hi ⟨qs, u4, hd3, hB', hR', hLq, hfr, hdi, hk, hσ⟩ hY => ?_) (fun σ H' ⟨qs, u4, hd3, hB', hR', hLq, hfr, hdi, hk, hσ⟩ => ?_)⟩⟩
    · subst hσ
      obtain ⟨rfl, k', v', hkv, rfl⟩ := hY
      obtain ⟨e, he⟩ : ∃ e, es[i]? = some e := ⟨es[i], List.getElem?_eq_getElem hi⟩
      have : (kvB es)[i]? = some (.inr e.nm, e.bv) := by unfold kvB; rw [List.getElem?_map, he]; rfl
      rw [this] at hkv
      cases hkv
      have hmem := List.mem_of_getElem? he
      obtain ⟨pr, hcv, hrw⟩ := hLR.at_ e hmem
      have hnm : qs.map (·.nm) = (es.take i).map (·.nm) := nm_d3 hd3
      have hnew : e.nm ∉ qs.map (·.nm) := by rw [hnm]; exact not_beforeE hL.nd he
      have hql : qs.length ≤ 6 := by
        have := congrArg List.length hnm
        rw [List.length_map, List.length_map, List.length_take] at this
        omega
      have fk : Fx H2 H'' := fun b o f h => hk b o (fun z => by rw [z, h2R2] at h; cases h; exact f) (fun z => by rw [z, h2B2] at h; cases h; exact f) h
      have pB : pr ≠ B := fun z => by obtain ⟨us, q1, _⟩ := hrw; rw [z, hB] at q1; cases q1
      have kpH : ∀ {b : Addr} {o : HO}, b ≠ B → H b = some o → H'' b = some o := fun hb h => hk _ _ (fun z => by rw [z, hR2] at h; cases h) (fun z => by rw [z, nB2] at h; cases h) (k2 _ _ hb h)
      obtain ⟨us, hus, hul, hu⟩ := hrw.keep (H' := H'') (fun o ho => kpH pB ho) (f02.trans fk)
      have hRd := kpH hRB hR
      have qd := fk _ _ (show Fixed (.tup _) from trivial) q02
      refine ⟨_, rfl, q, _, 1, .ref R, rfl, rfl, .inl (.inl qd), rfl, _, rfl, R, .ref pr, rfl, .inl ⟨_, .inr e.nm, .inl hRd, rfl, by rw [← hcv]; exact (valV_map (g := fun e => e.cv) hL.nd he).symm⟩, pr, us, rfl, .inl (.inl (.inl hus)), fun lr hlr => ?_⟩
      have e3 : Ext H'' (upd H'' lr (.lst us)) := Ext.upd hlr
      have h3l : (upd H'' lr (.lst us)) lr = some (.lst us) := upd_same
      have nlr : H lr = none := by
        cases z : H lr with
        | none => rfl
        | some o =>
          by_cases hb : lr = B
          · have := hk _ _ hBR2' hBB2 h2B
            rw [← hb, hlr] at this
            cases this
          · have := kpH hb z
            rw [hlr] at this
            cases this
      have lR : lr ≠ R2 := fun z => by rw [z, hR'] at hlr; cases hlr
      have lB : lr ≠ B2 := fun z => by rw [z, hB'] at hlr; cases hlr
      generalize (upd H'' lr (.lst us)) = H3 at e3 h3l ⊢
      refine ⟨_, rfl, q, _, 2, .ref B, rfl, rfl, .inl (.inl (e3 _ _ qd)), rfl, _, rfl, B, e.bv, rfl, .inl ⟨_, .inr e.nm, .inr ⟨_, e3 _ _ (hk _ _ hBR2' hBB2 h2B)⟩, rfl, (valV_map (g := fun e => e.bv) hL.nd he).symm⟩, (show 2 ≤ sizeLine by decide), fun tp htp => ?_⟩
      have e4 : Ext H3 (upd H3 tp (.tup [.ref lr, e.bv])) := Ext.upd htp
      refine ⟨tp, _, rfl, .inl (.inl upd_same), rfl, _, _, rfl, ?_⟩
      generalize (upd H3 tp (.tup [.ref lr, e.bv])) = H4 at e4 ⊢
      have e34 := e3.trans e4
      have h4R := e34 _ _ hR'
      have h4B := e34 _ _ hB'
      have h4l := e4 _ _ h3l
      refine ⟨_, rfl, _, rfl, R2, _, rfl, .inl ⟨_, .inr e.nm, h4R, rfl, by unfold kvC; rw [List.length_map, sizeLine_eq]; omega, rfl⟩, _, _, rfl, _, rfl, _, rfl, B2, _, rfl, .inl ⟨_, .inr e.nm, by rw [upd_ne hBR2]; exact h4B, rfl, by unfold kvB; rw [List.length_map, sizeLine_eq]; omega, rfl⟩, rfl, qs ++ [⟨e.nm, e.rows, e.body, [], .ref lr, e.bv, 0⟩], _, ?_, ?_, ?_, ⟨fun x hx => ?_, fun x hx => ?_⟩, fun x hx p hp => ?_, fun a b x y p ha hb hxp hyp => ?_, fun b o h1 h2 h => ?_, rfl⟩
      · rw [List.take_add_one, he, List.map_append, List.map_append, hd3]
        rfl
      · rw [upd_same]
        unfold kvB
        rw [putK_new hnew, List.map_append]
        rfl
      · rw [upd_ne (Ne.symm hBR2), upd_same]
        unfold kvC
        rw [putK_new hnew, List.map_append]
        rfl
      · have f45 : Fx H4 (upd (upd H4 R2 (.dK (putK (kvC qs) (.inr e.nm) (.ref lr)))) B2 (.dK (putK (kvB qs) (.inr e.nm) e.bv))) := (Fx.upd fun u hu => by rw [h4R] at hu; cases hu; exact fun q => q).trans (Fx.upd fun u hu => by rw [upd_ne hBR2, h4B] at hu; cases hu; exact fun q => q)
        have fall : Fx H'' (upd (upd H4 R2 (.dK (putK (kvC qs) (.inr e.nm) (.ref lr)))) B2 (.dK (putK (kvB qs) (.inr e.nm) e.bv))) := (Fx.of e34).trans f45
        rcases List.mem_append.mp hx with h | h
        · obtain ⟨p', a1, a2⟩ := hLq.at_ x h
          refine ⟨p', a1, a2.keep (fun o ho => ?_) fall⟩
          have n1 : p' ≠ R2 := fun z => by obtain ⟨us', q1, _⟩ := a2; rw [z, hR'] at q1; cases q1
          have n2 : p' ≠ B2 := fun z => by obtain ⟨us', q1, _⟩ := a2; rw [z, hB'] at q1; cases q1
          rw [upd_ne n2, upd_ne n1]
          exact e34 _ _ ho
        · rw [List.mem_singleton] at h
          subst h
          refine ⟨lr, rfl, us, by rw [upd_ne lB, upd_ne lR]; exact h4l, hul, fun i u hu' => ?_⟩
          obtain ⟨r, q', b1, b2, b3⟩ := hu i u hu'
          exact ⟨r, q', b1, b2, fall _ _ (show Fixed (.tup _) from trivial) b3⟩
      · rcases List.mem_append.mp hx with h | h
        · exact hLq.ok x h
        · rw [List.mem_singleton] at h
          subst h
          exact hLR.ok e hmem
      · rcases List.mem_append.mp hx with h | h
        · exact hfr x h p hp
        · rw [List.mem_singleton] at h
          subst h
          cases hp
          exact nlr
      · have old : ∀ {a : Nat} {x : Ent}, a < qs.length → (qs ++ [(⟨e.nm, e.rows, e.body, [], .ref lr, e.bv, 0⟩ : Ent)])[a]? = some x → qs[a]? = some x := fun h1 h2 => by rwa [List.getElem?_append_left h1] at h2
        have top : ∀ {a : Nat} {x : Ent}, ¬ a < qs.length → (qs ++ [(⟨e.nm, e.rows, e.body, [], .ref lr, e.bv, 0⟩ : Ent)])[a]? = some x → a = qs.length ∧ x.cv = .ref lr := fun {a x} h1 h2 => by
          have hl := (List.getElem?_eq_some_iff.mp h2).1
          rw [List.length_append, List.length_singleton] at hl
          have : a = qs.length := by omega
          subst this
          rw [List.getElem?_append_right (Nat.le_refl _), Nat.sub_self] at h2
          cases h2
          exact ⟨rfl, rfl⟩
        have clash : ∀ {a : Nat} {x : Ent}, qs[a]? = some x → x.cv = .ref p → p ≠ lr := fun {a x} h1 h2 z => by
          obtain ⟨p', a1, us', a2, _⟩ := hLq.at_ x (List.mem_of_getElem? h1)
          rw [h2] at a1
          cases a1
          rw [z, hlr] at a2
          cases a2
        by_cases hA : a < qs.length
        · by_cases hBb : b < qs.length
          · exact hdi a b x y p (old hA ha) (old hBb hb) hxp hyp
          · obtain ⟨_, q1⟩ := top hBb hb
            rw [q1] at hyp
            cases hyp
            exact absurd rfl (clash (old hA ha) hxp)
        · obtain ⟨q0, q1⟩ := top hA ha
          rw [q1] at hxp
          cases hxp
          by_cases hBb : b < qs.length
          · exact absurd rfl (clash (old hBb hb) hyp)
          · rw [q0, (top hBb hb).1]
      · rw [upd_ne h2, upd_ne h1]
        exact e34 _ _ (hk _ _ h1 h2 h)
    · subst hσ
      rw [List.take_length] at hd3
      have hB9 := hk _ _ hBR2' hBB2 h2B
      refine ⟨hB9, r2 B2 R2 qs u4 _ ⟨Nxt.of hst (back hk), nB2, hR2, hBR2, by rw [upd_ne (Ne.symm hBB2)]; exact hB', by rw [upd_ne (Ne.symm hBR2')]; exact hR', (hL.fx (Fx.of (back hk))).d3 hd3, ⟨fun x hx => ?_, hLq.ok⟩, hfr, hdi, nm_d3 hd3⟩⟩
      obtain ⟨p', a1, a2⟩ := hLq.at_ x hx
      have pn : p' ≠ B := fun z => by obtain ⟨us', q1, _⟩ := a2; rw [z, hB9] at q1; cases q1
      exact ⟨p', a1, a2.keep (fun o ho => by rw [upd_ne pn]; exact ho) (Fx.upd fun u hu => by rw [hB9] at hu; cases hu; exact fun q => q)⟩
end
end MR
end

section
set_option Elab.async false
set_option linter.all false
set_option maxRecDepth 100000
set_option maxHeartbeats 1000000
/-! The law. -/
namespace MR
open PySem PySem.Spec PyProof.Rows L2 LY GW
theorem PG.but {K : PySem.W.Frag} {st : Addr} {sc : Addr × List Int} {cP cC : Addr} {c : Kd → Addr} {H H' : Hp} {n : Nat} {es : List Ent} {a kc kb kr : Addr} (g : PG cP cC c H n es a kc kb kr) (hs : StA K st sc H) (b : But st H H') : PG cP cC c H' n es a kc kb kr := by
  have h : ∀ {x : Addr} {kvs : List (Key × V)}, H x = some (.dK kvs) → H' x = H x := fun {x kvs} hx => (b _ _ (fun z => by obtain ⟨xs, q⟩ := hs.is; rw [← z, hx] at q; cases q) hx).trans hx.symm
  exact g.keep (hs.fx b) (h g.hkc) (h g.hkb) (h g.hkr)
theorem newOk_same {c : Kd → Addr} {H H' : Hp} {n : Nat} {cs cs' : List Chg} {es ws : List Ent} (hd : ws.map Ent.dat = es.map Ent.dat) (h : cs'.map (fun x => (x.nm, x.body)) = cs.map (fun x => (x.nm, x.body))) (hc : ∀ x ∈ cs, CgOk H n es x) (hE : ∀ x ∈ cs', EE c H' x.body x.bv) :
    ∀ x ∈ cs', ∃ k e, e.nm = x.nm ∧ NewOk c H' n ws k e x.body x.bv := fun x hx => by
  have : (x.nm, x.body) ∈ cs.map (fun x => (x.nm, x.body)) := by rw [← h]; exact List.mem_map_of_mem (f := fun x : Chg => (x.nm, x.body)) hx
  obtain ⟨y, hy, e⟩ := List.mem_map.mp this
  simp only [Prod.mk.injEq] at e
  have g := hc y hy
  obtain ⟨k, e', q1, q2, q3, q4⟩ := g.ex
  obtain ⟨i, h1, h2, h3, h4⟩ := at_dat hd q1
  have hnm : (ws.take k).map (·.nm) = (es.take k).map (·.nm) := by rw [List.map_take, map_of_dat hd, ← List.map_take]
  refine ⟨k, i, by rw [h2, q2, e.1], h1, hE x hx, by rw [← e.2]; exact g.ok, by rw [← e.2, hnm]; exact q3, by rw [← e.2]; exact g.dep, by rw [← e.2]; exact g.size, by rw [← e.2, h4]; exact q4⟩
theorem dfL_comm {ws os : List Ent} (h : os.map (·.nm) = ws.map (·.nm)) : dfL os ws = dfL ws os := by
  have hl : os.length = ws.length := by have := congrArg List.length h; rwa [List.length_map, List.length_map] at this
  have h1 : dfF os ws = dfF ws os := by
    funext i
    unfold dfF
    cases os[i]? <;> cases ws[i]? <;> try rfl
    rename_i x y
    show (!(T.beq x.body y.body)) = !(T.beq y.body x.body)
    rw [beq_comm']
  have h2 : dfN os = dfN ws := by
    funext i
    unfold dfN
    rw [h]
  unfold dfL
  rw [h1, h2, hl]
/-- what a turn starts with -/
structure WS2 (K : PySem.W.Frag) (st : Addr) (sc : Addr × List Int) (cP cC : Addr) (c : Kd → Addr) (n : Nat) (es ws : List Ent) (cs : List Chg) (q B R G a kc kb kr : Addr) (H : Hp) : Prop where
  sa : StA K st sc H
  hn : n = 2 ∨ n = 3
  hq : H q = some (.tup [.int n, .ref R, .ref B])
  hB : H B = some (.dK (kvB es))
  hR : H R = some (.dK (kvC es))
  hG : H G = some (.dK (kvG cs))
  RB : R ≠ B
  GB : G ≠ B
  lb : LB H n es
  lr : LRl H n es
  pg : PG cP cC c H n ws a kc kb kr
  dat : ws.map Ent.dat = es.map Ent.dat
  bk : brk ws = none
  cnd : (cs.map (·.nm)).Nodup
  c1 : 1 ≤ cs.length
  c6 : cs.length ≤ 6
  cg : ∀ x ∈ cs, CgOk H n es x
  l1 : 1 ≤ es.length
  l5 : es.length ≤ 5
theorem WS2.nxt {K : PySem.W.Frag} {st : Addr} {sc : Addr × List Int} {cP cC : Addr} {c : Kd → Addr} {n : Nat} {es ws : List Ent} {cs : List Chg} {q B R G a kc kb kr : Addr} {H H' : Hp} (h : WS2 K st sc cP cC c n es ws cs q B R G a kc kb kr H) (x : Nxt K st sc H H') : WS2 K st sc cP cC c n es ws cs q B R G a kc kb kr H' :=
  have f := h.sa.fx x.but
  ⟨x.st, h.hn, f _ _ (show Fixed (.tup _) from trivial) h.hq, x.but _ _ (h.sa.dk h.hB) h.hB, x.but _ _ (h.sa.dk h.hR) h.hR, x.but _ _ (h.sa.dk h.hG) h.hG, h.RB, h.GB, h.lb.fx f, h.lr.but h.sa (by rcases h.hn with z | z <;> omega) x.but, h.pg.but h.sa x.but, h.dat, h.bk, h.cnd, h.c1, h.c6, fun y hy => (h.cg y hy).fx f, h.l1, h.l5⟩
theorem WS2.ext {K : PySem.W.Frag} {st : Addr} {sc : Addr × List Int} {cP cC : Addr} {c : Kd → Addr} {n : Nat} {es ws : List Ent} {cs : List Chg} {q B R G a kc kb kr : Addr} {H H' : Hp} (h : WS2 K st sc cP cC c n es ws cs q B R G a kc kb kr H) (e : Ext H H') : WS2 K st sc cP cC c n es ws cs q B R G a kc kb kr H' := h.nxt (Nxt.of h.sa e)
theorem WS2.lch {K : PySem.W.Frag} {st : Addr} {sc : Addr × List Int} {cP cC : Addr} {c : Kd → Addr} {n : Nat} {es ws : List Ent} {cs : List Chg} {q B R G a kc kb kr : Addr} {H : Hp} (h : WS2 K st sc cP cC c n es ws cs q B R G a kc kb kr H) : ∀ x ∈ cs, LCh H x := fun x hx => ⟨(h.cg x hx).lt, (h.cg x hx).dep, (h.cg x hx).size, fun y hy => by
  obtain ⟨k, e, q1, q2, q3, q4⟩ := (h.cg x hx).ex
  obtain ⟨e', he', rfl⟩ := List.mem_map.mp (q3 y hy)
  obtain ⟨j, hj, ej⟩ := List.getElem_of_mem (List.mem_of_mem_take he')
  exact (h.lb.inp j e' (by rw [← ej]; exact List.getElem?_eq_getElem hj)).nm⟩
section
variable {P : Program} {w : World} {K : PySem.W.Frag} {mg : Str → Option Value} {base : Heap} {cP cC : Addr} {c : Kd → Addr}
abbrev sLaw : Stmt := top 51
abbrev nLaw : List Str := ["script", "draws", "plan", "built", "trees", "turn", "other", "made_other", "due", "name"]
theorem scLaw : FnScope nLaw ["script"] (defScope sLaw) := ⟨rfl, rfl, rfl, by decide +kernel, rfl, by decide +kernel, by decide +kernel⟩
def spLaw (K : PySem.W.Frag) : Sp := fun vs H Q _ => ∃ (sl : Addr) (xs : List Int), vs = [.ref sl] ∧ SqL K H sl (xs.map V.int) ∧ ∀ H', Ext H H' → Q (.bl true) H'
/-- the calls of the law -/
structure OF3 (P : Program) (w : World) (K : PySem.W.Frag) (mg : Str → Option Value) (base : Heap) (cP cC : Addr) (c : Kd → Addr) : Prop where
  cPl : Cal P w K mg base 4 "_law_pool" (spPool K)
  cPn : Cal P w K mg base 8 "_law_drawn_plan" (spPlan K)
  cBu : CalZ P w K mg base 20 "_law_built" (spBuilt cP cC c)
  cTu : Cal P w K mg base 8 "_law_turned" (spTurn K)
  cMC : Cal P w K mg base 10 "_law_made_change" (spMCh c)
  cRv : CalZ P w K mg base 22 "is_rival" (spRv cP cC c)
  cDf : Cal P w K mg base 11 "differing" (spDf cP cC c)
  cOt : Cal P w K mg base 8 "_law_other" (spOth K)
  cLv : Cal P w K mg base 7 "_law_is_rival" spLv
theorem df_strs {es : List Ent} (h : ∀ x ∈ es.map (·.nm), PyData.strOk x = true) {f : Nat → Bool} : ∀ x ∈ ((List.range es.length).filter f).map (dfN es), PyData.strOk x = true := fun x hx => by
  obtain ⟨i, hi, rfl⟩ := List.mem_map.mp hx
  have hi := List.mem_range.mp (List.mem_filter.mp hi).1
  rw [dfN_of (List.getElem?_eq_getElem hi)]
  exact h _ (List.mem_map_of_mem (List.getElem_mem hi))
theorem law_ok {f : Addr} {fd : FuncData} (F : Fun K "law" "law" sLaw f fd) (bn : BN mg) (O : OF3 P w K mg base cP cC c) : FnZ P w K mg base 23 f fd ["script"] (spLaw K) := by
  refine Fun.okZ F (k := 22) scLaw (fun vs H Q E h => ?_) (fun cdv A outer s H vs Q E hr h => ?_)
  · obtain ⟨sl, xs, rfl, _⟩ := h
    rfl
  · obtain ⟨sl, xs, rfl, hs, kk⟩ := h
    have u1 := hu_of hr
    refine ⟨_, pssz_cons (psz_of (ps_asg (pe_slice sl_list (pv 0) po_none (po_some pe_int)) (pg_name (i := 0) scLaw.nd rfl (by first | exact .inl rfl | exact .inr rfl))))
      (pssz_cons (psz_of (ps_asg (pe_c (j := 22) O.cPl hr (by decide) (pa_cons (pv 0) (pa_cons (pe_tup (pa_cons pe_int (pa_cons pe_int pa_nil))) pa_nil))) (pg_name (i := 1) scLaw.nd rfl (by first | exact .inl rfl | exact .inr rfl))))
      (pssz_cons (psz_of (ps_asg (pe_c (j := 22) O.cPn hr (by decide) (pa_cons (pv 1) (pa_cons pe_int (pa_cons pe_int pa_nil)))) (pg_name (i := 2) scLaw.nd rfl (by first | exact .inl rfl | exact .inr rfl))))
      (pssz_cons (psz_par rfl scLaw.nd (i := 3) (j := 4) rfl rfl (by decide) rfl rfl (pez_c (j := 22) O.cBu hr (by decide) (pa_cons (pv 2) pa_nil)) (pez_of (pe_c (j := 22) O.cTu hr (by decide) (pa_cons (pv 1) (pa_cons (pv 2) pa_nil)))) rfl (by rfl))
      (pssz_cons (psz_if (ptz_bool (pallz_or (ptz_cmp op_notBl (pez_c (j := 22) O.cRv hr (by decide) (pa_cons (pv 3) (pa_cons (pe_c (j := 22) O.cMC hr (by decide) (pa_cons (pv 4) pa_nil)) (pa_cons (pv 3) pa_nil)))) (pez_of pe_bl) rfl)
          (pallz_or (ptz_cmp (op_neD (by have := hr.units; exact this)) (pez_of (pe_c (j := 22) O.cDf hr (by decide) (pa_cons (pv 3) (pa_cons (pv 3) pa_nil)))) (pez_of (pe_lst pa_nil)) rfl) pallz_or_nil))) (pssz_of (pss_one (ps_ret pe_bl))) pssz_nil)
      (pssz_cons (psz_for rfl (pi_range1 (by rfl) (bn "range" (by decide)) (pa_cons pe_int pa_nil)) (pg_name (i := 5) scLaw.nd rfl (by first | exact .inl rfl | exact .inr rfl))
        (pssz_cons (psz_of (ps_asg (pe_c (j := 22) O.cOt hr (by decide) (pa_cons (pv 1) (pa_cons (pv 2) pa_nil))) (pg_name (i := 6) scLaw.nd rfl (by first | exact .inl rfl | exact .inr rfl))))
        (pssz_cons (psz_set (i := 7) scLaw.nd rfl (by first | exact .inl rfl | exact .inr rfl) (pez_c (j := 22) O.cBu hr (by decide) (pa_cons (pv 6) pa_nil)))
        (pssz_cons (psz_if (ptz_cmp op_ne (pez_c (j := 22) O.cRv hr (by decide) (pa_cons (pv 3) (pa_cons (pe_c (j := 22) O.cMC hr (by decide) (pa_cons (pv 4) pa_nil)) (pa_cons (pv 7) pa_nil)))) (pez_of (pe_c (j := 22) O.cLv hr (by decide) (pa_cons (pv 2) (pa_cons (pv 4) (pa_cons (pv 6) pa_nil))))) rfl) (pssz_of (pss_one (ps_ret pe_bl))) pssz_nil)
        (pssz_cons (psz_of (ps_lock (ps_setLc (own := [("name", 9)]) (g := gName 9) (tt := tTest (tOp (rNeD K) (tDGet (tOp (rIxT K) (tVar 6) (tC (.int 2))) (tVar 9)) (tDGet (tOp (rIxT K) (tVar 2) (tC (.int 2))) (tVar 9)))) (te := tVar 9) rfl scLaw.nd (i := 8) rfl rfl (sw_true rfl rfl rfl (by decide +kernel)) (pi_keys (pe_ix ix_tup (pv 2) pe_int (fun _ _ => rfl))) (blkOk_by (N := nLaw) (sc := defScope sLaw) (by decide +kernel))
            (fun _ _ _ _ _ => pg_name (i := 9) scLaw.nd rfl (by first | exact .inl rfl | exact .inr rfl)) (fun _ _ _ _ _ => pts_one (pt_cmpR (op_neD (by have := hr.units; exact this)) (pe_dget (by exact u1) (pe_ix ix_tup (pv 6) pe_int (fun _ _ => rfl)) (pv 9) (fun _ _ => rfl)) (pe_dget (by exact u1) (pe_ix ix_tup (pv 2) pe_int (fun _ _ => rfl)) (pv 9) (fun _ _ => rfl)) rfl)) (fun _ _ _ _ _ => pv 9))))
        (pssz_one (psz_of (ps_if (PW.pt (pw_or (pt_cmpR (op_neD (by have := hr.units; exact this)) (pe_c (j := 22) O.cDf hr (by decide) (pa_cons (pv 3) (pa_cons (pv 7) pa_nil))) (pv 8) rfl) (pw_or1 (pt_cmpR (op_neD (by have := hr.units; exact this)) (pe_c (j := 22) O.cDf hr (by decide) (pa_cons (pv 7) (pa_cons (pv 3) pa_nil))) (pv 8) rfl)))) (pss_one (ps_ret pe_bl)) pss_nil))))))))
      (pssz_one (psz_of (ps_ret pe_bl)))))))), ?_⟩
    -- the script's part
    refine ⟨_, rfl, _, rfl, sl, _, rfl, hs, fun p hp => ?_⟩
    have hcut : cutV (xs.map V.int) none (some 63) = (xs.take (min 63 xs.length)).map V.int := by
      unfold cutV
      rw [HT.sIx_none, show (63 : Int) = ((63 : Nat) : Int) from rfl, HT.sIx_nat, List.length_map, List.drop_zero, Nat.sub_zero, ← List.map_take]
    have e1 : Ext H (upd H p (.lst (cutV (xs.map V.int) none (some 63)))) := Ext.upd hp
    have h1p : (upd H p (.lst (cutV (xs.map V.int) none (some 63)))) p = some (.lst ((xs.take (min 63 xs.length)).map V.int)) := by rw [upd_same, hcut]
    generalize (upd H p (.lst (cutV (xs.map V.int) none (some 63)))) = H1 at e1 h1p ⊢
    -- draws
    refine ⟨_, rfl, (show 2 ≤ sizeLine by decide), fun bt hbt => ?_⟩
    have e2 : Ext H1 (upd H1 bt (.tup [.int 1000003, .int 999983])) := Ext.upd hbt
    have h2b : (upd H1 bt (.tup [.int 1000003, .int 999983])) bt = some (.tup [.int 1000003, .int 999983]) := upd_same
    generalize (upd H1 bt (.tup [.int 1000003, .int 999983])) = H2 at e2 h2b ⊢
    refine ⟨p, bt, _, rfl, .inl (.inl (e2 _ _ h1p)), h2b, fun H3 st zs e3 nst hst3 hz => ?_⟩
    have e03 := (e1.trans e2).trans e3
    have nst0 : H st = none := none_of (e1.trans e2) nst
    let sc : Addr × List Int := (0, [])
    have sa3 : StA K st sc H3 := ⟨zs, hst3, by omega⟩
    have kk' : ∀ {H' : Hp}, Nxt K st sc H3 H' → Q (.bl true) H' := fun {H'} nx => kk H' fun b o h => nx.but _ _ (fun z => by rw [z, nst0] at h; cases h) (e03 _ _ h)
    -- plan
    refine ⟨_, rfl, st, sc, 4, rfl, sa3, by decide, by decide, fun H4 q B R n es nx4 hn hq hB hR hBR nB nR hL hLR hRt hbk hfn h1 h4 => ?_⟩
    have hn1 : 1 ≤ n := by rcases hn with z | z <;> omega
    -- built, trees
    refine ⟨_, rfl, q, B, R, n, es, rfl, hq, hn, hB, hR, hBR, hL, hLR, h1, fun H5 ws a kc kb kr e5 na nkc nkb nkr hdat pg => ?_⟩
    have sa5 := nx4.st.ext e5
    refine ⟨_, rfl, _, rfl, st, sc, q, B, R, n, es, rfl, sa5, hn, e5 _ _ hq, e5 _ _ hB, hL.fx (Fx.of e5), h1, fun H6 G cs nx6 nG hG hc1 hcnd hc6 hcg => ?_⟩
    have hbw : brk ws = none := by rw [brk_one (same_all pg.right hRt hdat)]; exact hbk
    have f56 := sa5.fx nx6.but
    have hGB : G ≠ B := fun z => by have := e5 _ _ hB; rw [← z, nG] at this; cases this
    have nx36 : Nxt K st sc H3 H6 := (nx4.ext e5).trans nx6
    have W : WS2 K st sc cP cC c n es ws cs q B R G a kc kb kr H6 := ⟨nx6.st, hn, f56 _ _ (show Fixed (.tup _) from trivial) (e5 _ _ hq), nx6.but _ _ (sa5.dk (e5 _ _ hB)) (e5 _ _ hB), nx6.but _ _ (sa5.dk (e5 _ _ hR)) (e5 _ _ hR), hG, Ne.symm hBR, hGB, (hL.fx (Fx.of e5)).fx f56, (hLR.ext e5).but sa5 hn1 nx6.but, pg.but sa5 nx6.but, hdat, hbw, hcnd, hc1, hc6, hcg, h1, Nat.le_trans h4 (by decide)⟩
    clear hcg hc6 hcnd hc1 hG nG f56
    have hwl : ws.length = es.length := by have := congrArg List.length hdat; rwa [List.length_map, List.length_map] at this
    -- is_rival
    refine ⟨_, rfl, _, rfl, G, cs, rfl, W.hG, W.cnd, W.c6, W.lch, fun H7 X cs' e7 nX hX hmap hEE => ?_⟩
    have W7 := W.ext e7
    have hcl : cs'.length = cs.length := by have := congrArg List.length hmap; rwa [List.length_map, List.length_map] at this
    have ne7 : ∀ {b : Addr} {o : HO}, H6 b = some o → X ≠ b := fun h z => by rw [← z, nX] at h; cases h
    refine ⟨_, rfl, n, ws, a, kc, kb, kr, X, cs', ws, a, kc, kb, kr, rfl, W7.pg, W7.pg, hX, ne7 W.pg.hkc, ne7 W.pg.hkb, ne7 W.pg.hkr, by rw [hcl]; exact W.c1, by rw [hcl]; exact W.c6, by rw [hwl]; exact h1, newOk_same W.dat hmap W.cg hEE, W.bk, fun H8 e8 => ⟨_, _, rfl, rfl, _, rfl, iteFb (by rw [riv_self (es := ws) (os := ws) hbw fun _ _ => trivial]; rfl) ?_⟩⟩
    have W8 := W7.ext e8
    -- differing
    refine ⟨_, rfl, _, rfl, n, ws, a, kc, kb, kr, n, ws, a, kc, kb, kr, rfl, W8.pg, W8.pg, rfl, fun H9 dl e9 ndl hdl => ⟨(show 0 ≤ sizeLine by decide), fun l0 hl0 => ?_⟩⟩
    have W9 := W8.ext e9
    rw [df_self (es := ws)] at hdl
    have e10 : Ext H9 (upd H9 l0 (.lst [])) := Ext.upd hl0
    have h100 : (upd H9 l0 (.lst [])) l0 = some (.lst (([] : List Str).map V.str)) := upd_same
    generalize (upd H9 l0 (.lst [])) = H10 at e10 h100 ⊢
    have W10 := W9.ext e10
    have sd : ∀ x ∈ ([] : List Str), PyData.strOk x = true := fun x h => by simp at h
    refine ⟨_, _, .lst (.inl (.inl (e10 _ _ hdl))) Dp.strs, .lst (.inl (.inl h100)) Dp.strs, shaped_strs sd, shaped_strs sd, _, rfl, iteFb (by rw [eqv_strs sd sd, decide_eq_true rfl]; rfl) ?_⟩
    refine iteFb (b := false) rfl ?_
    have nx310 : Nxt K st sc H3 H10 := nx36.ext (((e7.trans e8).trans e9).trans e10)
    clear W W7 W8 W9 hdl h100 e7 e8 e9 e10
    -- turns
    refine ⟨8, rfl, by decide, by decide, for_range (lo := 0) (n := 8) (fun i σ H' => (∃ u5 u6 u7 u8, σ = [some (.ref p), some (.ref st), some (.ref q), some (.ref a), some (.ref G), u5, u6, u7, u8, none]) ∧ Nxt K st sc H10 H') ⟨⟨_, _, _, _, rfl⟩, Nxt.of W10.sa Ext.rfl'⟩ (fun i σ H' hi ⟨hσ, nx⟩ => ?_) (fun σ H' ⟨hσ, nx⟩ => kk' (nx310.trans nx))⟩
    obtain ⟨u5, u6, u7, u8, rfl⟩ := hσ
    have V0 := W10.nxt nx
    refine ⟨_, rfl, _, rfl, st, sc, q, B, R, n, es, rfl, V0.sa, hn, V0.hq, V0.hB, V0.hR, V0.RB, V0.lb, V0.lr, h1, V0.l5, fun Ha q2 B2 R2 qs nxa hq2 hB2 hR2 hBR2 nB2 nR2 hL2 hLR2 hnm => ?_⟩
    have V1 := V0.nxt nxa
    have hqlen : qs.length = es.length := by have := congrArg List.length hnm; rwa [List.length_map, List.length_map] at this
    refine ⟨_, rfl, q2, B2, R2, n, qs, rfl, hq2, hn, hB2, hR2, hBR2, hL2, hLR2, by omega, fun Hb os a2 kc2 kb2 kr2 eb na2 nkc2 nkb2 nkr2 hdat2 pg2 => ?_⟩
    have V2 := V1.ext eb
    refine ⟨_, rfl, _, rfl, G, cs, rfl, V2.hG, V2.cnd, V2.c6, V2.lch, fun Hc X2 cs2 ec nX2 hX2 hmap2 hEE2 => ?_⟩
    have V3 := V2.ext ec
    have pg3 := pg2.ext ec
    have hcl2 : cs2.length = cs.length := by have := congrArg List.length hmap2; rwa [List.length_map, List.length_map] at this
    have ne3 : ∀ {b : Addr} {o : HO}, Hb b = some o → X2 ≠ b := fun h z => by rw [← z, nX2] at h; cases h
    refine ⟨_, rfl, n, ws, a, kc, kb, kr, X2, cs2, os, a2, kc2, kb2, kr2, rfl, V3.pg, pg3, hX2, ne3 V2.pg.hkc, ne3 V2.pg.hkb, ne3 V2.pg.hkr, by rw [hcl2]; exact V2.c1, by rw [hcl2]; exact V2.c6, by rw [hwl]; exact h1, newOk_same V2.dat hmap2 V2.cg hEE2, V2.bk, fun Hd ed => ?_⟩
    have V4 := V3.ext ed
    have pg4 := pg3.ext ed
    have ebd := (eb.trans ec).trans ed
    have dB2 : B2 ≠ B := fun z => by have := V0.hB; rw [← z, nB2] at this; cases this
    have dR2 : R2 ≠ R := fun z => by have := V0.hR; rw [← z, nR2] at this; cases this
    refine ⟨_, rfl, _, rfl, _, rfl, q, q2, G, B, R, B2, R2, n, es, cs, qs, rfl, hn, V4.hq, ebd _ _ hq2, V4.hB, V4.hR, V4.hG, ebd _ _ hB2, ebd _ _ hR2, dR2, dB2, V4.GB, hBR2, V4.lb, V4.lr, hL2.fx (Fx.of ebd), hLR2.ext ebd, hnm, fun b He ee hb => ⟨rfl, _, rfl, iteFb (b := !decide (V.bl (rivB cs2 ws os) = V.bl b)) ?_ ?_⟩⟩
    · rw [hb os hdat2 pg2.right, riv_law V4.dat hdat2 hmap2, decide_eq_true rfl]
      rfl
    have V5 := V4.ext ee
    have pg5 := pg4.ext ee
    have ebe := ebd.trans ee
    have q25 := ebe _ _ hq2
    have hB25 := ebe _ _ hB2
    have hL25 := hL2.fx (Fx.of ebe)
    -- due
    refine ⟨B, _, V5.hB, trivial, fun ob => ?_⟩
    have h6B : (upd He B (.frz ob (.dK (kvB es)))) B = some (.frz ob (.dK (kvB es))) := upd_same
    have k6 : ∀ b o, b ≠ B → He b = some o → (upd He B (.frz ob (.dK (kvB es)))) b = some o := fun b o hb h => by rw [upd_ne hb]; exact h
    have back6 : ∀ {H2 : Hp}, Ext (upd He B (.frz ob (.dK (kvB es)))) H2 → Ext He (upd H2 B (.dK (kvB es))) := fun e => upd_back V5.hB e
    have f6 : Fx He (upd He B (.frz ob (.dK (kvB es)))) := fx_lock V5.hB (fun q => q)
    generalize (upd He B (.frz ob (.dK (kvB es)))) = Hf at h6B k6 back6 f6 ⊢
    have q6 := f6 _ _ (show Fixed (.tup _) from trivial) V5.hq
    have q26 := f6 _ _ (show Fixed (.tup _) from trivial) q25
    have hB26 := k6 _ _ dB2 hB25
    have wB : Walk (Itk B ob (kvB es)) es.length (fun H' => H' B = some (.frz ob (.dK (kvB es)))) (fun i H' x H'' => H'' = H' ∧ ∃ k v, (kvB es)[i]? = some (k, v) ∧ x = kV k) := by
      have := walk_keys (d := B) (o := ob) (kvs := kvB es)
      unfold kvB at this ⊢
      rwa [List.length_map] at this
    refine ⟨_, rfl, q, _, 2, .ref B, rfl, rfl, .inl (.inl q6), rfl, B, ob, rfl, .inl ⟨_, h6B, fun Dl hDl => ?_⟩⟩
    refine lcm_filt wB (dfF qs es) (fun i => .str (dfN es i)) (fun H e => e _ _ h6B) hDl (by rw [sizeLine_eq]; have := V5.l5; omega) (fun i H x H' h => by rw [h.1]; exact Ext.rfl') ?hw (fun i x Hg Hh Qt eg hi hY k2 => ?_) (fun i x Hg Hh Hi Qe eg hi hY eh k2 => ?_) (fun Hg eg hDg => ?_)
    case hw => intro x; rfl
    · obtain ⟨rfl, k', v', hkv, rfl⟩ := hY
      obtain ⟨e, he⟩ : ∃ e, es[i]? = some e := ⟨es[i], List.getElem?_eq_getElem hi⟩
      have : (kvB es)[i]? = some (.inr e.nm, e.bv) := by unfold kvB; rw [List.getElem?_map, he]; rfl
      rw [this] at hkv
      cases hkv
      obtain ⟨z, hz, hzn⟩ := at_nm hnm he
      have hbe := V5.lb.inp i e he
      have hbq := hL25.inp i z hz
      have oke : ∀ x ∈ e.body.names, PyData.strOk x = true := fun x hx => ok_str (V5.lb.okn he x hx)
      have okq : ∀ x ∈ z.body.names, PyData.strOk x = true := fun x hx => ok_str (hL25.okn hz x hx)
      have hvB : valV (kvB es) (.inr e.nm) = some e.bv := valV_map (g := fun e : Ent => e.bv) V5.lb.nd he
      have hvQ : valV (kvB qs) (.inr e.nm) = some z.bv := by rw [← hzn]; exact valV_map (g := fun e : Ent => e.bv) hL25.nd hz
      have fx := f6.trans (Fx.of eg)
      have hLe := LT.fx fx (V5.lb.lt e (List.mem_of_getElem? he))
      have hLq := LT.fx fx (hL25.lt z (List.mem_of_getElem? hz))
      have hff : dfF qs es i = !(T.beq z.body e.body) := by unfold dfF; rw [he, hz]
      refine ⟨_, rfl, q2, _, 2, .ref B2, rfl, rfl, .inl (.inl (eg _ _ q26)), rfl, _, rfl, B2, z.bv, rfl, .inl ⟨_, .inr e.nm, .inl (eg _ _ hB26), rfl, hvQ.symm⟩, _, rfl, q, _, 2, .ref B, rfl, rfl, .inl (.inl (eg _ _ q6)), rfl, _, rfl, B, e.bv, rfl, .inl ⟨_, .inr e.nm, .inr ⟨_, eg _ _ h6B⟩, rfl, hvB.symm⟩, z.body.dB, e.body.dB, LT.dp hLq, LT.dp hLe, shaped_dB okq hbq.dep, shaped_dB oke hbe.dep, _, rfl, ?_⟩
      rw [eqv_dB hbq.ok hbe.ok okq oke, ← hff]
      exact k2 _ Ext.rfl'
    · obtain ⟨rfl, k', v', hkv, rfl⟩ := hY
      obtain ⟨e, he⟩ : ∃ e, es[i]? = some e := ⟨es[i], List.getElem?_eq_getElem hi⟩
      have : (kvB es)[i]? = some (.inr e.nm, e.bv) := by unfold kvB; rw [List.getElem?_map, he]; rfl
      rw [this] at hkv
      cases hkv
      refine ⟨_, rfl, ?_⟩
      have := k2 _ Ext.rfl'
      rw [dfN_of he] at this
      exact this
    refine ⟨eg _ _ h6B, ?_⟩
    have eU := back6 eg
    have hDB : Dl ≠ B := fun z => by rw [z, h6B] at hDl; cases hDl
    have hU : (upd Hg B (.dK (kvB es))) Dl = some (.lst ((((List.range es.length).filter (dfF qs es)).map (dfN es)).map V.str)) := by
      rw [upd_ne hDB, hDg, List.map_map]
      rfl
    generalize (upd Hg B (.dK (kvB es))) = Hj at eU hU ⊢
    have V6 := V5.ext eU
    have pg6 := pg5.ext eU
    have sdd := df_strs (f := dfF qs es) V6.lb.strs
    have hnm2 : os.map (·.nm) = ws.map (·.nm) := by rw [map_of_dat hdat2, map_of_dat V6.dat, hnm]
    -- differing, both ways
    refine ⟨_, rfl, _, rfl, n, ws, a, kc, kb, kr, n, os, a2, kc2, kb2, kr2, rfl, V6.pg, pg6, hnm2, fun Hk dl1 ek ndl1 hdl1 => ⟨_, rfl, ?_⟩⟩
    rw [df_law V6.dat hdat2] at hdl1
    have hU2 := ek _ _ hU
    refine ⟨_, _, .lst (.inl (.inl hdl1)) Dp.strs, .lst (.inl (.inl hU2)) Dp.strs, shaped_strs sdd, shaped_strs sdd, _, rfl, iteFb (by rw [eqv_strs sdd sdd, decide_eq_true rfl]; rfl) ?_⟩
    have V7 := V6.ext ek
    have pg7 := pg6.ext ek
    refine ⟨_, rfl, _, rfl, n, os, a2, kc2, kb2, kr2, n, ws, a, kc, kb, kr, rfl, pg7, V7.pg, hnm2.symm, fun Hl dl2 el ndl2 hdl2 => ⟨_, rfl, ?_⟩⟩
    rw [dfL_comm hnm2, df_law V7.dat hdat2] at hdl2
    refine ⟨_, _, .lst (.inl (.inl hdl2)) Dp.strs, .lst (.inl (.inl (el _ _ hU2))) Dp.strs, shaped_strs sdd, shaped_strs sdd, _, rfl, iteFb (by rw [eqv_strs sdd sdd, decide_eq_true rfl]; rfl) ?_⟩
    exact ⟨⟨_, _, _, _, rfl⟩, (nx.trans nxa).ext (((ebe.trans eU).trans ek).trans el)⟩
end
end MR
end

section
set_option Elab.async false
set_option linter.all false
set_option maxRecDepth 100000
set_option maxHeartbeats 1000000
/-! All the defs together: from what the top has left to the law's promise. -/
namespace MR
open PySem PySem.Spec PyProof.Rows L2 LY GW NM
/-- a name of the module that stands for an object -/
def ga (K : PySem.W.Frag) (x : Str) : Addr := match PySem.W.nsIn K mainGlobals x with
  | some (some (.ref a)) => a
  | _ => 0
theorem ga_of {K : PySem.W.Frag} {x : Str} {a : Addr} (h : PySem.W.nsIn K mainGlobals x = some (some (.ref a))) : ga K x = a := by
  unfold ga
  rw [h]
def cD (K : PySem.W.Frag) (k : Kd) : Addr := ga K (kName k)
def qInit : Kd → Str
  | .const => "Const.__init__"
  | .arg => "Arg.__init__"
  | .call => "Call.__init__"
  | .choose => "Choose.__init__"
def sInitS : Kd → Stmt
  | .const => sConstI
  | .arg => sArgI
  | .call => sCallI
  | .choose => sChooseI
def GN (K : PySem.W.Frag) (x : Str) : Prop := PySem.W.nsIn K mainGlobals x = some (some (.ref (ga K x)))
/-- a def of the module -/
structure GF (K : PySem.W.Frag) (x : Str) (st : Stmt) : Prop where
  at_ : GN K x
  fn : ∃ fd, Fun K x x st (ga K x) fd
/-- a method of a class -/
def MF (K : PySem.W.Frag) (C : Addr) (m qual : Str) (st : Stmt) : Prop := ∃ f fd, Meth K C m f ∧ Fun K m qual st f fd
/-- a property of a class -/
def RF (K : PySem.W.Frag) (C : Addr) (m qual : Str) (st : Stmt) : Prop := ∃ p g fd, PropOf K C m p g ∧ Fun K m qual st g fd
/-- what the top has left -/
structure TopF (K : PySem.W.Frag) (P : Program) : Prop where
  nE : GN K "Expression"
  nk : ∀ k, GN K (kName k)
  nC : GN K "Contract"
  nP : GN K "Program"
  bl : ∀ x ∈ bnames, PySem.W.nsIn K mainGlobals x = some none
  sz : ∃ aS, PySem.W.nsIn K mainGlobals "SIZES" = some (some (.ref aS)) ∧ ∀ H, SqT K H aS [.int 2, .int 3]
  lng : ∃ tk, PySem.W.nsIn K mainGlobals "LONGEST" = some (some (.int 8 tk))
  mst : ∃ tk, PySem.W.nsIn K mainGlobals "MOST_FUNCTIONS" = some (some (.int 6 tk))
  cf : CF K (cD K) (ga K "Expression")
  kf : KF K (ga K "Contract")
  pf : PF K (ga K "Program")
  es : ∃ p g fd, (∀ k, PropOf K (cD K k) "size" p g) ∧ Fun K "size" "Expression.size" sESize g fd
  ec : ∃ p g fd, (∀ k, PropOf K (cD K k) "calls" p g) ∧ Fun K "calls" "Expression.calls" sECalls g fd
  em : ∃ mc, ClX.CRead K (ga K "Expression") mc ∧ ∃ tk, ClX.CVal K (ga K "Expression") mc "MOST" (.int 60) (.int 60 tk)
  ei : ∃ g fd, Fun K "__init__" "Expression.__init__" sEInit g fd ∧ ∀ k, SupM K (cD K k) (cD K k) "__init__" g
  en : ∃ g fd, Fun K "nodes" "Expression.nodes" sNodes g fd ∧ ∀ k, Meth K (cD K k) "nodes" g
  ki : ∀ k, ∃ f fd cc, FunS P K "__init__" (qInit k) (sInitS k) f fd cc (cD K k) ∧ Mk K (cD K k) f
  kq : ∀ k, ∃ f fd, Fun K "__eq__" (qEq k) (sEqS k) f fd ∧ PySem.W.findIn K (.ref (cD K k)) "__eq__" = some (some (.ref f)) ∧ PySem.W.isFn K (.ref f) = true ∧ PySem.W.findIn K (.ref (cD K k)) "__ne__" = some (some (.builtin "object.__ne__"))
  kv : ∀ k, ∃ f fd, Fun K "value" (qVal k) (sVal k) f fd ∧ Meth K (cD K k) "value" f
  ci : ∃ f fd, Fun K "__init__" "Contract.__init__" sCInit f fd ∧ Mk K (ga K "Contract") f
  cq : ∃ f fd, Fun K "__eq__" "Contract.__eq__" sCEq f fd ∧ PySem.W.findIn K (.ref (ga K "Contract")) "__eq__" = some (some (.ref f)) ∧ PySem.W.isFn K (.ref f) = true
  cs : RF K (ga K "Contract") "size" "Contract.size" sCSize
  cr : RF K (ga K "Contract") "rows" "Contract.rows" sCRows
  pi : ∃ f fd, Fun K "__init__" "Program.__init__" sPInit f fd ∧ Mk K (ga K "Program") f
  pq : ∃ f fd, Fun K "__eq__" "Program.__eq__" sPEq f fd ∧ PySem.W.findIn K (.ref (ga K "Program")) "__eq__" = some (some (.ref f)) ∧ PySem.W.isFn K (.ref f) = true
  ps : RF K (ga K "Program") "size" "Program.size" sPSize
  pn : RF K (ga K "Program") "names" "Program.names" sPNames
  pk : RF K (ga K "Program") "kept" "Program.kept" sPKept
  mc : MF K (ga K "Program") "contract" "Program.contract" sPContract
  mb : MF K (ga K "Program") "body" "Program.body" sPBody
  mr : MF K (ga K "Program") "results" "Program.results" sPResults
  ml : MF K (ga K "Program") "places" "Program.places" sPlaces
  mg : MF K (ga K "Program") "changed" "Program.changed" sPChg
  mn : MF K (ga K "Program") "_is_new_body" "Program._is_new_body" sPNew
  mh : MF K (ga K "Program") "_has" "Program._has" sPHas
  mck : MF K (ga K "Program") "_check_name" "Program._check_name" sPCheck
  mf : MF K (ga K "Program") "_first_broken" "Program._first_broken" sFB
  isValue : GF K "is_value" sIsValue
  isSize : GF K "is_size" sIsSize
  isName : GF K "is_name" sIsName
  isPoss : GF K "is_possible" sIsPoss
  isRow : GF K "is_row" sIsRow
  isFunc : GF K "is_function" sIsFunc
  abs_ : PySem.W.nsIn K mainGlobals "abs" = some none
  draw : GF K "_law_draw" sDraw
  cellAt : GF K "_law_cell_at" sCellAt
  digits : GF K "_law_digits" sDigits
  take : GF K "_law_take" sTake
  pool : GF K "_law_pool" sPool
  body : GF K "_law_drawn_tree" sBody
  made : GF K "_law_made" sMade
  called : GF K "_law_called" sCalled
  worth : GF K "_law_value" sWorth
  tables : GF K "_law_tables" sTables
  plan : GF K "_law_drawn_plan" sPlan
  built : GF K "_law_built" sBuilt
  turned : GF K "_law_turned" sTurn
  mch : GF K "_law_made_change" sMCh
  fbr : GF K "_law_first_broken" sFBr
  cne : PySem.W.findIn K (.ref (ga K "Contract")) "__ne__" = some (some (.builtin "object.__ne__"))
  ckP : GF K "check_program" sCkP
  chP : GF K "changed_program" sChP
  rv : GF K "is_rival" sRv
  cb : GF K "could_be" sCB
  df : GF K "differing" sDf
  lrv : GF K "_law_is_rival" sLv
  oth : GF K "_law_other" sOth
  law : GF K "law" sLaw
section
variable {P : Program} {w : World} {K : PySem.W.Frag} {mg : Str → Option Value} {base : Heap}
theorem law_of (T : TopF K P) (hv : ∀ x v, PySem.W.nsIn K mainGlobals x = some (some v) → mg x = some v) (hn : ∀ x, PySem.W.nsIn K mainGlobals x = some none → mg x = none) :
    ∃ fd, Fun K "law" "law" sLaw (ga K "law") fd ∧ FnZ P w K mg base 23 (ga K "law") fd ["script"] (spLaw K) := by
  have bn : BN mg := fun x hx => hn x (T.bl x hx)
  -- a def of the module, under its name
  have cal : ∀ {x : Str} {st : Stmt} {k : Nat} {ps : List Str} {sp : Sp} {fd : FuncData}, GF K x st → Fun K x x st (ga K x) fd → Binds K fd ps [] → FnOk P w K mg base CX0 k (ga K x) fd ps sp → Cal P w K mg base k x sp := fun g F b h => ⟨⟨_, _, _, h, hv _ _ g.at_, F.kp, b⟩⟩
  have calZ : ∀ {x : Str} {st : Stmt} {k : Nat} {ps : List Str} {sp : Sp} {fd : FuncData}, GF K x st → Fun K x x st (ga K x) fd → Binds K fd ps [] → FnZ P w K mg base k (ga K x) fd ps sp → CalZ P w K mg base k x sp := fun g F b h => ⟨⟨_, _, _, h, hv _ _ g.at_, F.kp, b⟩⟩
  obtain ⟨aS, hS1, hS2⟩ := T.sz
  have S : SZ K mg aS := ⟨hv _ _ hS1, hS2⟩
  obtain ⟨tk8, h8⟩ := T.lng
  obtain ⟨tk6, h6⟩ := T.mst
  have mgE := hv _ _ T.nE
  have mgk : ∀ k, mg (kName k) = some (.ref (cD K k)) := fun k => hv _ _ (T.nk k)
  have mgC := hv _ _ T.nC
  have mgP := hv _ _ T.nP
  have ZE := T.cf
  have ZC := T.kf
  have ZP := T.pf
  -- the leaves
  obtain ⟨_, FisV⟩ := T.isValue.fn
  have cV := cal T.isValue FisV (FisV.binds (ps := ["number", "size"]) fun _ _ _ _ _ _ us hl => match us, hl with | [_, _], _ => rfl) (isValue_ok FisV bn)
  obtain ⟨_, FisS⟩ := T.isSize.fn
  have cS := cal T.isSize FisS (FisS.binds (ps := ["size"]) fun _ _ _ _ _ _ us hl => match us, hl with | [_], _ => rfl) (isSize_ok FisS bn S)
  obtain ⟨_, FisN⟩ := T.isName.fn
  have cN := cal T.isName FisN (FisN.binds (ps := ["name"]) fun _ _ _ _ _ _ us hl => match us, hl with | [_], _ => rfl) (isName_ok FisN bn (hv _ _ h8))
  obtain ⟨_, FisR⟩ := T.isRow.fn
  have cR := cal T.isRow FisR (FisR.binds (ps := ["row", "size"]) fun _ _ _ _ _ _ us hl => match us, hl with | [_, _], _ => rfl) (isRow_ok FisR bn cV)
  -- expressions
  obtain ⟨pES, gES, fdES, hES, FES⟩ := T.es
  obtain ⟨pEC, gEC, fdEC, hEC, FEC⟩ := T.ec
  have oES : FnOk P w K mg base CX0 1 gES fdES ["self"] (spGet K "_size") := eSize_ok FES
  have oEC : FnOk P w K mg base CX0 1 gEC fdEC ["self"] (spGetL K "_calls") := eCalls_ok FEC bn
  have bES := FES.binds (ps := ["self"]) fun _ _ _ _ _ _ us hl => match us, hl with | [_], _ => rfl
  have bEC := FEC.binds (ps := ["self"]) fun _ _ _ _ _ _ us hl => match us, hl with | [_], _ => rfl
  have EFt : EF K mg (cD K) (ga K "Expression") pES gES pEC gEC fdES fdEC := ⟨ZE, mgE, T.em, hES, hEC, FES, FEC⟩
  obtain ⟨gI, fdI, FI, hI⟩ := T.ei
  have It : IF P w K mg base (cD K) gI fdI := ⟨eInit_ok FI bn EFt, FI.binds (ps := ["self", "parts", "names"]) fun _ _ _ _ _ _ us hl => match us, hl with | [_, _, _], _ => rfl, hI⟩
  obtain ⟨gN, fdN, FN, hN⟩ := T.en
  have bN := FN.binds (ps := ["self"]) fun _ _ _ _ _ _ us hl => match us, hl with | [_], _ => rfl
  have Nt : NF P w K mg base (cD K) gN fdN := ⟨fun m => nodes_ok FN bN (fun C hC => by obtain ⟨k, rfl⟩ := hC; exact ⟨ZE.cls k, ZE.na k _ (by decide), hN k⟩) m, bN, hN⟩
  obtain ⟨q, hq⟩ := Classical.skolem.mp T.kq
  obtain ⟨fdQ, hq⟩ := Classical.skolem.mp hq
  have bQ : ∀ k, Binds K (fdQ k) ["self", "other"] [] := fun k => (hq k).1.binds (ps := ["self", "other"]) fun _ _ _ _ _ _ us hl => by cases k <;> exact match us, hl with | [_, _], _ => rfl
  have ZQ : QF K mg (cD K) (ga K "Expression") q fdQ := ⟨ZE, mgk, fun k => (hq k).1, bQ, fun k => (hq k).2.1, fun k => (hq k).2.2.1, fun k => (hq k).2.2.2⟩
  obtain ⟨vf, hvf⟩ := Classical.skolem.mp T.kv
  obtain ⟨fdV, hvf⟩ := Classical.skolem.mp hvf
  have bV : ∀ k, Binds K (fdV k) ["self", "argument", "tables"] [] := fun k => (hvf k).1.binds (ps := ["self", "argument", "tables"]) fun _ _ _ _ _ _ us hl => by cases k <;> exact match us, hl with | [_, _, _], _ => rfl
  have V' : VF K (cD K) vf fdV := ⟨fun k => (hvf k).1, bV, fun k => (hvf k).2⟩
  -- the four classes made
  have Mt : MkF P w K mg base (cD K) := by
    refine ⟨?_, ?_, ?_, ?_⟩
    · obtain ⟨f, fd, cc, F, M⟩ := T.ki .const
      exact ⟨⟨f, fd, _, constI_ok F bn ZE It S cV, M, mgk .const, F.binds (ps := ["self", "number"]) fun _ _ _ _ _ _ us hl => match us, hl with | [_, _], _ => rfl⟩⟩
    · obtain ⟨f, fd, cc, F, M⟩ := T.ki .arg
      exact ⟨⟨f, fd, _, argI_ok F bn ZE It, M, mgk .arg, F.binds (ps := ["self"]) fun _ _ _ _ _ _ us hl => match us, hl with | [_], _ => rfl⟩⟩
    · obtain ⟨f, fd, cc, F, M⟩ := T.ki .call
      exact ⟨⟨f, fd, _, callI_ok F bn ZE mgE It cN, M, mgk .call, F.binds (ps := ["self", "name", "argument"]) fun _ _ _ _ _ _ us hl => match us, hl with | [_, _, _], _ => rfl⟩⟩
    · obtain ⟨f, fd, cc, F, M⟩ := T.ki .choose
      exact ⟨⟨f, fd, _, chooseI_ok F bn ZE mgE It S, M, mgk .choose, F.binds (ps := ["self", "test", "cases"]) fun _ _ _ _ _ _ us hl => match us, hl with | [_, _, _], _ => rfl⟩⟩
  -- contracts
  obtain ⟨pCS, gCS, fdCS, hCS, FCS⟩ := T.cs
  obtain ⟨pCR, gCR, fdCR, hCR, FCR⟩ := T.cr
  have oCS : FnOk P w K mg base CX0 1 gCS fdCS ["self"] (spCGet (ga K "Contract") fun rs _ => .int rs.length) := cSize_ok FCS bn ZC
  have oCR : FnOk P w K mg base CX0 1 gCR fdCR ["self"] (spCGet (ga K "Contract") fun _ p => .ref p) := cRows_ok FCR ZC
  have bCS := FCS.binds (ps := ["self"]) fun _ _ _ _ _ _ us hl => match us, hl with | [_], _ => rfl
  have bCR := FCR.binds (ps := ["self"]) fun _ _ _ _ _ _ us hl => match us, hl with | [_], _ => rfl
  obtain ⟨gCI, fdCI, FCI, MCI⟩ := T.ci
  have MC : Mak P w K mg base 3 "Contract" (ga K "Contract") (spCInit (ga K "Contract")) := ⟨⟨gCI, fdCI, _, cInit_ok FCI bn ZC S cR, MCI, mgC, FCI.binds (ps := ["self", "rows"]) fun _ _ _ _ _ _ us hl => match us, hl with | [_, _], _ => rfl⟩⟩
  obtain ⟨qC, fdC, FCQ, aCQ, iCQ⟩ := T.cq
  have oCQ : FnOk P w K mg base CX0 3 qC fdC ["self", "other"] (spEqB (RC (ga K "Contract"))) := cEq_ok FCQ bn ZC mgC hCR oCR bCR
  have QCt : QC K (ga K "Contract") qC fdC := ⟨ZC, FCQ.binds (ps := ["self", "other"]) fun _ _ _ _ _ _ us hl => match us, hl with | [_, _], _ => rfl, aCQ, iCQ⟩
  -- is_possible, is_function
  obtain ⟨_, FisP⟩ := T.isPoss.fn
  have cPo : CalZ P w K mg base 15 "is_possible" (spPoss K (cD K)) := calZ T.isPoss FisP (FisP.binds (ps := ["body", "size", "earlier"]) fun _ _ _ _ _ _ us hl => match us, hl with | [_, _, _], _ => rfl) (isPoss_ok FisP bn ZE mgE (mgk .const) (mgk .choose) Nt cV hEC oEC bEC)
  obtain ⟨_, FisF⟩ := T.isFunc.fn
  have cFu : CalZ P w K mg base 16 "is_function" (spFunc K (cD K) (ga K "Contract")) := calZ T.isFunc FisF (FisF.binds (ps := ["pair", "size", "earlier"]) fun _ _ _ _ _ _ us hl => match us, hl with | [_, _, _], _ => rfl) (isFunc_ok FisF bn ZC mgC hCS oCS bCS cPo)
  -- programs
  obtain ⟨gL, fdL, hL, FL⟩ := T.ml
  have bL := FL.binds (ps := ["self"]) fun _ _ _ _ _ _ us hl => match us, hl with | [_], _ => rfl
  have Lt : LF P w K mg base (ga K "Program") gL fdL := ⟨places_ok FL bn ZP, bL, hL⟩
  obtain ⟨gF, fdF, hF, FF⟩ := T.mf
  have oF : FnZ P w K mg base 6 gF fdF ["self"] (spFB (ga K "Program") (ga K "Contract") (cD K)) := fb_ok FF bn ZP ZC Lt hCR oCR bCR
  have bF := FF.binds (ps := ["self"]) fun _ _ _ _ _ _ us hl => match us, hl with | [_], _ => rfl
  obtain ⟨gPI, fdPI, FPI, MPI⟩ := T.pi
  have oPI : FnZ P w K mg base 17 gPI fdPI ["self", "size", "functions"] (spPInit (ga K "Program") (ga K "Contract") (cD K)) := pInit_ok FPI bn ZP ZE V' (hv _ _ h6) cS cN cFu oF bF hF
  have bPI := FPI.binds (ps := ["self", "size", "functions"]) fun _ _ _ _ _ _ us hl => match us, hl with | [_, _, _], _ => rfl
  obtain ⟨pPS, gPS, fdPS, hPS, FPS⟩ := T.ps
  have oPS : FnOk P w K mg base CX0 1 gPS fdPS ["self"] (spPG (ga K "Program") (ga K "Contract") (cD K) fun n _ _ _ _ _ H Q => Q (.int n) H) := pSize_ok FPS ZP
  have bPS := FPS.binds (ps := ["self"]) fun _ _ _ _ _ _ us hl => match us, hl with | [_], _ => rfl
  obtain ⟨pPN, gPN, fdPN, hPN, FPN⟩ := T.pn
  have oPN : FnOk P w K mg base CX0 1 gPN fdPN ["self"] (spPG (ga K "Program") (ga K "Contract") (cD K) fun _ es _ _ _ _ H Q => ∀ l, H l = none → Q (.ref l) (upd H l (.lst ((es.map (·.nm)).map V.str)))) := pNames_ok FPN bn ZP
  have bPN := FPN.binds (ps := ["self"]) fun _ _ _ _ _ _ us hl => match us, hl with | [_], _ => rfl
  obtain ⟨pPK, gPK, fdPK, hPK, FPK⟩ := T.pk
  have oPK : FnOk P w K mg base CX0 1 gPK fdPK ["self"] (spPG (ga K "Program") (ga K "Contract") (cD K) fun _ es _ _ _ _ H Q => Q (.bl (brk es).isNone) H) := pKept_ok FPK ZP
  have bPK := FPK.binds (ps := ["self"]) fun _ _ _ _ _ _ us hl => match us, hl with | [_], _ => rfl
  obtain ⟨gH, fdH, hH, FH⟩ := T.mh
  have mH : Met P w K mg base 1 (ga K "Program") "_has" (spHas (ga K "Program") (ga K "Contract") (cD K)) := ⟨⟨gH, fdH, _, pHas_ok FH bn ZP, ZP.cls, hH, FH.binds (ps := ["self", "name"]) fun _ _ _ _ _ _ us hl => match us, hl with | [_, _], _ => rfl⟩⟩
  obtain ⟨gK, fdK, hK, FK⟩ := T.mck
  have mK : Met P w K mg base 2 (ga K "Program") "_check_name" (spCheck (ga K "Program") (ga K "Contract") (cD K)) := ⟨⟨gK, fdK, _, pCheck_ok FK ZP mH, ZP.cls, hK, FK.binds (ps := ["self", "name"]) fun _ _ _ _ _ _ us hl => match us, hl with | [_, _], _ => rfl⟩⟩
  obtain ⟨gMC, fdMC, hMC, FMC⟩ := T.mc
  have mCt : Met P w K mg base 3 (ga K "Program") "contract" (spItem (ga K "Program") (ga K "Contract") (cD K) fun e => e.cv) := ⟨⟨gMC, fdMC, _, pContract_ok FMC ZP mK, ZP.cls, hMC, FMC.binds (ps := ["self", "name"]) fun _ _ _ _ _ _ us hl => match us, hl with | [_, _], _ => rfl⟩⟩
  obtain ⟨gMB, fdMB, hMB, FMB⟩ := T.mb
  have mBt : Met P w K mg base 3 (ga K "Program") "body" (spItem (ga K "Program") (ga K "Contract") (cD K) fun e => e.bv) := ⟨⟨gMB, fdMB, _, pBody_ok FMB ZP mK, ZP.cls, hMB, FMB.binds (ps := ["self", "name"]) fun _ _ _ _ _ _ us hl => match us, hl with | [_, _], _ => rfl⟩⟩
  obtain ⟨gMR, fdMR, hMR, FMR⟩ := T.mr
  have mRt : Met P w K mg base 3 (ga K "Program") "results" (spItem (ga K "Program") (ga K "Contract") (cD K) fun e => .ref e.rp) := ⟨⟨gMR, fdMR, _, pResults_ok FMR ZP mK, ZP.cls, hMR, FMR.binds (ps := ["self", "name"]) fun _ _ _ _ _ _ us hl => match us, hl with | [_, _], _ => rfl⟩⟩
  obtain ⟨gPQ, fdPQ, FPQ, aPQ, iPQ⟩ := T.pq
  have oPQ : FnOk P w K mg base CX0 12 gPQ fdPQ ["self", "other"] (spEqB (RP (ga K "Program") (ga K "Contract") (cD K))) := pEq_ok FPQ bn ZP mgP ZQ QCt oCQ hPS oPS bPS hPN oPN bPN
  have bPQ := FPQ.binds (ps := ["self", "other"]) fun _ _ _ _ _ _ us hl => match us, hl with | [_, _], _ => rfl
  obtain ⟨gPW, fdPW, hPW, FPW⟩ := T.mn
  have oPW : FnZ P w K mg base 16 gPW fdPW ["self", "name", "body"] (spNew (ga K "Program") (ga K "Contract") (cD K)) := pNew_ok FPW bn ZP ZQ mH hPN oPN bPN cPo
  have bPW := FPW.binds (ps := ["self", "name", "body"]) fun _ _ _ _ _ _ us hl => match us, hl with | [_, _, _], _ => rfl
  obtain ⟨gPG, fdPG, hPG, FPG⟩ := T.mg
  have oPG : FnZ P w K mg base 20 gPG fdPG ["self", "change"] (spChg (ga K "Program") (ga K "Contract") (cD K)) := pChg_ok FPG bn ZP oPW bPW hPW MPI oPI bPI mgP
  have bPG := FPG.binds (ps := ["self", "change"]) fun _ _ _ _ _ _ us hl => match us, hl with | [_, _], _ => rfl
  -- the law's defs
  obtain ⟨_, F1⟩ := T.draw.fn
  have cDr := cal T.draw F1 (F1.binds (ps := ["cell", "k", "many"]) fun _ _ _ _ _ _ us hl => match us, hl with | [_, _, _], _ => rfl) (draw_ok F1 bn)
  obtain ⟨_, F2⟩ := T.cellAt.fn
  have cA := cal T.cellAt F2 (F2.binds (ps := ["script", "k"]) fun _ _ _ _ _ _ us hl => match us, hl with | [_, _], _ => rfl) (cellAt_ok F2 bn (hn _ T.abs_) cDr)
  obtain ⟨_, F3⟩ := T.digits.fn
  have cDg := cal T.digits F3 (F3.binds (ps := ["script", "at", "many", "base"]) fun _ _ _ _ _ _ us hl => match us, hl with | [_, _, _, _], _ => rfl) (digits_ok F3 bn cDr cA)
  obtain ⟨_, F4⟩ := T.take.fn
  have cTk := cal T.take F4 (F4.binds (ps := ["draws", "many"]) fun _ _ _ _ _ _ us hl => match us, hl with | [_, _], _ => rfl) (take_ok F4 bn)
  obtain ⟨_, F5⟩ := T.pool.fn
  have cPl := cal T.pool F5 (F5.binds (ps := ["script", "bases"]) fun _ _ _ _ _ _ us hl => match us, hl with | [_, _], _ => rfl) (pool_ok F5 bn cDg)
  obtain ⟨_, F6⟩ := T.body.fn
  have bF6 := F6.binds (ps := ["draws", "size", "earlier", "deep"]) fun _ _ _ _ _ _ us hl => match us, hl with | [_, _, _, _], _ => rfl
  have cBo : Cal P w K mg base 7 "_law_drawn_tree" (spBody K 3) := cal T.body F6 bF6 (body_ok F6 bn (hv _ _ T.body.at_) F6.kp bF6 cTk 3)
  obtain ⟨_, F7⟩ := T.made.fn
  have bF7 := F7.binds (ps := ["tree"]) fun _ _ _ _ _ _ us hl => match us, hl with | [_], _ => rfl
  have cMa : Cal P w K mg base 9 "_law_made" (spMade (cD K) 4) := cal T.made F7 bF7 (made_ok F7 bn (hv _ _ T.made.at_) F7.kp bF7 Mt 4)
  obtain ⟨_, F8⟩ := T.worth.fn
  have bF8 := F8.binds (ps := ["tree", "argument", "tables"]) fun _ _ _ _ _ _ us hl => match us, hl with | [_, _, _], _ => rfl
  have cWo : Cal P w K mg base 5 "_law_value" (spWorth K 4) := cal T.worth F8 bF8 (worth_ok F8 (hv _ _ T.worth.at_) F8.kp bF8 4)
  obtain ⟨_, F9⟩ := T.called.fn
  have bF9 := F9.binds (ps := ["tree"]) fun _ _ _ _ _ _ us hl => match us, hl with | [_], _ => rfl
  have cCd : Cal P w K mg base 6 "_law_called" (spCalled 4) := cal T.called F9 bF9 (called_ok F9 bn (hv _ _ T.called.at_) F9.kp bF9 4)
  obtain ⟨_, F12⟩ := T.tables.fn
  have cTa := cal T.tables F12 (F12.binds (ps := ["size", "trees"]) fun _ _ _ _ _ _ us hl => match us, hl with | [_, _], _ => rfl) (tables_ok F12 bn cWo)
  obtain ⟨_, F13⟩ := T.plan.fn
  have cPn := cal T.plan F13 (F13.binds (ps := ["draws", "most", "deep"]) fun _ _ _ _ _ _ us hl => match us, hl with | [_, _, _], _ => rfl) (plan_ok F13 bn cTk cBo cTa)
  obtain ⟨_, F14⟩ := T.fbr.fn
  have cFb := cal T.fbr F14 (F14.binds (ps := ["plan", "tables"]) fun _ _ _ _ _ _ us hl => match us, hl with | [_, _], _ => rfl) (fbroken_ok F14 bn)
  obtain ⟨_, F15⟩ := T.built.fn
  have cBu := calZ T.built F15 (F15.binds (ps := ["plan"]) fun _ _ _ _ _ _ us hl => match us, hl with | [_], _ => rfl) (built_ok F15 bn MC cMa MPI oPI bPI mgP)
  obtain ⟨_, F17⟩ := T.mch.fn
  have cMC := cal T.mch F17 (F17.binds (ps := ["trees"]) fun _ _ _ _ _ _ us hl => match us, hl with | [_], _ => rfl) (mch_ok F17 bn cMa)
  obtain ⟨_, F18⟩ := T.turned.fn
  have cTu := cal T.turned F18 (F18.binds (ps := ["draws", "plan"]) fun _ _ _ _ _ _ us hl => match us, hl with | [_, _], _ => rfl) (turned_ok F18 bn cTk cBo)
  obtain ⟨_, G1⟩ := T.ckP.fn
  have cKp := cal T.ckP G1 (G1.binds (ps := ["program"]) fun _ _ _ _ _ _ us hl => match us, hl with | [_], _ => rfl) (ckP_ok G1 bn ZP mgP hPK oPK bPK)
  obtain ⟨_, G2⟩ := T.chP.fn
  have cHp := calZ T.chP G2 (G2.binds (ps := ["program", "change"]) fun _ _ _ _ _ _ us hl => match us, hl with | [_, _], _ => rfl) (chP_ok G2 ZP cKp oPG bPG hPG)
  obtain ⟨_, G3⟩ := T.cb.fn
  have cCB := cal T.cb G3 (G3.binds (ps := ["program", "change", "other", "name"]) fun _ _ _ _ _ _ us hl => match us, hl with | [_, _, _, _], _ => rfl) (couldBe_ok G3 bn ZP ZE ZQ QCt T.cne oCQ hEC oEC bEC mCt mBt)
  obtain ⟨_, G4⟩ := T.rv.fn
  have cRv := calZ T.rv G4 (G4.binds (ps := ["program", "change", "other"]) fun _ _ _ _ _ _ us hl => match us, hl with | [_, _, _], _ => rfl) (rv_ok G4 bn ZP mgP cHp cCB hPS oPS bPS hPN oPN bPN hPK oPK bPK)
  obtain ⟨_, G5⟩ := T.df.fn
  have cDf := cal T.df G5 (G5.binds (ps := ["program", "other"]) fun _ _ _ _ _ _ us hl => match us, hl with | [_, _], _ => rfl) (df_ok G5 bn ZP ZQ mgP mBt hPN oPN bPN)
  obtain ⟨_, G6⟩ := T.lrv.fn
  have cLv := cal T.lrv G6 (G6.binds (ps := ["plan", "trees", "other"]) fun _ _ _ _ _ _ us hl => match us, hl with | [_, _, _], _ => rfl) (lv_ok G6 bn cTa cFb cCd)
  obtain ⟨_, G7⟩ := T.oth.fn
  have cOt := cal T.oth G7 (G7.binds (ps := ["draws", "plan"]) fun _ _ _ _ _ _ us hl => match us, hl with | [_, _], _ => rfl) (other_ok G7 bn cTk cBo cCd)
  have Ot : OF3 P w K mg base (ga K "Program") (ga K "Contract") (cD K) := ⟨cPl, cPn, cBu, cTu, cMC, cRv, cDf, cOt, cLv⟩
  obtain ⟨fd, F21⟩ := T.law.fn
  exact ⟨fd, F21, law_ok F21 bn Ot⟩
end
end MR
end

section
set_option Elab.async false
set_option linter.all false
set_option maxRecDepth 100000
set_option maxHeartbeats 1000000
/-! The top's facts, each from what is asked of the written part. -/
namespace MR
open PySem PySem.Spec PyProof.Rows L2 LY GW NM
section
variable {P : Program} {K : PySem.W.Frag} {x m qual : Str} {st : Stmt} {C f p g : Addr} {oc : Value} {od an : Option Addr} {kV doc pm cdv ct : Value} {osl : Array (Option Value)}
theorem gf_mk (a : PySem.W.nsIn K mainGlobals x = some (some (.ref f))) (l : K.lookup f = some ⟨oc, od, .func (PySem.W.fnOf x x (defArgs st) (defBody st) (defScope st) .none kV doc pm an cdv ct), osl⟩) (c : PySem.W.codeIn K cdv x = true) (k : PySem.W.keepIn K (.ref f) = true) : GF K x st := by
  have e := ga_of a
  subst e
  exact ⟨a, _, fun_mk l c k⟩
theorem gn_mk (a : PySem.W.nsIn K mainGlobals x = some (some (.ref f))) : GN K x := by
  have e := ga_of a
  subst e
  exact a
theorem mf_mk (aC : PySem.W.nsIn K mainGlobals x = some (some (.ref C))) (a : PySem.W.findIn K (.ref C) m = some (some (.ref f))) (i : PySem.W.isFn K (.ref f) = true) (l : K.lookup f = some ⟨oc, od, .func (PySem.W.fnOf m qual (defArgs st) (defBody st) (defScope st) .none kV doc pm an cdv ct), osl⟩) (c : PySem.W.codeIn K cdv qual = true) (k : PySem.W.keepIn K (.ref f) = true) : MF K (ga K x) m qual st := by
  have e := ga_of aC
  subst e
  exact ⟨f, _, ⟨a, i, k⟩, fun_mk l c k⟩
theorem rf_mk {rest : List Value} (aC : PySem.W.nsIn K mainGlobals x = some (some (.ref C))) (a : PySem.W.findIn K (.ref C) m = some (some (.ref p))) (gt : PySem.W.specialIn K (.ref p) "__get__" = some (some (.builtin "property.__get__"))) (tk : PySem.W.takesIn K (.ref p) = some true) (rc : PySem.W.recIn K p "property" = some (.ref g :: rest)) (l : K.lookup g = some ⟨oc, od, .func (PySem.W.fnOf m qual (defArgs st) (defBody st) (defScope st) .none kV doc pm an cdv ct), osl⟩) (c : PySem.W.codeIn K cdv qual = true) (k : PySem.W.keepIn K (.ref g) = true) : RF K (ga K x) m qual st := by
  have e := ga_of aC
  subst e
  exact ⟨p, g, _, ⟨a, gt, tk, rest, rc⟩, fun_mk l c k⟩
theorem mi_mk (aC : PySem.W.nsIn K mainGlobals x = some (some (.ref C))) (a : PySem.W.findIn K (.ref C) "__init__" = some (some (.ref f))) (i : PySem.W.isFn K (.ref f) = true) (l : K.lookup f = some ⟨oc, od, .func (PySem.W.fnOf "__init__" qual (defArgs st) (defBody st) (defScope st) .none kV doc pm an cdv ct), osl⟩) (c : PySem.W.codeIn K cdv qual = true) (k : PySem.W.keepIn K (.ref f) = true) (mk : PySem.W.makesIn K C = true) (kc : PySem.W.keepIn K (.ref C) = true) : ∃ f fd, Fun K "__init__" qual st f fd ∧ Mk K (ga K x) f := by
  have e := ga_of aC
  subst e
  exact ⟨f, _, fun_mk l c k, mk, a, i, kc⟩
theorem mq_mk (aC : PySem.W.nsIn K mainGlobals x = some (some (.ref C))) (a : PySem.W.findIn K (.ref C) "__eq__" = some (some (.ref f))) (i : PySem.W.isFn K (.ref f) = true) (l : K.lookup f = some ⟨oc, od, .func (PySem.W.fnOf "__eq__" qual (defArgs st) (defBody st) (defScope st) .none kV doc pm an cdv ct), osl⟩) (c : PySem.W.codeIn K cdv qual = true) (k : PySem.W.keepIn K (.ref f) = true) : ∃ f fd, Fun K "__eq__" qual st f fd ∧ PySem.W.findIn K (.ref (ga K x)) "__eq__" = some (some (.ref f)) ∧ PySem.W.isFn K (.ref f) = true := by
  have e := ga_of aC
  subst e
  exact ⟨f, _, fun_mk l c k, a, i⟩
theorem kq_mk (aC : PySem.W.nsIn K mainGlobals x = some (some (.ref C))) (a : PySem.W.findIn K (.ref C) "__eq__" = some (some (.ref f))) (i : PySem.W.isFn K (.ref f) = true) (l : K.lookup f = some ⟨oc, od, .func (PySem.W.fnOf "__eq__" qual (defArgs st) (defBody st) (defScope st) .none kV doc pm an cdv ct), osl⟩) (c : PySem.W.codeIn K cdv qual = true) (k : PySem.W.keepIn K (.ref f) = true) (ne : PySem.W.findIn K (.ref C) "__ne__" = some (some (.builtin "object.__ne__"))) : ∃ f fd, Fun K "__eq__" qual st f fd ∧ PySem.W.findIn K (.ref (ga K x)) "__eq__" = some (some (.ref f)) ∧ PySem.W.isFn K (.ref f) = true ∧ PySem.W.findIn K (.ref (ga K x)) "__ne__" = some (some (.builtin "object.__ne__")) := by
  have e := ga_of aC
  subst e
  exact ⟨f, _, fun_mk l c k, a, i, ne⟩
theorem kv_mk (aC : PySem.W.nsIn K mainGlobals x = some (some (.ref C))) (a : PySem.W.findIn K (.ref C) m = some (some (.ref f))) (i : PySem.W.isFn K (.ref f) = true) (l : K.lookup f = some ⟨oc, od, .func (PySem.W.fnOf m qual (defArgs st) (defBody st) (defScope st) .none kV doc pm an cdv ct), osl⟩) (c : PySem.W.codeIn K cdv qual = true) (k : PySem.W.keepIn K (.ref f) = true) : ∃ f fd, Fun K m qual st f fd ∧ Meth K (ga K x) m f := by
  obtain ⟨f, fd, h1, h2⟩ := mf_mk aC a i l c k
  exact ⟨f, fd, h2, h1⟩
theorem ki_mk {cda cc : Addr} {ccl cl : Value} {cdd cld : Option Addr} {ccs csl : Array (Option Value)} {vs : Array Value} {file : Str} {tf : Tok} {cdD : ClassData} (aC : PySem.W.nsIn K mainGlobals x = some (some (.ref C))) (a : PySem.W.findIn K (.ref C) "__init__" = some (some (.ref f))) (i : PySem.W.isFn K (.ref f) = true)
    (l : K.lookup f = some ⟨oc, od, .func (PySem.W.ksFn "__init__" qual (defArgs st) (defBody st) (defScope st) .none kV doc pm an (.ref cda) ct cc), osl⟩) (c : PySem.W.codeIn K (.ref cda) qual = true) (lc : K.lookup cda = some ⟨ccl, cdd, .fields vs, ccs⟩) (fi : vs[2]? = some (.str file tf)) (fe : ((P.main.file : Str) == file) = true)
    (ce : K.lookup cc = some ⟨cl, cld, .cell (some (.ref C)), csl⟩) (tp : (P.main.scope.names.lookup ("super" : Str)).isSome = false) (cd : PySem.W.clsIn K C = some cdD) (op : PySem.W.nsIn K cStatics "thirdparty.any" = some none) (mk : PySem.W.makesIn K C = true) (kc : PySem.W.keepIn K (.ref C) = true) :
    ∃ f fd cc, FunS P K "__init__" qual st f fd cc (ga K x) ∧ Mk K (ga K x) f := by
  have e := ga_of aC
  subst e
  exact ⟨f, _, cc, ⟨⟨oc, od, kV, doc, pm, an, cda, ct, osl, rfl, l, c, ccl, cdd, ccs, vs, file, tf, lc, fi, fe⟩, ⟨cl, cld, csl, ce⟩, tp, ⟨cdD, cd⟩, op⟩, mk, a, i, kc⟩
/-! ### the four classes -/
def c4 (c0 c1 c2 c3 : Addr) : Kd → Addr
  | .const => c0
  | .arg => c1
  | .call => c2
  | .choose => c3
variable {c0 c1 c2 c3 cE : Addr}
theorem cD_of (a0 : PySem.W.nsIn K mainGlobals "Const" = some (some (.ref c0))) (a1 : PySem.W.nsIn K mainGlobals "Arg" = some (some (.ref c1))) (a2 : PySem.W.nsIn K mainGlobals "Call" = some (some (.ref c2))) (a3 : PySem.W.nsIn K mainGlobals "Choose" = some (some (.ref c3))) : cD K = c4 c0 c1 c2 c3 := by
  funext k
  cases k
  · exact ga_of a0
  · exact ga_of a1
  · exact ga_of a2
  · exact ga_of a3
theorem es_mk {rest : List Value} (a0 : PySem.W.nsIn K mainGlobals "Const" = some (some (.ref c0))) (a1 : PySem.W.nsIn K mainGlobals "Arg" = some (some (.ref c1))) (a2 : PySem.W.nsIn K mainGlobals "Call" = some (some (.ref c2))) (a3 : PySem.W.nsIn K mainGlobals "Choose" = some (some (.ref c3)))
    (f0 : PySem.W.findIn K (.ref c0) m = some (some (.ref p))) (f1 : PySem.W.findIn K (.ref c1) m = some (some (.ref p))) (f2 : PySem.W.findIn K (.ref c2) m = some (some (.ref p))) (f3 : PySem.W.findIn K (.ref c3) m = some (some (.ref p)))
    (gt : PySem.W.specialIn K (.ref p) "__get__" = some (some (.builtin "property.__get__"))) (tk : PySem.W.takesIn K (.ref p) = some true) (rc : PySem.W.recIn K p "property" = some (.ref g :: rest)) (l : K.lookup g = some ⟨oc, od, .func (PySem.W.fnOf m qual (defArgs st) (defBody st) (defScope st) .none kV doc pm an cdv ct), osl⟩) (c : PySem.W.codeIn K cdv qual = true) (k : PySem.W.keepIn K (.ref g) = true) :
    ∃ p g fd, (∀ k, PropOf K (cD K k) m p g) ∧ Fun K m qual st g fd := by
  rw [cD_of a0 a1 a2 a3]
  refine ⟨p, g, _, fun k => ?_, fun_mk l c k⟩
  cases k
  · exact ⟨f0, gt, tk, rest, rc⟩
  · exact ⟨f1, gt, tk, rest, rc⟩
  · exact ⟨f2, gt, tk, rest, rc⟩
  · exact ⟨f3, gt, tk, rest, rc⟩
theorem en_mk (a0 : PySem.W.nsIn K mainGlobals "Const" = some (some (.ref c0))) (a1 : PySem.W.nsIn K mainGlobals "Arg" = some (some (.ref c1))) (a2 : PySem.W.nsIn K mainGlobals "Call" = some (some (.ref c2))) (a3 : PySem.W.nsIn K mainGlobals "Choose" = some (some (.ref c3)))
    (f0 : PySem.W.findIn K (.ref c0) m = some (some (.ref g))) (f1 : PySem.W.findIn K (.ref c1) m = some (some (.ref g))) (f2 : PySem.W.findIn K (.ref c2) m = some (some (.ref g))) (f3 : PySem.W.findIn K (.ref c3) m = some (some (.ref g))) (i : PySem.W.isFn K (.ref g) = true)
    (l : K.lookup g = some ⟨oc, od, .func (PySem.W.fnOf m qual (defArgs st) (defBody st) (defScope st) .none kV doc pm an cdv ct), osl⟩) (c : PySem.W.codeIn K cdv qual = true) (k : PySem.W.keepIn K (.ref g) = true) :
    ∃ g fd, Fun K m qual st g fd ∧ ∀ k, Meth K (cD K k) m g := by
  rw [cD_of a0 a1 a2 a3]
  refine ⟨g, _, fun_mk l c k, fun k' => ?_⟩
  cases k'
  · exact ⟨f0, i, k⟩
  · exact ⟨f1, i, k⟩
  · exact ⟨f2, i, k⟩
  · exact ⟨f3, i, k⟩
theorem ei_mk (a0 : PySem.W.nsIn K mainGlobals "Const" = some (some (.ref c0))) (a1 : PySem.W.nsIn K mainGlobals "Arg" = some (some (.ref c1))) (a2 : PySem.W.nsIn K mainGlobals "Call" = some (some (.ref c2))) (a3 : PySem.W.nsIn K mainGlobals "Choose" = some (some (.ref c3))) (aE : PySem.W.nsIn K mainGlobals "Expression" = some (some (.ref cE))) (fE : PySem.W.findIn K (.ref cE) "__init__" = some (some (.ref g)))
    (s0 : PySem.W.mroIn K c0 (.ref c0) = some true) (s1 : PySem.W.mroIn K c1 (.ref c1) = some true) (s2 : PySem.W.mroIn K c2 (.ref c2) = some true) (s3 : PySem.W.mroIn K c3 (.ref c3) = some true)
    (f0 : PySem.W.ks_superIn K c0 c0 "__init__" = some (some (.ref g))) (f1 : PySem.W.ks_superIn K c1 c1 "__init__" = some (some (.ref g))) (f2 : PySem.W.ks_superIn K c2 c2 "__init__" = some (some (.ref g))) (f3 : PySem.W.ks_superIn K c3 c3 "__init__" = some (some (.ref g)))
    (ty : PySem.W.typeIn K (.ref g) = some (.type "function")) (fn : PySem.W.fnIn K g = true)
    (l : K.lookup g = some ⟨oc, od, .func (PySem.W.fnOf "__init__" qual (defArgs st) (defBody st) (defScope st) .none kV doc pm an cdv ct), osl⟩) (c : PySem.W.codeIn K cdv qual = true) (k : PySem.W.keepIn K (.ref g) = true) :
    ∃ g fd, Fun K "__init__" qual st g fd ∧ ∀ k, SupM K (cD K k) (cD K k) "__init__" g := by
  rw [cD_of a0 a1 a2 a3]
  refine ⟨g, _, fun_mk l c k, fun k' => ?_⟩
  cases k'
  · exact ⟨s0, f0, ty, fn⟩
  · exact ⟨s1, f1, ty, fn⟩
  · exact ⟨s2, f2, ty, fn⟩
  · exact ⟨s3, f3, ty, fn⟩
theorem em_mk {tk : Tok} (aE : PySem.W.nsIn K mainGlobals "Expression" = some (some (.ref cE))) (rd : PySem.W.readsIn K cE (.type "type") = true) (sp : PySem.W.specialIn K (.ref cE) "__getattribute__" = some (some (.builtin "type.__getattribute__"))) (fv : PySem.W.findCls K (.ref cE) (.type "type") "MOST" = some (.val (.int 60 tk))) :
    ∃ mc, ClX.CRead K (ga K "Expression") mc ∧ ∃ tk, ClX.CVal K (ga K "Expression") mc "MOST" (.int 60) (.int 60 tk) := by
  rw [ga_of aE]
  exact ⟨_, ⟨rd, sp⟩, tk, fv, _, rfl⟩
theorem cf_mk (a0 : PySem.W.nsIn K mainGlobals "Const" = some (some (.ref c0))) (a1 : PySem.W.nsIn K mainGlobals "Arg" = some (some (.ref c1))) (a2 : PySem.W.nsIn K mainGlobals "Call" = some (some (.ref c2))) (a3 : PySem.W.nsIn K mainGlobals "Choose" = some (some (.ref c3))) (aE : PySem.W.nsIn K mainGlobals "Expression" = some (some (.ref cE)))
    (pg : ∀ k, PySem.W.plainGet K (c4 c0 c1 c2 c3 k) Str.empty = true) (hd : ∀ k, PySem.W.hasDictIn K (c4 c0 c1 c2 c3 k) = true) (po : ∀ k, PySem.W.plainOver K (c4 c0 c1 c2 c3 k) = true) (sa : ∀ k, PySem.W.findIn K (.ref (c4 c0 c1 c2 c3 k)) "__setattr__" = some (some (.builtin "object.__setattr__")))
    (ca : ∀ k, PySem.W.findIn K (.ref (c4 c0 c1 c2 c3 k)) "__class__" = some (some (.builtin "object.__class__"))) (cn : PySem.W.specialIn K (.builtin "object.__class__") "__get__" = some (some (.builtin "getset_descriptor.__get__"))) (ctk : PySem.W.takesIn K (.builtin "object.__class__") = some true) (cm : ∀ k, PySem.W.mroIn K (c4 c0 c1 c2 c3 k) (.type "object") = some true)
    (inj : ∀ k k', c4 c0 c1 c2 c3 k = c4 c0 c1 c2 c3 k' → k = k') (kE : ∀ k, PySem.W.kitOne K (.ref (c4 c0 c1 c2 c3 k)) (.ref cE) = some true) (kk : ∀ k k', PySem.W.kitOne K (.ref (c4 c0 c1 c2 c3 k)) (.ref (c4 c0 c1 c2 c3 k')) = some (decide (k = k'))) (nf : ∀ k k', PySem.W.notFirst K (c4 c0 c1 c2 c3 k) (.ref (c4 c0 c1 c2 c3 k')) = true)
    (n1 : ∀ k, PySem.W.findIn K (.ref (c4 c0 c1 c2 c3 k)) "_parts" = some none) (n2 : ∀ k, PySem.W.findIn K (.ref (c4 c0 c1 c2 c3 k)) "_size" = some none) (n3 : ∀ k, PySem.W.findIn K (.ref (c4 c0 c1 c2 c3 k)) "_calls" = some none) (n4 : ∀ k, PySem.W.findIn K (.ref (c4 c0 c1 c2 c3 k)) "number" = some none)
    (n5 : ∀ k, PySem.W.findIn K (.ref (c4 c0 c1 c2 c3 k)) "name" = some none) (n6 : ∀ k, PySem.W.findIn K (.ref (c4 c0 c1 c2 c3 k)) "argument" = some none) (n7 : ∀ k, PySem.W.findIn K (.ref (c4 c0 c1 c2 c3 k)) "test" = some none) (n8 : ∀ k, PySem.W.findIn K (.ref (c4 c0 c1 c2 c3 k)) "cases" = some none) : CF K (cD K) (ga K "Expression") := by
  rw [cD_of a0 a1 a2 a3, ga_of aE]
  refine ⟨fun k => ⟨pg k, hd k, po k, sa k⟩, ca, cn, ctk, cm, inj, kE, kk, nf, fun k f hf => ?_⟩
  simp only [attrs, List.mem_cons, List.not_mem_nil, or_false] at hf
  rcases hf with rfl | rfl | rfl | rfl | rfl | rfl | rfl | rfl
  · exact n1 k
  · exact n2 k
  · exact n3 k
  · exact n4 k
  · exact n5 k
  · exact n6 k
  · exact n7 k
  · exact n8 k
theorem kf_mk (aC : PySem.W.nsIn K mainGlobals "Contract" = some (some (.ref C))) (pg : PySem.W.plainGet K C Str.empty = true) (hd : PySem.W.hasDictIn K C = true) (po : PySem.W.plainOver K C = true) (sa : PySem.W.findIn K (.ref C) "__setattr__" = some (some (.builtin "object.__setattr__")))
    (ca : PySem.W.findIn K (.ref C) "__class__" = some (some (.builtin "object.__class__"))) (cn : PySem.W.specialIn K (.builtin "object.__class__") "__get__" = some (some (.builtin "getset_descriptor.__get__"))) (ctk : PySem.W.takesIn K (.builtin "object.__class__") = some true) (cm : PySem.W.mroIn K C (.type "object") = some true) (kk : PySem.W.kitOne K (.ref C) (.ref C) = some true) (nf : PySem.W.notFirst K C (.ref C) = true) (na : PySem.W.findIn K (.ref C) "_rows" = some none) : KF K (ga K "Contract") := by
  rw [ga_of aC]
  exact ⟨⟨pg, hd, po, sa⟩, ca, cn, ctk, cm, kk, nf, na⟩
theorem pf_mk (aC : PySem.W.nsIn K mainGlobals "Program" = some (some (.ref C))) (pg : PySem.W.plainGet K C Str.empty = true) (hd : PySem.W.hasDictIn K C = true) (po : PySem.W.plainOver K C = true) (sa : PySem.W.findIn K (.ref C) "__setattr__" = some (some (.builtin "object.__setattr__")))
    (ca : PySem.W.findIn K (.ref C) "__class__" = some (some (.builtin "object.__class__"))) (cn : PySem.W.specialIn K (.builtin "object.__class__") "__get__" = some (some (.builtin "getset_descriptor.__get__"))) (ctk : PySem.W.takesIn K (.builtin "object.__class__") = some true) (cm : PySem.W.mroIn K C (.type "object") = some true) (kk : PySem.W.kitOne K (.ref C) (.ref C) = some true) (nf : PySem.W.notFirst K C (.ref C) = true)
    (n1 : PySem.W.findIn K (.ref C) "_size" = some none) (n2 : PySem.W.findIn K (.ref C) "_contracts" = some none) (n3 : PySem.W.findIn K (.ref C) "_bodies" = some none) (n4 : PySem.W.findIn K (.ref C) "_results" = some none) (n5 : PySem.W.findIn K (.ref C) "_broken" = some none) : PF K (ga K "Program") := by
  rw [ga_of aC]
  refine ⟨⟨pg, hd, po, sa⟩, ca, cn, ctk, cm, kk, nf, fun f hf => ?_⟩
  simp only [List.mem_cons, List.not_mem_nil, or_false] at hf
  rcases hf with rfl | rfl | rfl | rfl | rfl
  · exact n1
  · exact n2
  · exact n3
  · exact n4
  · exact n5
theorem int_mk {i : Int} {tk : Tok} (a : PySem.W.nsIn K mainGlobals x = some (some (.int i tk))) : ∃ tk, PySem.W.nsIn K mainGlobals x = some (some (.int i tk)) := ⟨tk, a⟩
theorem sz_mk {aS : Addr} {od : Option Addr} {t2 t3 : Tok} {n : Nat} {sl : Array (Option Value)} (a : PySem.W.nsIn K mainGlobals "SIZES" = some (some (.ref aS))) (l : K.lookup aS = some ⟨.type "tuple", od, .seq #[.int 2 t2, .int 3 t3] n, sl⟩) : ∃ aS, PySem.W.nsIn K mainGlobals "SIZES" = some (some (.ref aS)) ∧ ∀ H, SqT K H aS [.int 2, .int 3] :=
  ⟨aS, a, fun H => .inr ⟨_, _, n, l, rfl, rfl, by show 2 ≤ sizeLine; decide, .cons ⟨_, rfl⟩ (.cons ⟨_, rfl⟩ .nil)⟩⟩
theorem cne_mk (aC : PySem.W.nsIn K mainGlobals x = some (some (.ref C))) (ne : PySem.W.findIn K (.ref C) "__ne__" = some (some (.builtin "object.__ne__"))) : PySem.W.findIn K (.ref (ga K x)) "__ne__" = some (some (.builtin "object.__ne__")) := by
  rw [ga_of aC]
  exact ne
end
end MR
end

section
set_option Elab.async false
set_option maxRecDepth 100000
set_option maxHeartbeats 0
namespace GW
open PySem PySem.Calls PySem.Spec PyProof.Rows PySem.W L2 LY
/-- the row holds, as open_top asks for it: over such runs -/
theorem PySem.W.holds_open {r : OpenRow} {q : Program} {loose : List Str} {Xt : Shared → Bool} {XP : (Str → Option Value) → Heap → Prop} {α : Type} {Yf : Shared → α} {Ya : World → α} {YP : World → Heap → Prop} {d : DefRec} {kwd : List (Str × Expr)} {N : Nat}
    (left : LeftO r.prog q loose Xt Yf Ya N) (hY : ∀ w s, Yf s = Ya w → YP w s.heap) (hYk : ∀ w h h', YP w h → (∀ b o, h.get? b = some o → h'.get? b = some o) → YP w h')
    (hX : ∀ s, Xt s = true → XP (s.heap.nsMap mainGlobals) s.heap) (hXk : ∀ mg h h', XP mg h → (∀ b o, h.get? b = some o → h'.get? b = some o) → XP mg h')
    (hdef : defOf q r.name = some (d, kwd)) (hp : r.prog.theDef r.name = some (d.params, d.body, d.scope)) (hk : kwWritten? d.params.kwonlyargs d.params.kw_defaults = some kwd) (hRf : ∀ s, Xt s = true → RecFacts r.records s.heap) (hwr : (!r.writes || r.records.isEmpty) = true)
    (k1 : r.wellSaid = true) (ok : (chainsOk q && opensWell r.prog && (frees r.toRowW && r.within.isEmpty)) = true) (hb : r.prog.bare) (hw : r.toRowW.promised) (call : WalkZ q loose XP YP r.toRowW d kwd) : r.Holds :=
  holds_openZ left hY hYk hX hXk hdef hp hk hRf hwr k1 ok hb hw call
open_top head for PySem.Challenge.rw_mustread_k02_whole_rivals
end GW
end

section
set_option Elab.async false
set_option linter.all false
set_option maxRecDepth 100000
set_option maxHeartbeats 0
namespace MR
open PySem PySem.Calls PySem.Spec PyProof.Rows L2 LY GW NM
theorem end_of {l : PySem.W.OpenLaw} {w : World} {K : PySem.W.Frag} {h : Heap} {mg : Str → Option Value} {fa : Addr} {x : Str} (hx : x = "law") (KX : K.In h) (G : h.Ns mainGlobals mg) (hfa : mg x = some (.ref fa)) (T : TopF K l.prog) :
    ∃ fd : FuncData, (∀ (s : Shared) (u : Value), BindsTo s fd ⟨[u], []⟩ [("script", u)]) ∧ ∀ base : Heap, K.In base → base.Ns mainGlobals mg → FnZ l.prog w K mg base 23 fa fd ["script"] (spLaw K) := by
  subst hx
  have hv : ∀ x v, PySem.W.nsIn K mainGlobals x = some (some v) → mg x = some v := fun x v e => PySem.W.mg_of KX G e
  have hn : ∀ x, PySem.W.nsIn K mainGlobals x = some none → mg x = none := fun x e => PySem.W.mg_none_of KX G e
  have e := hfa.symm.trans (hv _ _ T.law.at_)
  cases e
  obtain ⟨fd, F⟩ := T.law.fn
  refine ⟨fd, ?_, fun base _ _ => ?_⟩
  · obtain ⟨oc, od, kV, doc, pm, an, cdv, ct, osl, rfl, lk, hcd⟩ := F.ex
    exact fun s v => .of_eq rfl
  · obtain ⟨fd', F', h'⟩ := law_of (w := w) (base := base) T hv hn
    obtain ⟨_, _, _, _, _, _, _, _, _, _, lk, _⟩ := F.ex
    obtain ⟨_, _, _, _, _, _, _, _, _, _, lk', _⟩ := F'.ex
    rw [lk] at lk'
    cases lk'
    exact h'
end MR
open PySem PySem.W PyProof.Rows
theorem PySem.Challenge.cw_mustread_k02_whole_rivals_holds : PySem.Challenge.rw_mustread_k02_whole_rivals.Holds := by
  refine GW.head ?_
  k_fill
  refine GW.walkZ_of (l := PySem.Challenge.rw_mustread_k02_whole_rivals) (n := 63) (k := 23) (x := "script") (sp := fun K => MR.spLaw K) rfl (by decide) rfl ⟨rfl, by decide, by decide⟩ (fun w h Y => PySem.W.kIn_of Y) ?F ?hsp
  case hsp => exact fun K H a ns hl hO hS => ⟨a, ns, rfl, hS, fun _ _ => rfl⟩
  case F =>
    intro w mg fa h KX G hmg
    refine MR.end_of (l := PySem.Challenge.rw_mustread_k02_whole_rivals) rfl KX G hmg ?T
    case T =>
      refine' { nE := ?F_nE, nk := ?F_nk, nC := ?F_nC, nP := ?F_nP, bl := ?F_bl, sz := ?F_sz, lng := ?F_lng, mst := ?F_mst, cf := ?F_cf, kf := ?F_kf, pf := ?F_pf, es := ?F_es, ec := ?F_ec, em := ?F_em, ei := ?F_ei, en := ?F_en, ki := ?F_ki, kq := ?F_kq, kv := ?F_kv, ci := ?F_ci, cq := ?F_cq, cs := ?F_cs, cr := ?F_cr, pi := ?F_pi, pq := ?F_pq, ps := ?F_ps, pn := ?F_pn, pk := ?F_pk, mc := ?F_mc, mb := ?F_mb, mr := ?F_mr, ml := ?F_ml, mg := ?F_mg, mn := ?F_mn, mh := ?F_mh, mck := ?F_mck, mf := ?F_mf, isValue := ?F_isValue, isSize := ?F_isSize, isName := ?F_isName, isPoss := ?F_isPoss, isRow := ?F_isRow, isFunc := ?F_isFunc, abs_ := ?F_abs_, draw := ?F_draw, cellAt := ?F_cellAt, digits := ?F_digits, take := ?F_take, pool := ?F_pool, body := ?F_body, made := ?F_made, called := ?F_called, worth := ?F_worth, tables := ?F_tables, plan := ?F_plan, built := ?F_built, turned := ?F_turned, mch := ?F_mch, fbr := ?F_fbr, cne := ?F_cne, ckP := ?F_ckP, chP := ?F_chP, rv := ?F_rv, cb := ?F_cb, df := ?F_df, lrv := ?F_lrv, oth := ?F_oth, law := ?F_law }
      case F_nE => (refine' MR.gn_mk ?a; (case a => k_is))
      case F_nC => (refine' MR.gn_mk ?a; (case a => k_is))
      case F_nP => (refine' MR.gn_mk ?a; (case a => k_is))
      case F_nk =>
        intro k
        cases k
        · (show MR.GN _ "Const"); (refine' MR.gn_mk ?a; (case a => k_is))
        · (show MR.GN _ "Arg"); (refine' MR.gn_mk ?a; (case a => k_is))
        · (show MR.GN _ "Call"); (refine' MR.gn_mk ?a; (case a => k_is))
        · (show MR.GN _ "Choose"); (refine' MR.gn_mk ?a; (case a => k_is))
      case F_bl =>
        intro x hx
        simp only [MR.bnames, List.mem_cons, List.not_mem_nil, or_false] at hx
        rcases hx with rfl | rfl | rfl | rfl | rfl | rfl | rfl | rfl | rfl | rfl | rfl | rfl | rfl | rfl | rfl | rfl | rfl | rfl
        all_goals k_is
      case F_sz => (refine' MR.sz_mk ?a ?l; (case a => k_is); (case l => k_is))
      case F_lng => (refine' MR.int_mk ?a; (case a => k_is))
      case F_mst => (refine' MR.int_mk ?a; (case a => k_is))
      case F_cf =>
        refine' MR.cf_mk ?a0 ?a1 ?a2 ?a3 ?aE ?pg ?hd ?po ?sa ?ca ?cn ?ctk ?cm ?inj ?kE ?kk ?nf ?n1 ?n2 ?n3 ?n4 ?n5 ?n6 ?n7 ?n8
        (case a0 => k_is)
        (case a1 => k_is)
        (case a2 => k_is)
        (case a3 => k_is)
        (case aE => k_is)
        (case cn => k_is)
        (case ctk => k_is)
        (case pg => (intro k; cases k <;> (dsimp only [MR.c4]; first | k_is | exact rfl | decide +kernel)))
        (case hd => (intro k; cases k <;> (dsimp only [MR.c4]; first | k_is | exact rfl | decide +kernel)))
        (case po => (intro k; cases k <;> (dsimp only [MR.c4]; first | k_is | exact rfl | decide +kernel)))
        (case sa => (intro k; cases k <;> (dsimp only [MR.c4]; first | k_is | exact rfl | decide +kernel)))
        (case ca => (intro k; cases k <;> (dsimp only [MR.c4]; first | k_is | exact rfl | decide +kernel)))
        (case cm => (intro k; cases k <;> (dsimp only [MR.c4]; first | k_is | exact rfl | decide +kernel)))
        (case kE => (intro k; cases k <;> (dsimp only [MR.c4]; first | k_is | exact rfl | decide +kernel)))
        (case n1 => (intro k; cases k <;> (dsimp only [MR.c4]; first | k_is | exact rfl | decide +kernel)))
        (case n2 => (intro k; cases k <;> (dsimp only [MR.c4]; first | k_is | exact rfl | decide +kernel)))
        (case n3 => (intro k; cases k <;> (dsimp only [MR.c4]; first | k_is | exact rfl | decide +kernel)))
        (case n4 => (intro k; cases k <;> (dsimp only [MR.c4]; first | k_is | exact rfl | decide +kernel)))
        (case n5 => (intro k; cases k <;> (dsimp only [MR.c4]; first | k_is | exact rfl | decide +kernel)))
        (case n6 => (intro k; cases k <;> (dsimp only [MR.c4]; first | k_is | exact rfl | decide +kernel)))
        (case n7 => (intro k; cases k <;> (dsimp only [MR.c4]; first | k_is | exact rfl | decide +kernel)))
        (case n8 => (intro k; cases k <;> (dsimp only [MR.c4]; first | k_is | exact rfl | decide +kernel)))
        (case inj => (intro k k'; cases k <;> cases k' <;> first | (intro _; rfl) | (dsimp only [MR.c4]; intro z; exact absurd z (by decide))))
        (case kk => (intro k k'; cases k <;> cases k' <;> (dsimp only [MR.c4]; first | k_is | exact rfl | decide +kernel)))
        (case nf => (intro k k'; cases k <;> cases k' <;> (dsimp only [MR.c4]; first | k_is | exact rfl | decide +kernel)))
      case F_kf => (refine' MR.kf_mk ?aC ?pg ?hd ?po ?sa ?ca ?cn ?ctk ?cm ?kk ?nf ?na; (case aC => first | k_is | exact rfl | decide +kernel); (case pg => first | k_is | exact rfl | decide +kernel); (case hd => first | k_is | exact rfl | decide +kernel); (case po => first | k_is | exact rfl | decide +kernel); (case sa => first | k_is | exact rfl | decide +kernel); (case ca => first | k_is | exact rfl | decide +kernel); (case cn => first | k_is | exact rfl | decide +kernel); (case ctk => first | k_is | exact rfl | decide +kernel); (case cm => first | k_is | exact rfl | decide +kernel); (case kk => first | k_is | exact rfl | decide +kernel); (case nf => first | k_is | exact rfl | decide +kernel); (case na => first | k_is | exact rfl | decide +kernel))
      case F_pf => (refine' MR.pf_mk ?aC ?pg ?hd ?po ?sa ?ca ?cn ?ctk ?cm ?kk ?nf ?n1 ?n2 ?n3 ?n4 ?n5; (case aC => first | k_is | exact rfl | decide +kernel); (case pg => first | k_is | exact rfl | decide +kernel); (case hd => first | k_is | exact rfl | decide +kernel); (case po => first | k_is | exact rfl | decide +kernel); (case sa => first | k_is | exact rfl | decide +kernel); (case ca => first | k_is | exact rfl | decide +kernel); (case cn => first | k_is | exact rfl | decide +kernel); (case ctk => first | k_is | exact rfl | decide +kernel); (case cm => first | k_is | exact rfl | decide +kernel); (case kk => first | k_is | exact rfl | decide +kernel); (case nf => first | k_is | exact rfl | decide +kernel); (case n1 => first | k_is | exact rfl | decide +kernel); (case n2 => first | k_is | exact rfl | decide +kernel); (case n3 => first | k_is | exact rfl | decide +kernel); (case n4 => first | k_is | exact rfl | decide +kernel); (case n5 => first | k_is | exact rfl | decide +kernel))
      case F_es => (refine' MR.es_mk ?a0 ?a1 ?a2 ?a3 ?f0 ?f1 ?f2 ?f3 ?gt ?tk ?rc ?l ?c ?k; (case a0 => k_is); (case a1 => k_is); (case a2 => k_is); (case a3 => k_is); (case f0 => k_is); (case f1 => k_is); (case f2 => k_is); (case f3 => k_is); (case gt => k_is); (case tk => k_is); (case rc => k_is); (case l => k_is); (case c => k_is); (case k => k_is))
      case F_ec => (refine' MR.es_mk ?a0 ?a1 ?a2 ?a3 ?f0 ?f1 ?f2 ?f3 ?gt ?tk ?rc ?l ?c ?k; (case a0 => k_is); (case a1 => k_is); (case a2 => k_is); (case a3 => k_is); (case f0 => k_is); (case f1 => k_is); (case f2 => k_is); (case f3 => k_is); (case gt => k_is); (case tk => k_is); (case rc => k_is); (case l => k_is); (case c => k_is); (case k => k_is))
      case F_em => (refine' MR.em_mk ?aE ?rd ?sp ?fv; (case aE => first | k_is | exact rfl | decide +kernel); (case rd => first | k_is | exact rfl | decide +kernel); (case sp => first | k_is | exact rfl | decide +kernel); (case fv => first | k_is | exact rfl | decide +kernel))
      case F_ei => (refine' MR.ei_mk ?a0 ?a1 ?a2 ?a3 ?aE ?fE ?s0 ?s1 ?s2 ?s3 ?f0 ?f1 ?f2 ?f3 ?ty ?fn ?l ?c ?k; (case a0 => first | k_is | exact rfl | decide +kernel); (case a1 => first | k_is | exact rfl | decide +kernel); (case a2 => first | k_is | exact rfl | decide +kernel); (case a3 => first | k_is | exact rfl | decide +kernel); (case aE => first | k_is | exact rfl | decide +kernel); (case fE => first | k_is | exact rfl | decide +kernel); (case s0 => first | k_is | exact rfl | decide +kernel); (case s1 => first | k_is | exact rfl | decide +kernel); (case s2 => first | k_is | exact rfl | decide +kernel); (case s3 => first | k_is | exact rfl | decide +kernel); (case f0 => first | k_is | exact rfl | decide +kernel); (case f1 => first | k_is | exact rfl | decide +kernel); (case f2 => first | k_is | exact rfl | decide +kernel); (case f3 => first | k_is | exact rfl | decide +kernel); (case ty => first | k_is | exact rfl | decide +kernel); (case fn => first | k_is | exact rfl | decide +kernel); (case l => first | k_is | exact rfl | decide +kernel); (case c => first | k_is | exact rfl | decide +kernel); (case k => first | k_is | exact rfl | decide +kernel))
      case F_en => (refine' MR.en_mk ?a0 ?a1 ?a2 ?a3 ?f0 ?f1 ?f2 ?f3 ?i ?l ?c ?k; (case a0 => k_is); (case a1 => k_is); (case a2 => k_is); (case a3 => k_is); (case f0 => k_is); (case f1 => k_is); (case f2 => k_is); (case f3 => k_is); (case i => k_is); (case l => k_is); (case c => k_is); (case k => k_is))
      case F_ki =>
        intro k
        cases k
        · (show ∃ f fd cc, MR.FunS _ _ "__init__" "Const.__init__" MR.sConstI f fd cc (MR.ga _ "Const") ∧ L2.Mk _ (MR.ga _ "Const") f); (refine' MR.ki_mk ?aC ?a ?i ?l ?c ?lc ?fi ?fe ?ce ?tp ?cd ?op ?mk ?kc; (case aC => first | k_is | exact rfl | decide +kernel); (case a => first | k_is | exact rfl | decide +kernel); (case i => first | k_is | exact rfl | decide +kernel); (case l => first | k_is | exact rfl | decide +kernel); (case c => first | k_is | exact rfl | decide +kernel); (case lc => first | k_is | exact rfl | decide +kernel); (case fi => exact rfl); (case fe => decide +kernel); (case ce => first | k_is | exact rfl | decide +kernel); (case tp => decide +kernel); (case cd => first | k_is | exact rfl | decide +kernel); (case op => first | k_is | exact rfl | decide +kernel); (case mk => first | k_is | exact rfl | decide +kernel); (case kc => first | k_is | exact rfl | decide +kernel))
        · (show ∃ f fd cc, MR.FunS _ _ "__init__" "Arg.__init__" MR.sArgI f fd cc (MR.ga _ "Arg") ∧ L2.Mk _ (MR.ga _ "Arg") f); (refine' MR.ki_mk ?aC ?a ?i ?l ?c ?lc ?fi ?fe ?ce ?tp ?cd ?op ?mk ?kc; (case aC => first | k_is | exact rfl | decide +kernel); (case a => first | k_is | exact rfl | decide +kernel); (case i => first | k_is | exact rfl | decide +kernel); (case l => first | k_is | exact rfl | decide +kernel); (case c => first | k_is | exact rfl | decide +kernel); (case lc => first | k_is | exact rfl | decide +kernel); (case fi => exact rfl); (case fe => decide +kernel); (case ce => first | k_is | exact rfl | decide +kernel); (case tp => decide +kernel); (case cd => first | k_is | exact rfl | decide +kernel); (case op => first | k_is | exact rfl | decide +kernel); (case mk => first | k_is | exact rfl | decide +kernel); (case kc => first | k_is | exact rfl | decide +kernel))
        · (show ∃ f fd cc, MR.FunS _ _ "__init__" "Call.__init__" MR.sCallI f fd cc (MR.ga _ "Call") ∧ L2.Mk _ (MR.ga _ "Call") f); (refine' MR.ki_mk ?aC ?a ?i ?l ?c ?lc ?fi ?fe ?ce ?tp ?cd ?op ?mk ?kc; (case aC => first | k_is | exact rfl | decide +kernel); (case a => first | k_is | exact rfl | decide +kernel); (case i => first | k_is | exact rfl | decide +kernel); (case l => first | k_is | exact rfl | decide +kernel); (case c => first | k_is | exact rfl | decide +kernel); (case lc => first | k_is | exact rfl | decide +kernel); (case fi => exact rfl); (case fe => decide +kernel); (case ce => first | k_is | exact rfl | decide +kernel); (case tp => decide +kernel); (case cd => first | k_is | exact rfl | decide +kernel); (case op => first | k_is | exact rfl | decide +kernel); (case mk => first | k_is | exact rfl | decide +kernel); (case kc => first | k_is | exact rfl | decide +kernel))
        · (show ∃ f fd cc, MR.FunS _ _ "__init__" "Choose.__init__" MR.sChooseI f fd cc (MR.ga _ "Choose") ∧ L2.Mk _ (MR.ga _ "Choose") f); (refine' MR.ki_mk ?aC ?a ?i ?l ?c ?lc ?fi ?fe ?ce ?tp ?cd ?op ?mk ?kc; (case aC => first | k_is | exact rfl | decide +kernel); (case a => first | k_is | exact rfl | decide +kernel); (case i => first | k_is | exact rfl | decide +kernel); (case l => first | k_is | exact rfl | decide +kernel); (case c => first | k_is | exact rfl | decide +kernel); (case lc => first | k_is | exact rfl | decide +kernel); (case fi => exact rfl); (case fe => decide +kernel); (case ce => first | k_is | exact rfl | decide +kernel); (case tp => decide +kernel); (case cd => first | k_is | exact rfl | decide +kernel); (case op => first | k_is | exact rfl | decide +kernel); (case mk => first | k_is | exact rfl | decide +kernel); (case kc => first | k_is | exact rfl | decide +kernel))
      case F_kq =>
        intro k
        cases k
        · (show ∃ f fd, L2.Fun _ "__eq__" "Const.__eq__" MR.sConstE f fd ∧ PySem.W.findIn _ (.ref (MR.ga _ "Const")) "__eq__" = some (some (.ref f)) ∧ PySem.W.isFn _ (.ref f) = true ∧ PySem.W.findIn _ (.ref (MR.ga _ "Const")) "__ne__" = some (some (.builtin "object.__ne__"))); (refine' MR.kq_mk ?aC ?a ?i ?l ?c ?k ?ne; (case aC => k_is); (case a => k_is); (case i => k_is); (case l => k_is); (case c => k_is); (case k => k_is); (case ne => k_is))
        · (show ∃ f fd, L2.Fun _ "__eq__" "Arg.__eq__" MR.sArgE f fd ∧ PySem.W.findIn _ (.ref (MR.ga _ "Arg")) "__eq__" = some (some (.ref f)) ∧ PySem.W.isFn _ (.ref f) = true ∧ PySem.W.findIn _ (.ref (MR.ga _ "Arg")) "__ne__" = some (some (.builtin "object.__ne__"))); (refine' MR.kq_mk ?aC ?a ?i ?l ?c ?k ?ne; (case aC => k_is); (case a => k_is); (case i => k_is); (case l => k_is); (case c => k_is); (case k => k_is); (case ne => k_is))
        · (show ∃ f fd, L2.Fun _ "__eq__" "Call.__eq__" MR.sCallE f fd ∧ PySem.W.findIn _ (.ref (MR.ga _ "Call")) "__eq__" = some (some (.ref f)) ∧ PySem.W.isFn _ (.ref f) = true ∧ PySem.W.findIn _ (.ref (MR.ga _ "Call")) "__ne__" = some (some (.builtin "object.__ne__"))); (refine' MR.kq_mk ?aC ?a ?i ?l ?c ?k ?ne; (case aC => k_is); (case a => k_is); (case i => k_is); (case l => k_is); (case c => k_is); (case k => k_is); (case ne => k_is))
        · (show ∃ f fd, L2.Fun _ "__eq__" "Choose.__eq__" MR.sChooseE f fd ∧ PySem.W.findIn _ (.ref (MR.ga _ "Choose")) "__eq__" = some (some (.ref f)) ∧ PySem.W.isFn _ (.ref f) = true ∧ PySem.W.findIn _ (.ref (MR.ga _ "Choose")) "__ne__" = some (some (.builtin "object.__ne__"))); (refine' MR.kq_mk ?aC ?a ?i ?l ?c ?k ?ne; (case aC => k_is); (case a => k_is); (case i => k_is); (case l => k_is); (case c => k_is); (case k => k_is); (case ne => k_is))
      case F_kv =>
        intro k
        cases k
        · (show ∃ f fd, L2.Fun _ "value" "Const.value" MR.sConstV f fd ∧ L2.Meth _ (MR.ga _ "Const") "value" f); (refine' MR.kv_mk ?aC ?a ?i ?l ?c ?k; (case aC => k_is); (case a => k_is); (case i => k_is); (case l => k_is); (case c => k_is); (case k => k_is))
        · (show ∃ f fd, L2.Fun _ "value" "Arg.value" MR.sArgV f fd ∧ L2.Meth _ (MR.ga _ "Arg") "value" f); (refine' MR.kv_mk ?aC ?a ?i ?l ?c ?k; (case aC => k_is); (case a => k_is); (case i => k_is); (case l => k_is); (case c => k_is); (case k => k_is))
        · (show ∃ f fd, L2.Fun _ "value" "Call.value" MR.sCallV f fd ∧ L2.Meth _ (MR.ga _ "Call") "value" f); (refine' MR.kv_mk ?aC ?a ?i ?l ?c ?k; (case aC => k_is); (case a => k_is); (case i => k_is); (case l => k_is); (case c => k_is); (case k => k_is))
        · (show ∃ f fd, L2.Fun _ "value" "Choose.value" MR.sChooseV f fd ∧ L2.Meth _ (MR.ga _ "Choose") "value" f); (refine' MR.kv_mk ?aC ?a ?i ?l ?c ?k; (case aC => k_is); (case a => k_is); (case i => k_is); (case l => k_is); (case c => k_is); (case k => k_is))
      case F_ci => (refine' MR.mi_mk ?aC ?a ?i ?l ?c ?k ?mk ?kc; (case aC => k_is); (case a => k_is); (case i => k_is); (case l => k_is); (case c => k_is); (case k => k_is); (case mk => k_is); (case kc => k_is))
      case F_pi => (refine' MR.mi_mk ?aC ?a ?i ?l ?c ?k ?mk ?kc; (case aC => k_is); (case a => k_is); (case i => k_is); (case l => k_is); (case c => k_is); (case k => k_is); (case mk => k_is); (case kc => k_is))
      case F_cq => (refine' MR.mq_mk ?aC ?a ?i ?l ?c ?k; (case aC => k_is); (case a => k_is); (case i => k_is); (case l => k_is); (case c => k_is); (case k => k_is))
      case F_pq => (refine' MR.mq_mk ?aC ?a ?i ?l ?c ?k; (case aC => k_is); (case a => k_is); (case i => k_is); (case l => k_is); (case c => k_is); (case k => k_is))
      case F_cs => (refine' MR.rf_mk ?aC ?a ?gt ?tk ?rc ?l ?c ?k; (case aC => k_is); (case a => k_is); (case gt => k_is); (case tk => k_is); (case rc => k_is); (case l => k_is); (case c => k_is); (case k => k_is))
      case F_cr => (refine' MR.rf_mk ?aC ?a ?gt ?tk ?rc ?l ?c ?k; (case aC => k_is); (case a => k_is); (case gt => k_is); (case tk => k_is); (case rc => k_is); (case l => k_is); (case c => k_is); (case k => k_is))
      case F_ps => (refine' MR.rf_mk ?aC ?a ?gt ?tk ?rc ?l ?c ?k; (case aC => k_is); (case a => k_is); (case gt => k_is); (case tk => k_is); (case rc => k_is); (case l => k_is); (case c => k_is); (case k => k_is))
      case F_pn => (refine' MR.rf_mk ?aC ?a ?gt ?tk ?rc ?l ?c ?k; (case aC => k_is); (case a => k_is); (case gt => k_is); (case tk => k_is); (case rc => k_is); (case l => k_is); (case c => k_is); (case k => k_is))
      case F_pk => (refine' MR.rf_mk ?aC ?a ?gt ?tk ?rc ?l ?c ?k; (case aC => k_is); (case a => k_is); (case gt => k_is); (case tk => k_is); (case rc => k_is); (case l => k_is); (case c => k_is); (case k => k_is))
      case F_mc => (refine' MR.mf_mk ?aC ?a ?i ?l ?c ?k; (case aC => k_is); (case a => k_is); (case i => k_is); (case l => k_is); (case c => k_is); (case k => k_is))
      case F_mb => (refine' MR.mf_mk ?aC ?a ?i ?l ?c ?k; (case aC => k_is); (case a => k_is); (case i => k_is); (case l => k_is); (case c => k_is); (case k => k_is))
      case F_mr => (refine' MR.mf_mk ?aC ?a ?i ?l ?c ?k; (case aC => k_is); (case a => k_is); (case i => k_is); (case l => k_is); (case c => k_is); (case k => k_is))
      case F_ml => (refine' MR.mf_mk ?aC ?a ?i ?l ?c ?k; (case aC => k_is); (case a => k_is); (case i => k_is); (case l => k_is); (case c => k_is); (case k => k_is))
      case F_mg => (refine' MR.mf_mk ?aC ?a ?i ?l ?c ?k; (case aC => k_is); (case a => k_is); (case i => k_is); (case l => k_is); (case c => k_is); (case k => k_is))
      case F_mn => (refine' MR.mf_mk ?aC ?a ?i ?l ?c ?k; (case aC => k_is); (case a => k_is); (case i => k_is); (case l => k_is); (case c => k_is); (case k => k_is))
      case F_mh => (refine' MR.mf_mk ?aC ?a ?i ?l ?c ?k; (case aC => k_is); (case a => k_is); (case i => k_is); (case l => k_is); (case c => k_is); (case k => k_is))
      case F_mck => (refine' MR.mf_mk ?aC ?a ?i ?l ?c ?k; (case aC => k_is); (case a => k_is); (case i => k_is); (case l => k_is); (case c => k_is); (case k => k_is))
      case F_mf => (refine' MR.mf_mk ?aC ?a ?i ?l ?c ?k; (case aC => k_is); (case a => k_is); (case i => k_is); (case l => k_is); (case c => k_is); (case k => k_is))
      case F_abs_ => k_is
      case F_cne => (refine' MR.cne_mk ?aC ?ne; (case aC => k_is); (case ne => k_is))
      case F_isValue => (refine' MR.gf_mk ?a ?l ?c ?k; (case a => k_is); (case l => k_is); (case c => k_is); (case k => k_is))
      case F_isSize => (refine' MR.gf_mk ?a ?l ?c ?k; (case a => k_is); (case l => k_is); (case c => k_is); (case k => k_is))
      case F_isName => (refine' MR.gf_mk ?a ?l ?c ?k; (case a => k_is); (case l => k_is); (case c => k_is); (case k => k_is))
      case F_isPoss => (refine' MR.gf_mk ?a ?l ?c ?k; (case a => k_is); (case l => k_is); (case c => k_is); (case k => k_is))
      case F_isRow => (refine' MR.gf_mk ?a ?l ?c ?k; (case a => k_is); (case l => k_is); (case c => k_is); (case k => k_is))
      case F_isFunc => (refine' MR.gf_mk ?a ?l ?c ?k; (case a => k_is); (case l => k_is); (case c => k_is); (case k => k_is))
      case F_draw => (refine' MR.gf_mk ?a ?l ?c ?k; (case a => k_is); (case l => k_is); (case c => k_is); (case k => k_is))
      case F_cellAt => (refine' MR.gf_mk ?a ?l ?c ?k; (case a => k_is); (case l => k_is); (case c => k_is); (case k => k_is))
      case F_digits => (refine' MR.gf_mk ?a ?l ?c ?k; (case a => k_is); (case l => k_is); (case c => k_is); (case k => k_is))
      case F_take => (refine' MR.gf_mk ?a ?l ?c ?k; (case a => k_is); (case l => k_is); (case c => k_is); (case k => k_is))
      case F_pool => (refine' MR.gf_mk ?a ?l ?c ?k; (case a => k_is); (case l => k_is); (case c => k_is); (case k => k_is))
      case F_body => (refine' MR.gf_mk ?a ?l ?c ?k; (case a => k_is); (case l => k_is); (case c => k_is); (case k => k_is))
      case F_made => (refine' MR.gf_mk ?a ?l ?c ?k; (case a => k_is); (case l => k_is); (case c => k_is); (case k => k_is))
      case F_called => (refine' MR.gf_mk ?a ?l ?c ?k; (case a => k_is); (case l => k_is); (case c => k_is); (case k => k_is))
      case F_worth => (refine' MR.gf_mk ?a ?l ?c ?k; (case a => k_is); (case l => k_is); (case c => k_is); (case k => k_is))
      case F_tables => (refine' MR.gf_mk ?a ?l ?c ?k; (case a => k_is); (case l => k_is); (case c => k_is); (case k => k_is))
      case F_plan => (refine' MR.gf_mk ?a ?l ?c ?k; (case a => k_is); (case l => k_is); (case c => k_is); (case k => k_is))
      case F_built => (refine' MR.gf_mk ?a ?l ?c ?k; (case a => k_is); (case l => k_is); (case c => k_is); (case k => k_is))
      case F_turned => (refine' MR.gf_mk ?a ?l ?c ?k; (case a => k_is); (case l => k_is); (case c => k_is); (case k => k_is))
      case F_mch => (refine' MR.gf_mk ?a ?l ?c ?k; (case a => k_is); (case l => k_is); (case c => k_is); (case k => k_is))
      case F_fbr => (refine' MR.gf_mk ?a ?l ?c ?k; (case a => k_is); (case l => k_is); (case c => k_is); (case k => k_is))
      case F_ckP => (refine' MR.gf_mk ?a ?l ?c ?k; (case a => k_is); (case l => k_is); (case c => k_is); (case k => k_is))
      case F_chP => (refine' MR.gf_mk ?a ?l ?c ?k; (case a => k_is); (case l => k_is); (case c => k_is); (case k => k_is))
      case F_rv => (refine' MR.gf_mk ?a ?l ?c ?k; (case a => k_is); (case l => k_is); (case c => k_is); (case k => k_is))
      case F_cb => (refine' MR.gf_mk ?a ?l ?c ?k; (case a => k_is); (case l => k_is); (case c => k_is); (case k => k_is))
      case F_df => (refine' MR.gf_mk ?a ?l ?c ?k; (case a => k_is); (case l => k_is); (case c => k_is); (case k => k_is))
      case F_lrv => (refine' MR.gf_mk ?a ?l ?c ?k; (case a => k_is); (case l => k_is); (case c => k_is); (case k => k_is))
      case F_oth => (refine' MR.gf_mk ?a ?l ?c ?k; (case a => k_is); (case l => k_is); (case c => k_is); (case k => k_is))
      case F_law => (refine' MR.gf_mk ?a ?l ?c ?k; (case a => k_is); (case l => k_is); (case c => k_is); (case k => k_is))
end

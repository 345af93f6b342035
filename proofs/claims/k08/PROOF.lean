import PyProof.Rows.All
import Wide.All
import OpenK.AllK
import Wide.FinOn
import HandS.ForExc
import HandS.Comp
import HandS.Iter
import HandS.ExcInit
import HandS.ExcField
import HandS.TryMany
import HandS.IsInst
import HandS.Wide
import HandS.Flow
import HandS.Deep
import HandS.TupMul
import HandS.TupLe
import HandS.Style
import HandS.TupAny
import HandS.More
import HandS.SetFor
import HandS.CallSlots
import HandS.ExcIs
import KE.GoesMore
import PySem.Challenge.RW_nearlords_k08_houses_and_their_errors
/-! ## VS0 -/
set_option Elab.async false
set_option linter.all false
set_option maxRecDepth 100000
set_option maxHeartbeats 4000000
set_option autoImplicit false
namespace VS
open PySem PySem.Spec L2

/-- data, without the heap -/
inductive D where
  | non | bl (b : Bool) | int (i : Int) | str (x : Str)
  | tup (xs : List D) | lst (xs : List D) | scr (ns : List Int)
  | ins (c : Str) (ns : List Str) (xs : List D)

/-- a slot: unknown; data that stands still; a list that the def alone holds; a list of such lists -/
inductive S where
  | un | fr (d : D) | ow (ds : List D) | o2 (dss : List (List D))

abbrev Av := Addr → Prop
section
variable (K : PySem.W.Frag) (mg : Str → Option Value)
def Kt (a : Addr) (xs : List V) : Prop := ∃ (o : Obj) (its : Array Value) (n : Nat), K.lookup a = some o ∧ o.cls = .type "tuple" ∧ o.data = .seq its n ∧ its.size ≤ sizeLine ∧ Vals xs its.toList
def Kl (a : Addr) (xs : List V) : Prop := ∃ (o : Obj) (its : Array Value) (n : Nat), K.lookup a = some o ∧ o.cls = .type "list" ∧ o.dict = none ∧ o.data = .seq its n ∧ its.size ≤ sizeLine ∧ Vals xs its.toList
/-- a tuple, a list that stands still, away from B -/
def Tp (H : Hp) (B : Av) (a : Addr) (vs : List V) : Prop := (Rd H a (.tup vs) ∧ ¬ B a) ∨ Kt K a vs
def Lp (H : Hp) (B : Av) (a : Addr) (vs : List V) : Prop := H a = some (.lst vs) ∧ ¬ B a
/-- the script -/
def Sp1 (H : Hp) (B : Av) (a : Addr) (vs : List V) : Prop := (Rd H a (.lst vs) ∧ ¬ B a) ∨ Kl K a vs
mutual
def R (H : Hp) (B : Av) : D → V → Prop
  | .non, x => x = .non
  | .bl b, x => x = .bl b
  | .int i, x => x = .int i
  | .str z, x => x = .str z
  | .tup ds, x => ∃ a vs, x = .ref a ∧ Tp K H B a vs ∧ Rs H B ds vs
  | .lst ds, x => ∃ a vs, x = .ref a ∧ Lp H B a vs ∧ Rs H B ds vs
  | .scr ns, x => ∃ a, x = .ref a ∧ Sp1 K H B a (ns.map V.int)
  | .ins c ns ds, x => ∃ a C dx vs, x = .ref a ∧ mg c = some (.ref C) ∧ H a = some (.ins C dx (ns.zip vs)) ∧ ¬ B a ∧ vs.length = ns.length ∧ Rs H B ds vs
def Rs (H : Hp) (B : Av) : List D → List V → Prop
  | [], vs => vs = []
  | d :: ds, vs => ∃ x xs, vs = x :: xs ∧ R H B d x ∧ Rs H B ds xs
end
end

/-- what is tracked and not in A stands -/
def Keep (A : Av) (H H' : Hp) : Prop := ∀ a o, ¬ A a → H a = some o → H' a = some o
section
variable {K : PySem.W.Frag} {mg : Str → Option Value} {H H' : Hp} {A B B' : Av}
theorem Tp.sq {a : Addr} {vs : List V} (h : Tp K H B a vs) : SqT K H a vs := h.elim (fun h => .inl h.1) .inr
theorem Lp.sq {a : Addr} {vs : List V} (h : Lp H B a vs) : SqL K H a vs := .inl (.inl h.1)
theorem Sp1.sq {a : Addr} {vs : List V} (h : Sp1 K H B a vs) : SqL K H a vs := h.elim (fun h => .inl h.1) .inr
theorem Rd.keep {a : Addr} {u : HO} (h : Rd H a u) (hb : ¬ B a) (k : Keep B H H') : Rd H' a u := by
  rcases h with h | ⟨o, h⟩
  · exact .inl (k _ _ hb h)
  · exact .inr ⟨o, k _ _ hb h⟩
theorem Rd.tracked {a : Addr} {u : HO} (h : Rd H a u) : H a ≠ none := by
  rcases h with h | ⟨o, h⟩ <;> rw [h] <;> intro z <;> cases z
mutual
theorem R.mono (k : Keep B H H') (hB : ∀ a, H a ≠ none → B' a → B a) : ∀ {d : D} {x : V}, R K mg H B d x → R K mg H' B' d x
  | .non, _, h => h
  | .bl _, _, h => h
  | .int _, _, h => h
  | .str _, _, h => h
  | .tup ds, x, ⟨a, vs, e, h, r⟩ => ⟨a, vs, e, h.elim (fun ⟨h, hb⟩ => .inl ⟨Rd.keep h hb k, fun z => hb (hB a (Rd.tracked h) z)⟩) .inr, Rs.mono k hB r⟩
  | .lst ds, x, ⟨a, vs, e, ⟨h, hb⟩, r⟩ => ⟨a, vs, e, ⟨k _ _ hb h, fun z => hb (hB a (by rw [h]; intro z; cases z) z)⟩, Rs.mono k hB r⟩
  | .scr ns, x, ⟨a, e, h⟩ => ⟨a, e, h.elim (fun ⟨h, hb⟩ => .inl ⟨Rd.keep h hb k, fun z => hb (hB a (Rd.tracked h) z)⟩) .inr⟩
  | .ins c ns ds, x, ⟨a, C, dx, vs, e, m, h, hb, l, r⟩ => ⟨a, C, dx, vs, e, m, k _ _ hb h, fun hb' => hb (hB a (by rw [h]; intro z; cases z) hb'), l, Rs.mono k hB r⟩
theorem Rs.mono (k : Keep B H H') (hB : ∀ a, H a ≠ none → B' a → B a) : ∀ {ds : List D} {xs : List V}, Rs K mg H B ds xs → Rs K mg H' B' ds xs
  | [], _, h => h
  | d :: ds, vs, ⟨x, xs, e, r, rr⟩ => ⟨x, xs, e, R.mono k hB r, Rs.mono k hB rr⟩
end
theorem Rs.length : ∀ {ds : List D} {xs : List V}, Rs K mg H B ds xs → ds.length = xs.length
  | [], _, h => by cases (show _ = [] from h); rfl
  | d :: ds, vs, ⟨x, xs, e, r, rr⟩ => by rw [e, List.length_cons, List.length_cons, Rs.length rr]
theorem Rs.nil : Rs K mg H B [] [] := rfl
theorem Rs.cons {d : D} {x : V} {ds : List D} {xs : List V} (r : R K mg H B d x) (rr : Rs K mg H B ds xs) : Rs K mg H B (d :: ds) (x :: xs) := ⟨x, xs, rfl, r, rr⟩
theorem Rs.get : ∀ {ds : List D} {xs : List V} {i : Nat} {d : D}, Rs K mg H B ds xs → ds[i]? = some d → ∃ x, xs[i]? = some x ∧ R K mg H B d x
  | [], _, i, d, _, h => by simp at h
  | d :: ds, _, 0, d', ⟨x, xs, e, r, rr⟩, h => by
    cases h
    exact ⟨x, by rw [e]; rfl, r⟩
  | d :: ds, _, i + 1, d', ⟨x, xs, e, r, rr⟩, h => by
    obtain ⟨y, hy, q⟩ := Rs.get (i := i) rr h
    exact ⟨y, by rw [e]; exact hy, q⟩
theorem Rs.append : ∀ {ds es : List D} {xs ys : List V}, Rs K mg H B ds xs → Rs K mg H B es ys → Rs K mg H B (ds ++ es) (xs ++ ys)
  | [], es, _, ys, h, h' => by cases (show _ = [] from h); exact h'
  | d :: ds, es, _, ys, ⟨x, xs, e, r, rr⟩, h' => by rw [e]; exact ⟨x, xs ++ ys, rfl, r, Rs.append rr h'⟩
theorem Rs.set : ∀ {ds : List D} {xs : List V} {d : D} {x : V} (i : Nat), Rs K mg H B ds xs → R K mg H B d x → Rs K mg H B (ds.set i d) (xs.set i x)
  | [], _, d, x, i, h, _ => by cases (show _ = [] from h); exact rfl
  | d :: ds, _, d', x', 0, ⟨x, xs, e, r, rr⟩, h' => by rw [e]; exact ⟨x', xs, rfl, h', rr⟩
  | d :: ds, _, d', x', i + 1, ⟨x, xs, e, r, rr⟩, h' => by rw [e]; exact ⟨x, _, rfl, r, Rs.set i rr h'⟩
theorem Rs.take : ∀ {ds : List D} {xs : List V} (n : Nat), Rs K mg H B ds xs → Rs K mg H B (ds.take n) (xs.take n)
  | _, _, 0, _ => rfl
  | [], _, n + 1, h => by cases (show _ = [] from h); exact rfl
  | d :: ds, _, n + 1, ⟨x, xs, e, r, rr⟩ => by rw [e]; exact ⟨x, _, rfl, r, Rs.take n rr⟩
theorem Rs.drop : ∀ {ds : List D} {xs : List V} (n : Nat), Rs K mg H B ds xs → Rs K mg H B (ds.drop n) (xs.drop n)
  | _, _, 0, h => h
  | [], _, n + 1, h => by cases (show _ = [] from h); exact rfl
  | d :: ds, _, n + 1, ⟨x, xs, e, r, rr⟩ => by rw [e]; exact Rs.drop n rr
theorem Rs.eraseIdx : ∀ {ds : List D} {xs : List V} (n : Nat), Rs K mg H B ds xs → Rs K mg H B (ds.eraseIdx n) (xs.eraseIdx n)
  | [], _, n, h => by cases (show _ = [] from h); exact rfl
  | d :: ds, _, 0, ⟨x, xs, e, r, rr⟩ => by rw [e]; exact rr
  | d :: ds, _, n + 1, ⟨x, xs, e, r, rr⟩ => by rw [e]; exact ⟨x, _, rfl, r, Rs.eraseIdx n rr⟩
theorem Rs.reverse : ∀ {ds : List D} {xs : List V}, Rs K mg H B ds xs → Rs K mg H B ds.reverse xs.reverse
  | [], _, h => by cases (show _ = [] from h); exact rfl
  | d :: ds, _, ⟨x, xs, e, r, rr⟩ => by
    rw [e, List.reverse_cons, List.reverse_cons]
    exact Rs.append (Rs.reverse rr) (Rs.cons r Rs.nil)
theorem Rs.ints : ∀ (ns : List Int), Rs K mg H B (ns.map D.int) (ns.map V.int)
  | [] => rfl
  | n :: ns => ⟨_, _, rfl, rfl, Rs.ints ns⟩
theorem Rs.ints_eq : ∀ {ns : List Int} {xs : List V}, Rs K mg H B (ns.map D.int) xs → xs = ns.map V.int
  | [], _, h => h
  | n :: ns, _, ⟨x, xs, e, r, rr⟩ => by rw [e, Rs.ints_eq rr, (show x = V.int n from r)]; rfl

/-! ### the slots -/
/-- inner lists held alone -/
inductive O2 (K : PySem.W.Frag) (mg : Str → Option Value) (H : Hp) (B : Av) : List (List D) → List Addr → Prop
  | nil : O2 K mg H B [] []
  | cons {ds : List D} {dss : List (List D)} {a : Addr} {as : List Addr} {vs : List V} : H a = some (.lst vs) → Rs K mg H B ds vs → O2 K mg H B dss as → O2 K mg H B (ds :: dss) (a :: as)
/-- a slot's value, and the addresses that the slot alone holds -/
def Os (K : PySem.W.Frag) (mg : Str → Option Value) (H : Hp) (B : Av) : S → Option V → List Addr → Prop
  | .un, _, as => as = []
  | .fr d, v, as => as = [] ∧ ∃ x, v = some x ∧ R K mg H B d x
  | .ow ds, v, as => ∃ a vs, v = some (.ref a) ∧ as = [a] ∧ H a = some (.lst vs) ∧ Rs K mg H B ds vs
  | .o2 dss, v, as => ∃ a bs, v = some (.ref a) ∧ as = a :: bs ∧ H a = some (.lst (bs.map V.ref)) ∧ O2 K mg H B dss bs
inductive Sl (K : PySem.W.Frag) (mg : Str → Option Value) (H : Hp) (B : Av) : List S → St → List Addr → Prop
  | nil : Sl K mg H B [] [] []
  | cons {s : S} {ρ : List S} {v : Option V} {σ : St} {as bs : List Addr} : Os K mg H B s v as → Sl K mg H B ρ σ bs → Sl K mg H B (s :: ρ) (v :: σ) (as ++ bs)
/-- held alone, or to be kept away from -/
def Bv (as : List Addr) (B0 : Av) : Av := fun a => a ∈ as ∨ B0 a
structure Rel (K : PySem.W.Frag) (mg : Str → Option Value) (B0 : Av) (ρ : List S) (σ : St) (H : Hp) (as : List Addr) : Prop where
  sl : Sl K mg H (Bv as B0) ρ σ as
  nd : as.Nodup
  dis : ∀ a ∈ as, ¬ B0 a
  trk : ∀ a, B0 a → H a ≠ none
/-- from one state to a later one -/
structure Fwd (as : List Addr) (H : Hp) (as' : List Addr) (H' : Hp) : Prop where
  st : ∀ a o, a ∉ as → H a = some o → H' a = some o ∧ a ∉ as'
  tr : ∀ a, H a ≠ none → H' a ≠ none
theorem Fwd.refl {as : List Addr} : Fwd as H as H := ⟨fun _ _ n h => ⟨h, n⟩, fun _ h => h⟩
theorem Fwd.trans {as bs cs : List Addr} {H1 : Hp} (x : Fwd as H bs H1) (y : Fwd bs H1 cs H') : Fwd as H cs H' := ⟨fun a o n h =>
  let ⟨h1, n1⟩ := x.st a o n h
  y.st a o n1 h1, fun a h => y.tr a (x.tr a h)⟩
theorem Fwd.unt {as bs : List Addr} (x : Fwd as H bs H') {p : Addr} (h : H' p = none) : H p = none := by
  cases e : H p with
  | none => rfl
  | some o => exact absurd h (x.tr p (by rw [e]; intro z; cases z))
theorem O2.tracked : ∀ {dss : List (List D)} {bs : List Addr}, O2 K mg H B dss bs → ∀ a ∈ bs, H a ≠ none
  | _, _, .nil, a, h => by simp at h
  | _, _, .cons e _ r, a, h => by
    rcases List.mem_cons.mp h with z | z
    · rw [z, e]; intro q; cases q
    · exact r.tracked a z
theorem Os.tracked {s : S} {v : Option V} {as : List Addr} (h : Os K mg H B s v as) : ∀ a ∈ as, H a ≠ none := by
  intro a ha
  cases s with
  | un => rw [show as = [] from h] at ha; simp at ha
  | fr d => rw [h.1] at ha; simp at ha
  | ow ds =>
    obtain ⟨b, vs, _, e, hb, _⟩ := h
    rw [e] at ha
    have z : a = b := by simpa using ha
    rw [z, hb]; intro q; cases q
  | o2 dss =>
    obtain ⟨b, bs, _, e, hb, r⟩ := h
    rw [e] at ha
    rcases List.mem_cons.mp ha with z | z
    · rw [z, hb]; intro q; cases q
    · exact r.tracked a z
theorem Sl.tracked : ∀ {ρ : List S} {σ : St} {as : List Addr}, Sl K mg H B ρ σ as → ∀ a ∈ as, H a ≠ none
  | _, _, _, .nil, a, h => by simp at h
  | _, _, _, .cons h r, a, ha => by
    rcases List.mem_append.mp ha with z | z
    · exact h.tracked a z
    · exact r.tracked a z
theorem Sl.length : ∀ {ρ : List S} {σ : St} {as : List Addr}, Sl K mg H B ρ σ as → ρ.length = σ.length
  | _, _, _, .nil => rfl
  | _, _, _, .cons _ r => by rw [List.length_cons, List.length_cons, r.length]
/-- the held lists stand, what is not in B stands -/
theorem O2.mono (k : Keep B H H') (hB : ∀ a, H a ≠ none → B' a → B a) : ∀ {dss : List (List D)} {bs : List Addr}, (∀ a ∈ bs, H' a = H a) → O2 K mg H B dss bs → O2 K mg H' B' dss bs
  | _, _, _, .nil => .nil
  | _, _, hh, .cons e rs r => .cons ((hh _ List.mem_cons_self).trans e) (Rs.mono k hB rs) (r.mono k hB fun a ha => hh a (List.mem_cons_of_mem _ ha))
theorem Os.mono (k : Keep B H H') (hB : ∀ a, H a ≠ none → B' a → B a) {s : S} {v : Option V} {as : List Addr} (hh : ∀ a ∈ as, H' a = H a) (h : Os K mg H B s v as) : Os K mg H' B' s v as := by
  cases s with
  | un => exact h
  | fr d => exact ⟨h.1, let ⟨x, e, r⟩ := h.2; ⟨x, e, R.mono k hB r⟩⟩
  | ow ds =>
    obtain ⟨a, vs, e1, e2, e3, r⟩ := h
    exact ⟨a, vs, e1, e2, (hh a (by rw [e2]; simp)).trans e3, Rs.mono k hB r⟩
  | o2 dss =>
    obtain ⟨a, bs, e1, e2, e3, r⟩ := h
    exact ⟨a, bs, e1, e2, (hh a (by rw [e2]; simp)).trans e3, r.mono k hB fun b hb => hh b (by rw [e2]; exact List.mem_cons_of_mem _ hb)⟩
theorem Sl.mono (k : Keep B H H') (hB : ∀ a, H a ≠ none → B' a → B a) : ∀ {ρ : List S} {σ : St} {as : List Addr}, (∀ a ∈ as, H' a = H a) → Sl K mg H B ρ σ as → Sl K mg H' B' ρ σ as
  | _, _, _, _, .nil => .nil
  | _, _, _, hh, .cons h r => .cons (h.mono k hB fun a ha => hh a (List.mem_append_left _ ha)) (r.mono k hB fun a ha => hh a (List.mem_append_right _ ha))
/-- a slot taken out, and put back changed -/
theorem Sl.at : ∀ {ρ : List S} {σ : St} {as : List Addr} {i : Nat} {s : S}, Sl K mg H B ρ σ as → ρ[i]? = some s →
    ∃ (l m r : List Addr) (v : Option V), as = l ++ m ++ r ∧ σ[i]? = some v ∧ Os K mg H B s v m ∧
      ∀ (H' : Hp) (B' : Av) (s' : S) (v' : Option V) (m' : List Addr), (∀ {s : S} {v : Option V} {as : List Addr}, (∀ a ∈ as, a ∈ l ∨ a ∈ r) → Os K mg H B s v as → Os K mg H' B' s v as) → Os K mg H' B' s' v' m' → Sl K mg H' B' (ρ.set i s') (σ.set i v') (l ++ m' ++ r)
  | _, _, _, i, s, .nil, h => by simp at h
  | _, _, _, 0, s, .cons (as := as) (bs := bs) (v := v) (ρ := ρ) (σ := σ) h r, e => by
    cases e
    refine ⟨[], as, bs, v, by simp, rfl, h, fun H' B' s' v' m' tr o => ?_⟩
    have r' : Sl K mg H' B' ρ σ bs := by
      have go : ∀ {ρ : List S} {σ : St} {cs : List Addr}, (∀ a ∈ cs, a ∈ bs) → Sl K mg H B ρ σ cs → Sl K mg H' B' ρ σ cs := by
        intro ρ σ cs hc q
        induction q with
        | nil => exact .nil
        | cons h1 r1 ih => exact .cons (tr (fun a ha => .inr (hc a (List.mem_append_left _ ha))) h1) (ih fun a ha => hc a (List.mem_append_right _ ha))
      exact go (fun a ha => ha) r
    exact .cons o r'
  | _, _, _, i + 1, s, .cons (as := as) (bs := bs) (v := v) h r, e => by
    obtain ⟨l, m, r2, v2, e1, e2, e3, e4⟩ := Sl.at (i := i) r e
    refine ⟨as ++ l, m, r2, v2, by rw [e1]; simp [List.append_assoc], e2, e3, fun H' B' s' v' m' tr o => ?_⟩
    have q := e4 H' B' s' v' m' (fun hm => tr fun a ha => (hm a ha).elim (fun z => .inl (List.mem_append_right _ z)) .inr) o
    have q2 := Sl.cons (tr (fun a ha => .inl (List.mem_append_left _ ha)) h) q
    show Sl K mg H' B' _ _ (as ++ l ++ m' ++ r2)
    rw [List.append_assoc, List.append_assoc, ← List.append_assoc l]
    exact q2
end
end VS
/-! ## VS1 -/
set_option Elab.async false
set_option linter.all false
set_option maxRecDepth 100000
set_option maxHeartbeats 4000000
set_option autoImplicit false
namespace VS
open PySem PySem.Spec L2

/-! ### ends -/
inductive Out (α : Type) where
  | ok (x : α) (ρ : List S)
  | ex (c : Str) (w : D) (ρ : List S)
  | bad
def Out.bind {α β : Type} (o : Out α) (f : α → List S → Out β) : Out β :=
  match o with
  | .ok x ρ => f x ρ
  | .ex c w ρ => .ex c w ρ
  | .bad => .bad
/-- an exception of one's own, told by its class and what -/
def XPost (K : PySem.W.Frag) (mg : Str → Option Value) (W : WX) (B0 : Av) (as : List Addr) (H : Hp) (σ : L2.St) (c : Str) (w : D) (ρ : List S) : Prop :=
  ∀ (C dd : Addr) (H' : Hp) (as' : List Addr) (v : V), mg c = some (.ref C) → H' dd = some (.xd [(("what" : Str), v)]) → R K mg H' (Bv as' B0) w v → Rel K mg B0 ρ σ H' as' → Fwd as H as' H' → W (.ref C) (some dd) σ H'
def EPost {α : Type} (K : PySem.W.Frag) (mg : Str → Option Value) (W : WX) (B0 : Av) (as : List Addr) (H : Hp) (σ : L2.St) (G : α → List S → Prop) : Out α → Prop
  | .ok x ρ => G x ρ
  | .ex c w ρ => XPost K mg W B0 as H σ c w ρ
  | .bad => False
section
variable (K : PySem.W.Frag) (mg : Str → Option Value) (W : WX)
def tE (f : List S → Out D) : TE := fun σ H Q => ∃ B0 ρ as, Rel K mg B0 ρ σ H as ∧
  EPost K mg W B0 as H σ (fun d ρ' => ∀ x H' as', Rel K mg B0 ρ' σ H' as' → Fwd as H as' H' → R K mg H' (Bv as' B0) d x → Q x H') (f ρ)
def tT (f : List S → Out Bool) : TT := fun σ H Q => ∃ B0 ρ as, Rel K mg B0 ρ σ H as ∧
  EPost K mg W B0 as H σ (fun b ρ' => ∀ H' as', Rel K mg B0 ρ' σ H' as' → Fwd as H as' H' → Q b H') (f ρ)
def tA (f : List S → Out (List D)) : TA := fun σ H Q => ∃ B0 ρ as, Rel K mg B0 ρ σ H as ∧
  EPost K mg W B0 as H σ (fun ds ρ' => ∀ xs H' as', Rel K mg B0 ρ' σ H' as' → Fwd as H as' H' → Rs K mg H' (Bv as' B0) ds xs → Q xs H') (f ρ)
/-- a new list -/
def Plus (B0 : Av) (p : Addr) : Av := fun a => a = p ∨ B0 a
def tN (f : List S → Out (List D)) : TE := fun σ H Q => ∃ B0 ρ as, Rel K mg B0 ρ σ H as ∧
  EPost K mg W B0 as H σ (fun ds ρ' => ∀ p vs H' as', Rel K mg (Plus B0 p) ρ' σ H' as' → Fwd as H as' H' → H p = none → H' p = some (.lst vs) → Rs K mg H' (Bv as' (Plus B0 p)) ds vs → Q (.ref p) H') (f ρ)
end
abbrev VE (X : Cx) (W : WX) (e : Expr) (f : List S → Out D) : Prop := PE X e (tE X.K X.mg W f)
abbrev VT (X : Cx) (W : WX) (e : Expr) (f : List S → Out Bool) : Prop := PT X e (tT X.K X.mg W f)
abbrev VW (X : Cx) (W : WX) (e : Expr) (f : List S → Out Bool) : Prop := PW X e (tT X.K X.mg W f)
abbrev VA (X : Cx) (W : WX) (es : List Expr) (f : List S → Out (List D)) : Prop := PA X es (tA X.K X.mg W f)
abbrev VN (X : Cx) (W : WX) (e : Expr) (f : List S → Out (List D)) : Prop := PE X e (tN X.K X.mg W f)

theorem PE_weak {X : Cx} {e : Expr} {t t' : TE} (h : PE X e t) (i : ∀ σ H Q, t' σ H Q → t σ H Q) : PE X e t' := ⟨fun pins s σ H Q I w => h.run pins s σ H Q I (i σ H Q w)⟩
theorem PT_weak {X : Cx} {e : Expr} {t t' : TT} (h : PT X e t) (i : ∀ σ H Q, t' σ H Q → t σ H Q) : PT X e t' := ⟨fun pins s σ H Q I w => h.run pins s σ H Q I (i σ H Q w)⟩
theorem PW_weak {X : Cx} {e : Expr} {t t' : TT} (h : PW X e t) (i : ∀ σ H Q, t' σ H Q → t σ H Q) : PW X e t' := ⟨fun wh pins s σ H Q I w => h.run wh pins s σ H Q I (i σ H Q w)⟩
theorem PA_weak {X : Cx} {es : List Expr} {t t' : TA} (h : PA X es t) (i : ∀ σ H Q, t' σ H Q → t σ H Q) : PA X es t' := ⟨fun pos pins s σ H Q I w => h.run pos pins s σ H Q I (i σ H Q w)⟩

/-! ### states -/
section
variable {K : PySem.W.Frag} {mg : Str → Option Value} {W : WX} {B0 B B' : Av} {H H1 H' : Hp} {as as1 as' : List Addr} {σ : L2.St} {ρ ρ1 ρ' : List S}
theorem Fwd.keep (f : Fwd as H as' H') : Keep (Bv as B0) H H' := fun a o n h => (f.st a o (fun z => n (.inl z)) h).1
theorem Fwd.bv (f : Fwd as H as' H') : ∀ a, H a ≠ none → Bv as' B0 a → Bv as B0 a := fun a n h => h.elim (fun z => .inl (by
  by_cases q : a ∈ as
  · exact q
  · cases e : H a with
    | none => exact absurd e n
    | some o => exact absurd z (f.st a o q e).2)) .inr
theorem R.fwd {d : D} {x : V} (r : R K mg H (Bv as B0) d x) (f : Fwd as H as' H') : R K mg H' (Bv as' B0) d x := R.mono f.keep f.bv r
theorem Rs.fwd {d : List D} {x : List V} (r : Rs K mg H (Bv as B0) d x) (f : Fwd as H as' H') : Rs K mg H' (Bv as' B0) d x := Rs.mono f.keep f.bv r
theorem XPost.fwd {c : Str} {w : D} (f : Fwd as H as1 H1) (h : XPost K mg W B0 as H σ c w ρ) : XPost K mg W B0 as1 H1 σ c w ρ :=
  fun C dd H' as' v m e r rel f' => h C dd H' as' v m e r rel (f.trans f')
theorem EPost.bind {α β : Type} {o : Out α} {g : α → List S → Out β} {G : α → List S → Prop} {G' : β → List S → Prop} (h : EPost K mg W B0 as H σ G' (o.bind g))
    (i : ∀ x ρ', EPost K mg W B0 as H σ G' (g x ρ') → G x ρ') : EPost K mg W B0 as H σ G o := by
  cases o with
  | ok x ρ' => exact i x ρ' h
  | ex c w ρ' => exact h
  | bad => exact h
theorem EPost.fwd {α : Type} {o : Out α} {G G' : α → List S → Prop} (f : Fwd as H as1 H1) (h : EPost K mg W B0 as H σ G o) (i : ∀ x ρ', G x ρ' → G' x ρ') : EPost K mg W B0 as1 H1 σ G' o := by
  cases o with
  | ok x ρ' => exact i x ρ' h
  | ex c w ρ' => exact XPost.fwd f h
  | bad => exact h
/-- all that was tracked stands: the state stands -/
theorem Rel.same (r : Rel K mg B0 ρ σ H as) (k : Same H H') : Rel K mg B0 ρ σ H' as ∧ Fwd as H as H' := by
  refine ⟨⟨?_, r.nd, r.dis, fun a h => ?_⟩, ⟨fun a o n h => ⟨k a o h, n⟩, fun a h => ?_⟩⟩
  · refine r.sl.mono (fun a o _ h => k a o h) (fun _ _ h => h) fun a ha => ?_
    cases e : H a with
    | none => exact absurd e (r.sl.tracked a ha)
    | some o => exact (k a o e)
  · cases e : H a with
    | none => exact absurd e (r.trk a h)
    | some o => rw [k a o e]; intro z; cases z
  · cases e : H a with
    | none => exact absurd e h
    | some o => rw [k a o e]; intro z; cases z
theorem Rel.tracked (r : Rel K mg B0 ρ σ H as) {a : Addr} (h : Bv as B0 a) : H a ≠ none := h.elim (r.sl.tracked a) (r.trk a)
theorem Rel.len (r : Rel K mg B0 ρ σ H as) : ρ.length = σ.length := r.sl.length
theorem same_upd {p : Addr} {o : HO} (h : H p = none) : Same H (upd H p o) := fun b x e => by
  rw [upd_ne (ne_of_none e h)]
  exact e
theorem R.same {d : D} {x : V} (r : R K mg H B d x) (k : Same H H') : R K mg H' B d x := R.mono (fun a o _ h => k a o h) (fun _ _ h => h) r
theorem Rs.same {d : List D} {x : List V} (r : Rs K mg H B d x) (k : Same H H') : Rs K mg H' B d x := Rs.mono (fun a o _ h => k a o h) (fun _ _ h => h) r
/-- what is new is kept away from -/
theorem Rs.plus {p : Addr} {d : List D} {x : List V} (r : Rs K mg H (Bv as B0) d x) (h : H p = none) (k : Same H H') : Rs K mg H' (Bv as (Plus B0 p)) d x := Rs.mono (fun a o _ h => k a o h) (fun a n q => by
  rcases q with q | rfl | q
  · exact .inl q
  · exact absurd h n
  · exact .inr q) r
theorem Rel.plus {p : Addr} {o : HO} (r : Rel K mg B0 ρ σ H as) (h : H p = none) : Rel K mg (Plus B0 p) ρ σ (upd H p o) as := by
  have k : Same H (upd H p o) := same_upd h
  refine ⟨?_, r.nd, fun a ha => ?_, fun a q => ?_⟩
  · refine r.sl.mono (fun a o _ h => k a o h) (fun a n q => ?_) fun a ha => ?_
    · rcases q with q | rfl | q
      · exact .inl q
      · exact absurd h n
      · exact .inr q
    · cases e : H a with
      | none => exact absurd e (r.sl.tracked a ha)
      | some o => exact (k a o e)
  · rintro (rfl | q)
    · exact r.sl.tracked a ha h
    · exact r.dis a ha q
  · rcases q with rfl | q
    · rw [upd_same]; intro z; cases z
    · cases e : H a with
      | none => exact absurd e (r.trk a q)
      | some o => rw [k a o e]; intro z; cases z
/-- p is no more kept away from -/
theorem Rel.unplus {p : Addr} (r : Rel K mg (Plus B0 p) ρ σ H as) : Rel K mg B0 ρ σ H as :=
  ⟨r.sl.mono (fun _ _ _ h => h) (fun a _ q => q.elim .inl fun q => .inr (.inr q)) fun _ _ => rfl, r.nd, fun a ha q => r.dis a ha (.inr q), fun a q => r.trk a (.inr q)⟩
theorem Rs.unplus {p : Addr} {d : List D} {x : List V} (r : Rs K mg H (Bv as (Plus B0 p)) d x) : Rs K mg H (Bv as B0) d x :=
  Rs.mono (fun _ _ _ h => h) (fun a _ q => q.elim .inl fun q => .inr (.inr q)) r
theorem set_self {α : Type} : ∀ {l : List α} {i : Nat} {x : α}, l[i]? = some x → l.set i x = l
  | [], i, x, h => by simp at h
  | a :: l, 0, x, h => by cases h; rfl
  | a :: l, i + 1, x, h => by
    show a :: l.set i x = a :: l
    rw [set_self (l := l) (i := i) h]
/-- a slot is read; a list held alone stands still from now on -/
theorem Rel.read {i : Nat} {s : S} {d : D} {s' : S} (r : Rel K mg B0 ρ σ H as) (e : ρ[i]? = some s) (hs : (s = .fr d ∧ s' = .fr d) ∨ (∃ ds, s = .ow ds ∧ d = .lst ds ∧ s' = .fr (.lst ds))) :
    ∃ x as', σ[i]? = some (some x) ∧ Rel K mg B0 (ρ.set i s') σ H as' ∧ Fwd as H as' H ∧ R K mg H (Bv as' B0) d x := by
  obtain ⟨l, m, rr, v, e1, e2, o, put⟩ := r.sl.at e
  rcases hs with ⟨rfl, rfl⟩ | ⟨ds, rfl, rfl, rfl⟩
  · obtain ⟨em, x, rfl, q⟩ := o
    refine ⟨x, as, e2, ?_, Fwd.refl, q⟩
    rw [set_self e]
    exact r
  · obtain ⟨a, vs, rfl, rfl, ha, q⟩ := o
    have nd := r.nd
    rw [e1] at nd
    have na : a ∉ l ++ rr := by
      have h1 := List.nodup_append.mp nd
      have h2 := List.nodup_append.mp h1.1
      intro z
      rcases List.mem_append.mp z with z | z
      · exact h2.2.2 a z a (by simp) rfl
      · exact h1.2.2 a (by simp) a z rfl
    have sub : ∀ b, b ∈ l ++ [] ++ rr → b ∈ as := fun b hb => by
      rw [e1]
      simp only [List.append_nil, List.mem_append] at hb
      simp only [List.mem_append]
      exact hb.elim (fun z => .inl (.inl z)) .inr
    have f : Fwd as H (l ++ [] ++ rr) H := ⟨fun b ob n hb => ⟨hb, fun z => n (sub b z)⟩, fun _ h => h⟩
    have aB : ¬ Bv (l ++ [] ++ rr) B0 a := by
      rintro (z | z)
      · exact na (by simpa using z)
      · exact r.dis a (by rw [e1]; simp) z
    have q' : R K mg H (Bv (l ++ [] ++ rr) B0) (.lst ds) (.ref a) := ⟨a, vs, rfl, ⟨ha, aB⟩, Rs.mono (fun _ _ _ h => h) (fun b _ hb => hb.imp (sub b) id) q⟩
    refine ⟨.ref a, l ++ [] ++ rr, e2, ⟨?_, ?_, fun b hb => r.dis b (sub b hb), r.trk⟩, f, q'⟩
    · have sl := put H (Bv (l ++ [] ++ rr) B0) (.fr (.lst ds)) (some (.ref a)) [] (fun {s v as0} _ os => os.mono (fun _ _ _ h => h) (fun b _ hb => hb.imp (sub b) id) fun _ _ => rfl) ⟨rfl, _, rfl, q'⟩
      rw [set_self e2] at sl
      exact sl
    · have h1 := List.nodup_append.mp nd
      have h2 := List.nodup_append.mp h1.1
      rw [List.append_nil]
      exact List.nodup_append.mpr ⟨h2.1, h1.2.1, fun b hb c hc => h1.2.2 b (List.mem_append_left _ hb) c hc⟩
end

/-- an int of fewer than 62 bits (so put that a kernel stops at it) -/
def Fit (j : Int) : Prop := j.natAbs.log2 < 62
instance (j : Int) : Decidable (Fit j) := Nat.decLt _ _
theorem Fit.ok {j : Int} (h : Fit j) : -(2 ^ 62) ≤ j ∧ j < 2 ^ 62 := by
  unfold Fit at h
  by_cases z : j.natAbs = 0
  · omega
  · have := (Nat.log2_lt z).mp h
    omega
theorem Fit.of {j : Int} (h1 : -(2 ^ 62) < j) (h2 : j < 2 ^ 62) : Fit j := by
  unfold Fit
  by_cases z : j.natAbs = 0
  · rw [z]; decide
  · refine (Nat.log2_lt z).mpr ?_
    omega
/-! ### expressions -/
def eVar (i : Nat) : List S → Out D := fun ρ => match ρ[i]? with
  | some (.fr d) => .ok d ρ
  | some (.ow ds) => .ok (.lst ds) (ρ.set i (.fr (.lst ds)))
  | _ => .bad
def eC (d : D) : List S → Out D := fun ρ => .ok d ρ
def eOp (g : D → D → Option D) (fa fb : List S → Out D) : List S → Out D := fun ρ =>
  (fa ρ).bind fun d ρ1 => (fb ρ1).bind fun e ρ2 => match g d e with
    | some z => .ok z ρ2
    | none => .bad
def eUn (g : D → Option D) (fa : List S → Out D) : List S → Out D := fun ρ =>
  (fa ρ).bind fun d ρ1 => match g d with
    | some z => .ok z ρ1
    | none => .bad
section
variable {X : Cx} {W : WX} {a b c : Expr} {fa fb fc : List S → Out D} {pos : Pos}
theorem ve_var (i : Nat) {x : Str} {pos : Pos} (hN : X.N[i]? = some x := by rfl) (hv : Vis X.env.scope x := by first | exact Or.inl rfl | exact Or.inr (Or.inl rfl) | exact Or.inr (Or.inr rfl)) (hd : (x == ("__debug__" : Str)) = false := by decide)
    (hcd : (x == ("__classdict__" : Str)) = false := by decide) : VE X W (.Name x pos) (eVar i) := by
  refine PE_weak (pe_var hN hv hd hcd) ?_
  rintro σ H Q ⟨B0, ρ, as, rel, h⟩
  unfold eVar at h
  cases e : ρ[i]? with
  | none => rw [e] at h; exact h.elim
  | some s =>
    rw [e] at h
    cases s with
    | un => exact h.elim
    | fr d =>
      obtain ⟨x, as', e1, rel', f, r⟩ := rel.read (d := d) e (.inl ⟨rfl, rfl⟩)
      rw [set_self e] at rel'
      exact ⟨x, e1, h x H as' rel' f r⟩
    | ow ds =>
      obtain ⟨x, as', e1, rel', f, r⟩ := rel.read (d := .lst ds) e (.inr ⟨ds, rfl, rfl, rfl⟩)
      exact ⟨x, e1, h x H as' rel' f r⟩
    | o2 dss => exact h.elim
theorem ve_c {e : Expr} {v : V} {d : D} (h : PE X e (tC v)) (r : ∀ H B, R X.K X.mg H B d v) : VE X W e (eC d) := by
  refine PE_weak h ?_
  rintro σ H Q ⟨B0, ρ, as, rel, h⟩
  exact h v H as rel Fwd.refl (r _ _)
theorem ve_int {i j pos} : VE X W (.Constant (.int i) j pos) (eC (.int i)) := ve_c pe_int fun _ _ => rfl
theorem ve_bl {i j pos} : VE X W (.Constant (.bool i) j pos) (eC (.bl i)) := ve_c pe_bl fun _ _ => rfl
theorem ve_non {j pos} : VE X W (.Constant .none j pos) (eC .non) := ve_c pe_non fun _ _ => rfl
theorem ve_str {i j pos} : VE X W (.Constant (.str i) j pos) (eC (.str i)) := ve_c pe_str fun _ _ => rfl
/-- a two-place operation, by values -/
def OpS (K : PySem.W.Frag) (mg : Str → Option Value) (r : R2) (g : D → D → Option D) : Prop :=
  ∀ {H : Hp} {B : Av} {d e z : D} {x y : V} {Q : VK}, (∀ a, B a → H a ≠ none) → g d e = some z → R K mg H B d x → R K mg H B e y → (∀ v H', Same H H' → R K mg H' B z v → Q v H') → r x y H Q
def UnS (K : PySem.W.Frag) (mg : Str → Option Value) (r : V → Hp → VK → Prop) (g : D → Option D) : Prop :=
  ∀ {H : Hp} {B : Av} {d z : D} {x : V} {Q : VK}, (∀ a, B a → H a ≠ none) → g d = some z → R K mg H B d x → (∀ v H', Same H H' → R K mg H' B z v → Q v H') → r x H Q
theorem op_post {r : R2} {g : D → D → Option D} (hs : OpS X.K X.mg r g) {σ : L2.St} {H : Hp} {Q : VK} (h : tE X.K X.mg W (eOp g fa fb) σ H Q) :
    tE X.K X.mg W fa σ H fun x H1 => tE X.K X.mg W fb σ H1 fun y H2 => r x y H2 Q := by
  obtain ⟨B0, ρ, as, rel, h⟩ := h
  refine ⟨B0, ρ, as, rel, h.bind fun d ρ1 h1 x H1 as1 rel1 f1 r1 => ⟨B0, ρ1, as1, rel1, (h1.bind fun e ρ2 h2 => h2).fwd f1 fun e ρ2 h2 y H2 as2 rel2 f2 r2 => ?_⟩⟩
  cases eg : g d e with
  | none => rw [eg] at h2; exact h2.elim
  | some z =>
    rw [eg] at h2
    refine hs (fun a ha => rel2.tracked ha) eg (r1.fwd f2) r2 fun v H' k rz => ?_
    obtain ⟨rel3, f3⟩ := rel2.same k
    exact h2 v H' as2 rel3 ((f1.trans f2).trans f3) rz
theorem ve_op {op : Operator} {r : R2} {g : D → D → Option D} (ho : OpR X (binaryOp op) r) (hs : OpS X.K X.mg r g) (ha : VE X W a fa) (hb : VE X W b fb) : VE X W (.BinOp a op b pos) (eOp g fa fb) :=
  PE_weak (pe_op ho ha hb) fun _ _ _ h => op_post hs h
theorem ve_cmp {op : CmpOp} {r : R2} {g : D → D → Option D} (ho : OpR X (compareOp op) r) (hs : OpS X.K X.mg r g) (ha : VE X W a fa) (hb : VE X W b fb) (hm : behindInMarks op b = false) : VE X W (.Compare a [op] [b] pos) (eOp g fa fb) :=
  PE_weak (pe_cmpR ho ha hb hm) fun _ _ _ h => op_post hs h
theorem ve_un {op : UnaryOp} {r : V → Hp → VK → Prop} {g : D → Option D} (ho : UnR X (unaryOp op) r) (hs : UnS X.K X.mg r g) (ha : VE X W a fa) : VE X W (.UnaryOp op a pos) (eUn g fa) := by
  refine PE_weak (pe_un ho ha) ?_
  rintro σ H Q ⟨B0, ρ, as, rel, h⟩
  refine ⟨B0, ρ, as, rel, h.bind fun d ρ1 h1 x H1 as1 rel1 f1 r1 => ?_⟩
  cases eg : g d with
  | none => rw [eg] at h1; exact h1.elim
  | some z =>
    rw [eg] at h1
    refine hs (fun a ha => rel1.tracked ha) eg r1 fun v H' k rz => ?_
    obtain ⟨rel3, f3⟩ := rel1.same k
    exact h1 v H' as1 rel3 (f1.trans f3) rz
/-- a value that is True or False, as a test -/
def asB : D → Option Bool
  | .bl b => some b
  | _ => none
def eB (f : List S → Out D) : List S → Out Bool := fun ρ => (f ρ).bind fun d ρ1 => match asB d with
  | some b => .ok b ρ1
  | none => .bad
theorem asB_some {d : D} {b : Bool} (h : asB d = some b) : d = .bl b := by
  cases d <;> first | (cases h; rfl) | cases h
theorem b_post {σ : L2.St} {H : Hp} {Q : Bool → Hp → Prop} (h : tT X.K X.mg W (eB fa) σ H Q) : tE X.K X.mg W fa σ H fun x H' => ∃ k, x = .bl k ∧ Q k H' := by
  obtain ⟨B0, ρ, as, rel, h⟩ := h
  refine ⟨B0, ρ, as, rel, h.bind fun d ρ1 h1 x H1 as1 rel1 f1 r1 => ?_⟩
  cases e : asB d with
  | none => rw [e] at h1; exact h1.elim
  | some k =>
    rw [e] at h1
    rw [asB_some e] at r1
    exact ⟨k, r1, h1 H1 as1 rel1 f1⟩
theorem vt_cmp {op : CmpOp} {r : R2} {g : D → D → Option D} (ho : OpR X (compareOp op) r) (hs : OpS X.K X.mg r g) (ha : VE X W a fa) (hb : VE X W b fb) (hm : behindInMarks op b = false) : VT X W (.Compare a [op] [b] pos) (eB (eOp g fa fb)) :=
  PT_weak (pt_cmpR ho ha hb hm) fun σ H Q h => op_post hs (b_post h)
/-- a value whose truth is that of a bool, where it stands as a test -/
theorem vt_val (h : VE X W a fa) (he : ∀ whole, isTrue a X.env whole = (do let v ← whole; standAt a.pos; holding [v] (truthy v)) := by intro _; rfl) : VT X W a (eB fa) :=
  PT_weak (pt_val h he) fun σ H Q hh => b_post hh
/-- truth of any value -/
def truD : D → Option Bool
  | .non => some false
  | .bl b => some b
  | .int i => some (i != 0)
  | .str z => if z.length ≤ sizeLine then some (z.length != 0) else none
  | .tup ds => some (!ds.isEmpty)
  | .lst ds => some (!ds.isEmpty)
  | .scr ns => some (!ns.isEmpty)
  | .ins _ _ _ => none
def eTr (f : List S → Out D) : List S → Out Bool := fun ρ => (f ρ).bind fun d ρ1 => match truD d with
  | some b => .ok b ρ1
  | none => .bad
/-- not, and, or of tests -/
def bNot (f : List S → Out Bool) : List S → Out Bool := fun ρ => (f ρ).bind fun b ρ1 => .ok (!b) ρ1
def bAnd (f g : List S → Out Bool) : List S → Out Bool := fun ρ => (f ρ).bind fun b ρ1 => if b = true then g ρ1 else .ok false ρ1
def bOr (f g : List S → Out Bool) : List S → Out Bool := fun ρ => (f ρ).bind fun b ρ1 => if b = true then .ok true ρ1 else g ρ1
variable {ga gb : List S → Out Bool} {rest : List Expr}
theorem vt_not (h : VT X W a ga) : VT X W (.UnaryOp .Not a pos) (bNot ga) := by
  refine PT_weak (pt_not h) ?_
  rintro σ H Q ⟨B0, ρ, as, rel, h⟩
  exact ⟨B0, ρ, as, rel, h.bind fun b ρ1 h1 => h1⟩
theorem vw_and1 (h : VT X W a ga) : VW X W (.BoolOp .And [a] pos) ga := pw_and1 h
theorem vw_or1 (h : VT X W a ga) : VW X W (.BoolOp .Or [a] pos) ga := pw_or1 h
theorem vw_and (h : VT X W a ga) (h2 : VW X W (.BoolOp .And (b :: rest) pos) gb) : VW X W (.BoolOp .And (a :: b :: rest) pos) (bAnd ga gb) := by
  refine PW_weak (pw_and h h2) ?_
  rintro σ H Q ⟨B0, ρ, as, rel, h⟩
  refine ⟨B0, ρ, as, rel, h.bind fun b ρ1 h1 H1 as1 rel1 f1 => ?_⟩
  cases b with
  | true => exact ⟨B0, ρ1, as1, rel1, EPost.fwd f1 h1 fun b ρ2 h2 H2 as2 rel2 f2 => h2 H2 as2 rel2 (f1.trans f2)⟩
  | false => exact h1 H1 as1 rel1 f1
theorem vw_or (h : VT X W a ga) (h2 : VW X W (.BoolOp .Or (b :: rest) pos) gb) : VW X W (.BoolOp .Or (a :: b :: rest) pos) (bOr ga gb) := by
  refine PW_weak (pw_or h h2) ?_
  rintro σ H Q ⟨B0, ρ, as, rel, h⟩
  refine ⟨B0, ρ, as, rel, h.bind fun b ρ1 h1 H1 as1 rel1 f1 => ?_⟩
  cases b with
  | false => exact ⟨B0, ρ1, as1, rel1, EPost.fwd f1 h1 fun b ρ2 h2 H2 as2 rel2 f2 => h2 H2 as2 rel2 (f1.trans f2)⟩
  | true => exact h1 H1 as1 rel1 f1
/-- .. as values -/
def bV (f : List S → Out Bool) : List S → Out D := fun ρ => (f ρ).bind fun b ρ1 => .ok (.bl b) ρ1
theorem ve_not (h : VE X W a fa) : VE X W (.UnaryOp .Not a pos) (bV (bNot (eB fa))) := by
  refine PE_weak (pe_not h) ?_
  rintro σ H Q ⟨B0, ρ, as, rel, h⟩
  refine b_post (Q := fun c H1 => Q (.bl (!c)) H1) ⟨B0, ρ, as, rel, ?_⟩
  have h' := EPost.bind h (G := fun c ρ' => ∀ H' as', Rel X.K X.mg B0 ρ' σ H' as' → Fwd as H as' H' → Q (.bl c) H') fun c ρ1 h1 H1 as1 rel1 f1 => h1 (.bl c) H1 as1 rel1 f1 rfl
  exact EPost.bind h' fun c ρ1 h1 => h1
theorem ve_one {op} (h : VE X W a fa) : VE X W (.BoolOp op [a] pos) fa := pe_one h
def eAnd (f : List S → Out D) (g : List S → Out D) : List S → Out D := fun ρ => (f ρ).bind fun d ρ1 => match asB d with
  | some true => g ρ1
  | some false => .ok (.bl false) ρ1
  | none => .bad
def eOr (f : List S → Out D) (g : List S → Out D) : List S → Out D := fun ρ => (f ρ).bind fun d ρ1 => match asB d with
  | some true => .ok (.bl true) ρ1
  | some false => g ρ1
  | none => .bad
theorem ve_and (h : VE X W a fa) (h2 : VE X W (.BoolOp .And (b :: rest) pos) fb) : VE X W (.BoolOp .And (a :: b :: rest) pos) (eAnd fa fb) := by
  refine PE_weak (pe_and h h2) ?_
  rintro σ H Q ⟨B0, ρ, as, rel, h⟩
  refine ⟨B0, ρ, as, rel, h.bind fun d ρ1 h1 x H1 as1 rel1 f1 r1 => ?_⟩
  cases e : asB d with
  | none => rw [e] at h1; exact h1.elim
  | some k =>
    rw [e] at h1
    rw [asB_some e] at r1
    cases k with
    | true => exact ⟨true, r1, by rw [if_pos rfl]; exact ⟨B0, ρ1, as1, rel1, EPost.fwd f1 h1 fun b ρ2 h2 y H2 as2 rel2 f2 r2 => h2 y H2 as2 rel2 (f1.trans f2) r2⟩⟩
    | false => exact ⟨false, r1, by rw [if_neg Bool.false_ne_true]; exact h1 _ H1 as1 rel1 f1 rfl⟩
theorem ve_or (h : VE X W a fa) (h2 : VE X W (.BoolOp .Or (b :: rest) pos) fb) : VE X W (.BoolOp .Or (a :: b :: rest) pos) (eOr fa fb) := by
  refine PE_weak (pe_or h h2) ?_
  rintro σ H Q ⟨B0, ρ, as, rel, h⟩
  refine ⟨B0, ρ, as, rel, h.bind fun d ρ1 h1 x H1 as1 rel1 f1 r1 => ?_⟩
  cases e : asB d with
  | none => rw [e] at h1; exact h1.elim
  | some k =>
    rw [e] at h1
    rw [asB_some e] at r1
    cases k with
    | false => exact ⟨false, r1, by rw [if_neg Bool.false_ne_true]; exact ⟨B0, ρ1, as1, rel1, EPost.fwd f1 h1 fun b ρ2 h2 y H2 as2 rel2 f2 r2 => h2 y H2 as2 rel2 (f1.trans f2) r2⟩⟩
    | true => exact ⟨true, r1, by rw [if_pos rfl]; exact h1 _ H1 as1 rel1 f1 rfl⟩
def eIf (c : List S → Out Bool) (f g : List S → Out D) : List S → Out D := fun ρ => (c ρ).bind fun b ρ1 => if b = true then f ρ1 else g ρ1
theorem ve_if (hc : VT X W c ga) (ha : VE X W a fa) (hb : VE X W b fb) : VE X W (.IfExp c a b pos) (eIf ga fa fb) := by
  refine PE_weak (pe_ifExp hc ha hb) ?_
  rintro σ H Q ⟨B0, ρ, as, rel, h⟩
  refine ⟨B0, ρ, as, rel, h.bind fun b ρ1 h1 H1 as1 rel1 f1 => ?_⟩
  cases b with
  | true => exact ⟨B0, ρ1, as1, rel1, EPost.fwd f1 h1 fun b ρ2 h2 y H2 as2 rel2 f2 r2 => h2 y H2 as2 rel2 (f1.trans f2) r2⟩
  | false => exact ⟨B0, ρ1, as1, rel1, EPost.fwd f1 h1 fun b ρ2 h2 y H2 as2 rel2 f2 r2 => h2 y H2 as2 rel2 (f1.trans f2) r2⟩
/-- arguments -/
def aNil : List S → Out (List D) := fun ρ => .ok [] ρ
def aCons (f : List S → Out D) (g : List S → Out (List D)) : List S → Out (List D) := fun ρ => (f ρ).bind fun d ρ1 => (g ρ1).bind fun ds ρ2 => .ok (d :: ds) ρ2
variable {es : List Expr} {g : List S → Out (List D)}
theorem va_nil : VA X W [] aNil := by
  refine PA_weak pa_nil ?_
  rintro σ H Q ⟨B0, ρ, as, rel, h⟩
  exact h [] H as rel Fwd.refl Rs.nil
theorem va_cons (ha : VE X W a fa) (hr : VA X W es g) (hs : starEach (a :: es) X.env = (false, eval a X.env) :: starEach es X.env := by rfl) : VA X W (a :: es) (aCons fa g) := by
  refine PA_weak (pa_cons ha hr hs) ?_
  rintro σ H Q ⟨B0, ρ, as, rel, h⟩
  refine ⟨B0, ρ, as, rel, h.bind fun d ρ1 h1 x H1 as1 rel1 f1 r1 => ⟨B0, ρ1, as1, rel1, (h1.bind fun e ρ2 h2 => h2).fwd f1 fun ds ρ2 h2 xs H2 as2 rel2 f2 r2 => ?_⟩⟩
  exact h2 (x :: xs) H2 as2 rel2 (f1.trans f2) (Rs.cons (r1.fwd f2) r2)
/-- a tuple display -/
def eTup (g : List S → Out (List D)) : List S → Out D := fun ρ => (g ρ).bind fun ds ρ1 => if ds.length ≤ sizeLine then .ok (.tup ds) ρ1 else .bad
theorem ve_tup {x1} (h : VA X W es g) : VE X W (.Tuple es x1 pos) (eTup g) := by
  refine PE_weak (pe_tup h) ?_
  rintro σ H Q ⟨B0, ρ, as, rel, h⟩
  refine ⟨B0, ρ, as, rel, h.bind fun ds ρ1 h1 xs H1 as1 rel1 f1 r1 => ?_⟩
  by_cases hl : ds.length ≤ sizeLine
  · rw [if_pos hl] at h1
    refine ⟨by rw [← r1.length]; exact hl, fun p hp => ?_⟩
    obtain ⟨rel2, f2⟩ := rel1.same (same_upd (o := .tup xs) hp)
    refine h1 (.ref p) _ as1 rel2 (f1.trans f2) ⟨p, xs, rfl, .inl ⟨.inl upd_same, fun hb => rel1.tracked hb hp⟩, r1.same (same_upd hp)⟩
  · rw [if_neg hl] at h1; exact h1.elim
/-- a list display: new -/
def nLst (g : List S → Out (List D)) : List S → Out (List D) := fun ρ => (g ρ).bind fun ds ρ1 => if ds.length ≤ sizeLine then .ok ds ρ1 else .bad
theorem vn_lst (h : VA X W es g) : VN X W (.List es pos) (nLst g) := by
  refine PE_weak (pe_lst h) ?_
  rintro σ H Q ⟨B0, ρ, as, rel, h⟩
  refine ⟨B0, ρ, as, rel, h.bind fun ds ρ1 h1 xs H1 as1 rel1 f1 r1 => ?_⟩
  by_cases hl : ds.length ≤ sizeLine
  · rw [if_pos hl] at h1
    refine ⟨by rw [← r1.length]; exact hl, fun p hp => ?_⟩
    obtain ⟨rel2, f2⟩ := rel1.same (same_upd (o := .lst xs) hp)
    have hp0 : H p = none := f1.unt hp
    exact h1 p xs _ as1 (rel1.plus hp) (f1.trans f2) hp0 upd_same (Rs.plus r1 hp (same_upd hp))
  · rw [if_neg hl] at h1; exact h1.elim
end
end VS
/-! ## VS2 -/
set_option Elab.async false
set_option linter.all false
set_option maxRecDepth 100000
set_option maxHeartbeats 4000000
set_option autoImplicit false
namespace VS
open PySem PySem.Spec L2

/-! ### statements -/
inductive SO where
  | nx (ρ : List S)
  | rt (d : D) (ρ : List S)
  | rn (ds : List D) (ρ : List S)
  | bk (ρ : List S)
  | ct (ρ : List S)
  | ex (c : Str) (w : D) (ρ : List S)
  | bad
/-- slots that keep their values -/
structure Pin (P : Nat → Prop) (σ σ' : L2.St) : Prop where
  len : σ'.length = σ.length
  eq : ∀ i, P i → σ'[i]? = σ[i]?
theorem Pin.refl {P : Nat → Prop} {σ : L2.St} : Pin P σ σ := ⟨rfl, fun _ _ => rfl⟩
theorem Pin.trans {P : Nat → Prop} {σ σ1 σ2 : L2.St} (h : Pin P σ σ1) (h' : Pin P σ1 σ2) : Pin P σ σ2 := ⟨h'.len.trans h.len, fun i hi => (h'.eq i hi).trans (h.eq i hi)⟩
theorem Pin.set {P : Nat → Prop} {σ : L2.St} {i : Nat} {v : Option V} (h : ¬ P i) : Pin P σ (σ.set i v) := ⟨List.length_set, fun j hj => by
  rw [List.getElem?_set_ne]
  rintro rfl
  exact h hj⟩
def SPost (K : PySem.W.Frag) (mg : Str → Option Value) (W : WX) (P : Nat → Prop) (B0 : Av) (as : List Addr) (H : Hp) (σ : L2.St) (E : Ends) : SO → Prop
  | .nx ρ' => ∀ σ' H' as', Rel K mg B0 ρ' σ' H' as' → Fwd as H as' H' → Pin P σ σ' → E.nx σ' H'
  | .bk ρ' => ∀ σ' H' as', Rel K mg B0 ρ' σ' H' as' → Fwd as H as' H' → Pin P σ σ' → E.bk σ' H'
  | .ct ρ' => ∀ σ' H' as', Rel K mg B0 ρ' σ' H' as' → Fwd as H as' H' → Pin P σ σ' → E.ct σ' H'
  | .rt d ρ' => ∀ x σ' H' as', Rel K mg B0 ρ' σ' H' as' → Fwd as H as' H' → Pin P σ σ' → R K mg H' (Bv as' B0) d x → E.rt x H'
  | .rn ds ρ' => ∀ p vs σ' H' as', Rel K mg (Plus B0 p) ρ' σ' H' as' → Fwd as H as' H' → Pin P σ σ' → H p = none → H' p = some (.lst vs) → Rs K mg H' (Bv as' (Plus B0 p)) ds vs → E.rt (.ref p) H'
  | .ex c w ρ' => ∀ σ', Pin P σ σ' → XPost K mg W B0 as H σ' c w ρ'
  | .bad => False
section
variable (K : PySem.W.Frag) (mg : Str → Option Value) (W : WX) (P : Nat → Prop)
def tS (f : List S → SO) : TS := fun E σ H => ∃ B0 ρ as, Rel K mg B0 ρ σ H as ∧ SPost K mg W P B0 as H σ E (f ρ)
end
abbrev VS1 (X : Cx) (W : WX) (P : Nat → Prop) (st : Stmt) (f : List S → SO) : Prop := PS X st (tS X.K X.mg W P f)
abbrev VSs (X : Cx) (W : WX) (P : Nat → Prop) (st : List Stmt) (f : List S → SO) : Prop := PSs X st (tS X.K X.mg W P f)
theorem PS_weak {X : Cx} {st : Stmt} {t t' : TS} (h : PS X st t) (i : ∀ E σ H, t' E σ H → t E σ H) : PS X st t' := ⟨fun pins s σ H E I w => h.run pins s σ H E I (i E σ H w)⟩
theorem PSs_weak {X : Cx} {st : List Stmt} {t t' : TS} (h : PSs X st t) (i : ∀ E σ H, t' E σ H → t E σ H) : PSs X st t' := ⟨fun pins s σ H E I w => h.run pins s σ H E I (i E σ H w)⟩
section
variable {K : PySem.W.Frag} {mg : Str → Option Value} {W : WX} {P : Nat → Prop} {B0 B B' : Av} {H H1 H' : Hp} {as as1 as' : List Addr} {σ σ1 : L2.St} {ρ ρ1 ρ' : List S} {E E' : Ends}
/-- from a later state -/
theorem SPost.fwd {o : SO} (f : Fwd as H as1 H1) (p : Pin P σ σ1) (h : SPost K mg W P B0 as H σ E o) : SPost K mg W P B0 as1 H1 σ1 E o := by
  cases o with
  | nx ρ' => exact fun σ' H' as' r f' p' => h σ' H' as' r (f.trans f') (p.trans p')
  | bk ρ' => exact fun σ' H' as' r f' p' => h σ' H' as' r (f.trans f') (p.trans p')
  | ct ρ' => exact fun σ' H' as' r f' p' => h σ' H' as' r (f.trans f') (p.trans p')
  | rt d ρ' => exact fun x σ' H' as' r f' p' q => h x σ' H' as' r (f.trans f') (p.trans p') q
  | rn d ρ' => exact fun x vs σ' H' as' r f' p' n q rs => h x vs σ' H' as' r (f.trans f') (p.trans p') (f.unt n) q rs
  | ex c w ρ' => exact fun σ' p' => XPost.fwd f (h σ' (p.trans p'))
  | bad => exact h
/-- an expression's end, then a statement's -/
def Out.toS {α : Type} (o : Out α) (f : α → List S → SO) : SO :=
  match o with
  | .ok x ρ => f x ρ
  | .ex c w ρ => .ex c w ρ
  | .bad => .bad
theorem SPost.bind {α : Type} {o : Out α} {g : α → List S → SO} {G : α → List S → Prop} (hl : ∀ σ', Pin P σ σ' → σ' = σ → True) (h : SPost K mg W P B0 as H σ E (o.toS g))
    (i : ∀ x ρ', SPost K mg W P B0 as H σ E (g x ρ') → G x ρ') : EPost K mg W B0 as H σ G o := by
  cases o with
  | ok x ρ' => exact i x ρ' h
  | ex c w ρ' => exact h σ Pin.refl
  | bad => exact h
/-- a slot is written by what holds no list of its own -/
theorem Rel.putS {i : Nat} {s' : S} {v' : Option V} (r : Rel K mg B0 ρ σ H as) (q : ∀ as', (∀ b ∈ as', b ∈ as) → Os K mg H (Bv as' B0) s' v' []) : ∃ as', Rel K mg B0 (ρ.set i s') (σ.set i v') H as' ∧ Fwd as H as' H := by
  cases e : ρ[i]? with
  | none =>
    have h1 : ρ.length ≤ i := List.getElem?_eq_none_iff.mp e
    have h2 : σ.length ≤ i := by rw [← r.len]; exact h1
    rw [List.set_eq_of_length_le h1, List.set_eq_of_length_le h2]
    exact ⟨as, r, Fwd.refl⟩
  | some s =>
    obtain ⟨l, m, rr, v, e1, e2, o, put⟩ := r.sl.at e
    have nd := r.nd
    rw [e1] at nd
    have sub : ∀ b, b ∈ l ++ [] ++ rr → b ∈ as := fun b hb => by
      rw [e1]
      simp only [List.append_nil, List.mem_append] at hb
      simp only [List.mem_append]
      exact hb.elim (fun z => .inl (.inl z)) .inr
    refine ⟨l ++ [] ++ rr, ⟨?_, ?_, fun b hb => r.dis b (sub b hb), r.trk⟩, ⟨fun b ob n hb => ⟨hb, fun z => n (sub b z)⟩, fun _ h => h⟩⟩
    · exact put H (Bv (l ++ [] ++ rr) B0) s' v' [] (fun {s v as0} _ os => os.mono (fun _ _ _ h => h) (fun b _ hb => hb.imp (sub b) id) fun _ _ => rfl) (q _ sub)
    · have h1 := List.nodup_append.mp nd
      have h2 := List.nodup_append.mp h1.1
      rw [List.append_nil]
      exact List.nodup_append.mpr ⟨h2.1, h1.2.1, fun b hb c hc => h1.2.2 b (List.mem_append_left _ hb) c hc⟩
theorem Rel.put {i : Nat} {d : D} {x : V} (r : Rel K mg B0 ρ σ H as) (q : R K mg H (Bv as B0) d x) : ∃ as', Rel K mg B0 (ρ.set i (.fr d)) (σ.set i (some x)) H as' ∧ Fwd as H as' H :=
  r.putS fun as' sub => ⟨rfl, x, rfl, R.mono (fun _ _ _ h => h) (fun b _ hb => hb.imp (sub b) id) q⟩
/-- a slot gets a list of its own -/
theorem Rel.own {i : Nat} {ds : List D} {p : Addr} {vs : List V} {H0 : Hp} {as0 : List Addr} (r : Rel K mg (Plus B0 p) ρ σ H as) (f : Fwd as0 H0 as H) (hp0 : H0 p = none) (hB : ¬ B0 p) (hp : H p = some (.lst vs)) (q : Rs K mg H (Bv as (Plus B0 p)) ds vs) :
    ∃ as', Rel K mg B0 (ρ.set i (.ow ds)) (σ.set i (some (.ref p))) H as' ∧ Fwd as0 H0 as' H := by
  cases e : ρ[i]? with
  | none =>
    have h1 : ρ.length ≤ i := List.getElem?_eq_none_iff.mp e
    have h2 : σ.length ≤ i := by rw [← r.len]; exact h1
    rw [List.set_eq_of_length_le h1, List.set_eq_of_length_le h2]
    exact ⟨as, r.unplus, f⟩
  | some s =>
    obtain ⟨l, m, rr, v, e1, e2, o, put⟩ := r.sl.at e
    have nd := r.nd
    have np : p ∉ as := fun z => r.dis p z (.inl rfl)
    rw [e1] at nd np
    have sub : ∀ b, b ∈ l ++ [p] ++ rr → b = p ∨ b ∈ as := fun b hb => by
      rw [e1]
      simp only [List.mem_append, List.mem_singleton] at hb
      simp only [List.mem_append]
      rcases hb with (hb | hb) | hb
      · exact .inr (.inl (.inl hb))
      · exact .inl hb
      · exact .inr (.inr hb)
    have sub2 : ∀ b, Bv (l ++ [p] ++ rr) B0 b → Bv as (Plus B0 p) b := fun b hb => hb.elim (fun z => (sub b z).elim (fun z => .inr (.inl z)) .inl) fun z => .inr (.inr z)
    refine ⟨l ++ [p] ++ rr, ⟨?_, ?_, fun b hb => ?_, fun b hb => r.trk b (.inr hb)⟩, ⟨fun b ob n hb => ⟨(f.st b ob n hb).1, fun z => ?_⟩, f.tr⟩⟩
    · exact put H (Bv (l ++ [p] ++ rr) B0) (.ow ds) (some (.ref p)) [p] (fun {s v as0} _ os => os.mono (fun _ _ _ h => h) (fun b _ hb => sub2 b hb) fun _ _ => rfl) ⟨p, vs, rfl, rfl, hp, Rs.mono (fun _ _ _ h => h) (fun b _ hb => sub2 b hb) q⟩
    · have h1 := List.nodup_append.mp nd
      have h2 := List.nodup_append.mp h1.1
      have npl : p ∉ l := fun z => np (List.mem_append_left _ (List.mem_append_left _ z))
      have npr : p ∉ rr := fun z => np (List.mem_append_right _ z)
      refine List.nodup_append.mpr ⟨List.nodup_append.mpr ⟨h2.1, by simp, fun b hb c hc => ?_⟩, h1.2.1, fun b hb c hc => ?_⟩
      · have : c = p := by simpa using hc
        subst this
        rintro rfl
        exact npl hb
      · rcases List.mem_append.mp hb with z | z
        · exact h1.2.2 b (List.mem_append_left _ z) c hc
        · have : b = p := by simpa using z
          subst this
          rintro rfl
          exact npr hc
    · rcases sub b hb with z | z
      · rw [z]; exact hB
      · exact fun h => r.dis b z (.inr h)
    · rcases sub b z with z | z
      · rw [z, hp0] at hb; cases hb
      · exact (f.st b ob n hb).2 z
end

/-! ### blocks, small statements -/
def sSeq (f g : List S → SO) : List S → SO := fun ρ => match f ρ with
  | .nx ρ1 => g ρ1
  | o => o
def sNext : List S → SO := .nx
def sBreak : List S → SO := .bk
def sCont : List S → SO := .ct
def sSet (i : Nat) (f : List S → Out D) : List S → SO := fun ρ => (f ρ).toS fun d ρ1 => .nx (ρ1.set i (.fr d))
def sOwn (i : Nat) (f : List S → Out (List D)) : List S → SO := fun ρ => (f ρ).toS fun ds ρ1 => .nx (ρ1.set i (.ow ds))
def sExpr (f : List S → Out D) : List S → SO := fun ρ => (f ρ).toS fun _ ρ1 => .nx ρ1
def sRet (f : List S → Out D) : List S → SO := fun ρ => (f ρ).toS fun d ρ1 => .rt d ρ1
def sRetNew (f : List S → Out (List D)) : List S → SO := fun ρ => (f ρ).toS fun ds ρ1 => .rn ds ρ1
def sRetN : List S → SO := fun ρ => .rt .non ρ
def sIf (c : List S → Out Bool) (f g : List S → SO) : List S → SO := fun ρ => (c ρ).toS fun b ρ1 => if b = true then f ρ1 else g ρ1
section
variable {X : Cx} {W : WX} {P : Nat → Prop} {st : Stmt} {rest : List Stmt} {f g : List S → SO} {e : Expr} {pos : Pos} {fe : List S → Out D}
theorem vss_nil : VSs X W P [] sNext := by
  refine PSs_weak pss_nil ?_
  rintro E σ H ⟨B0, ρ, as, rel, h⟩
  exact h σ H as rel Fwd.refl Pin.refl
theorem vss_one (h : VS1 X W P st f) : VSs X W P [st] f := pss_one h
theorem vss_cons (h1 : VS1 X W P st f) (h2 : VSs X W P rest g) : VSs X W P (st :: rest) (sSeq f g) := by
  refine PSs_weak (pss_cons h1 h2) ?_
  rintro E σ H ⟨B0, ρ, as, rel, h⟩
  refine ⟨B0, ρ, as, rel, ?_⟩
  unfold sSeq at h
  cases e : f ρ with
  | nx ρ1 =>
    rw [e] at h
    exact fun σ' H' as' r f p => ⟨B0, ρ1, as', r, SPost.fwd f p h⟩
  | bk ρ1 => rw [e] at h; exact h
  | ct ρ1 => rw [e] at h; exact h
  | rt d ρ1 => rw [e] at h; exact h
  | rn d ρ1 => rw [e] at h; exact h
  | ex c w ρ1 => rw [e] at h; exact h
  | bad => rw [e] at h; exact h
theorem vs_pass : VS1 X W P (.Pass pos) sNext := by
  refine PS_weak ps_pass ?_
  rintro E σ H ⟨B0, ρ, as, rel, h⟩
  exact h σ H as rel Fwd.refl Pin.refl
theorem vs_break : VS1 X W P (.Break pos) sBreak := by
  refine PS_weak ps_break ?_
  rintro E σ H ⟨B0, ρ, as, rel, h⟩
  exact h σ H as rel Fwd.refl Pin.refl
theorem vs_cont : VS1 X W P (.Continue pos) sCont := by
  refine PS_weak ps_continue ?_
  rintro E σ H ⟨B0, ρ, as, rel, h⟩
  exact h σ H as rel Fwd.refl Pin.refl
theorem vs_expr (he : VE X W e fe) (hs : swapsWith e none pos.line X.env = pure false := by rfl) : VS1 X W P (.Expr e pos) (sExpr fe) := by
  refine PS_weak (ps_expr he hs) ?_
  rintro E σ H ⟨B0, ρ, as, rel, h⟩
  exact ⟨B0, ρ, as, rel, h.bind (fun _ _ _ => trivial) fun d ρ1 h1 x H1 as1 rel1 f1 r1 => h1 σ H1 as1 rel1 f1 Pin.refl⟩
theorem vs_ret (he : VE X W e fe) : VS1 X W P (.Return (some e) pos) (sRet fe) := by
  refine PS_weak (ps_ret he) ?_
  rintro E σ H ⟨B0, ρ, as, rel, h⟩
  exact ⟨B0, ρ, as, rel, h.bind (fun _ _ _ => trivial) fun d ρ1 h1 x H1 as1 rel1 f1 r1 => h1 x σ H1 as1 rel1 f1 Pin.refl r1⟩
theorem vs_retNew {fn : List S → Out (List D)} (he : VN X W e fn) : VS1 X W P (.Return (some e) pos) (sRetNew fn) := by
  refine PS_weak (ps_ret he) ?_
  rintro E σ H ⟨B0, ρ, as, rel, h⟩
  exact ⟨B0, ρ, as, rel, h.bind (fun _ _ _ => trivial) fun ds ρ1 h1 p vs H1 as1 rel1 f1 hp0 hp r1 => h1 p vs σ H1 as1 rel1 f1 Pin.refl hp0 hp r1⟩
theorem vs_retN : VS1 X W P (.Return none pos) sRetN := by
  refine PS_weak ps_retN ?_
  rintro E σ H ⟨B0, ρ, as, rel, h⟩
  exact h .non σ H as rel Fwd.refl Pin.refl rfl
theorem vs_if {c : Expr} {a b : List Stmt} {fc : List S → Out Bool} (hc : VT X W c fc) (ha : VSs X W P a f) (hb : VSs X W P b g) : VS1 X W P (.If c a b pos) (sIf fc f g) := by
  refine PS_weak (ps_if hc ha hb) ?_
  rintro E σ H ⟨B0, ρ, as, rel, h⟩
  refine ⟨B0, ρ, as, rel, h.bind (fun _ _ _ => trivial) fun b ρ1 h1 H1 as1 rel1 f1 => ?_⟩
  cases b with
  | true => exact ⟨B0, ρ1, as1, rel1, SPost.fwd f1 Pin.refl h1⟩
  | false => exact ⟨B0, ρ1, as1, rel1, SPost.fwd f1 Pin.refl h1⟩
/-- name = value -/
theorem vs_set {i : Nat} {x : Str} {pos' : Pos} (hP : ¬ P i) (hN : X.N.Nodup) (hi : X.N[i]? = some x) (hx : Loc X.env.scope x) (he : VE X W e fe) (hs : swapsWith e (some (.Name x pos')) pos.line X.env = pure false := by rfl)
    (hf : X.fn x = true ∨ X.env.scope.names.lookup x = some .local := by first | exact .inl rfl | exact .inr rfl | assumption) : VS1 X W P (.Assign [.Name x pos'] e pos) (sSet i fe) := by
  refine PS_weak (ps_set (i := i) hN hi hx he hs hf) ?_
  rintro E σ H ⟨B0, ρ, as, rel, h⟩
  refine ⟨B0, ρ, as, rel, h.bind (fun _ _ _ => trivial) fun d ρ1 h1 x H1 as1 rel1 f1 r1 => ?_⟩
  obtain ⟨as2, rel2, f2⟩ := rel1.put (i := i) r1
  exact h1 _ H1 as2 rel2 (f1.trans f2) (Pin.set hP)
/-- name = a new list -/
theorem vs_own {i : Nat} {x : Str} {pos' : Pos} {fn : List S → Out (List D)} (hP : ¬ P i) (hN : X.N.Nodup) (hi : X.N[i]? = some x) (hx : Loc X.env.scope x) (he : VN X W e fn) (hs : swapsWith e (some (.Name x pos')) pos.line X.env = pure false := by rfl)
    (hf : X.fn x = true ∨ X.env.scope.names.lookup x = some .local := by first | exact .inl rfl | exact .inr rfl | assumption) : VS1 X W P (.Assign [.Name x pos'] e pos) (sOwn i fn) := by
  refine PS_weak (ps_set (i := i) hN hi hx he hs hf) ?_
  rintro E σ H ⟨B0, ρ, as, rel, h⟩
  refine ⟨B0, ρ, as, rel, h.bind (fun _ _ _ => trivial) fun ds ρ1 h1 p vs H1 as1 rel1 f1 hp0 hp r1 => ?_⟩
  obtain ⟨as2, rel2, f2⟩ := rel1.own (i := i) f1 hp0 (fun z => rel.trk p z hp0) hp r1
  exact h1 _ H1 as2 rel2 f2 (Pin.set hP)
end
/-- a new list that stands still from now on -/
def eN (f : List S → Out (List D)) : List S → Out D := fun ρ => (f ρ).bind fun ds ρ1 => .ok (.lst ds) ρ1
theorem ve_n {X : Cx} {W : WX} {e : Expr} {f : List S → Out (List D)} (h : VN X W e f) : VE X W e (eN f) := by
  refine PE_weak h ?_
  rintro σ H Q ⟨B0, ρ, as, rel, h⟩
  refine ⟨B0, ρ, as, rel, h.bind fun ds ρ1 h1 p vs H1 as1 rel1 f1 hp0 hp r1 => ?_⟩
  have hB : ¬ Bv as1 B0 p := by
    rintro (z | z)
    · exact rel1.dis p z (.inl rfl)
    · exact rel.trk p z hp0
  exact h1 (.ref p) H1 as1 rel1.unplus f1 ⟨p, vs, rfl, ⟨hp, hB⟩, r1.unplus⟩

/-! ### what a loop walks -/
/-- the protocol J yields the items, whatever happens to what stands apart -/
def Yields (K : PySem.W.Frag) (mg : Str → Option Value) (B0 : Av) (J : It) (items : List D) (as : List Addr) (H : Hp) : Prop :=
  ∀ (as1 : List Addr) (H1 : Hp) (B1 : Av), Fwd as H as1 H1 → (∀ a, B1 a → B0 a ∨ H a = none) → (∀ a, Bv as1 B1 a → H1 a ≠ none) → ∀ i, (items.length ≤ i → J.stop i H1) ∧ ∀ d, items[i]? = some d → J.go i H1 ∧ ∀ x H2, J.yld i H1 x H2 → Same H1 H2 ∧ R K mg H2 (Bv as1 B1) d x
theorem Fwd.bv1 {as as1 : List Addr} {H H1 : Hp} {B0 B1 : Av} (f : Fwd as H as1 H1) (hB : ∀ a, B1 a → B0 a ∨ H a = none) : ∀ a, H a ≠ none → Bv as1 B1 a → Bv as B0 a := fun a n q => by
  rcases q with q | q
  · exact f.bv (B0 := B0) a n (.inl q)
  · exact (hB a q).elim .inr fun z => absurd z n
def tI (K : PySem.W.Frag) (mg : Str → Option Value) (W : WX) (f : List S → Out (List D)) : TI := fun σ H T => ∃ B0 ρ as, Rel K mg B0 ρ σ H as ∧
  EPost K mg W B0 as H σ (fun items ρ' => ∀ J H' as', Rel K mg B0 ρ' σ H' as' → Fwd as H as' H' → Yields K mg B0 J items as' H' → T J H') (f ρ)
abbrev VI (X : Cx) (W : WX) (tg iter : Expr) (f : List S → Out (List D)) : Prop := PI X tg iter (tI X.K X.mg W f)
theorem PI_weak {X : Cx} {tg iter : Expr} {t t' : TI} (h : PI X tg iter t) (i : ∀ σ H Q, t' σ H Q → t σ H Q) : PI X tg iter t' := ⟨fun pins s σ H Q I w => h.run pins s σ H Q I (i σ H Q w)⟩
/-- a target -/
def tG (K : PySem.W.Frag) (mg : Str → Option Value) (P : Nat → Prop) (f : D → List S → Option (List S)) : TG := fun x σ H Q => ∃ B0 ρ as d ρ', Rel K mg B0 ρ σ H as ∧ R K mg H (Bv as B0) d x ∧ f d ρ = some ρ' ∧
  ∀ σ' as', Rel K mg B0 ρ' σ' H as' → Fwd as H as' H → Pin P σ σ' → Q σ' H
abbrev VG (X : Cx) (P : Nat → Prop) (tg : Expr) (f : D → List S → Option (List S)) : Prop := PG X tg (tG X.K X.mg P f)
theorem PG_weak {X : Cx} {tg : Expr} {t t' : TG} (h : PG X tg t) (i : ∀ x σ H Q, t' x σ H Q → t x σ H Q) : PG X tg t' := ⟨fun pins s σ H v u Q I r w => h.run pins s σ H v u Q I r (i v σ H Q w)⟩
def gN (i : Nat) : D → List S → Option (List S) := fun d ρ => some (ρ.set i (.fr d))
theorem vg_name {X : Cx} {P : Nat → Prop} {pos : Pos} {i : Nat} {x : Str} (hP : ¬ P i) (hN : X.N.Nodup) (hi : X.N[i]? = some x) (hx : Loc X.env.scope x) (hf : X.fn x = true ∨ X.env.scope.names.lookup x = some .local := by first | exact .inl rfl | exact .inr rfl | assumption) : VG X P (.Name x pos) (gN i) := by
  refine PG_weak (pg_name hN hi hx hf) ?_
  rintro x σ H Q ⟨B0, ρ, as, d, ρ', rel, r, e, h⟩
  cases e
  obtain ⟨as2, rel2, f2⟩ := rel.put (i := i) r
  exact h _ as2 rel2 f2 (Pin.set hP)
/-- several targets -/
def tGs (K : PySem.W.Frag) (mg : Str → Option Value) (P : Nat → Prop) (f : List D → List S → Option (List S)) : TGs := fun xs σ H Q => ∃ B0 ρ as ds ρ', Rel K mg B0 ρ σ H as ∧ Rs K mg H (Bv as B0) ds xs ∧ f ds ρ = some ρ' ∧
  ∀ σ' as', Rel K mg B0 ρ' σ' H as' → Fwd as H as' H → Pin P σ σ' → Q σ' H
abbrev VGs (X : Cx) (P : Nat → Prop) (tg : List Expr) (f : List D → List S → Option (List S)) : Prop := PGs X tg (tGs X.K X.mg P f)
theorem PGs_weak {X : Cx} {tg : List Expr} {t t' : TGs} (h : PGs X tg t) (i : ∀ x σ H Q, t' x σ H Q → t x σ H Q) : PGs X tg t' := ⟨fun pins s σ H v u Q I r w => h.run pins s σ H v u Q I r (i v σ H Q w)⟩
def gsNil : List D → List S → Option (List S) := fun ds ρ => if ds.isEmpty = true then some ρ else none
def gsCons (f : D → List S → Option (List S)) (g : List D → List S → Option (List S)) : List D → List S → Option (List S)
  | [], _ => none
  | d :: ds, ρ => (f d ρ).bind fun ρ1 => g ds ρ1
def gTp (n : Nat) (g : List D → List S → Option (List S)) : D → List S → Option (List S)
  | .tup ds, ρ => if ds.length = n then g ds ρ else none
  | _, _ => none
section
variable {X : Cx} {P : Nat → Prop}
theorem vgs_nil : VGs X P [] gsNil := by
  refine PGs_weak pgs_nil ?_
  rintro xs σ H Q ⟨B0, ρ, as, ds, ρ', rel, r, e, h⟩
  cases ds with
  | nil => cases e; exact ⟨r, h σ as rel Fwd.refl Pin.refl⟩
  | cons d ds => simp [gsNil] at e
theorem vgs_cons {e : Expr} {es : List Expr} {f : D → List S → Option (List S)} {g : List D → List S → Option (List S)} (h1 : VG X P e f) (h2 : VGs X P es g)
    (hs : (assignEach (e :: es) X.env).map (·.2) = assign e X.env :: (assignEach es X.env).map (·.2) := by rfl) : VGs X P (e :: es) (gsCons f g) := by
  refine PGs_weak (pgs_cons h1 h2 hs) ?_
  rintro xs σ H Q ⟨B0, ρ, as, ds, ρ', rel, r, e, h⟩
  cases ds with
  | nil => cases e
  | cons d ds =>
    obtain ⟨x, xs, rfl, rd, rr⟩ := r
    have e : (f d ρ).bind (fun ρ1 => g ds ρ1) = some ρ' := e
    cases ef : f d ρ with
    | none => rw [ef] at e; cases e
    | some ρ1 =>
      rw [ef] at e
      exact ⟨x, xs, rfl, B0, ρ, as, d, ρ1, rel, rd, ef, fun σ1 as1 rel1 f1 p1 => ⟨B0, ρ1, as1, ds, ρ', rel1, rr.fwd f1, e, fun σ2 as2 rel2 f2 p2 => h σ2 as2 rel2 (f1.trans f2) (p1.trans p2)⟩⟩
theorem vg_tup {es : List Expr} {k : Nat} {g : List D → List S → Option (List S)} {n : Nat} {pos : Pos} (hc : X.calm = true) (h : VGs X P es g) (hn : (assignEach es X.env).length = n := by rfl) (hst : (assignEach es X.env).findIdx? (·.1) = none := by rfl) :
    VG X P (.Tuple es k pos) (gTp n g) := by
  refine PG_weak (pg_tup hc h hn hst) ?_
  rintro x σ H Q ⟨B0, ρ, as, d, ρ', rel, r, e, h⟩
  cases d with
  | tup ds =>
    obtain ⟨a, vs, rfl, tp, rr⟩ := r
    have e : (if ds.length = n then g ds ρ else none) = some ρ' := e
    by_cases hl : ds.length = n
    · rw [if_pos hl] at e
      exact ⟨a, vs, rfl, tp.sq, by rw [← rr.length]; exact hl, B0, ρ, as, ds, ρ', rel, rr, e, h⟩
    · rw [if_neg hl] at e; cases e
  | _ => cases e
end
/-- for -/
def sLoop (g : D → List S → Option (List S)) (fb : List S → SO) : List D → List S → SO
  | [], ρ => .nx ρ
  | d :: ds, ρ => match g d ρ with
    | none => .bad
    | some ρ1 => match fb ρ1 with
      | .nx ρ2 => sLoop g fb ds ρ2
      | .ct ρ2 => sLoop g fb ds ρ2
      | .bk ρ2 => .nx ρ2
      | o => o
def sFor (fi : List S → Out (List D)) (g : D → List S → Option (List S)) (fb : List S → SO) : List S → SO := fun ρ => (fi ρ).toS fun items ρ1 => sLoop g fb items ρ1
section
variable {X : Cx} {W : WX} {P : Nat → Prop} {pos : Pos}
theorem vs_for {tg iter : Expr} {body : List Stmt} {fi : List S → Out (List D)} {g : D → List S → Option (List S)} {fb : List S → SO} (hp : PassesOwn (model X.prog X.w) X.A X.env X.xe) (hc : X.calm = true) (hi : VI X W tg iter fi) (hg : VG X P tg g) (hb : VSs X W P body fb)
    (hs : ∀ x, foldedSetIterable iter X.env x = pure x := by intro _; rfl) : VS1 X W P (.For tg iter body [] pos) (sFor fi g fb) := by
  refine PS_weak (ps_for hp hc hi hg hb hs) ?_
  rintro E σ H ⟨B0, ρ, as, rel, h⟩
  refine ⟨B0, ρ, as, rel, h.bind (fun _ _ _ => trivial) fun items ρ1 h1 J H1 as1 rel1 f1 y => ?_⟩
  refine ⟨fun i m σ2 H2 => m = items.length - i ∧ i ≤ items.length ∧ ∃ ρ2 as2, Rel X.K X.mg B0 ρ2 σ2 H2 as2 ∧ Fwd as1 H1 as2 H2 ∧ SPost X.K X.mg W P B0 as2 H2 σ2 E (sLoop g fb (items.drop i) ρ2), ⟨items.length, by simp, Nat.zero_le _, ρ1, as1, rel1, Fwd.refl, SPost.fwd f1 Pin.refl h1⟩, ?_⟩
  rintro i m σ2 H2 ⟨rfl, hi, ρ2, as2, rel2, f2, h2⟩
  obtain ⟨ystop, ygo⟩ := y as2 H2 B0 f2 (fun a h => .inl h) (fun a ha => rel2.tracked ha) i
  by_cases hlt : i < items.length
  · have hd : items.drop i = items[i] :: items.drop (i + 1) := List.drop_eq_getElem_cons hlt
    rw [hd] at h2
    obtain ⟨go, yl⟩ := ygo items[i] (List.getElem?_eq_getElem hlt)
    unfold sLoop at h2
    cases eg : g items[i] ρ2 with
    | none => rw [eg] at h2; exact h2.elim
    | some ρ3 =>
      rw [eg] at h2
      refine .inr ⟨go, fun σ' H' => ∃ ρ' as', Rel X.K X.mg B0 ρ' σ' H' as' ∧ Fwd as1 H1 as' H' ∧ SPost X.K X.mg W P B0 as' H' σ' E (sLoop g fb (items.drop (i + 1)) ρ'), fun σ' H' q => ⟨items.length - (i + 1), by omega, rfl, hlt, q⟩, fun x H3 yx => ?_⟩
      obtain ⟨k3, r3⟩ := yl x H3 yx
      obtain ⟨rel3, f3⟩ := rel2.same k3
      refine ⟨B0, ρ2, as2, items[i], ρ3, rel3, r3, eg, fun σ4 as4 rel4 f4 p4 => ⟨B0, ρ3, as4, rel4, ?_⟩⟩
      have h3 : SPost X.K X.mg W P B0 as4 H3 σ4 E (match fb ρ3 with
        | .nx ρ2 => sLoop g fb (items.drop (i + 1)) ρ2
        | .ct ρ2 => sLoop g fb (items.drop (i + 1)) ρ2
        | .bk ρ2 => .nx ρ2
        | o => o) := SPost.fwd (f3.trans f4) p4 h2
      cases ef : fb ρ3 with
      | nx ρ5 => rw [ef] at h3; exact fun σ5 H5 as5 rel5 f5 p5 => ⟨ρ5, as5, rel5, ((f2.trans f3).trans f4).trans f5, SPost.fwd f5 p5 h3⟩
      | ct ρ5 => rw [ef] at h3; exact fun σ5 H5 as5 rel5 f5 p5 => ⟨ρ5, as5, rel5, ((f2.trans f3).trans f4).trans f5, SPost.fwd f5 p5 h3⟩
      | bk ρ5 => rw [ef] at h3; exact h3
      | rt d ρ5 => rw [ef] at h3; exact h3
      | rn d ρ5 => rw [ef] at h3; exact h3
      | ex c w ρ5 => rw [ef] at h3; exact h3
      | bad => rw [ef] at h3; exact h3
  · refine .inl ⟨ystop (by omega), ?_⟩
    rw [List.drop_eq_nil_of_le (by omega)] at h2
    exact h2 σ2 H2 as2 rel2 Fwd.refl Pin.refl
/-- while, at most n turns -/
def sWh (fc : List S → Out Bool) (fb : List S → SO) : Nat → List S → SO
  | 0, _ => .bad
  | n + 1, ρ => (fc ρ).toS fun b ρ1 => if b = true then (match fb ρ1 with
      | .nx ρ2 => sWh fc fb n ρ2
      | .ct ρ2 => sWh fc fb n ρ2
      | .bk ρ2 => .nx ρ2
      | o => o) else .nx ρ1
theorem vs_while {c : Expr} {body : List Stmt} {fc : List S → Out Bool} {fb : List S → SO} (n : List S → Nat) (hp : PassesOwn (model X.prog X.w) X.A X.env X.xe) (hc : VT X W c fc) (hb : VSs X W P body fb) : VS1 X W P (.While c body [] pos) (fun ρ => sWh fc fb (n ρ) ρ) := by
  refine PS_weak (ps_while hp hc hb) ?_
  rintro E σ H ⟨B0, ρ, as, rel, h⟩
  refine ⟨fun m σ2 H2 => ∃ ρ2 as2, Rel X.K X.mg B0 ρ2 σ2 H2 as2 ∧ SPost X.K X.mg W P B0 as2 H2 σ2 E (sWh fc fb m ρ2), ⟨n ρ, ρ, as, rel, h⟩, ?_⟩
  rintro m σ2 H2 ⟨ρ2, as2, rel2, h2⟩
  cases m with
  | zero => exact h2.elim
  | succ m =>
    unfold sWh at h2
    refine ⟨B0, ρ2, as2, rel2, h2.bind (fun _ _ _ => trivial) fun b ρ3 h3 H3 as3 rel3 f3 => ?_⟩
    cases b with
    | false => rw [if_neg Bool.false_ne_true] at h3; rw [if_neg Bool.false_ne_true]; exact h3 σ2 H3 as3 rel3 f3 Pin.refl
    | true =>
      rw [if_pos rfl] at h3
      rw [if_pos rfl]
      refine ⟨fun σ' H' => ∃ ρ' as', Rel X.K X.mg B0 ρ' σ' H' as' ∧ SPost X.K X.mg W P B0 as' H' σ' E (sWh fc fb m ρ'), fun σ' H' q => ⟨m, Nat.lt_succ_self m, q⟩, B0, ρ3, as3, rel3, ?_⟩
      have h4 : SPost X.K X.mg W P B0 as3 H3 σ2 E (match fb ρ3 with
        | .nx ρ2 => sWh fc fb m ρ2
        | .ct ρ2 => sWh fc fb m ρ2
        | .bk ρ2 => .nx ρ2
        | o => o) := SPost.fwd f3 Pin.refl h3
      cases ef : fb ρ3 with
      | nx ρ5 => rw [ef] at h4; exact fun σ5 H5 as5 rel5 f5 p5 => ⟨ρ5, as5, rel5, SPost.fwd f5 p5 h4⟩
      | ct ρ5 => rw [ef] at h4; exact fun σ5 H5 as5 rel5 f5 p5 => ⟨ρ5, as5, rel5, SPost.fwd f5 p5 h4⟩
      | bk ρ5 => rw [ef] at h4; exact h4
      | rt d ρ5 => rw [ef] at h4; exact h4
      | rn d ρ5 => rw [ef] at h4; exact h4
      | ex c w ρ5 => rw [ef] at h4; exact h4
      | bad => rw [ef] at h4; exact h4
end
end VS
/-! ## VS3 -/
set_option Elab.async false
set_option linter.all false
set_option maxRecDepth 100000
set_option maxHeartbeats 4000000
set_option autoImplicit false
namespace VS
open PySem PySem.Spec L2

theorem Rs.get' {K : PySem.W.Frag} {mg : Str → Option Value} {H : Hp} {B : Av} : ∀ {ds : List D} {xs : List V} {i : Nat} {x : V}, Rs K mg H B ds xs → xs[i]? = some x → ∃ d, ds[i]? = some d ∧ R K mg H B d x
  | [], _, i, d, h, h' => by cases (show _ = [] from h); simp at h'
  | d :: ds, _, 0, x', ⟨x, xs, e, r, rr⟩, h => by
    subst e
    cases h
    exact ⟨d, rfl, r⟩
  | d :: ds, _, i + 1, x', ⟨x, xs, e, r, rr⟩, h => by
    subst e
    obtain ⟨y, hy, q⟩ := Rs.get' (i := i) rr h
    exact ⟨y, hy, q⟩
section
variable {K : PySem.W.Frag} {H H' : Hp} {B0 B1 : Av} {as as' : List Addr} {a : Addr} {vs : List V}
theorem Tp.fwd (h : Tp K H (Bv as B0) a vs) (f : Fwd as H as' H') (hB : ∀ a, B1 a → B0 a ∨ H a = none) : Tp K H' (Bv as' B1) a vs :=
  h.elim (fun ⟨h, hb⟩ => .inl ⟨Rd.keep h hb f.keep, fun z => hb (f.bv1 hB a (Rd.tracked h) z)⟩) .inr
theorem Lp.fwd (h : Lp H (Bv as B0) a vs) (f : Fwd as H as' H') (hB : ∀ a, B1 a → B0 a ∨ H a = none) : Lp H' (Bv as' B1) a vs :=
  ⟨f.keep _ _ h.2 h.1, fun z => h.2 (f.bv1 hB a (by rw [h.1]; intro z; cases z) z)⟩
theorem Rs.fwd1 {mg : Str → Option Value} {ds : List D} (h : Rs K mg H (Bv as B0) ds vs) (f : Fwd as H as' H') (hB : ∀ a, B1 a → B0 a ∨ H a = none) : Rs K mg H' (Bv as' B1) ds vs := Rs.mono f.keep (f.bv1 hB) h
end

/-! ### what a loop walks -/
def iSeq (f : List S → Out D) : List S → Out (List D) := fun ρ => (f ρ).bind fun d ρ1 => match d with
  | .tup ds => .ok ds ρ1
  | .lst ds => .ok ds ρ1
  | _ => .bad
def iRange1 (f : List S → Out (List D)) : List S → Out (List D) := fun ρ => (f ρ).bind fun ds ρ1 => match ds with
  | [.int j] => if Fit j then .ok ((List.range j.toNat).map fun (k : Nat) => D.int (k : Int)) ρ1 else .bad
  | _ => .bad
def iRange2 (f : List S → Out (List D)) : List S → Out (List D) := fun ρ => (f ρ).bind fun ds ρ1 => match ds with
  | [.int i, .int j] => if Fit i ∧ Fit j then .ok ((List.range (j - i).toNat).map fun (k : Nat) => D.int (i + k)) ρ1 else .bad
  | _ => .bad
/-- 0, 1, .. beside the items -/
def enumFrom : Nat → List D → List D
  | _, [] => []
  | k, d :: ds => .tup [.int k, d] :: enumFrom (k + 1) ds
theorem enumFrom_get : ∀ {ds : List D} {k i : Nat}, (enumFrom k ds)[i]? = (ds[i]?).map fun d => D.tup [.int ((k + i : Nat) : Int), d]
  | [], k, i => by simp [enumFrom]
  | d :: ds, k, 0 => by simp [enumFrom]
  | d :: ds, k, i + 1 => by
    rw [enumFrom, List.getElem?_cons_succ, enumFrom_get, List.getElem?_cons_succ]
    rw [show k + 1 + i = k + (i + 1) by omega]
theorem enumFrom_length : ∀ {ds : List D} {k : Nat}, (enumFrom k ds).length = ds.length
  | [], _ => rfl
  | d :: ds, k => by rw [enumFrom, List.length_cons, enumFrom_length, List.length_cons]
def iEnumL (f : List S → Out (List D)) : List S → Out (List D) := fun ρ => (f ρ).bind fun ds ρ1 => match ds with
  | [.lst xs] => .ok (enumFrom 0 xs) ρ1
  | _ => .bad
def zipD : List D → List D → List D
  | x :: xs, y :: ys => .tup [x, y] :: zipD xs ys
  | _, _ => []
section
variable {X : Cx} {W : WX} {tg l : Expr} {f : List S → Out D} {fl : List S → Out (List D)}
theorem yields_list {K : PySem.W.Frag} {mg : Str → Option Value} {B0 : Av} {as : List Addr} {H : Hp} {a : Addr} {vs : List V} {ds : List D} (hp : Lp H (Bv as B0) a vs) (r : Rs K mg H (Bv as B0) ds vs) : Yields K mg B0 (Itl K a) ds as H := by
  intro as1 H1 B1 f hB tr i
  have hp1 := hp.fwd f hB
  have r1 := r.fwd1 f hB
  have sq : SqL K H1 a vs := hp1.sq
  refine ⟨fun hi => ⟨vs, sq, by rw [← r1.length]; exact hi⟩, fun d hd => ?_⟩
  obtain ⟨x, hx, rx⟩ := r1.get hd
  exact ⟨⟨vs, x, sq, hx⟩, fun y H2 ⟨e, q⟩ => by
    subst e
    have := q vs sq
    rw [hx] at this
    cases this
    exact ⟨fun _ _ h => h, rx⟩⟩
theorem yields_tup {K : PySem.W.Frag} {mg : Str → Option Value} {B0 : Av} {as : List Addr} {H : Hp} {a : Addr} {vs : List V} {ds : List D} (hp : Tp K H (Bv as B0) a vs) (r : Rs K mg H (Bv as B0) ds vs) : Yields K mg B0 (Itt K a) ds as H := by
  intro as1 H1 B1 f hB tr i
  have hp1 := hp.fwd f hB
  have r1 := r.fwd1 f hB
  have sq : SqT K H1 a vs := hp1.sq
  refine ⟨fun hi => ⟨vs, sq, by rw [← r1.length]; exact hi⟩, fun d hd => ?_⟩
  obtain ⟨x, hx, rx⟩ := r1.get hd
  exact ⟨⟨vs, x, sq, hx⟩, fun y H2 ⟨e, q⟩ => by
    subst e
    have := q vs sq
    rw [hx] at this
    cases this
    exact ⟨fun _ _ h => h, rx⟩⟩
theorem yields_range {K : PySem.W.Frag} {mg : Str → Option Value} {B0 : Av} {as : List Addr} {H : Hp} {lo : Int} {n : Nat} : Yields K mg B0 (Itr lo n) ((List.range n).map fun (k : Nat) => D.int (lo + k)) as H := by
  intro as1 H1 B1 f hB tr i
  refine ⟨fun hi => by
    show n ≤ i
    simpa using hi, fun d hd => ?_⟩
  rw [List.getElem?_map] at hd
  cases e : (List.range n)[i]? with
  | none => rw [e] at hd; cases hd
  | some k =>
    rw [e] at hd
    cases hd
    have hi : i < n := by
      by_cases z : i < n
      · exact z
      · rw [List.getElem?_eq_none (by simpa using z)] at e; cases e
    rw [List.getElem?_range hi] at e
    cases e
    exact ⟨hi, fun y H2 ⟨e, q⟩ => by
      subst e q
      exact ⟨fun _ _ h => h, rfl⟩⟩
theorem yields_enum {K : PySem.W.Frag} {mg : Str → Option Value} {B0 : Av} {as : List Addr} {H : Hp} {a : Addr} {vs : List V} {ds : List D} (hp : Lp H (Bv as B0) a vs) (r : Rs K mg H (Bv as B0) ds vs) : Yields K mg B0 (Ite K a) (enumFrom 0 ds) as H := by
  intro as1 H1 B1 f hB tr i
  have hp1 := hp.fwd f hB
  have r1 := r.fwd1 f hB
  have sq : SqL K H1 a vs := hp1.sq
  refine ⟨fun hi => ⟨vs, sq, by rw [← r1.length]; rw [enumFrom_length] at hi; exact hi⟩, fun d hd => ?_⟩
  rw [enumFrom_get] at hd
  cases e : ds[i]? with
  | none => rw [e] at hd; cases hd
  | some d0 =>
    rw [e] at hd
    cases hd
    obtain ⟨x, hx, rx⟩ := r1.get e
    refine ⟨⟨vs, x, sq, hx⟩, fun y H2 ⟨T, x', e1, nT, e2, q⟩ => ?_⟩
    have := q vs sq
    rw [hx] at this
    cases this
    subst e1 e2
    refine ⟨same_upd nT, T, _, rfl, .inl ⟨.inl upd_same, fun z => tr T z nT⟩, ?_⟩
    refine Rs.cons ?_ (Rs.cons (rx.same (same_upd nT)) Rs.nil)
    show V.int (i : Nat) = V.int ((0 + i : Nat) : Int)
    rw [Nat.zero_add]
theorem vi_seq (h : VE X W l f) : VI X W tg l (iSeq f) := by
  refine ⟨fun pins s σ H T I hw => ?_⟩
  obtain ⟨B0, ρ, as, rel, hw⟩ := hw
  unfold iSeq at hw
  cases e : f ρ with
  | ok d ρ1 =>
    rw [e] at hw
    cases d with
    | tup ds =>
      refine (pi_tup (tg := tg) h).run pins s σ H T I ⟨B0, ρ, as, rel, ?_⟩
      rw [e]
      intro x H1 as1 rel1 f1 r1
      obtain ⟨a, vs, rfl, tp, rs⟩ := r1
      exact ⟨a, rfl, ⟨vs, tp.sq⟩, hw _ H1 as1 rel1 f1 (yields_tup tp rs)⟩
    | lst ds =>
      refine (pi_list (tg := tg) h).run pins s σ H T I ⟨B0, ρ, as, rel, ?_⟩
      rw [e]
      intro x H1 as1 rel1 f1 r1
      obtain ⟨a, vs, rfl, tp, rs⟩ := r1
      exact ⟨a, rfl, ⟨vs, tp.sq⟩, hw _ H1 as1 rel1 f1 (yields_list tp rs)⟩
    | _ => exact hw.elim
  | ex c w ρ1 =>
    rw [e] at hw
    refine (pi_list (tg := tg) h).run pins s σ H T I ⟨B0, ρ, as, rel, ?_⟩
    rw [e]
    exact hw
  | bad => rw [e] at hw; exact hw.elim
theorem vi_range1 {a : Expr} {p pos : Pos} (hg : Gl X "range") (hm : X.mg "range" = none) (ha : VA X W [a] fl) (hs : starEach [a] X.env = [(false, eval a X.env)] := by rfl) : VI X W tg (.Call (.Name "range" p) [a] [] pos) (iRange1 fl) := by
  refine PI_weak (pi_range1 hg hm ha hs) ?_
  rintro σ H T ⟨B0, ρ, as, rel, h⟩
  refine ⟨B0, ρ, as, rel, h.bind fun ds ρ1 h1 xs H1 as1 rel1 f1 r1 => ?_⟩
  match ds, h1, r1 with
  | [.int j], h1, r1 =>
    obtain ⟨x, xs', rfl, rfl, e⟩ := r1
    cases (show xs' = [] from e)
    have h1 : EPost X.K X.mg W B0 as H σ _ (if Fit j then Out.ok ((List.range j.toNat).map fun (k : Nat) => D.int (k : Int)) ρ1 else .bad) := h1
    by_cases c : Fit j
    · rw [if_pos c] at h1
      have c := c.ok
      have y := yields_range (K := X.K) (mg := X.mg) (B0 := B0) (as := as1) (H := H1) (lo := 0) (n := j.toNat)
      have e : ((List.range j.toNat).map fun (k : Nat) => D.int (0 + k)) = (List.range j.toNat).map fun (k : Nat) => D.int (k : Int) := List.map_congr_left fun k _ => by rw [Int.zero_add]
      rw [e] at y
      exact ⟨j, rfl, c.1, c.2, h1 _ H1 as1 rel1 f1 y⟩
    · rw [if_neg c] at h1; exact h1.elim
theorem vi_range2 {a b : Expr} {p pos : Pos} (hg : Gl X "range") (hm : X.mg "range" = none) (ha : VA X W [a, b] fl) (hs : starEach [a, b] X.env = [(false, eval a X.env), (false, eval b X.env)] := by rfl) (hs2 : starEach [b] X.env = [(false, eval b X.env)] := by rfl) :
    VI X W tg (.Call (.Name "range" p) [a, b] [] pos) (iRange2 fl) := by
  refine PI_weak (pi_range2 hg hm ha hs hs2) ?_
  rintro σ H T ⟨B0, ρ, as, rel, h⟩
  refine ⟨B0, ρ, as, rel, h.bind fun ds ρ1 h1 xs H1 as1 rel1 f1 r1 => ?_⟩
  match ds, h1, r1 with
  | [.int i, .int j], h1, r1 =>
    obtain ⟨x, xs', rfl, rfl, x2, xs2, rfl, rfl, e⟩ := r1
    cases (show xs2 = [] from e)
    have h1 : EPost X.K X.mg W B0 as H σ _ (if Fit i ∧ Fit j then Out.ok ((List.range (j - i).toNat).map fun (k : Nat) => D.int (i + k)) ρ1 else .bad) := h1
    by_cases c : Fit i ∧ Fit j
    · rw [if_pos c] at h1
      have c : -(2 ^ 62) ≤ i ∧ i < 2 ^ 62 ∧ -(2 ^ 62) ≤ j ∧ j < 2 ^ 62 := ⟨c.1.ok.1, c.1.ok.2, c.2.ok.1, c.2.ok.2⟩
      exact ⟨i, j, rfl, c, h1 _ H1 as1 rel1 f1 yields_range⟩
    · rw [if_neg c] at h1; exact h1.elim
theorem vi_enumL {e : Expr} {p pos tpos : Pos} {elts : List Expr} {kk : Nat} (hg : Gl X "enumerate") (hm : X.mg "enumerate" = none) (ha : VA X W [e] fl) (hs : starEach [e] X.env = [(false, eval e X.env)] := by rfl) : VI X W (.Tuple elts kk tpos) (.Call (.Name "enumerate" p) [e] [] pos) (iEnumL fl) := by
  refine PI_weak (pi_enum hg hm ha hs) ?_
  rintro σ H T ⟨B0, ρ, as, rel, h⟩
  refine ⟨B0, ρ, as, rel, h.bind fun ds ρ1 h1 xs H1 as1 rel1 f1 r1 => ?_⟩
  match ds, h1, r1 with
  | [.lst ys], h1, r1 =>
    obtain ⟨x, xs', rfl, ⟨a, vs, rfl, lp, rs⟩, e⟩ := r1
    cases (show xs' = [] from e)
    exact ⟨a, vs, rfl, lp.sq, h1 _ H1 as1 rel1 f1 (yields_enum lp rs)⟩
end

/-! ### comprehensions -/
/-- the slots of a comprehension's own names, emptied -/
def wipeS (ρ : List S) : List Nat → List S
  | [] => ρ
  | v :: vs => (wipeS ρ vs).set v .un
/-- the slots vs as they were -/
def backS (ρ0 ρ : List S) : List Nat → List S
  | [] => ρ
  | v :: vs => match ρ0[v]? with
    | some s => backS ρ0 (ρ.set v s) vs
    | none => backS ρ0 ρ vs
/-- no list of its own stands in a slot -/
def plainS : Option S → Bool
  | some (.ow _) => false
  | some (.o2 _) => false
  | _ => true
def sComp (g : D → List S → Option (List S)) (ft : List S → Out Bool) (fe : List S → Out D) (vs : List Nat) : List D → List S → List D → Out (List D)
  | [], ρ, acc => .ok acc ρ
  | d :: ds, ρ, acc => match g d ρ with
    | none => .bad
    | some ρ1 => match ft ρ1 with
      | .ok true ρ2 => match fe ρ2 with
        | .ok e ρ3 => if acc.length < sizeLine then sComp g ft fe vs ds (wipeS ρ3 vs) (acc ++ [e]) else .bad
        | _ => .bad
      | .ok false ρ2 => sComp g ft fe vs ds (wipeS ρ2 vs) acc
      | _ => .bad
def nComp (fi : List S → Out (List D)) (g : D → List S → Option (List S)) (ft : List S → Out Bool) (fe : List S → Out D) (vs : List Nat) : List S → Out (List D) := fun ρ =>
  (fi ρ).bind fun items ρ1 => if vs.all (fun v => plainS ρ1[v]?) = true then (match sComp g ft fe vs items (wipeS ρ1 vs) [] with
    | .ok ds ρ2 => .ok ds (backS ρ1 ρ2 vs)
    | _ => .bad) else .bad

section
variable {K : PySem.W.Frag} {mg : Str → Option Value} {W : WX} {B0 : Av} {H H1 H' : Hp} {as as1 as' : List Addr} {σ : L2.St} {ρ ρ1 ρ' : List S}
theorem Rel.wipe (r : Rel K mg B0 ρ σ H as) : ∀ vs : List Nat, ∃ as', Rel K mg B0 (wipeS ρ vs) (L2.wipe σ vs) H as' ∧ Fwd as H as' H
  | [] => ⟨as, r, Fwd.refl⟩
  | v :: vs => by
    obtain ⟨as1, r1, f1⟩ := Rel.wipe r vs
    obtain ⟨as2, r2, f2⟩ := r1.putS (i := v) (s' := .un) (v' := none) fun _ _ => rfl
    exact ⟨as2, r2, f1.trans f2⟩
/-- the slots of a comprehension get their old values back -/
theorem Rel.back {p : Addr} (r0 : Rel K mg B0 ρ1 σ H1 as1) (hp : H1 p = none) : ∀ (vs : List Nat) (ρ : List S) (as : List Addr), vs.Nodup → (∀ v ∈ vs, plainS ρ1[v]? = true) → Rel K mg (Plus B0 p) ρ (L2.wipe σ vs) H as → Fwd as1 H1 as H → ∃ as', Rel K mg (Plus B0 p) (backS ρ1 ρ vs) σ H as' ∧ Fwd as H as' H
  | [], ρ, as, _, _, r, _ => ⟨as, r, Fwd.refl⟩
  | v :: vs, ρ, as, nd, pl, r, f => by
    have nv : v ∉ vs := (List.nodup_cons.mp nd).1
    have e0 : L2.wipe σ (v :: vs) = (L2.wipe σ vs).set v none := rfl
    rw [e0] at r
    cases e : ρ1[v]? with
    | none =>
      have h1 : ρ1.length ≤ v := List.getElem?_eq_none_iff.mp e
      have h2 : (L2.wipe σ vs).length ≤ v := by rw [L2.wipe_length, ← r0.len]; exact h1
      rw [List.set_eq_of_length_le h2] at r
      have e1 : backS ρ1 ρ (v :: vs) = backS ρ1 ρ vs := by show (match ρ1[v]? with | some s => backS ρ1 (ρ.set v s) vs | none => backS ρ1 ρ vs) = _; rw [e]
      rw [e1]
      exact Rel.back r0 hp vs ρ as (List.nodup_cons.mp nd).2 (fun w hw => pl w (List.mem_cons_of_mem _ hw)) r f
    | some s =>
      have e1 : backS ρ1 ρ (v :: vs) = backS ρ1 (ρ.set v s) vs := by show (match ρ1[v]? with | some s => backS ρ1 (ρ.set v s) vs | none => backS ρ1 ρ vs) = _; rw [e]
      rw [e1]
      obtain ⟨l, m, rr, ov, _, e2, o, _⟩ := r0.sl.at e
      have ps := pl v List.mem_cons_self
      rw [e] at ps
      have mem : ∀ a, H1 a ≠ none → ∀ as', (∀ b ∈ as', b ∈ as) → Bv as' (Plus B0 p) a → Bv as1 B0 a := fun a n as' sub q => by
        rcases q with q | rfl | q
        · exact f.bv (B0 := B0) a n (.inl (sub a q))
        · exact absurd hp n
        · exact .inr q
      obtain ⟨as2, r2, f2⟩ := r.putS (i := v) (s' := s) (v' := ov) fun as' sub => by
        cases s with
        | un => rfl
        | fr d =>
          obtain ⟨_, x, ex, q⟩ := o
          exact ⟨rfl, x, ex, R.mono f.keep (fun a n q => mem a n as' sub q) q⟩
        | ow ds => cases ps
        | o2 dss => cases ps
      rw [List.set_set, set_self (l := L2.wipe σ vs) (i := v) (by rw [L2.wipe_out nv]; exact e2)] at r2
      obtain ⟨as3, r3, f3⟩ := Rel.back r0 hp vs (ρ.set v s) as2 (List.nodup_cons.mp nd).2 (fun w hw => pl w (List.mem_cons_of_mem _ hw)) r2 (f.trans f2)
      exact ⟨as3, r3, f2.trans f3⟩
theorem wipe_get : ∀ {vs : List Nat} {σ : L2.St} {i : Nat}, (L2.wipe σ vs)[i]? = if i ∈ vs then (if i < σ.length then some none else none) else σ[i]?
  | [], σ, i => by simp [L2.wipe]
  | v :: vs, σ, i => by
    show ((L2.wipe σ vs).set v none)[i]? = _
    by_cases h : v = i
    · subst h
      rw [List.getElem?_set_self', if_pos List.mem_cons_self, wipe_get]
      by_cases hm : v ∈ vs
      · rw [if_pos hm]
        by_cases hl : v < σ.length <;> simp [hl]
      · rw [if_neg hm]
        by_cases hl : v < σ.length
        · rw [if_pos hl, List.getElem?_eq_getElem hl]; rfl
        · rw [if_neg hl, List.getElem?_eq_none (by omega)]; rfl
    · rw [List.getElem?_set_ne h, wipe_get]
      have e : (i ∈ v :: vs) ↔ i ∈ vs := by
        rw [List.mem_cons]
        exact ⟨fun z => z.elim (fun z => absurd z.symm h) id, .inr⟩
      simp only [e]
theorem wipe_pin {vs : List Nat} {σ σ2 : L2.St} (h : Pin (fun i => i ∉ vs) (L2.wipe σ vs) σ2) : L2.wipe σ2 vs = L2.wipe σ vs := by
  apply List.ext_getElem?
  intro i
  rw [wipe_get, wipe_get]
  have hl : σ2.length = σ.length := by rw [h.len, L2.wipe_length]
  by_cases hm : i ∈ vs
  · rw [if_pos hm, if_pos hm, hl]
  · rw [if_neg hm, if_neg hm, h.eq i hm, wipe_get, if_neg hm]
end
/-- [e for tg in iter if t]: what the reading wants -/
theorem lc_post {K : PySem.W.Frag} {mg : Str → Option Value} {W : WX} {fi : List S → Out (List D)} {g : D → List S → Option (List S)} {ft : List S → Out Bool} {fe : List S → Out D} {vs : List Nat} (nd : vs.Nodup) {σ : L2.St} {H : Hp} {Q : VK}
    (h : tN K mg W (nComp fi g ft fe vs) σ H Q) : tLc (tI K mg W fi) (tG K mg (fun i => i ∉ vs) g) (tT K mg (fun _ _ _ _ => False) ft) (tE K mg (fun _ _ _ _ => False) fe) vs σ H Q := by
  obtain ⟨B0, ρ, as, rel, h⟩ := h
  refine ⟨B0, ρ, as, rel, h.bind fun items ρ1 h1 J H1 as1 rel1 f1 y p hp => ?_⟩
  by_cases pl : vs.all (fun v => plainS ρ1[v]?) = true
  · rw [if_pos pl] at h1
    have pl' : ∀ v ∈ vs, plainS ρ1[v]? = true := fun v hv => List.all_eq_true.mp pl v hv
    have hp0 : H p = none := f1.unt hp
    obtain ⟨as2, rel2, f2⟩ := rel1.wipe vs
    -- what the end gives
    have fin : ∀ (ds : List D) (ρ2 : List S), sComp g ft fe vs items (wipeS ρ1 vs) [] = .ok ds ρ2 → ∀ (H' : Hp) (as' : List Addr) (vv : List V), Rel K mg (Plus B0 p) ρ2 (L2.wipe σ vs) H' as' → Fwd as1 H1 as' H' → H' p = some (.lst vv) → Rs K mg H' (Bv as' (Plus B0 p)) ds vv → Q (.ref p) H' := by
      intro ds ρ2 e H' as' vv r' f' hp' rs
      rw [e] at h1
      obtain ⟨as3, r3, f3⟩ := Rel.back rel1 hp vs ρ2 as' nd pl' r' f'
      exact h1 p vv H' as3 r3 ((f1.trans f').trans f3) hp0 hp' (rs.fwd f3)
    have good : ∃ ds ρ2, sComp g ft fe vs items (wipeS ρ1 vs) [] = .ok ds ρ2 := by
      cases e : sComp g ft fe vs items (wipeS ρ1 vs) [] with
      | ok ds ρ2 => exact ⟨ds, ρ2, rfl⟩
      | ex c w ρ2 => rw [e] at h1; exact h1.elim
      | bad => rw [e] at h1; exact h1.elim
    obtain ⟨dz, ρz, ez⟩ := good
    refine ⟨fun i m H2 => m = items.length - i ∧ i ≤ items.length ∧ ∃ ρ2 as2 acc av, Rel K mg (Plus B0 p) ρ2 (L2.wipe σ vs) H2 as2 ∧ Fwd as1 H1 as2 H2 ∧ H2 p = some (.lst av) ∧ Rs K mg H2 (Bv as2 (Plus B0 p)) acc av ∧ sComp g ft fe vs (items.drop i) ρ2 acc = .ok dz ρz,
      ⟨items.length, by simp, Nat.zero_le _, wipeS ρ1 vs, as2, [], [], rel2.plus hp, f2.trans (Rel.same (rel2) (same_upd hp)).2, upd_same, Rs.nil, ez⟩, ?_⟩
    rintro i m H2 ⟨rfl, hi, ρ2, as3, acc, av, rel3, f3, hp3, rs3, e3⟩
    obtain ⟨ystop, ygo⟩ := y as3 H2 (Plus B0 p) f3 (fun a h => h.elim (fun z => .inr (z ▸ hp)) .inl) (fun a ha => rel3.tracked ha) i
    by_cases hlt : i < items.length
    · have hd : items.drop i = items[i] :: items.drop (i + 1) := List.drop_eq_getElem_cons hlt
      rw [hd] at e3
      obtain ⟨go, yl⟩ := ygo items[i] (List.getElem?_eq_getElem hlt)
      unfold sComp at e3
      cases eg : g items[i] ρ2 with
      | none => rw [eg] at e3; cases e3
      | some ρ4 =>
        rw [eg] at e3
        refine .inr ⟨go, fun H' => ∃ ρ' as' acc av, Rel K mg (Plus B0 p) ρ' (L2.wipe σ vs) H' as' ∧ Fwd as1 H1 as' H' ∧ H' p = some (.lst av) ∧ Rs K mg H' (Bv as' (Plus B0 p)) acc av ∧ sComp g ft fe vs (items.drop (i + 1)) ρ' acc = .ok dz ρz,
          fun H' q => ⟨items.length - (i + 1), by omega, rfl, hlt, q⟩, fun x H4 yx => ?_⟩
        obtain ⟨k4, r4⟩ := yl x H4 yx
        obtain ⟨rel4, f4⟩ := rel3.same k4
        refine ⟨Plus B0 p, ρ2, as3, items[i], ρ4, rel4, r4, eg, fun σ5 as5 rel5 f5 p5 => ⟨wipe_pin p5, Plus B0 p, ρ4, as5, rel5, ?_⟩⟩
        cases et : ft ρ4 with
        | ex c w ρ5 => simp only [et] at e3; cases e3
        | bad => simp only [et] at e3; cases e3
        | ok b ρ5 =>
          simp only [et] at e3
          intro H6 as6 rel6 f6
          have f36 : Fwd as3 H2 as6 H6 := (f4.trans f5).trans f6
          cases b with
          | false =>
            rw [if_neg Bool.false_ne_true]
            obtain ⟨as7, rel7, f7⟩ := rel6.wipe vs
            rw [wipe_pin p5] at rel7
            have f37 := f36.trans f7
            exact ⟨_, as7, acc, av, rel7, f3.trans f37, (f37.st p _ (fun z => rel3.dis p z (.inl rfl)) hp3).1, rs3.fwd f37, e3⟩
          | true =>
            rw [if_pos rfl]
            refine ⟨Plus B0 p, ρ5, as6, rel6, ?_⟩
            cases ee : fe ρ5 with
            | ex c w ρ6 => simp only [ee] at e3; cases e3
            | bad => simp only [ee] at e3; cases e3
            | ok z ρ6 =>
              simp only [ee] at e3
              intro u H7 as7 rel7 f7 r7
              have f37 := f36.trans f7
              have hp7 : H7 p = some (.lst av) := (f37.st p _ (fun z => rel3.dis p z (.inl rfl)) hp3).1
              by_cases hl : acc.length < sizeLine
              · rw [if_pos hl] at e3
                refine ⟨av, hp7, by rw [← rs3.length]; exact hl, ?_⟩
                obtain ⟨as8, rel8, f8⟩ := rel7.wipe vs
                rw [wipe_pin p5] at rel8
                have f38 := f37.trans f8
                have kp : Keep (Bv as8 (Plus B0 p)) H7 (upd H7 p (.lst (av ++ [u]))) := fun a o n q => by
                  rw [upd_ne (fun z => n (.inr (.inl z)))]
                  exact q
                refine ⟨_, as8, acc ++ [z], av ++ [u], ⟨rel8.sl.mono kp (fun _ _ h => h) fun a ha => upd_ne fun z => rel8.dis a ha (.inl z), rel8.nd, rel8.dis, fun a ha => ?_⟩, ?_, upd_same, ?_, e3⟩
                · by_cases ea : a = p
                  · rw [ea, upd_same]; intro z; cases z
                  · rw [upd_ne ea]; exact rel8.trk a ha
                · have fz := f3.trans f38
                  refine ⟨fun a o n q => ?_, fun a q => ?_⟩
                  · have ea : a ≠ p := fun z => by rw [z, hp] at q; cases q
                    rw [upd_ne ea]
                    exact fz.st a o n q
                  · by_cases ea : a = p
                    · rw [ea, upd_same]; intro z; cases z
                    · rw [upd_ne ea]; exact fz.tr a q
                · exact Rs.append (Rs.mono kp (fun _ _ h => h) (rs3.fwd f38)) (Rs.cons (R.mono kp (fun _ _ h => h) (r7.fwd f8)) Rs.nil)
              · rw [if_neg hl] at e3; cases e3
    · refine .inl ⟨ystop (by omega), ?_⟩
      rw [List.drop_eq_nil_of_le (by omega)] at e3
      cases e3
      exact fin _ _ ez H2 as3 av rel3 f3 hp3 rs3
  · rw [if_neg pl] at h1; exact h1.elim
end VS
/-! ## VS4 -/
set_option Elab.async false
set_option linter.all false
set_option maxRecDepth 100000
set_option maxHeartbeats 4000000
set_option autoImplicit false
namespace VS
open PySem PySem.Spec L2

section
variable {X : Cx} {W : WX}
/-- a comprehension: a new list -/
theorem vn_comp {elt tg iter : Expr} {ifs : List Expr} {scope : Scope} {own : List (Str × Nat)} {pos : Pos} {fi : List S → Out (List D)} {g : D → List S → Option (List S)} {ft : List S → Out Bool} {fe : List S → Out D} (hc : X.calm = true) (hN : X.N.Nodup) (nd : (own.map (·.2)).Nodup) (hi : VI X W tg iter fi) (ok : BlkOk X.N X.env.scope scope own)
    (hg : ∀ (s : Shared) (H : Hp) (C : Addr) (cl : List (Str × Addr)) (fp : List Addr), PG (X.blk s H scope (compEnvC scope cl C X.env) fp) tg (tG X.K X.mg (fun i => i ∉ own.map (·.2)) g))
    (ht : ∀ (s : Shared) (H : Hp) (C : Addr) (cl : List (Str × Addr)) (fp : List Addr), PTs (X.blk s H scope (compEnvC scope cl C X.env) fp) ifs (tT X.K X.mg (fun _ _ _ _ => False) ft))
    (he : ∀ (s : Shared) (H : Hp) (C : Addr) (cl : List (Str × Addr)) (fp : List Addr), PE (X.blk s H scope (compEnvC scope cl C X.env) fp) elt (tE X.K X.mg (fun _ _ _ _ => False) fe)) (hs : ∀ x, foldedSetIterable iter X.env x = pure x := by intro _; rfl) :
    VN X W (.ListComp elt [⟨tg, iter, ifs, 0⟩] scope pos) (nComp fi g ft fe (own.map (·.2))) := PE_weak (pe_lc hc hN hi ok hg ht he hs) fun _ _ _ h => lc_post nd h
/-- no test -/
def bYes : List S → Out Bool := fun ρ => .ok true ρ
theorem vts_nil : PTs X [] (tT X.K X.mg W bYes) := ⟨fun pins s σ H Q I h => by
  obtain ⟨B0, ρ, as, rel, h⟩ := h
  exact pts_nil.run pins s σ H Q I (h H as rel Fwd.refl)⟩
theorem vts_one {c : Expr} {f : List S → Out Bool} (h : VT X W c f) : PTs X [c] (tT X.K X.mg W f) := pts_one h
/-- y = [comprehension]: its own list -/
theorem vs_ownComp {P : Nat → Prop} {i : Nat} {y : Str} {py : Pos} {elt tg iter : Expr} {ifs : List Expr} {scope : Scope} {own : List (Str × Nat)} {pos spos : Pos} {fi : List S → Out (List D)} {g : D → List S → Option (List S)} {ft : List S → Out Bool} {fe : List S → Out D} (hP : ¬ P i) (hc : X.calm = true) (hN : X.N.Nodup) (nd : (own.map (·.2)).Nodup)
    (hy : X.N[i]? = some y) (hyl : X.env.scope.names.lookup y = some .local) (hsw : swapsWith (.ListComp elt [⟨tg, iter, ifs, 0⟩] scope pos) (some (.Name y py)) spos.line X.env = pure true) (hi : VI X W tg iter fi) (ok : BlkOk X.N X.env.scope scope own)
    (hg : ∀ (s : Shared) (H : Hp) (C : Addr) (cl : List (Str × Addr)) (fp : List Addr), PG (X.blk s H scope (compEnvC scope cl C X.env) fp) tg (tG X.K X.mg (fun i => i ∉ own.map (·.2)) g))
    (ht : ∀ (s : Shared) (H : Hp) (C : Addr) (cl : List (Str × Addr)) (fp : List Addr), PTs (X.blk s H scope (compEnvC scope cl C X.env) fp) ifs (tT X.K X.mg (fun _ _ _ _ => False) ft))
    (he : ∀ (s : Shared) (H : Hp) (C : Addr) (cl : List (Str × Addr)) (fp : List Addr), PE (X.blk s H scope (compEnvC scope cl C X.env) fp) elt (tE X.K X.mg (fun _ _ _ _ => False) fe)) (hs : ∀ x, foldedSetIterable iter X.env x = pure x := by intro _; rfl) :
    VS1 X W P (.Assign [.Name y py] (.ListComp elt [⟨tg, iter, ifs, 0⟩] scope pos) spos) (sOwn i (nComp fi g ft fe (own.map (·.2)))) := by
  refine PS_weak (ps_setLc (i := i) hc hN hy hyl hsw hi ok hg ht he hs) ?_
  rintro E σ H ⟨B0, ρ, as, rel, h⟩
  refine lc_post nd ⟨B0, ρ, as, rel, h.bind (fun _ _ _ => trivial) fun ds ρ1 h1 p vs H1 as1 rel1 f1 hp0 hp r1 => ?_⟩
  obtain ⟨as2, rel2, f2⟩ := rel1.own (i := i) f1 hp0 (fun z => rel.trk p z hp0) hp r1
  exact h1 _ H1 as2 rel2 f2 (Pin.set hP)
theorem vs_setComp {P : Nat → Prop} {i : Nat} {y : Str} {py : Pos} {elt tg iter : Expr} {ifs : List Expr} {scope : Scope} {own : List (Str × Nat)} {pos spos : Pos} {fi : List S → Out (List D)} {g : D → List S → Option (List S)} {ft : List S → Out Bool} {fe : List S → Out D} (hP : ¬ P i) (hc : X.calm = true) (hN : X.N.Nodup) (nd : (own.map (·.2)).Nodup)
    (hy : X.N[i]? = some y) (hyl : X.env.scope.names.lookup y = some .local) (hsw : swapsWith (.ListComp elt [⟨tg, iter, ifs, 0⟩] scope pos) (some (.Name y py)) spos.line X.env = pure true) (hi : VI X W tg iter fi) (ok : BlkOk X.N X.env.scope scope own)
    (hg : ∀ (s : Shared) (H : Hp) (C : Addr) (cl : List (Str × Addr)) (fp : List Addr), PG (X.blk s H scope (compEnvC scope cl C X.env) fp) tg (tG X.K X.mg (fun i => i ∉ own.map (·.2)) g))
    (ht : ∀ (s : Shared) (H : Hp) (C : Addr) (cl : List (Str × Addr)) (fp : List Addr), PTs (X.blk s H scope (compEnvC scope cl C X.env) fp) ifs (tT X.K X.mg (fun _ _ _ _ => False) ft))
    (he : ∀ (s : Shared) (H : Hp) (C : Addr) (cl : List (Str × Addr)) (fp : List Addr), PE (X.blk s H scope (compEnvC scope cl C X.env) fp) elt (tE X.K X.mg (fun _ _ _ _ => False) fe)) (hs : ∀ x, foldedSetIterable iter X.env x = pure x := by intro _; rfl) :
    VS1 X W P (.Assign [.Name y py] (.ListComp elt [⟨tg, iter, ifs, 0⟩] scope pos) spos) (sSet i (eN (nComp fi g ft fe (own.map (·.2))))) := by
  refine PS_weak (ps_setLc (i := i) hc hN hy hyl hsw hi ok hg ht he hs) ?_
  rintro E σ H ⟨B0, ρ, as, rel, h⟩
  have h := h.bind (G := fun d ρ1 => ∀ x H1 as1, Rel X.K X.mg B0 ρ1 σ H1 as1 → Fwd as H as1 H1 → R X.K X.mg H1 (Bv as1 B0) d x → E.nx (σ.set i (some x)) H1) (fun _ _ _ => trivial) fun d ρ1 h1 x H1 as1 rel1 f1 r1 => by
    obtain ⟨as2, rel2, f2⟩ := rel1.put (i := i) r1
    exact h1 _ H1 as2 rel2 (f1.trans f2) (Pin.set hP)
  refine lc_post nd ⟨B0, ρ, as, rel, EPost.bind h fun ds ρ1 h1 p vs H1 as1 rel1 f1 hp0 hp r1 => ?_⟩
  have hB : ¬ Bv as1 B0 p := by
    rintro (z | z)
    · exact rel1.dis p z (.inl rfl)
    · exact rel.trk p z hp0
  exact h1 (.ref p) H1 as1 rel1.unplus f1 ⟨p, vs, rfl, ⟨hp, hB⟩, r1.unplus⟩
end

/-! ### operators by values -/
section
variable {K : PySem.W.Frag} {mg : Str → Option Value}
theorem R.int_inv {H : Hp} {B : Av} {i : Int} {x : V} (r : R K mg H B (.int i) x) : x = .int i := r
/-- two ints in, an int or a bool out -/
def gI (g : Int → Int → Option D) : D → D → Option D
  | .int i, .int j => g i j
  | _, _ => none
theorem gI_some {g : Int → Int → Option D} {d e z : D} (h : gI g d e = some z) : ∃ i j, d = .int i ∧ e = .int j ∧ g i j = some z := by
  cases d <;> cases e <;> first | (exact ⟨_, _, rfl, rfl, h⟩) | cases h
theorem os_int {C : Int → Int → Prop} [∀ i j, Decidable (C i j)] {g : Int → Int → Int} : OpS K mg (rI C fun i j => .int (g i j)) (gI fun i j => if C i j then some (.int (g i j)) else none) := by
  intro H B d e z x y Q _ hg rx ry h
  obtain ⟨i, j, rfl, rfl, e1⟩ := gI_some hg
  by_cases c : C i j
  · rw [if_pos c] at e1
    cases e1
    exact ⟨i, j, rx, ry, c, h _ H (fun _ _ h => h) rfl⟩
  · rw [if_neg c] at e1; cases e1
theorem os_int0 {g : Int → Int → Int} : OpS K mg (rI0 fun i j => .int (g i j)) (gI fun i j => some (.int (g i j))) := by
  intro H B d e z x y Q _ hg rx ry h
  obtain ⟨i, j, rfl, rfl, e1⟩ := gI_some hg
  cases e1
  exact ⟨i, j, rx, ry, h _ H (fun _ _ h => h) rfl⟩
theorem os_bl0 {g : Int → Int → Bool} : OpS K mg (rI0 fun i j => .bl (g i j)) (gI fun i j => some (.bl (g i j))) := by
  intro H B d e z x y Q _ hg rx ry h
  obtain ⟨i, j, rfl, rfl, e1⟩ := gI_some hg
  cases e1
  exact ⟨i, j, rx, ry, h _ H (fun _ _ h => h) rfl⟩
mutual
def D.toP : D → PyData
  | .non => .none
  | .bl b => .bool b
  | .int i => .int i
  | .str z => .str z
  | .tup ds => .tuple (D.toPs ds)
  | .lst ds => .list (D.toPs ds)
  | .scr _ => .dict []
  | .ins _ _ _ => .dict []
def D.toPs : List D → List PyData
  | [] => []
  | d :: ds => D.toP d :: D.toPs ds
end
mutual
def D.flatN : Nat → D → Bool
  | _, .non => true
  | _, .bl _ => true
  | _, .int _ => true
  | _, .str z => PyData.strOk z
  | 0, .tup _ => false
  | 0, .lst _ => false
  | n + 1, .tup ds => D.flatNs n ds
  | n + 1, .lst ds => D.flatNs n ds
  | _, .scr _ => false
  | _, .ins _ _ _ => false
def D.flatNs : Nat → List D → Bool
  | _, [] => true
  | n, d :: ds => D.flatN n d && D.flatNs n ds
end

mutual
def D.deq : D → D → Bool
  | .non, .non => true
  | .bl a, .bl b => a == b
  | .bl a, .int j => (if a then 1 else 0) == j
  | .int i, .bl b => i == (if b then 1 else 0)
  | .int i, .int j => i == j
  | .str x, .str y => x == y
  | .lst xs, .lst ys => D.deqs xs ys
  | .tup xs, .tup ys => D.deqs xs ys
  | _, _ => false
def D.deqs : List D → List D → Bool
  | [], [] => true
  | x :: xs, y :: ys => D.deq x y && D.deqs xs ys
  | _, _ => false
end
mutual
theorem eqv_toP : ∀ {n m : Nat} {d e : D}, D.flatN n d = true → D.flatN m e = true → PyData.eqv d.toP e.toP = D.deq d e
  | n, m, .non, e, h, h' => by cases e <;> first | rfl | (cases m <;> cases h')
  | n, m, .bl b, e, h, h' => by cases e <;> first | rfl | (cases m <;> cases h')
  | n, m, .int i, e, h, h' => by cases e <;> first | rfl | (cases m <;> cases h')
  | n, m, .str z, e, h, h' => by cases e <;> first | rfl | (cases m <;> cases h')
  | 0, _, .tup ds, _, h, _ => by cases h
  | 0, _, .lst ds, _, h, _ => by cases h
  | n + 1, 0, .tup ds, .tup es, _, h' => by cases h'
  | n + 1, 0, .lst ds, .lst es, _, h' => by cases h'
  | n + 1, m + 1, .tup ds, .tup es, h, h' => eqvs_toP (n := n) (m := m) h h'
  | n + 1, m + 1, .lst ds, .lst es, h, h' => eqvs_toP (n := n) (m := m) h h'
  | n + 1, m, .tup ds, .lst es, _, _ => rfl
  | n + 1, m, .lst ds, .tup es, _, _ => rfl
  | n + 1, m, .tup ds, .non, _, _ => rfl
  | n + 1, m, .lst ds, .non, _, _ => rfl
  | n + 1, m, .tup ds, .bl _, _, _ => rfl
  | n + 1, m, .lst ds, .bl _, _, _ => rfl
  | n + 1, m, .tup ds, .int _, _, _ => rfl
  | n + 1, m, .lst ds, .int _, _, _ => rfl
  | n + 1, m, .tup ds, .str _, _, _ => rfl
  | n + 1, m, .lst ds, .str _, _, _ => rfl
  | n + 1, m, .tup ds, .scr _, _, h' => by cases m <;> cases h'
  | n + 1, m, .lst ds, .scr _, _, h' => by cases m <;> cases h'
  | n + 1, m, .tup ds, .ins _ _ _, _, h' => by cases m <;> cases h'
  | n + 1, m, .lst ds, .ins _ _ _, _, h' => by cases m <;> cases h'
  | n, _, .scr _, _, h, _ => by cases n <;> cases h
  | n, _, .ins _ _ _, _, h, _ => by cases n <;> cases h
theorem eqvs_toP : ∀ {n m : Nat} {d e : List D}, D.flatNs n d = true → D.flatNs m e = true → PyData.eqvAll (D.toPs d) (D.toPs e) = D.deqs d e
  | _, _, [], [], _, _ => rfl
  | _, _, [], _ :: _, _, _ => rfl
  | _, _, _ :: _, [], _, _ => rfl
  | n, m, d :: ds, e :: es, h, h' => by
    have h1 : (D.flatN n d && D.flatNs n ds) = true := h
    have h2 : (D.flatN m e && D.flatNs m es) = true := h'
    rw [Bool.and_eq_true] at h1 h2
    show (PyData.eqv d.toP e.toP && PyData.eqvAll (D.toPs ds) (D.toPs es)) = (D.deq d e && D.deqs ds es)
    rw [eqv_toP h1.1 h2.1, eqvs_toP h1.2 h2.2]
end
mutual
theorem lay_toP : ∀ {n : Nat} {d : D}, D.flatN n d = true → d.toP.canLay0 = true ∧ d.toP.depth ≤ n
  | _, .non, _ => ⟨rfl, Nat.zero_le _⟩
  | _, .bl _, _ => ⟨rfl, Nat.zero_le _⟩
  | _, .int _, _ => ⟨rfl, Nat.zero_le _⟩
  | n, .str z, h => ⟨by cases n <;> exact h, Nat.zero_le _⟩
  | 0, .tup ds, h => by cases h
  | 0, .lst ds, h => by cases h
  | n + 1, .tup ds, h => ⟨(lays_toP (n := n) h).1, Nat.succ_le_succ (lays_toP (n := n) h).2⟩
  | n + 1, .lst ds, h => ⟨(lays_toP (n := n) h).1, Nat.succ_le_succ (lays_toP (n := n) h).2⟩
  | n, .scr _, h => by cases n <;> cases h
  | n, .ins _ _ _, h => by cases n <;> cases h
theorem lays_toP : ∀ {n : Nat} {d : List D}, D.flatNs n d = true → PyData.canLayAll0 (D.toPs d) = true ∧ PyData.depthAll (D.toPs d) ≤ n
  | _, [], _ => ⟨rfl, Nat.zero_le _⟩
  | n, d :: ds, h => by
    have h1 : (D.flatN n d && D.flatNs n ds) = true := h
    rw [Bool.and_eq_true] at h1
    have a := lay_toP h1.1
    have b := lays_toP h1.2
    exact ⟨by show (d.toP.canLay0 && PyData.canLayAll0 (D.toPs ds)) = true; rw [a.1, b.1]; rfl, Nat.max_le.mpr ⟨a.2, b.2⟩⟩
end
theorem shaped_toP {d : D} (h : D.flatN 60 d = true) : SeqAt.shaped d.toP = true := by
  obtain ⟨a, b⟩ := lay_toP h
  show (d.toP.canLay0 && decide (d.toP.depth ≤ 64)) = true
  rw [a, decide_eq_true (by omega)]
  rfl
mutual
theorem R.dp {H : Hp} {B : Av} : ∀ {n : Nat} {d : D} {x : V}, D.flatN n d = true → R K mg H B d x → Dp K H x d.toP
  | _, .non, _, _, r => by cases (show _ = V.non from r); exact .non
  | _, .bl b, _, _, r => by cases (show _ = V.bl b from r); exact .bl b
  | _, .int i, _, _, r => by cases (show _ = V.int i from r); exact .int i
  | _, .str z, _, _, r => by cases (show _ = V.str z from r); exact .str z
  | 0, .tup ds, _, h, _ => by cases h
  | 0, .lst ds, _, h, _ => by cases h
  | n + 1, .tup ds, _, h, ⟨a, vs, e, tp, rs⟩ => by rw [e]; exact .tup tp.sq (Rs.dp (n := n) h rs)
  | n + 1, .lst ds, _, h, ⟨a, vs, e, tp, rs⟩ => by rw [e]; exact .lst tp.sq (Rs.dp (n := n) h rs)
  | n, .scr _, _, h, _ => by cases n <;> cases h
  | n, .ins _ _ _, _, h, _ => by cases n <;> cases h
theorem Rs.dp {H : Hp} {B : Av} : ∀ {n : Nat} {d : List D} {x : List V}, D.flatNs n d = true → Rs K mg H B d x → DpAll K H x (D.toPs d)
  | _, [], _, _, r => by cases (show _ = [] from r); exact .nil
  | n, d :: ds, _, h, ⟨x, xs, e, r, rr⟩ => by
    have h1 : (D.flatN n d && D.flatNs n ds) = true := h
    rw [Bool.and_eq_true] at h1
    rw [e]
    exact .cons (R.dp h1.1 r) (Rs.dp h1.2 rr)
end
/-- ==, != of data; in, not in a list -/
def gEq (neg : Bool) (d e : D) : Option D := if D.flatN 60 d && D.flatN 60 e then some (.bl (xor neg (D.deq d e))) else none
theorem os_eq : OpS K mg (rEqD K) (gEq false) := by
  intro H B d e z x y Q _ hg rx ry h
  unfold gEq at hg
  by_cases c : (D.flatN 60 d && D.flatN 60 e) = true
  · rw [if_pos c] at hg
    rw [Bool.and_eq_true] at c
    cases hg
    refine ⟨d.toP, e.toP, R.dp c.1 rx, R.dp c.2 ry, shaped_toP c.1, shaped_toP c.2, h _ H (fun _ _ h => h) ?_⟩
    rw [eqv_toP c.1 c.2]
    show _ = _
    simp
  · rw [if_neg c] at hg; cases hg
theorem os_ne : OpS K mg (rNeD K) (gEq true) := by
  intro H B d e z x y Q _ hg rx ry h
  unfold gEq at hg
  by_cases c : (D.flatN 60 d && D.flatN 60 e) = true
  · rw [if_pos c] at hg
    rw [Bool.and_eq_true] at c
    cases hg
    refine ⟨d.toP, e.toP, R.dp c.1 rx, R.dp c.2 ry, shaped_toP c.1, shaped_toP c.2, h _ H (fun _ _ h => h) ?_⟩
    rw [eqv_toP c.1 c.2]
    show _ = _
    simp
  · rw [if_neg c] at hg; cases hg
theorem any_toPs {n : Nat} {d : D} (h : D.flatN n d = true) : ∀ {ds : List D}, D.flatNs n ds = true → (D.toPs ds).any (fun z => PyData.eqv z d.toP) = ds.any fun z => D.deq z d
  | [], _ => rfl
  | e :: ds, h' => by
    have h1 : (D.flatN n e && D.flatNs n ds) = true := h'
    rw [Bool.and_eq_true] at h1
    show (PyData.eqv e.toP d.toP || (D.toPs ds).any fun z => PyData.eqv z d.toP) = (D.deq e d || ds.any fun z => D.deq z d)
    rw [eqv_toP h1.1 h, any_toPs h h1.2]
def gIn (neg : Bool) : D → D → Option D
  | d, .lst ds => if D.flatN 59 d && D.flatNs 59 ds then some (.bl (xor neg (ds.any fun z => D.deq z d))) else none
  | d, .tup ds => (match d with
    | .int i => if ds.all (fun z => match z with | .int _ => true | _ => false) then some (.bl (xor neg (ds.any fun z => D.deq z d))) else none
    | _ => none)
  | _, _ => none
theorem flatN_mono1 {d : D} {x : V} : True := trivial
mutual
theorem flatN_succ : ∀ {n : Nat} {d : D}, D.flatN n d = true → D.flatN (n + 1) d = true
  | _, .non, _ => rfl
  | _, .bl _, _ => rfl
  | _, .int _, _ => rfl
  | n, .str z, h => by cases n <;> exact h
  | 0, .tup ds, h => by cases h
  | 0, .lst ds, h => by cases h
  | n + 1, .tup ds, h => flatNs_succ (n := n) h
  | n + 1, .lst ds, h => flatNs_succ (n := n) h
  | n, .scr _, h => by cases n <;> cases h
  | n, .ins _ _ _, h => by cases n <;> cases h
theorem flatNs_succ : ∀ {n : Nat} {d : List D}, D.flatNs n d = true → D.flatNs (n + 1) d = true
  | _, [], _ => rfl
  | n, d :: ds, h => by
    have h1 : (D.flatN n d && D.flatNs n ds) = true := h
    rw [Bool.and_eq_true] at h1
    show (D.flatN (n + 1) d && D.flatNs (n + 1) ds) = true
    rw [flatN_succ h1.1, flatNs_succ h1.2]
    rfl
end
/-- ints of a tuple -/
theorem Rs.intsOf {H : Hp} {B : Av} : ∀ {ds : List D} {xs : List V}, Rs K mg H B ds xs → ds.all (fun z => match z with | .int _ => true | _ => false) = true → xs.all flatV = true ∧ ∀ i : Int, (inV (.int i) xs) = ds.any fun z => D.deq z (.int i)
  | [], _, r, _ => by cases (show _ = [] from r); exact ⟨rfl, fun _ => rfl⟩
  | d :: ds, _, ⟨x, xs, e, r, rr⟩, h => by
    rw [List.all_cons, Bool.and_eq_true] at h
    cases d with
    | int j =>
      cases (show x = V.int j from r)
      obtain ⟨a, b⟩ := Rs.intsOf rr h.2
      rw [e]
      refine ⟨by rw [List.all_cons, a]; rfl, fun i => ?_⟩
      show (eqV (.int j) (.int i) || inV (.int i) xs) = (D.deq (.int j) (.int i) || ds.any fun z => D.deq z (.int i))
      rw [b i]
      rfl
    | _ => cases h.1
def rInA (K : PySem.W.Frag) (neg : Bool) : R2 := fun x y H Q => (if neg then rNotInD K x y H Q else rInD K x y H Q) ∨ rIn K neg x y H Q
theorem op_inA {X : Cx} (hu : X.A.units + 65 < cLine) : OpR X (compareOp .In) (rInA X.K false) := by
  intro pins s σ H x y v u Q I rx ry h
  rcases h with h | h
  · exact op_inD hu pins s σ H x y v u Q I rx ry h
  · exact op_in_seq pins s σ H x y v u Q I rx ry h
theorem op_notInA {X : Cx} (hu : X.A.units + 65 < cLine) : OpR X (compareOp .NotIn) (rInA X.K true) := by
  intro pins s σ H x y v u Q I rx ry h
  rcases h with h | h
  · exact op_notInD hu pins s σ H x y v u Q I rx ry h
  · exact op_notIn_seq pins s σ H x y v u Q I rx ry h
theorem os_in {neg : Bool} : OpS K mg (rInA K neg) (gIn neg) := by
  intro H B d e z x y Q _ hg rx ry h
  cases e with
  | lst ds =>
    have hg : (if D.flatN 59 d && D.flatNs 59 ds then some (D.bl (xor neg (ds.any fun z => D.deq z d))) else none) = some z := by cases d <;> exact hg
    by_cases c : (D.flatN 59 d && D.flatNs 59 ds) = true
    · rw [if_pos c] at hg
      rw [Bool.and_eq_true] at c
      cases hg
      obtain ⟨a, vs, rfl, lp, rs⟩ := ry
      have fd := flatN_succ c.1
      have fl : D.flatN 60 (.lst ds) = true := c.2
      cases neg with
      | true => exact .inl ⟨d.toP, D.toPs ds, R.dp fd rx, .lst lp.sq (Rs.dp c.2 rs), shaped_toP fd, shaped_toP fl, h _ H (fun _ _ h => h) (by rw [any_toPs c.1 c.2]; show _ = _; simp)⟩
      | false => exact .inl ⟨d.toP, D.toPs ds, R.dp fd rx, .lst lp.sq (Rs.dp c.2 rs), shaped_toP fd, shaped_toP fl, h _ H (fun _ _ h => h) (by rw [any_toPs c.1 c.2]; show _ = _; simp)⟩
    · rw [if_neg c] at hg; cases hg
  | tup ds =>
    cases d with
    | int i =>
      have hg : (if ds.all (fun z => match z with | .int _ => true | _ => false) then some (D.bl (xor neg (ds.any fun z => D.deq z (.int i)))) else none) = some z := hg
      by_cases c : ds.all (fun z => match z with | .int _ => true | _ => false) = true
      · rw [if_pos c] at hg
        cases hg
        obtain ⟨a, vs, rfl, tp, rs⟩ := ry
        cases (show x = V.int i from rx)
        obtain ⟨f, q⟩ := Rs.intsOf rs c
        refine .inr ⟨a, vs, rfl, .inr tp.sq, rfl, f, ?_⟩
        rw [q i]
        cases neg with
        | true => exact h _ H (fun _ _ h => h) (by show _ = _; simp)
        | false => exact h _ H (fun _ _ h => h) (by show _ = _; simp)
      · rw [if_neg c] at hg; cases hg
    | _ => cases hg
  | _ => cases d <;> cases hg
/-- is, is not: bools; with None -/
def gIs (neg : Bool) : D → D → Option D
  | .bl a, .bl b => some (.bl (xor neg (decide (a = b))))
  | _, _ => none
theorem os_is : OpS K mg (fun x y H Q => ∃ a b, x = .bl a ∧ y = .bl b ∧ Q (.bl (decide (a = b))) H) (gIs false) := by
  intro H B d e z x y Q _ hg rx ry h
  cases d <;> first | (cases e <;> first | (cases hg; refine ⟨_, _, rx, ry, h _ H (fun _ _ h => h) ?_⟩; show _ = _; simp) | cases hg) | cases hg
theorem os_isnot : OpS K mg (fun x y H Q => ∃ a b, x = .bl a ∧ y = .bl b ∧ Q (.bl (!decide (a = b))) H) (gIs true) := by
  intro H B d e z x y Q _ hg rx ry h
  cases d <;> first | (cases e <;> first | (cases hg; refine ⟨_, _, rx, ry, h _ H (fun _ _ h => h) ?_⟩; show _ = _; simp) | cases hg) | cases hg
/-- + of ints, tuples, lists -/
def gAdd : D → D → Option D
  | .int i, .int j => some (.int (i + j))
  | .tup a, .tup b => if a.length + b.length ≤ sizeLine then some (.tup (a ++ b)) else none
  | .lst a, .lst b => if a.length + b.length ≤ sizeLine then some (.lst (a ++ b)) else none
  | _, _ => none
def rAddA (K : PySem.W.Frag) : R2 := fun x y H Q => rI0 (fun i j => .int (i + j)) x y H Q ∨ rCatA K x y H Q ∨ rCat x y H Q
theorem op_addA {X : Cx} : OpR X (binaryOp .Add) (rAddA X.K) := by
  intro pins s σ H x y v u Q I rx ry h
  rcases h with h | h | h
  · exact op_add pins s σ H x y v u Q I rx ry h
  · exact op_catA pins s σ H x y v u Q I rx ry h
  · exact op_cat pins s σ H x y v u Q I rx ry h
theorem os_add : OpS K mg (rAddA K) gAdd := by
  intro H B d e z x y Q tr hg rx ry h
  cases d with
  | int i => cases e <;> first | (cases hg; exact .inl ⟨_, _, rx, ry, h _ H (fun _ _ h => h) rfl⟩) | cases hg
  | tup a =>
    cases e with
    | tup b =>
      have hg : (if a.length + b.length ≤ sizeLine then some (D.tup (a ++ b)) else none) = some z := hg
      by_cases c : a.length + b.length ≤ sizeLine
      · rw [if_pos c] at hg
        cases hg
        obtain ⟨p, vs, rfl, tp, rs⟩ := rx
        obtain ⟨q, ws, rfl, tq, rt⟩ := ry
        refine .inr (.inl ⟨p, q, vs, ws, rfl, rfl, tp.sq, tq.sq, by rw [← rs.length, ← rt.length]; exact c, fun e => ?_, fun _ e => ?_, fun _ _ n hn => ?_⟩)
        · subst e
          have ea : a = [] := List.eq_nil_of_length_eq_zero (by rw [rs.length]; rfl)
          subst ea
          exact h _ H (fun _ _ h => h) ⟨q, ws, rfl, tq, rt⟩
        · subst e
          have eb : b = [] := List.eq_nil_of_length_eq_zero (by rw [rt.length]; rfl)
          subst eb
          rw [List.append_nil] at h
          exact h _ H (fun _ _ h => h) ⟨p, vs, rfl, tp, rs⟩
        · exact h _ _ (same_upd hn) ⟨n, vs ++ ws, rfl, .inl ⟨.inl upd_same, fun hb => tr n hb hn⟩, Rs.append (rs.same (same_upd hn)) (rt.same (same_upd hn))⟩
      · rw [if_neg c] at hg; cases hg
    | _ => cases hg
  | lst a =>
    cases e with
    | lst b =>
      have hg : (if a.length + b.length ≤ sizeLine then some (D.lst (a ++ b)) else none) = some z := hg
      by_cases c : a.length + b.length ≤ sizeLine
      · rw [if_pos c] at hg
        cases hg
        obtain ⟨p, vs, rfl, tp, rs⟩ := rx
        obtain ⟨q, ws, rfl, tq, rt⟩ := ry
        refine .inr (.inr ⟨p, q, vs, ws, rfl, rfl, tp.1, tq.1, by rw [← rs.length, ← rt.length]; exact c, fun n hn => ?_⟩)
        exact h _ _ (same_upd hn) ⟨n, vs ++ ws, rfl, ⟨upd_same, fun hb => tr n hb hn⟩, Rs.append (rs.same (same_upd hn)) (rt.same (same_upd hn))⟩
      · rw [if_neg c] at hg; cases hg
    | _ => cases hg
  | _ => cases e <;> cases hg
/-- * of ints (one of them below 2 ^ 64, or both below half a million bits), of a tuple and an int -/
instance (i j : Int) : Decidable (CMul i j) := by unfold CMul; infer_instance
instance (i j : Int) : Decidable (CMulW i j) := by unfold CMulW; infer_instance
instance (i j : Int) : Decidable (CDivW i j) := by unfold CDivW; infer_instance
instance (i j : Int) : Decidable (CPow i j) := by unfold CPow; infer_instance
theorem Rs.rep {H : Hp} {B : Av} {ds : List D} {xs : List V} (r : Rs K mg H B ds xs) : ∀ k : Nat, Rs K mg H B (List.replicate k ds).flatten (List.replicate k xs).flatten
  | 0 => rfl
  | k + 1 => by rw [List.replicate_succ, List.replicate_succ, List.flatten_cons, List.flatten_cons]; exact Rs.append r (Rs.rep r k)
def gMul : D → D → Option D
  | .int i, .int j => if CMul i j ∨ CMulW i j then some (.int (i * j)) else none
  | .tup a, .int k => if a ≠ [] ∧ 2 ≤ k ∧ k ≤ 1000 ∧ a.length ≤ 1000 then some (.tup (List.replicate k.toNat a).flatten) else none
  | .lst a, .int k => if Fit k ∧ a.length * k.toNat ≤ sizeLine then some (.lst (List.replicate k.toNat a).flatten) else none
  | _, _ => none
end
end VS
/-! ## VS5 -/
set_option Elab.async false
set_option linter.all false
set_option maxRecDepth 100000
set_option maxHeartbeats 4000000
set_option autoImplicit false
namespace VS
open PySem PySem.Spec L2

section
variable {K : PySem.W.Frag} {mg : Str → Option Value}
def rMulA (K : PySem.W.Frag) : R2 := fun x y H Q => rI CMul (fun i j => .int (i * j)) x y H Q ∨ rI CMulW (fun i j => .int (i * j)) x y H Q ∨ rRepT K x y H Q ∨ rRep x y H Q
theorem op_mulA {X : Cx} : OpR X (binaryOp .Mult) (rMulA X.K) := by
  intro pins s σ H x y v u Q I rx ry h
  rcases h with h | h | h | h
  · exact op_mul pins s σ H x y v u Q I rx ry h
  · exact op_mulW pins s σ H x y v u Q I rx ry h
  · exact op_repT pins s σ H x y v u Q I rx ry h
  · exact op_rep pins s σ H x y v u Q I rx ry h
theorem os_mul : OpS K mg (rMulA K) gMul := by
  intro H B d e z x y Q tr hg rx ry h
  cases d with
  | int i =>
    cases e with
    | int j =>
      have hg : (if CMul i j ∨ CMulW i j then some (D.int (i * j)) else none) = some z := hg
      by_cases c : CMul i j ∨ CMulW i j
      · rw [if_pos c] at hg
        cases hg
        rcases c with c | c
        · exact .inl ⟨i, j, rx, ry, c, h _ H (fun _ _ h => h) rfl⟩
        · exact .inr (.inl ⟨i, j, rx, ry, c, h _ H (fun _ _ h => h) rfl⟩)
      · rw [if_neg c] at hg; cases hg
    | _ => cases hg
  | tup a =>
    cases e with
    | int k =>
      have hg : (if a ≠ [] ∧ 2 ≤ k ∧ k ≤ 1000 ∧ a.length ≤ 1000 then some (D.tup (List.replicate k.toNat a).flatten) else none) = some z := hg
      by_cases c : a ≠ [] ∧ 2 ≤ k ∧ k ≤ 1000 ∧ a.length ≤ 1000
      · rw [if_pos c] at hg
        cases hg
        obtain ⟨p, vs, rfl, tp, rs⟩ := rx
        cases (show y = V.int k from ry)
        refine .inr (.inr (.inl ⟨p, k, vs, rfl, rfl, tp.sq, fun e => c.1 (List.eq_nil_of_length_eq_zero (by rw [rs.length, e]; rfl)), c.2.1, c.2.2.1, by rw [← rs.length]; exact c.2.2.2, fun n hn => ?_⟩))
        exact h _ _ (same_upd hn) ⟨n, _, rfl, .inl ⟨.inl upd_same, fun hb => tr n hb hn⟩, Rs.rep (rs.same (same_upd hn)) _⟩
      · rw [if_neg c] at hg; cases hg
    | _ => cases hg
  | lst a =>
    cases e with
    | int k =>
      have hg : (if Fit k ∧ a.length * k.toNat ≤ sizeLine then some (D.lst (List.replicate k.toNat a).flatten) else none) = some z := hg
      by_cases c : Fit k ∧ a.length * k.toNat ≤ sizeLine
      · rw [if_pos c] at hg
        have c : -(2 ^ 63) ≤ k ∧ k < 2 ^ 63 ∧ a.length * k.toNat ≤ sizeLine := ⟨by have := c.1.ok; omega, by have := c.1.ok; omega, c.2⟩
        cases hg
        obtain ⟨p, vs, rfl, tp, rs⟩ := rx
        cases (show y = V.int k from ry)
        refine .inr (.inr (.inr ⟨p, k, vs, rfl, rfl, tp.1, c.1, c.2.1, by rw [← rs.length]; exact c.2.2, fun n hn => ?_⟩))
        exact h _ _ (same_upd hn) ⟨n, _, rfl, ⟨upd_same, fun hb => tr n hb hn⟩, Rs.rep (rs.same (same_upd hn)) _⟩
      · rw [if_neg c] at hg; cases hg
    | _ => cases hg
  | _ => cases e <;> cases hg
def gDiv : D → D → Option D := gI fun i j => if CDivW i j then some (.int (i / j)) else none
instance (j : Int) : Decidable ((fun (_ : Int) (j : Int) => 0 < j) 0 j) := by show Decidable (0 < j); infer_instance
def gMod : D → D → Option D := gI fun i j => if 0 < j then some (.int (i % j)) else none
theorem os_mod : OpS K mg (rI (fun _ j => 0 < j) fun i j => .int (i % j)) gMod := by
  intro H B d e z x y Q _ hg rx ry h
  obtain ⟨i, j, rfl, rfl, e1⟩ := gI_some hg
  by_cases c : 0 < j
  · rw [if_pos c] at e1
    cases e1
    exact ⟨i, j, rx, ry, c, h _ H (fun _ _ h => h) rfl⟩
  · rw [if_neg c] at e1; cases e1
theorem os_div : OpS K mg (rI CDivW fun i j => .int (i / j)) gDiv := os_int
def gPow : D → D → Option D := gI fun i j => if CPow i j then some (.int (i ^ j.toNat)) else none
theorem os_pow : OpS K mg (rI CPow fun i j => .int (i ^ j.toNat)) gPow := os_int
def gSub : D → D → Option D := gI fun i j => some (.int (i - j))
theorem os_sub : OpS K mg (rI0 fun i j => .int (i - j)) gSub := os_int0
def gLt : D → D → Option D := gI fun i j => some (.bl (decide (i < j)))
def gLe : D → D → Option D := gI fun i j => some (.bl (decide (i ≤ j)))
def gGt : D → D → Option D := gI fun i j => some (.bl (decide (j < i)))
def gGe : D → D → Option D := gI fun i j => some (.bl (decide (j ≤ i)))
theorem os_lt : OpS K mg (rI0 fun i j => .bl (decide (i < j))) gLt := os_bl0
theorem os_le : OpS K mg (rI0 fun i j => .bl (decide (i ≤ j))) gLe := os_bl0
theorem os_gt : OpS K mg (rI0 fun i j => .bl (decide (j < i))) gGt := os_bl0
theorem os_ge : OpS K mg (rI0 fun i j => .bl (decide (j ≤ i))) gGe := os_bl0
def gNeg : D → Option D
  | .int i => some (.int (-i))
  | _ => none
theorem us_neg : UnS K mg (rU fun i => .int (-i)) gNeg := by
  intro H B d z x Q _ hg rx h
  cases d <;> first | (cases hg; exact ⟨_, rx, h _ H (fun _ _ h => h) rfl⟩) | cases hg
/-- an item -/
def gIx : D → D → Option D
  | .tup ds, .int i => atI ds i
  | .lst ds, .int i => atI ds i
  | .scr ns, .int i => (atI ns i).map D.int
  | _, _ => none
theorem Rs.atI {H : Hp} {B : Av} {ds : List D} {xs : List V} {i : Int} {d : D} (r : Rs K mg H B ds xs) (h : L2.atI ds i = some d) : ∃ x, L2.atI xs i = some x ∧ R K mg H B d x := by
  unfold L2.atI at h ⊢
  rw [← r.length]
  cases e : ixN ds.length i with
  | none => rw [e] at h; cases h
  | some j =>
    rw [e] at h
    obtain ⟨x, hx, rx⟩ := r.get (show ds[j]? = some d from h)
    exact ⟨x, hx, rx⟩
theorem atI_map {α β : Type} (f : α → β) (xs : List α) (i : Int) : L2.atI (xs.map f) i = (L2.atI xs i).map f := by
  unfold L2.atI
  rw [List.length_map]
  cases ixN xs.length i with
  | none => rfl
  | some j => show (xs.map f)[j]? = (xs[j]?).map f; rw [List.getElem?_map]
theorem os_ix : OpS K mg (fun x y H Q => rIxL K x y H Q ∨ rIxT K x y H Q) gIx := by
  intro H B d e z x y Q _ hg rx ry h
  cases d with
  | tup ds =>
    cases e with
    | int i =>
      obtain ⟨a, vs, rfl, tp, rs⟩ := rx
      obtain ⟨u, hu, ru⟩ := rs.atI (show L2.atI ds i = some z from hg)
      exact .inr ⟨a, vs, i, u, rfl, ry, tp.sq, hu, h _ H (fun _ _ h => h) ru⟩
    | _ => cases hg
  | lst ds =>
    cases e with
    | int i =>
      obtain ⟨a, vs, rfl, tp, rs⟩ := rx
      obtain ⟨u, hu, ru⟩ := rs.atI (show L2.atI ds i = some z from hg)
      exact .inl ⟨a, vs, i, u, rfl, ry, tp.sq, hu, h _ H (fun _ _ h => h) ru⟩
    | _ => cases hg
  | scr ns =>
    cases e with
    | int i =>
      obtain ⟨a, rfl, sp⟩ := rx
      have hg : (L2.atI ns i).map D.int = some z := hg
      cases e : L2.atI ns i with
      | none => rw [e] at hg; cases hg
      | some n =>
        rw [e] at hg
        cases hg
        exact .inl ⟨a, _, i, .int n, rfl, ry, sp.sq, by rw [atI_map, e]; rfl, h _ H (fun _ _ h => h) rfl⟩
    | _ => cases hg
  | _ => cases e <;> cases hg
end

section
variable {X : Cx} {W : WX} {a b c : Expr} {fa fb fc : List S → Out D} {pos : Pos}
theorem ve_ix (ha : VE X W a fa) (hb : VE X W b fb) (hs : PlainIx b) : VE X W (.Subscript a b pos) (eOp gIx fa fb) :=
  PE_weak (pe_ix (ix_list.or ix_tup) ha hb hs) fun _ _ _ h => op_post os_ix h
/-- a constant of the module -/
theorem ve_glob {x : Str} {v : V} {u : Value} {d : D} (hg : Gl X x) (hm : X.mg x = some u) (r : RelV v u) (q : ∀ H B, R X.K X.mg H B d v) (hd : (x == ("__debug__" : Str)) = false := by decide) : VE X W (.Name x pos) (eC d) := ve_c (pe_glob hg hm r hd) q
/-- a op b op' c -/
def eChain (g g' : D → D → Option D) (fa fb fc : List S → Out D) : List S → Out D := fun ρ =>
  (fa ρ).bind fun d ρ1 => (fb ρ1).bind fun e ρ2 => match (g d e).bind asB with
    | some true => (fc ρ2).bind fun e' ρ3 => match g' e e' with
      | some z => .ok z ρ3
      | none => .bad
    | some false => .ok (.bl false) ρ2
    | none => .bad
theorem chain_post {r r' : R2} {g g' : D → D → Option D} (hs : OpS X.K X.mg r g) (hs' : OpS X.K X.mg r' g') {σ : L2.St} {H : Hp} {Q : VK} (h : tE X.K X.mg W (eChain g g' fa fb fc) σ H Q) :
    tChain r r' (tE X.K X.mg W fa) (tE X.K X.mg W fb) (tE X.K X.mg W fc) σ H Q := by
  obtain ⟨B0, ρ, as, rel, h⟩ := h
  refine ⟨B0, ρ, as, rel, h.bind fun d ρ1 h1 x H1 as1 rel1 f1 r1 => ⟨B0, ρ1, as1, rel1, (h1.bind fun e ρ2 h2 => h2).fwd f1 fun e ρ2 h2 y H2 as2 rel2 f2 r2 => ?_⟩⟩
  cases eg : g d e with
  | none => rw [eg] at h2; exact h2.elim
  | some z =>
    rw [eg] at h2
    cases ez : asB z with
    | none => rw [show (some z).bind asB = asB z from rfl, ez] at h2; exact h2.elim
    | some k =>
      rw [show (some z).bind asB = asB z from rfl, ez] at h2
      refine hs (fun a ha => rel2.tracked ha) eg (r1.fwd f2) r2 fun v H' kk rz => ?_
      obtain ⟨rel3, f3⟩ := rel2.same kk
      rw [asB_some ez] at rz
      have f13 := (f1.trans f2).trans f3
      cases k with
      | false => exact ⟨false, rz, by rw [if_neg Bool.false_ne_true]; exact h2 _ H' as2 rel3 f13 rfl⟩
      | true =>
        refine ⟨true, rz, ?_⟩
        rw [if_pos rfl]
        refine ⟨B0, ρ2, as2, rel3, (EPost.bind h2 fun e' ρ3 h3 => h3).fwd f13 fun e' ρ3 h3 w H4 as4 rel4 f4 r4 => ?_⟩
        cases eg' : g' e e' with
        | none => rw [eg'] at h3; exact h3.elim
        | some z' =>
          rw [eg'] at h3
          refine hs' (fun a ha => rel4.tracked ha) eg' ((r2.fwd f3).fwd f4) r4 fun v' H5 k5 rz' => ?_
          obtain ⟨rel5, f5⟩ := rel4.same k5
          exact h3 v' H5 as4 rel5 ((f13.trans f4).trans f5) rz'
theorem ve_chain {op op' : CmpOp} {r r' : R2} {g g' : D → D → Option D} (ho : OpR X (compareOp op) r) (ho' : OpR X (compareOp op') r') (hs : OpS X.K X.mg r g) (hs' : OpS X.K X.mg r' g') (ha : VE X W a fa) (hb : VE X W b fb) (hc : VE X W c fc)
    (hm : lastMarks [op, op'] [b, c] = false := by with_unfolding_all rfl) : VE X W (.Compare a [op, op'] [b, c] pos) (eChain g g' fa fb fc) := PE_weak (pe_chain ho ho' ha hb hc hm) fun _ _ _ h => chain_post hs hs' h
theorem vt_chain {op op' : CmpOp} {r r' : R2} {g g' : D → D → Option D} (ho : OpR X (compareOp op) r) (ho' : OpR X (compareOp op') r') (hs : OpS X.K X.mg r g) (hs' : OpS X.K X.mg r' g') (ha : VE X W a fa) (hb : VE X W b fb) (hc : VE X W c fc)
    (hm : lastMarks [op, op'] [b, c] = false := by with_unfolding_all rfl) : VT X W (.Compare a [op, op'] [b, c] pos) (eB (eChain g g' fa fb fc)) := PT_weak (pt_chain ho ho' ha hb hc hm) fun _ _ _ h => chain_post hs hs' (b_post h)
/-- any value's truth -/
theorem tru_sl {H : Hp} {B : Av} {d : D} {x : V} {k : Bool} (h : truD d = some k) (r : R X.K X.mg H B d x) : TruV X.K x H k := by
  cases d with
  | non => cases h; cases (show x = V.non from r); rfl
  | bl b =>
    cases (show x = V.bl b from r)
    cases h
    rfl
  | int i => cases h; cases (show x = V.int i from r); rfl
  | str z =>
    cases (show x = V.str z from r)
    have h : (if z.length ≤ sizeLine then some (z.length != 0) else none) = some k := h
    by_cases c : z.length ≤ sizeLine
    · rw [if_pos c] at h
      cases h
      refine ⟨c, ?_⟩
      rw [Bool.eq_iff_iff]
      simp
    · rw [if_neg c] at h; cases h
  | tup ds =>
    obtain ⟨a, vs, rfl, tp, rs⟩ := r
    cases h
    refine .inr (.inl ⟨vs, tp.sq, ?_⟩)
    cases ds <;> cases vs <;> first | rfl | (have := rs.length; simp at this)
  | lst ds =>
    obtain ⟨a, vs, rfl, tp, rs⟩ := r
    cases h
    refine .inl ⟨vs, tp.sq, ?_⟩
    cases ds <;> cases vs <;> first | rfl | (have := rs.length; simp at this)
  | scr ns =>
    obtain ⟨a, rfl, sp⟩ := r
    cases h
    refine .inl ⟨_, sp.sq, ?_⟩
    cases ns <;> rfl
  | ins _ _ _ => cases h
theorem vt_truth (ha : VE X W a fa) (he : ∀ whole, isTrue a X.env whole = (do let v ← whole; standAt a.pos; holding [v] (truthy v)) := by intro _; rfl) : VT X W a (eTr fa) := by
  refine PT_weak (pt_truth ha he) ?_
  rintro σ H Q ⟨B0, ρ, as, rel, h⟩
  refine ⟨B0, ρ, as, rel, h.bind fun d ρ1 h1 x H1 as1 rel1 f1 r1 => ?_⟩
  cases e : truD d with
  | none => rw [e] at h1; exact h1.elim
  | some k =>
    rw [e] at h1
    exact ⟨k, tru_sl e r1, h1 H1 as1 rel1 f1⟩
/-- a call of a built-in, by values -/
def CallS (K : PySem.W.Frag) (mg : Str → Option Value) (r : List V → Hp → VK → Prop) (g : List D → Option D) : Prop :=
  ∀ {H : Hp} {B : Av} {ds : List D} {z : D} {xs : List V} {Q : VK}, (∀ a, B a → H a ≠ none) → g ds = some z → Rs K mg H B ds xs → (∀ v H', Same H H' → R K mg H' B z v → Q v H') → r xs H Q
def eCall (g : List D → Option D) (fl : List S → Out (List D)) : List S → Out D := fun ρ => (fl ρ).bind fun ds ρ1 => match g ds with
  | some z => .ok z ρ1
  | none => .bad
variable {fl : List S → Out (List D)} {e : Expr} {es : List Expr} {x : Str} {p : Pos} {id T : String} {r : List V → Hp → VK → Prop} {g : List D → Option D}
theorem call_post (hs : CallS X.K X.mg r g) {σ : L2.St} {H : Hp} {Q : VK} (h : tE X.K X.mg W (eCall g fl) σ H Q) : tA X.K X.mg W fl σ H fun vs H1 => r vs H1 Q := by
  obtain ⟨B0, ρ, as, rel, h⟩ := h
  refine ⟨B0, ρ, as, rel, h.bind fun ds ρ1 h1 xs H1 as1 rel1 f1 r1 => ?_⟩
  cases eg : g ds with
  | none => rw [eg] at h1; exact h1.elim
  | some z =>
    rw [eg] at h1
    refine hs (fun a ha => rel1.tracked ha) eg r1 fun v H' k rz => ?_
    obtain ⟨rel3, f3⟩ := rel1.same k
    exact h1 v H' as1 rel3 (f1.trans f3) rz
theorem ve_callB (hc : CallR X (.builtin id) r) (hs : CallS X.K X.mg r g) (hg : Gl X x) (hm : X.mg x = none) (hv : bootBuiltins x = some (.builtin id)) (ha : VA X W (e :: es) fl) (hn : x ≠ "__name__" := by decide) (hdb : (x == ("__debug__" : Str)) = false := by decide)
    (he : starEach (e :: es) X.env = (false, eval e X.env) :: starEach es X.env := by rfl) (hpl : (backTo pos (starEach es X.env)).any (·.1) = false := by rfl) : VE X W (.Call (.Name x p) (e :: es) [] pos) (eCall g fl) :=
  PE_weak (pe_callB hc hg hm hv ha hn hdb he hpl) fun _ _ _ h => call_post hs h
theorem ve_callTy (hc : CallR X (.type T) r) (hs : CallS X.K X.mg r g) (hg : Gl X x) (hm : X.mg x = none) (hv : bootBuiltins x = some (.type T)) (ha : VA X W (e :: es) fl) (hn : x ≠ "__name__" := by decide) (hdb : (x == ("__debug__" : Str)) = false := by decide)
    (he : starEach (e :: es) X.env = (false, eval e X.env) :: starEach es X.env := by rfl) (hpl : (backTo pos (starEach es X.env)).any (·.1) = false := by rfl) : VE X W (.Call (.Name x p) (e :: es) [] pos) (eCall g fl) :=
  PE_weak (pe_callTy hc hg hm hv ha hn hdb he hpl) fun _ _ _ h => call_post hs h
end

section
variable {K : PySem.W.Frag} {mg : Str → Option Value}
theorem Rs.one {H : Hp} {B : Av} {d : D} {xs : List V} (r : Rs K mg H B [d] xs) : ∃ x, xs = [x] ∧ R K mg H B d x := by
  obtain ⟨x, xs', rfl, rd, e⟩ := r
  cases (show xs' = [] from e)
  exact ⟨x, rfl, rd⟩
theorem Rs.two {H : Hp} {B : Av} {d e : D} {xs : List V} (r : Rs K mg H B [d, e] xs) : ∃ x y, xs = [x, y] ∧ R K mg H B d x ∧ R K mg H B e y := by
  obtain ⟨x, xs', rfl, rd, r2⟩ := r
  obtain ⟨y, rfl, re⟩ := Rs.one r2
  exact ⟨x, y, rfl, rd, re⟩
def gLen : List D → Option D
  | [.tup ds] => some (.int ds.length)
  | [.lst ds] => some (.int ds.length)
  | [.scr ns] => some (.int ns.length)
  | _ => none
theorem cs_len : CallS K mg (fun xs H Q => ∃ p ys, xs = [.ref p] ∧ (SqL K H p ys ∨ SqT K H p ys) ∧ Q (.int ys.length) H) gLen := by
  intro H B ds z xs Q _ hg r h
  match ds, hg, r with
  | [.tup es], hg, r =>
    cases hg
    obtain ⟨x, rfl, a, vs, rfl, tp, rs⟩ := r.one
    exact ⟨a, vs, rfl, .inr tp.sq, h _ H (fun _ _ h => h) (by rw [rs.length]; rfl)⟩
  | [.lst es], hg, r =>
    cases hg
    obtain ⟨x, rfl, a, vs, rfl, tp, rs⟩ := r.one
    exact ⟨a, vs, rfl, .inl tp.sq, h _ H (fun _ _ h => h) (by rw [rs.length]; rfl)⟩
  | [.scr ns], hg, r =>
    cases hg
    obtain ⟨x, rfl, a, rfl, sp⟩ := r.one
    exact ⟨a, _, rfl, .inl sp.sq, h _ H (fun _ _ h => h) (by rw [List.length_map]; rfl)⟩
def gInt : List D → Option D
  | [.int i] => some (.int i)
  | [.bl b] => some (.int (if b then 1 else 0))
  | _ => none
theorem cs_int : CallS K mg (fun xs H Q => (∃ i, xs = [.int i] ∧ Q (.int i) H) ∨ ∃ k, xs = [.bl k] ∧ Q (.int (if k then 1 else 0)) H) gInt := by
  intro H B ds z xs Q _ hg r h
  match ds, hg, r with
  | [.int i], hg, r =>
    cases hg
    obtain ⟨x, rfl, rx⟩ := r.one
    exact .inl ⟨i, by rw [show x = V.int i from rx], h _ H (fun _ _ h => h) rfl⟩
  | [.bl b], hg, r =>
    cases hg
    obtain ⟨x, rfl, rx⟩ := r.one
    exact .inr ⟨b, by rw [show x = V.bl b from rx], h _ H (fun _ _ h => h) rfl⟩
def gMax2 : List D → Option D
  | [.int i, .int j] => some (.int (if j > i then j else i))
  | _ => none
def gMin2 : List D → Option D
  | [.int i, .int j] => some (.int (if j < i then j else i))
  | _ => none
theorem cs_max2 : CallS K mg (fun xs H Q => ∃ i j, xs = [.int i, .int j] ∧ Q (.int (if j > i then j else i)) H) gMax2 := by
  intro H B ds z xs Q _ hg r h
  match ds, hg, r with
  | [.int i, .int j], hg, r =>
    cases hg
    obtain ⟨x, y, rfl, rx, ry⟩ := r.two
    exact ⟨i, j, by rw [show x = V.int i from rx, show y = V.int j from ry], h _ H (fun _ _ h => h) rfl⟩
theorem cs_min2 : CallS K mg (fun xs H Q => ∃ i j, xs = [.int i, .int j] ∧ Q (.int (if j < i then j else i)) H) gMin2 := by
  intro H B ds z xs Q _ hg r h
  match ds, hg, r with
  | [.int i, .int j], hg, r =>
    cases hg
    obtain ⟨x, y, rfl, rx, ry⟩ := r.two
    exact ⟨i, j, by rw [show x = V.int i from rx, show y = V.int j from ry], h _ H (fun _ _ h => h) rfl⟩
/-- tuple(a list), tuple(a tuple) -/
def gTupleOf : List D → Option D
  | [.lst ds] => some (.tup ds)
  | [.tup ds] => some (.tup ds)
  | _ => none
theorem cs_tuple : CallS K mg (fun xs H Q => ∃ p ys, xs = [.ref p] ∧ ((SqL K H p ys ∧ ∀ l, H l = none → Q (.ref l) (upd H l (.tup ys))) ∨ (SqT K H p ys ∧ Q (.ref p) H))) gTupleOf := by
  intro H B ds z xs Q tr hg r h
  match ds, hg, r with
  | [.lst es], hg, r =>
    cases hg
    obtain ⟨x, rfl, a, vs, rfl, tp, rs⟩ := r.one
    exact ⟨a, vs, rfl, .inl ⟨tp.sq, fun l hl => h _ _ (same_upd hl) ⟨l, vs, rfl, .inl ⟨.inl upd_same, fun hb => tr l hb hl⟩, rs.same (same_upd hl)⟩⟩⟩
  | [.tup es], hg, r =>
    cases hg
    obtain ⟨x, rfl, a, vs, rfl, tp, rs⟩ := r.one
    exact ⟨a, vs, rfl, .inr ⟨tp.sq, h _ H (fun _ _ h => h) ⟨a, vs, rfl, tp, rs⟩⟩⟩
/-- all, any of a list of bools -/
def boolsOf : List D → Option (List Bool)
  | [] => some []
  | .bl b :: ds => (boolsOf ds).map (b :: ·)
  | _ => none
theorem boolsOf_rs {H : Hp} {B : Av} : ∀ {ds : List D} {bs : List Bool} {xs : List V}, boolsOf ds = some bs → Rs K mg H B ds xs → xs = bs.map V.bl
  | [], bs, xs, h, r => by cases h; exact r
  | d :: ds, bs, xs, h, r => by
    cases d with
    | bl b =>
      obtain ⟨x, xs', rfl, rd, rr⟩ := r
      have h : (boolsOf ds).map (b :: ·) = some bs := h
      cases e : boolsOf ds with
      | none => rw [e] at h; cases h
      | some cs =>
        rw [e] at h
        cases h
        rw [boolsOf_rs e rr, show x = V.bl b from rd]
        rfl
    | _ => cases h
def gAll : List D → Option D
  | [.lst ds] => (boolsOf ds).map fun bs => .bl (bs.all id)
  | _ => none
def gAny : List D → Option D
  | [.lst ds] => (boolsOf ds).map fun bs => .bl (bs.any id)
  | _ => none

theorem cs_all : CallS K mg (rAll K) gAll := by
  intro H B ds z xs Q _ hg r h
  match ds, hg, r with
  | [.lst es], hg, r =>
    obtain ⟨x, rfl, a, vs, rfl, tp, rs⟩ := r.one
    have hg : (boolsOf es).map (fun bs => D.bl (bs.all id)) = some z := hg
    cases e : boolsOf es with
    | none => rw [e] at hg; cases hg
    | some bs =>
      rw [e] at hg
      cases hg
      exact ⟨a, bs, rfl, by rw [← boolsOf_rs e rs]; exact tp.sq, h _ H (fun _ _ h => h) rfl⟩
theorem cs_any : CallS K mg (rAny K) gAny := by
  intro H B ds z xs Q _ hg r h
  match ds, hg, r with
  | [.lst es], hg, r =>
    obtain ⟨x, rfl, a, vs, rfl, tp, rs⟩ := r.one
    have hg : (boolsOf es).map (fun bs => D.bl (bs.any id)) = some z := hg
    cases e : boolsOf es with
    | none => rw [e] at hg; cases hg
    | some bs =>
      rw [e] at hg
      cases hg
      exact ⟨a, bs, rfl, by rw [← boolsOf_rs e rs]; exact tp.sq, h _ H (fun _ _ h => h) rfl⟩
/-! ### lists held alone -/
theorem O2.get {H : Hp} {B : Av} : ∀ {dss : List (List D)} {bs : List Addr} {i : Nat} {ds : List D}, O2 K mg H B dss bs → dss[i]? = some ds → ∃ b vs, bs[i]? = some b ∧ H b = some (.lst vs) ∧ Rs K mg H B ds vs
  | _, _, i, ds, .nil, h => by simp at h
  | _, _, 0, ds, .cons e r _, h => by
    cases h
    exact ⟨_, _, rfl, e, r⟩
  | _, _, i + 1, ds, .cons _ _ t, h => by
    obtain ⟨b, vs, h1, h2, h3⟩ := O2.get (i := i) t h
    exact ⟨b, vs, h1, h2, h3⟩
section
variable {W : WX} {B0 : Av} {H H1 : Hp} {as as1 : List Addr} {σ : L2.St} {ρ : List S}
/-- a list held alone at slot i: where it stands, and how it is written -/
theorem Rel.held {i : Nat} {ds : List D} (r : Rel K mg B0 ρ σ H as) (e : ρ[i]? = some (.ow ds)) :
    ∃ a vs, σ[i]? = some (some (.ref a)) ∧ H a = some (.lst vs) ∧ Rs K mg H (Bv as B0) ds vs ∧ a ∈ as ∧
      ∀ (ds' : List D) (vs' : List V), Rs K mg H (Bv as B0) ds' vs' → Rel K mg B0 (ρ.set i (.ow ds')) σ (upd H a (.lst vs')) as ∧ Fwd as H as (upd H a (.lst vs')) := by
  obtain ⟨l, m, rr, v, e1, e2, o, put⟩ := r.sl.at e
  obtain ⟨a, vs, rfl, rfl, ha, q⟩ := o
  have ma : a ∈ as := by rw [e1]; simp
  have nd := r.nd
  rw [e1] at nd
  have h1 := List.nodup_append.mp nd
  have h2 := List.nodup_append.mp h1.1
  refine ⟨a, vs, e2, ha, q, ma, fun ds' vs' r' => ⟨⟨?_, r.nd, r.dis, fun b hb => ?_⟩, ⟨fun b ob n hb => ⟨?_, n⟩, fun b hb => ?_⟩⟩⟩
  · have kp : Keep (Bv as B0) H (upd H a (.lst vs')) := fun b ob n hb => by
      rw [upd_ne (fun z => n (.inl (by rw [z]; exact ma)))]
      exact hb
    have sl := put (upd H a (.lst vs')) (Bv as B0) (.ow ds') (some (.ref a)) [a] (fun {s v as0} hm os => os.mono kp (fun _ _ h => h) fun b hb => by
      have nb : b ≠ a := by
        rintro rfl
        rcases hm b hb with z | z
        · exact h2.2.2 b z b (by simp) rfl
        · exact h1.2.2 b (by simp) b z rfl
      exact upd_ne nb) ⟨a, vs', rfl, rfl, upd_same, Rs.mono kp (fun _ _ h => h) r'⟩
    rw [set_self e2, ← e1] at sl
    exact sl
  · by_cases z : b = a
    · rw [z, upd_same]; intro z; cases z
    · rw [upd_ne z]; exact r.trk b hb
  · rw [upd_ne (fun z => n (by rw [z]; exact ma))]; exact hb
  · by_cases z : b = a
    · rw [z, upd_same]; intro z; cases z
    · rw [upd_ne z]; exact hb
end
end
section
variable {X : Cx} {W : WX} {P : Nat → Prop} {a b c : Expr} {fa fb fc : List S → Out D} {pos : Pos}
/-- len(m), m a list held alone -/
def eLenO (i : Nat) : List S → Out D := fun ρ => match ρ[i]? with
  | some (.ow ds) => .ok (.int ds.length) ρ
  | some (.fr (.lst ds)) => .ok (.int ds.length) ρ
  | some (.fr (.tup ds)) => .ok (.int ds.length) ρ
  | _ => .bad
theorem ve_lenO {i : Nat} {x y : Str} {p p2 : Pos} (hi : X.N[i]? = some y) (hv : Vis X.env.scope y) (hg : Gl X "len") (hm : X.mg "len" = none) (hd : (y == ("__debug__" : Str)) = false := by decide) (hcd : (y == ("__classdict__" : Str)) = false := by decide)
    (he : starEach [.Name y p2] X.env = (false, eval (.Name y p2) X.env) :: starEach [] X.env := by rfl) (hpl : (backTo pos (starEach [] X.env)).any (·.1) = false := by rfl) : VE X W (.Call (.Name "len" p) [.Name y p2] [] pos) (eLenO i) := by
  refine PE_weak (pe_callB call_len_seq hg hm PySem.boot_len (pa_cons (pe_var hi hv hd hcd) pa_nil)) ?_
  rintro σ H Q ⟨B0, ρ, as, rel, h⟩
  unfold eLenO at h
  cases e : ρ[i]? with
  | none => rw [e] at h; exact h.elim
  | some s =>
    rw [e] at h
    cases s with
    | un => exact h.elim
    | o2 _ => exact h.elim
    | ow ds =>
      obtain ⟨a, vs, es, ha, rs, _, _⟩ := rel.held e
      refine ⟨_, es, a, vs, rfl, .inl (.inl (.inl ha)), ?_⟩
      exact h _ H as rel Fwd.refl (by rw [rs.length]; rfl)
    | fr d =>
      obtain ⟨x, as', e1, rel', f, r⟩ := rel.read (d := d) e (.inl ⟨rfl, rfl⟩)
      rw [set_self e] at rel'
      cases d with
      | lst ds =>
        obtain ⟨a, vs, rfl, tp, rs⟩ := r
        exact ⟨_, e1, a, vs, rfl, .inl tp.sq, h _ H as' rel' f (by rw [rs.length]; rfl)⟩
      | tup ds =>
        obtain ⟨a, vs, rfl, tp, rs⟩ := r
        exact ⟨_, e1, a, vs, rfl, .inr tp.sq, h _ H as' rel' f (by rw [rs.length]; rfl)⟩
      | _ => exact h.elim
/-- m[e], m a list held alone -/
def eIxO (i : Nat) (f : List S → Out D) : List S → Out D := fun ρ => match ρ[i]? with
  | some (.ow _) => (f ρ).bind fun d ρ1 => match ρ1[i]?, d with
    | some (.ow ds), .int k => (match atI ds k with
      | some z => .ok z ρ1
      | none => .bad)
    | _, _ => .bad
  | _ => .bad
theorem ve_ixO {i : Nat} {y : Str} {p2 : Pos} (hi : X.N[i]? = some y) (hv : Vis X.env.scope y) (hb : VE X W b fb) (hs : PlainIx b) (hd : (y == ("__debug__" : Str)) = false := by decide) (hcd : (y == ("__classdict__" : Str)) = false := by decide) : VE X W (.Subscript (.Name y p2) b pos) (eIxO i fb) := by
  refine PE_weak (pe_ix (ix_list.or ix_tup) (pe_var hi hv hd hcd) hb hs) ?_
  rintro σ H Q ⟨B0, ρ, as, rel, h⟩
  unfold eIxO at h
  split at h
  · rename_i ds0 e0
    obtain ⟨a, vs, es, ha, rs, _, _⟩ := rel.held e0
    refine ⟨_, es, B0, ρ, as, rel, h.bind fun d ρ1 h1 x H1 as1 rel1 f1 r1 => ?_⟩
    split at h1
    · rename_i ds k e1
      obtain ⟨a1, vs1, es1, ha1, rs1, _, _⟩ := rel1.held e1
      rw [es] at es1
      cases es1
      cases hk : atI ds k with
      | none => rw [hk] at h1; exact h1.elim
      | some z =>
        rw [hk] at h1
        obtain ⟨u, hu, ru⟩ := rs1.atI hk
        exact .inl ⟨a, vs1, k, u, rfl, r1, .inl (.inl ha1), hu, h1 u H1 as1 rel1 f1 ru⟩
    · exact h1.elim
  · exact h.elim
/-- a method of a list held alone at slot i: g tells the answer and what stands then -/
def eMeth (i : Nat) (g : List D → List D → Option (D × List D)) (fl : List S → Out (List D)) : List S → Out D := fun ρ => match ρ[i]? with
  | some (.ow _) => (fl ρ).bind fun xs ρ1 => match ρ1[i]? with
    | some (.ow ds) => (match g ds xs with
      | some (z, ds') => .ok z (ρ1.set i (.ow ds'))
      | none => .bad)
    | _ => .bad
  | _ => .bad
def MethS (K : PySem.W.Frag) (mg : Str → Option Value) (r : V → List V → Hp → VK → Prop) (g : List D → List D → Option (D × List D)) : Prop :=
  ∀ {H : Hp} {B : Av} {a : Addr} {ds xs ds' : List D} {z : D} {vs us : List V} {Q : VK}, g ds xs = some (z, ds') → H a = some (.lst vs) → Rs K mg H B ds vs → Rs K mg H B xs us →
    (∀ v vs', Rs K mg H B ds' vs' → R K mg H B z v → Q v (upd H a (.lst vs'))) → r (.ref a) us H Q
variable {fl : List S → Out (List D)} {e : Expr} {es : List Expr} {y name : Str} {p2 apos : Pos} {T id : String} {r : V → List V → Hp → VK → Prop} {g : List D → List D → Option (D × List D)} {i : Nat}
theorem ve_meth (slot : Slot "list" name id) (hty : typeOf (.builtin id) = pure (.type "method_descriptor")) (hm : MtR X id r) (hs : MethS X.K X.mg r g) (hi : X.N[i]? = some y) (hv : Vis X.env.scope y) (ha : VA X W (e :: es) fl)
    (hd : (y == ("__debug__" : Str)) = false := by decide) (hcd : (y == ("__classdict__" : Str)) = false := by decide)
    (hbase : attributeBase (.Name y p2) name X.env (eval (.Name y p2) X.env) = eval (.Name y p2) X.env := by rfl)
    (hfew : ((backTo pos (starEach (e :: es) X.env)).all (fun x => !x.1) && (backToKw pos (keywordEach [] X.env)).all (fun x => x.1.isSome)
      && decide ((e :: es).length + ([] : List Keyword).length + (if ([] : List Keyword).isEmpty then 0 else 1) < 30)) = true := by rfl)
    (hline : (apos.endLine == pos.line) = true := by rfl) (hst : starEach (e :: es) X.env = (false, eval e X.env) :: starEach es X.env := by rfl) (hplain : (backTo pos (starEach es X.env)).any (·.1) = false := by rfl) :
    VE X W (.Call (.Attribute (.Name y p2) name apos) (e :: es) [] pos) (eMeth i g fl) := by
  refine PE_weak (pe_bm PySem.F.plainAttrs_list slot hty hm (pe_var hi hv hd hcd) ha hbase hfew hline hst hplain) ?_
  rintro σ H Q ⟨B0, ρ, as, rel, h⟩
  unfold eMeth at h
  split at h
  · rename_i ds0 e0
    obtain ⟨a, vs, es, ha, rs, _, _⟩ := rel.held e0
    refine ⟨_, es, .inl ⟨rfl, vs, .inl (.inl ha)⟩, B0, ρ, as, rel, h.bind fun xs ρ1 h1 us H1 as1 rel1 f1 r1 => ?_⟩
    split at h1
    · rename_i ds e1
      obtain ⟨a1, vs1, es1, ha1, rs1, _, put⟩ := rel1.held e1
      rw [es] at es1
      cases es1
      cases hk : g ds xs with
      | none => rw [hk] at h1; exact h1.elim
      | some zz =>
        obtain ⟨z, ds'⟩ := zz
        rw [hk] at h1
        refine hs hk ha1 rs1 r1 fun v vs' r' rz => ?_
        obtain ⟨rel2, f2⟩ := put ds' vs' r'
        exact h1 v _ as1 rel2 (f1.trans f2) (rz.fwd f2)
    · exact h1.elim
  · exact h.elim
theorem ve_meth0 (slot : Slot "list" name id) (hty : typeOf (.builtin id) = pure (.type "method_descriptor")) (hm : MtR X id r) (hs : MethS X.K X.mg r g) (hi : X.N[i]? = some y) (hv : Vis X.env.scope y)
    (hd : (y == ("__debug__" : Str)) = false := by decide) (hcd : (y == ("__classdict__" : Str)) = false := by decide)
    (hbase : attributeBase (.Name y p2) name X.env (eval (.Name y p2) X.env) = eval (.Name y p2) X.env := by rfl) (hline : (apos.endLine == pos.line) = true := by rfl) :
    VE X W (.Call (.Attribute (.Name y p2) name apos) [] [] pos) (eMeth i g aNil) := by
  refine PE_weak (pe_bm0 PySem.F.plainAttrs_list slot hty hm (pe_var hi hv hd hcd) hbase hline) ?_
  rintro σ H Q ⟨B0, ρ, as, rel, h⟩
  unfold eMeth at h
  split at h
  · rename_i ds0 e0
    obtain ⟨a, vs, es, ha, rs, _, put⟩ := rel.held e0
    refine ⟨_, es, .inl ⟨rfl, vs, .inl (.inl ha)⟩, ?_⟩
    unfold aNil at h
    have h : EPost X.K X.mg W B0 as H σ _ (match ρ[i]? with
      | some (.ow ds) => (match g ds [] with
        | some (z, ds') => Out.ok z (ρ.set i (.ow ds'))
        | none => .bad)
      | _ => .bad) := h
    rw [e0] at h
    cases hk : g ds0 [] with
    | none => simp only [hk] at h; exact h.elim
    | some zz =>
      obtain ⟨z, ds'⟩ := zz
      simp only [hk] at h
      refine hs hk ha rs Rs.nil fun v vs' r' rz => ?_
      obtain ⟨rel2, f2⟩ := put ds' vs' r'
      exact h v _ as rel2 f2 (rz.fwd f2)
  · exact h.elim
def gAppend : List D → List D → Option (D × List D)
  | ds, [d] => if ds.length < sizeLine then some (.non, ds ++ [d]) else none
  | _, _ => none
theorem ms_append : MethS X.K X.mg rAppend gAppend := by
  intro H B a ds xs ds' z vs us Q hg ha rs rx h
  match xs, hg, rx with
  | [d], hg, rx =>
    have hg : (if ds.length < sizeLine then some (D.non, ds ++ [d]) else none) = some (z, ds') := hg
    by_cases c : ds.length < sizeLine
    · rw [if_pos c] at hg
      cases hg
      obtain ⟨x, rfl, r1⟩ := rx.one
      exact ⟨a, vs, x, rfl, rfl, ha, by rw [← rs.length]; exact c, h .non _ (Rs.append rs (Rs.cons r1 Rs.nil)) rfl⟩
    · rw [if_neg c] at hg; cases hg
def gPopAt : List D → List D → Option (D × List D)
  | ds, [.int i] => if Fit i then (match seqIndex? i ds.length with
      | some k => (match ds[k]? with
        | some d => some (d, ds.eraseIdx k)
        | none => none)
      | none => none) else none
  | _, _ => none
theorem ms_popAt : MethS X.K X.mg rPopAt gPopAt := by
  intro H B a ds xs ds' z vs us Q hg ha rs rx h
  match xs, hg, rx with
  | [.int i], hg, rx =>
    have hg : (if Fit i then (match seqIndex? i ds.length with
      | some k => (match ds[k]? with
        | some d => some (d, ds.eraseIdx k)
        | none => none)
      | none => none) else none) = some (z, ds') := hg
    by_cases c : Fit i
    · rw [if_pos c] at hg
      have c : -(2 ^ 63) ≤ i ∧ i < 2 ^ 63 := ⟨by have := c.ok; omega, by have := c.ok; omega⟩
      cases e1 : seqIndex? i ds.length with
      | none => simp only [e1] at hg; cases hg
      | some k =>
        simp only [e1] at hg
        cases e2 : ds[k]? with
        | none => simp only [e2] at hg; cases hg
        | some d =>
          simp only [e2] at hg
          cases hg
          obtain ⟨x, rfl, r1⟩ := rx.one
          obtain ⟨u, hu, ru⟩ := rs.get e2
          exact ⟨a, vs, i, k, u, rfl, by rw [show x = V.int i from r1], ha, c.1, c.2, by rw [← rs.length]; exact e1, hu, h u _ (Rs.eraseIdx k rs) ru⟩
    · rw [if_neg c] at hg; cases hg
def gPop : List D → List D → Option (D × List D)
  | ds, [] => match ds[ds.length - 1]? with
    | some d => some (d, ds.dropLast)
    | none => none
  | _, _ => none
theorem ms_pop : MethS X.K X.mg rPop gPop := by
  intro H B a ds xs ds' z vs us Q hg ha rs rx h
  match xs, hg, rx with
  | [], hg, rx =>
    have hg : (match ds[ds.length - 1]? with
      | some d => some (d, ds.dropLast)
      | none => none) = some (z, ds') := hg
    cases e2 : ds[ds.length - 1]? with
    | none => simp only [e2] at hg; cases hg
    | some d =>
      simp only [e2] at hg
      cases hg
      cases (show us = [] from rx)
      obtain ⟨u, hu, ru⟩ := rs.get e2
      refine ⟨a, vs, u, rfl, rfl, ha, by rw [← rs.length]; exact hu, h u _ ?_ ru⟩
      rw [List.dropLast_eq_take, List.dropLast_eq_take, ← rs.length]
      exact Rs.take _ rs
def gInsert : List D → List D → Option (D × List D)
  | ds, [.int i, d] => if ds.length < sizeLine ∧ 0 ≤ i ∧ Fit i then some (.non, ds.take i.toNat ++ [d] ++ ds.drop i.toNat) else none
  | _, _ => none
theorem ms_insert : MethS X.K X.mg (fun x vs H Q => ∃ (l : Addr) (xs : List V) (i : Int) (y : V), x = .ref l ∧ vs = [.int i, y] ∧ H l = some (.lst xs) ∧ xs.length < sizeLine ∧ 0 ≤ i ∧ i < 2 ^ 63 ∧ Q .non (upd H l (.lst (xs.take i.toNat ++ [y] ++ xs.drop i.toNat)))) gInsert := by
  intro H B a ds xs ds' z vs us Q hg ha rs rx h
  match xs, hg, rx with
  | [.int i, d], hg, rx =>
    have hg : (if ds.length < sizeLine ∧ 0 ≤ i ∧ Fit i then some (D.non, ds.take i.toNat ++ [d] ++ ds.drop i.toNat) else none) = some (z, ds') := hg
    by_cases c : ds.length < sizeLine ∧ 0 ≤ i ∧ Fit i
    · rw [if_pos c] at hg
      have c : ds.length < sizeLine ∧ 0 ≤ i ∧ i < 2 ^ 63 := ⟨c.1, c.2.1, by have := c.2.2.ok; omega⟩
      cases hg
      obtain ⟨x, y, rfl, r1, r2⟩ := rx.two
      exact ⟨a, vs, i, y, rfl, by rw [show x = V.int i from r1], ha, by rw [← rs.length]; exact c.1, c.2.1, c.2.2, h .non _ (Rs.append (Rs.append (Rs.take _ rs) (Rs.cons r2 Rs.nil)) (Rs.drop _ rs)) rfl⟩
    · rw [if_neg c] at hg; cases hg
/-- m[k] = e, m a list held alone at slot i: the value first -/
def sSetIx (i : Nat) (fk fe : List S → Out D) : List S → SO := fun ρ => (fe ρ).toS fun d ρ1 => match ρ1[i]? with
  | some (.ow _) => (fk ρ1).toS fun k ρ2 => (match ρ2[i]?, k with
    | some (.ow ds), .int k => (match ixN ds.length k with
      | some j => .nx (ρ2.set i (.ow (ds.set j d)))
      | none => .bad)
    | _, _ => .bad)
  | _ => .bad
theorem vs_setIx {k v : Expr} {fk fe : List S → Out D} {tpos spos : Pos} (hi : X.N[i]? = some y) (hv : Vis X.env.scope y) (hk : VE X W k fk) (he : VE X W v fe) (hd : (y == ("__debug__" : Str)) = false := by decide) (hcd : (y == ("__classdict__" : Str)) = false := by decide)
    (hsub : ∀ u, assign (.Subscript (.Name y p2) k tpos) X.env u = (do
      let ov ← holding [u] (eval (.Name y p2) X.env)
      let iv ← holding [u, ov] (eval k X.env)
      standAt tpos
      holding [u, ov, iv] (setItem ov iv u)
      release [u, ov, iv] []) := by intro _; rfl)
    (hs : swapsWithSole [.Subscript (.Name y p2) k tpos] v spos.line X.env = pure false := by rfl) (hw : swappedStores [.Subscript (.Name y p2) k tpos] v X.env = pure none := by rfl)
    (h1 : (assignEach [.Subscript (.Name y p2) k tpos] X.env).map (·.2) = [assign (.Subscript (.Name y p2) k tpos) X.env] := by rfl) : VS1 X W P (.Assign [.Subscript (.Name y p2) k tpos] v spos) (sSetIx i fk fe) := by
  refine PS_weak (ps_asg he (pg_sub (pe_var hi hv hd hcd) hk set_list hsub) hs hw h1) ?_
  rintro E σ H ⟨B0, ρ, as, rel, h⟩
  refine ⟨B0, ρ, as, rel, h.bind (fun _ _ _ => trivial) fun d ρ1 h1 x H1 as1 rel1 f1 r1 => ?_⟩
  split at h1
  · rename_i ds0 e0
    obtain ⟨a, vs, es, ha, rs, _, _⟩ := rel1.held e0
    refine ⟨_, es, B0, ρ1, as1, rel1, ((h1.bind (G := fun k ρ2 => SPost X.K X.mg W P B0 as H σ E (match ρ2[i]?, k with
      | some (.ow ds), .int k => (match ixN ds.length k with
        | some j => .nx (ρ2.set i (.ow (ds.set j d)))
        | none => .bad)
      | _, _ => .bad)) (fun _ _ _ => trivial) fun k ρ2 h2 => h2)).fwd f1 fun k ρ2 h2 u H2 as2 rel2 f2 r2 => ?_⟩
    split at h2
    · rename_i ds kk e2
      obtain ⟨a1, vs1, es1, ha1, rs1, _, put⟩ := rel2.held e2
      rw [es] at es1
      cases es1
      cases hj : ixN ds.length kk with
      | none => rw [hj] at h2; exact h2.elim
      | some j =>
        rw [hj] at h2
        refine ⟨a, vs1, kk, j, rfl, r2, ha1, by rw [← rs1.length]; exact hj, ?_⟩
        obtain ⟨rel3, f3⟩ := put _ _ (Rs.set j rs1 (r1.fwd f2))
        exact h2 σ _ as2 rel3 ((f1.trans f2).trans f3) Pin.refl
    · exact h2.elim
  · exact h1.elim
end
end VS
/-! ## VS6 -/
set_option Elab.async false
set_option linter.all false
set_option maxRecDepth 100000
set_option maxHeartbeats 4000000
set_option autoImplicit false
namespace VS
open PySem PySem.Spec L2

/-! ### what a def is worth -/
inductive FO where
  | ok (d : D) (outs : List S)
  | nw (ds : List D) (outs : List S)
  | ex (c : Str) (w : D) (outs : List S)
  | bad
def FPost (K : PySem.W.Frag) (mg : Str → Option Value) (B0 : Av) (as : List Addr) (H : Hp) (σ : L2.St) (Q : VK) (E : XK) : FO → Prop
  | .ok d outs => ∀ x H' as', Rel K mg B0 outs σ H' as' → Fwd as H as' H' → R K mg H' (Bv as' B0) d x → Q x H'
  | .nw ds outs => ∀ p vs H' as', Rel K mg (Plus B0 p) outs σ H' as' → Fwd as H as' H' → H p = none → H' p = some (.lst vs) → Rs K mg H' (Bv as' (Plus B0 p)) ds vs → Q (.ref p) H'
  | .ex c w outs => ∀ (C dd : Addr) (H' : Hp) (as' : List Addr) (v : V), mg c = some (.ref C) → H' dd = some (.xd [(("what" : Str), v)]) → R K mg H' (Bv as' B0) w v → Rel K mg B0 outs σ H' as' → Fwd as H as' H' → E (.ref C) (some dd) H'
  | .bad => False
/-- the promise of a def whose worth is m -/
def spM (K : PySem.W.Frag) (mg : Str → Option Value) (n : Nat) (m : List S → FO) : Sp := fun vs H Q E => ∃ B0 as args, args.length = n ∧ Rel K mg B0 args (vs.map some) H as ∧ FPost K mg B0 as H (vs.map some) Q E (m args)
/-- all arguments stand still -/
def allFr : List S → Bool
  | [] => true
  | .fr _ :: r => allFr r
  | _ :: _ => false
def pad (n : Nat) (args : List S) : List S := args ++ List.replicate (n - args.length) .un
/-- the worth of a def, from its body's: n names -/
def mFr (k n : Nat) (fb : List S → SO) : List S → FO := fun args => if allFr args = true ∧ args.length = k then (match fb (pad n args) with
  | .nx _ => .ok .non args
  | .rt d _ => .ok d args
  | .rn ds _ => .nw ds args
  | .ex c w _ => .ex c w args
  | _ => .bad) else .bad
/-- the first argument is a list held alone by the caller -/
def headS : List S → List S → List S
  | s :: _, _ :: r => s :: r
  | _, r => r
def mOw (k n : Nat) (fb : List S → SO) : List S → FO := fun args => if allFr args.tail = true ∧ args ≠ [] ∧ args.length = k then (match fb (pad n args) with
  | .nx ρ => .ok .non (headS ρ args)
  | .rt d ρ => .ok d (headS ρ args)
  | .rn ds ρ => .nw ds (headS ρ args)
  | .ex c w ρ => .ex c w (headS ρ args)
  | _ => .bad) else .bad
section
variable {K : PySem.W.Frag} {mg : Str → Option Value} {B0 B B' : Av} {H H1 H' : Hp} {as as1 as' : List Addr} {σ σ' : L2.St} {ρ ρ' : List S}
theorem Sl.pad : ∀ {ρ : List S} {σ : L2.St} {as : List Addr} (k : Nat), Sl K mg H B ρ σ as → Sl K mg H B (ρ ++ List.replicate k .un) (σ ++ List.replicate k none) as
  | _, _, _, 0, h => by simpa using h
  | _, _, _, k + 1, .nil => .cons (as := []) rfl (by simpa using Sl.pad k (Sl.nil (K := K) (mg := mg) (H := H) (B := B)))
  | _, _, _, k + 1, .cons o r => .cons o (Sl.pad (k + 1) r)
theorem Sl.fr_nil : ∀ {ρ : List S} {σ : L2.St} {as : List Addr}, Sl K mg H B ρ σ as → allFr ρ = true → as = []
  | _, _, _, .nil, _ => rfl
  | _, _, _, .cons (s := s) o r, h => by
    cases s with
    | fr d => rw [o.1, Sl.fr_nil r h]; rfl
    | _ => cases h
/-- what stands still stands -/
theorem Sl.keepFr (k : Keep B H H') (hB : ∀ a, H a ≠ none → B' a → B a) : ∀ {ρ : List S} {σ : L2.St} {as : List Addr}, Sl K mg H B ρ σ as → allFr ρ = true → Sl K mg H' B' ρ σ []
  | _, _, _, .nil, _ => .nil
  | _, _, _, .cons (s := s) o r, h => by
    cases s with
    | fr d => exact .cons (as := []) ⟨rfl, let ⟨x, e, q⟩ := o.2; ⟨x, e, R.mono k hB q⟩⟩ (Sl.keepFr k hB r h)
    | _ => cases h
theorem start_eq {N : List Str} {vs : List V} : L2.start N vs = vs.map some ++ List.replicate (N.length - vs.length) none := rfl
end
section
variable {P : Program} {w : World} {K : PySem.W.Frag} {mg : Str → Option Value} {base : Heap}
theorem spM_len {n : Nat} {m : List S → FO} {vs : List V} {H : Hp} {Q : VK} {E : XK} (h : spM K mg n m vs H Q E) : vs.length = n := by
  obtain ⟨B0, as, args, hl, rel, _⟩ := h
  have := rel.len
  rw [List.length_map] at this
  omega
/-- the context of a def's body -/
structure BodyX (X : Cx) (K : PySem.W.Frag) (mg : Str → Option Value) (P : Program) (w : World) (base : Heap) (N : List Str) (sc : Scope) (k : Nat) (W : WX) : Prop where
  hK : X.K = K
  hmg : X.mg = mg
  hN : X.N = N
  hsc : X.env.scope = sc
  hr : Room k X.A
  tk : Takes X W
/-- THE RULE for a def without a list of the caller's -/
theorem fn_fr {x qual : Str} {st : Stmt} {f : Addr} {fd : FuncData} {N ps : List Str} {k : Nat} {fb : List S → SO} (F : Fun K x qual st f fd) (Sc : FnScope N ps (defScope st))
    (hbody : ∀ (cdv : Value) (A : Around) (outer : List Env) (s : Shared) (H : Hp) (E : XK), Room k (A.deeper (PyProof.Rows.envOfC qual (defScope st) s.heap.objs.size f cdv)) →
      VSs (cxOf (L2.CX P w) P w K mg base N qual (defScope st) f cdv A outer s H E) (fun cls d _ H => E cls d H) (fun _ => False) (defBody st) fb) : FnOk P w K mg base (L2.CX P w) (k + 1) f fd ps (spM K mg ps.length (mFr ps.length N.length fb)) := by
  refine F.okX Sc (fun vs H Q E h => spM_len h) (fun cdv A outer s H vs Q E hr h => ⟨_, hbody cdv A outer s H E hr, ?_⟩)
  obtain ⟨B0, as, args, hl, rel, h⟩ := h
  unfold mFr at h
  by_cases hc : allFr args = true ∧ args.length = ps.length
  · rw [if_pos hc] at h
    have ha := hc.1
    have e0 : as = [] := rel.sl.fr_nil ha
    subst e0
    have lv : vs.length = args.length := by have := rel.len; rw [List.length_map] at this; exact this.symm
    refine ⟨B0, pad N.length args, [], ⟨?_, rel.nd, rel.dis, rel.trk⟩, ?_⟩
    · rw [start_eq, lv]
      exact Sl.pad _ rel.sl
    · -- the arguments at the end
      have back1 : ∀ {as' : List Addr} {H' : Hp} (B1 : Av), (∀ a, B1 a → B0 a ∨ H a = none) → (∀ a, B1 a → H' a ≠ none) → Fwd [] H as' H' → Rel K mg B1 args (vs.map some) H' [] ∧ Fwd [] H [] H' := fun {as' H'} B1 hB ht f =>
        ⟨⟨Sl.keepFr (B := Bv [] B0) (B' := Bv [] B1) (fun a o n q => (f.st a o (by simp) q).1) (fun a n h => h.imp id fun z => (hB a z).elim id fun z => absurd z n) rel.sl ha, List.nodup_nil, fun a h => by simp at h, ht⟩, ⟨fun a o n q => ⟨(f.st a o (by simp) q).1, by simp⟩, f.tr⟩⟩
      have back : ∀ {as' : List Addr} {H' : Hp}, Fwd [] H as' H' → Rel K mg B0 args (vs.map some) H' [] ∧ Fwd [] H [] H' := fun {as' H'} f => back1 B0 (fun a h => .inl h) (fun a h => f.tr a (rel.trk a h)) f
      have wk : ∀ {as' : List Addr} {H' : Hp} {d : D} {v : V}, R K mg H' (Bv as' B0) d v → R K mg H' (Bv [] B0) d v := fun r => R.mono (fun _ _ _ h => h) (fun a _ q => q.elim (fun z => by simp at z) .inr) r
      cases e : fb (pad N.length args) with
      | nx ρ' =>
        rw [e] at h
        exact fun σ' H' as' r f p => h .non H' [] (back f).1 (back f).2 rfl
      | rt d ρ' =>
        rw [e] at h
        exact fun v σ' H' as' r f p q => h v H' [] (back f).1 (back f).2 (wk q)
      | rn d ρ' =>
        rw [e] at h
        intro q vs' σ' H' as' r f p hq hq' rs
        obtain ⟨b1, b2⟩ := back1 (Plus B0 q) (fun a h => h.elim (fun z => .inr (by rw [z]; exact hq)) .inl) (fun a z => by
          rcases z with rfl | z
          · rw [hq']; intro z; cases z
          · exact f.tr a (rel.trk a z)) f
        exact h q vs' H' [] b1 b2 hq hq' (Rs.mono (fun _ _ _ h => h) (fun a _ z => z.elim (fun z => by simp at z) .inr) rs)
      | ex c w ρ' =>
        rw [e] at h
        exact fun σ' p C dd H' as' v hc hd r rel' f => h C dd H' [] v hc hd (wk r) (back f).1 (back f).2
      | bk ρ' => rw [e] at h; exact h.elim
      | ct ρ' => rw [e] at h; exact h.elim
      | bad => rw [e] at h; exact h.elim
  · rw [if_neg hc] at h; exact h.elim
/-- .. whose first argument is a list that the caller holds alone -/
theorem fn_ow {x qual : Str} {st : Stmt} {f : Addr} {fd : FuncData} {N ps : List Str} {k : Nat} {fb : List S → SO} (F : Fun K x qual st f fd) (Sc : FnScope N ps (defScope st))
    (hbody : ∀ (cdv : Value) (A : Around) (outer : List Env) (s : Shared) (H : Hp) (E : XK), Room k (A.deeper (PyProof.Rows.envOfC qual (defScope st) s.heap.objs.size f cdv)) →
      VSs (cxOf (L2.CX P w) P w K mg base N qual (defScope st) f cdv A outer s H E) (fun cls d _ H => E cls d H) (fun i => i = 0) (defBody st) fb) : FnOk P w K mg base (L2.CX P w) (k + 1) f fd ps (spM K mg ps.length (mOw ps.length N.length fb)) := by
  refine F.okX Sc (fun vs H Q E h => spM_len h) (fun cdv A outer s H vs Q E hr h => ⟨_, hbody cdv A outer s H E hr, ?_⟩)
  obtain ⟨B0, as, args, hl, rel, h⟩ := h
  unfold mOw at h
  by_cases hc : allFr args.tail = true ∧ args ≠ [] ∧ args.length = ps.length
  · rw [if_pos hc] at h
    have ha : allFr args.tail = true ∧ args ≠ [] := ⟨hc.1, hc.2.1⟩
    have lv : vs.length = args.length := by have := rel.len; rw [List.length_map] at this; exact this.symm
    obtain ⟨s0, rest, rfl⟩ : ∃ s r, args = s :: r := by
      cases args with
      | nil => exact absurd rfl ha.2
      | cons s r => exact ⟨s, r, rfl⟩
    obtain ⟨v0, vr, rfl⟩ : ∃ v r, vs = v :: r := by
      cases vs with
      | nil => simp at lv
      | cons v r => exact ⟨v, r, rfl⟩
    refine ⟨B0, pad N.length (s0 :: rest), as, ⟨?_, rel.nd, rel.dis, rel.trk⟩, ?_⟩
    · rw [start_eq, lv]
      exact Sl.pad _ rel.sl
    · have s1 := rel.sl
      rw [List.map_cons] at s1
      obtain ⟨m, rr, em, o0, sr⟩ : ∃ m rr, as = m ++ rr ∧ Os K mg H (Bv as B0) s0 (some v0) m ∧ Sl K mg H (Bv as B0) rest (vr.map some) rr := by
        have gen : ∀ {as0 : List Addr}, Sl K mg H (Bv as B0) (s0 :: rest) (some v0 :: vr.map some) as0 → ∃ m rr, as0 = m ++ rr ∧ Os K mg H (Bv as B0) s0 (some v0) m ∧ Sl K mg H (Bv as B0) rest (vr.map some) rr := by
          intro as0 q
          cases q with
          | cons o r => exact ⟨_, _, rfl, o, r⟩
        exact gen s1
      -- the arguments at the end
      have back : ∀ {σ' : L2.St} {as' : List Addr} {H' : Hp} {ρ' : List S} {B1 : Av}, (∀ a, B1 a → B0 a ∨ H a = none) → Rel K mg B1 ρ' σ' H' as' → Fwd as H as' H' → Pin (fun i => i = 0) (L2.start N (v0 :: vr)) σ' →
          ∃ as2, Rel K mg B1 (headS ρ' (s0 :: rest)) ((v0 :: vr).map some) H' as2 ∧ Fwd as H as2 H' ∧ ∀ b, Bv as2 B1 b → Bv as' B1 b := by
        intro σ' as' H' ρ' B1 hB1 r f p
        have p0 := p.eq 0 rfl
        have hs0 : (L2.start N (v0 :: vr))[0]? = some (some v0) := rfl
        rw [hs0] at p0
        have hlen := r.len
        obtain ⟨w0, wr, rfl⟩ : ∃ w r, σ' = w :: r := by
          cases σ' with
          | nil => simp at p0
          | cons w q => exact ⟨w, q, rfl⟩
        cases p0
        obtain ⟨t0, tr, rfl⟩ : ∃ t r, ρ' = t :: r := by
          cases ρ' with
          | nil => simp at hlen
          | cons t q => exact ⟨t, q, rfl⟩
        obtain ⟨m', rr', em', o', sr'⟩ : ∃ m rr, as' = m ++ rr ∧ Os K mg H' (Bv as' B1) t0 (some v0) m ∧ Sl K mg H' (Bv as' B1) tr wr rr := by
          have gen : ∀ {as0 : List Addr}, Sl K mg H' (Bv as' B1) (t0 :: tr) (some v0 :: wr) as0 → ∃ m rr, as0 = m ++ rr ∧ Os K mg H' (Bv as' B1) t0 (some v0) m ∧ Sl K mg H' (Bv as' B1) tr wr rr := by
            intro as0 q
            cases q with
            | cons o r => exact ⟨_, _, rfl, o, r⟩
          exact gen r.sl
        have sub : ∀ a, a ∈ m' → a ∈ as' := fun a h => by rw [em']; exact List.mem_append_left _ h
        have nd := r.nd
        rw [em'] at nd
        refine ⟨m', ⟨?_, (List.nodup_append.mp nd).1, fun a h => r.dis a (sub a h), r.trk⟩, ⟨fun a ob n q => ⟨(f.st a ob n q).1, fun z => (f.st a ob n q).2 (sub a z)⟩, f.tr⟩, fun b q => q.imp (sub b) id⟩
        show Sl K mg H' (Bv m' B1) (t0 :: rest) (some v0 :: vr.map some) m'
        have srr := Sl.keepFr (B' := Bv m' B1) (H' := H') (f.keep (B0 := B0)) (fun a n q => f.bv1 hB1 a n (q.imp (sub a) id)) sr ha.1
        have := Sl.cons (o'.mono (H' := H') (B' := Bv m' B1) (fun _ _ _ h => h) (fun a _ h => h.imp (sub a) id) fun _ _ => rfl) srr
        rw [List.append_nil] at this
        exact this
      have b0 : ∀ a, B0 a → B0 a ∨ H a = none := fun a h => .inl h
      cases e : fb (pad N.length (s0 :: rest)) with
      | nx ρ' =>
        rw [e] at h
        intro σ' H' as' r f p
        obtain ⟨as2, r2, f2, _⟩ := back b0 r f p
        exact h .non H' as2 r2 f2 rfl
      | rt d ρ' =>
        rw [e] at h
        intro v σ' H' as' r f p q
        obtain ⟨as2, r2, f2, wk⟩ := back b0 r f p
        exact h v H' as2 r2 f2 (R.mono (fun _ _ _ h => h) (fun a _ h => wk a h) q)
      | rn d ρ' =>
        rw [e] at h
        intro q vs' σ' H' as' r f p hq hq' rs
        obtain ⟨as2, r2, f2, wk⟩ := back (fun a h => h.elim (fun z => .inr (by rw [z]; exact hq)) .inl) r f p
        exact h q vs' H' as2 r2 f2 hq hq' (Rs.mono (fun _ _ _ h => h) (fun a _ h => wk a h) rs)
      | ex c w ρ' =>
        rw [e] at h
        intro σ' p C dd H' as' v hc hd rw' rel' f
        obtain ⟨as2, r2, f2, wk⟩ := back b0 rel' f p
        exact h C dd H' as2 v hc hd (R.mono (fun _ _ _ h => h) (fun a _ h => wk a h) rw') r2 f2
      | bk ρ' => rw [e] at h; exact h.elim
      | ct ρ' => rw [e] at h; exact h.elim
      | bad => rw [e] at h; exact h.elim
  · rw [if_neg hc] at h; exact h.elim
end

theorem mFr_len {k n : Nat} {fb : List S → SO} {ds : List D} (h : mFr k n fb (ds.map .fr) ≠ .bad) : ds.length = k := by
  unfold mFr at h
  by_cases c : allFr (ds.map S.fr) = true ∧ (ds.map S.fr).length = k
  · have := c.2
    rw [List.length_map] at this
    exact this
  · rw [if_neg c] at h; exact absurd rfl h
theorem mOw_len {k n : Nat} {fb : List S → SO} {xs : List D} {ds : List D} (h : mOw k n fb (.ow xs :: ds.map .fr) ≠ .bad) : ds.length + 1 = k := by
  unfold mOw at h
  by_cases c : allFr (S.ow xs :: ds.map S.fr).tail = true ∧ (S.ow xs :: ds.map S.fr) ≠ [] ∧ (S.ow xs :: ds.map S.fr).length = k
  · have := c.2.2
    rw [List.length_cons, List.length_map] at this
    exact this
  · rw [if_neg c] at h; exact absurd rfl h
/-! ### calls -/
/-- a call whose arguments stand still -/
def eFn (m : List S → FO) (fl : List S → Out (List D)) : List S → Out D := fun ρ => (fl ρ).bind fun ds ρ1 => match m (ds.map .fr) with
  | .ok d _ => .ok d ρ1
  | .nw ds _ => .ok (.lst ds) ρ1
  | .ex c w _ => .ex c w ρ1
  | .bad => .bad
/-- .. whose answer is a new list -/
def nFn (m : List S → FO) (fl : List S → Out (List D)) : List S → Out (List D) := fun ρ => (fl ρ).bind fun ds ρ1 => match m (ds.map .fr) with
  | .nw ds _ => .ok ds ρ1
  | .ex c w _ => .ex c w ρ1
  | _ => .bad
section
variable {X : Cx} {W : WX} {k : Nat} {f : Addr} {fd : FuncData} {ps : List Str} {m : List S → FO} {n : Nat} {x : Str} {p pos : Pos} {e : Expr} {es : List Expr} {fl : List S → Out (List D)}
theorem Sl.frs {K : PySem.W.Frag} {mg : Str → Option Value} {H : Hp} {B : Av} : ∀ {ds : List D} {xs : List V}, Rs K mg H B ds xs → Sl K mg H B (ds.map .fr) (xs.map some) []
  | [], _, r => by cases (show _ = [] from r); exact .nil
  | d :: ds, _, ⟨x, xs, e, r, rr⟩ => by rw [e]; exact .cons (as := []) ⟨rfl, x, rfl, r⟩ (Sl.frs rr)
theorem fn_post (hl : ∀ ds : List D, m (ds.map .fr) ≠ .bad → ds.length = n) {σ : L2.St} {H : Hp} {Q : VK} (h : tE X.K X.mg W (eFn m fl) σ H Q) : tA X.K X.mg W fl σ H fun vs H1 => spM X.K X.mg n m vs H1 Q (WE W σ) := by
  obtain ⟨B0, ρ, as, rel, h⟩ := h
  refine ⟨B0, ρ, as, rel, h.bind fun ds ρ1 h1 xs H1 as1 rel1 f1 r1 => ?_⟩
  refine ⟨Bv as1 B0, [], ds.map .fr, ?_, ⟨?_, List.nodup_nil, fun a h => by simp at h, fun a h => rel1.tracked h⟩, ?_⟩
  · rw [List.length_map]
    refine hl ds fun z => ?_
    rw [z] at h1
    exact h1
  · exact Sl.frs (Rs.mono (fun _ _ _ h => h) (fun a _ q => q.elim (fun z => by simp at z) id) r1)
  · have same : ∀ {as' : List Addr} {H' : Hp}, Fwd [] H1 as' H' → Same H1 H' := fun f a o q => (f.st a o (by simp) q).1
    have wk : ∀ {as' : List Addr} {H' : Hp} {d : D} {v : V}, R X.K X.mg H' (Bv as' (Bv as1 B0)) d v → R X.K X.mg H' (Bv as1 B0) d v := fun r => R.mono (fun _ _ _ h => h) (fun a _ q => .inr q) r
    cases em : m (ds.map .fr) with
    | ok d outs =>
      rw [em] at h1
      intro v H' as' rel' f' r'
      obtain ⟨rel2, f2⟩ := rel1.same (same f')
      exact h1 v H' as1 rel2 (f1.trans f2) (wk r')
    | nw ds outs =>
      rw [em] at h1
      intro p vs H' as' rel' f' hp hp' rs
      obtain ⟨rel2, f2⟩ := rel1.same (same f')
      exact h1 _ H' as1 rel2 (f1.trans f2) ⟨p, vs, rfl, ⟨hp', fun z => rel1.tracked z hp⟩, Rs.mono (fun _ _ _ h => h) (fun a _ z => .inr (.inr z)) rs⟩
    | ex c w outs =>
      rw [em] at h1
      intro C dd H' as' v hc hd rw' rel' f'
      obtain ⟨rel2, f2⟩ := rel1.same (same f')
      exact h1 C dd H' as1 v hc hd (wk rw') rel2 (f1.trans f2)
    | bad => rw [em] at h1; exact h1.elim
theorem fnN_post (hl : ∀ ds : List D, m (ds.map .fr) ≠ .bad → ds.length = n) {σ : L2.St} {H : Hp} {Q : VK} (h : tN X.K X.mg W (nFn m fl) σ H Q) : tA X.K X.mg W fl σ H fun vs H1 => spM X.K X.mg n m vs H1 Q (WE W σ) := by
  obtain ⟨B0, ρ, as, rel, h⟩ := h
  refine ⟨B0, ρ, as, rel, h.bind fun ds ρ1 h1 xs H1 as1 rel1 f1 r1 => ?_⟩
  refine ⟨Bv as1 B0, [], ds.map .fr, ?_, ⟨?_, List.nodup_nil, fun a h => by simp at h, fun a h => rel1.tracked h⟩, ?_⟩
  · rw [List.length_map]
    refine hl ds fun z => ?_
    rw [z] at h1
    exact h1
  · exact Sl.frs (Rs.mono (fun _ _ _ h => h) (fun a _ q => q.elim (fun z => by simp at z) id) r1)
  · have same : ∀ {as' : List Addr} {H' : Hp}, Fwd [] H1 as' H' → Same H1 H' := fun f a o q => (f.st a o (by simp) q).1
    have wk : ∀ {as' : List Addr} {H' : Hp} {d : D} {v : V}, R X.K X.mg H' (Bv as' (Bv as1 B0)) d v → R X.K X.mg H' (Bv as1 B0) d v := fun r => R.mono (fun _ _ _ h => h) (fun a _ q => .inr q) r
    cases em : m (ds.map .fr) with
    | ok d outs => rw [em] at h1; exact h1.elim
    | nw ds outs =>
      rw [em] at h1
      intro p vs H' as' rel' f' hp hp' rs
      obtain ⟨rel2, f2⟩ := rel1.same (same f')
      have relp : Rel X.K X.mg (Plus B0 p) ρ1 σ H' as1 := by
        refine ⟨rel1.sl.mono (fun a o _ q => same f' a o q) (fun a n q => ?_) fun a ha => ?_, rel1.nd, fun a ha => ?_, fun a z => ?_⟩
        · rcases q with q | rfl | q
          · exact .inl q
          · exact absurd hp n
          · exact .inr q
        · cases e : H1 a with
          | none => exact absurd e (rel1.sl.tracked a ha)
          | some o => exact same f' a o e
        · rintro (rfl | z)
          · exact rel1.sl.tracked a ha hp
          · exact rel1.dis a ha z
        · rcases z with rfl | z
          · rw [hp']; intro z; cases z
          · exact f'.tr a (rel1.trk a z)
      exact h1 p vs H' as1 relp (f1.trans f2) (f1.unt hp) hp' (Rs.mono (fun _ _ _ h => h) (fun a _ z => .inr (by
        rcases z with z | z | z
        · exact .inr (.inl z)
        · exact .inl z
        · exact .inr (.inr z))) rs)
    | ex c w outs =>
      rw [em] at h1
      intro C dd H' as' v hc hd rw' rel' f'
      obtain ⟨rel2, f2⟩ := rel1.same (same f')
      exact h1 C dd H' as1 v hc hd (wk rw') rel2 (f1.trans f2)
    | bad => rw [em] at h1; exact h1.elim
theorem vn_call (F : FnOk X.prog X.w X.K X.mg X.base (L2.CX X.prog X.w) k f fd ps (spM X.K X.mg n m)) (hl : ∀ ds : List D, m (ds.map .fr) ≠ .bad → ds.length = n) (hr : Room k X.A) (hg : Gl X x) (hm : X.mg x = some (.ref f)) (hk : PySem.W.keepIn X.K (.ref f) = true) (hb : Binds X.K fd ps []) (tk : Takes X W)
    (ha : VA X W (e :: es) fl) (hdb : (x == ("__debug__" : Str)) = false := by decide) (he : starEach (e :: es) X.env = (false, eval e X.env) :: starEach es X.env := by rfl) (hpl : (backTo pos (starEach es X.env)).any (·.1) = false := by rfl) : VN X W (.Call (.Name x p) (e :: es) [] pos) (nFn m fl) :=
  PE_weak (pe_callS F hr hg hm hk hb (fun σ => passAt tk σ) ha hdb he hpl) fun _ _ _ h => fnN_post hl h
theorem ve_call (F : FnOk X.prog X.w X.K X.mg X.base (L2.CX X.prog X.w) k f fd ps (spM X.K X.mg n m)) (hl : ∀ ds : List D, m (ds.map .fr) ≠ .bad → ds.length = n) (hr : Room k X.A) (hg : Gl X x) (hm : X.mg x = some (.ref f)) (hk : PySem.W.keepIn X.K (.ref f) = true) (hb : Binds X.K fd ps []) (tk : Takes X W)
    (ha : VA X W (e :: es) fl) (hdb : (x == ("__debug__" : Str)) = false := by decide) (he : starEach (e :: es) X.env = (false, eval e X.env) :: starEach es X.env := by rfl) (hpl : (backTo pos (starEach es X.env)).any (·.1) = false := by rfl) : VE X W (.Call (.Name x p) (e :: es) [] pos) (eFn m fl) :=
  PE_weak (pe_callS F hr hg hm hk hb (fun σ => passAt tk σ) ha hdb he hpl) fun _ _ _ h => fn_post hl h
/-- the first argument a list held alone at slot j -/
def eFnO (j : Nat) (m : List S → FO) (fl : List S → Out (List D)) : List S → Out D := fun ρ => match ρ[j]? with
  | some (.ow _) => (fl ρ).bind fun ds ρ1 => (match ρ1[j]? with
    | some (.ow xs) => (match m (.ow xs :: ds.map .fr) with
      | .ok d (s :: _) => .ok d (ρ1.set j s)
      | .nw ds (s :: _) => .ok (.lst ds) (ρ1.set j s)
      | .ex c w (s :: _) => .ex c w (ρ1.set j s)
      | _ => .bad)
    | _ => .bad)
  | _ => .bad
theorem fnO_post {j : Nat} (hl : ∀ (xs : List D) (ds : List D), m (.ow xs :: ds.map .fr) ≠ .bad → ds.length + 1 = n) {σ : L2.St} {H : Hp} {Q : VK} (h : tE X.K X.mg W (eFnO j m fl) σ H Q) :
    tCons (tVar j) (tA X.K X.mg W fl) σ H fun vs H1 => spM X.K X.mg n m vs H1 Q (WE W σ) := by
  obtain ⟨B0, ρ, as, rel, h⟩ := h
  unfold eFnO at h
  split at h
  · rename_i xs0 e0
    obtain ⟨a, vs, es, ha, rs, _, _⟩ := rel.held e0
    refine ⟨_, es, B0, ρ, as, rel, h.bind fun ds ρ1 h1 us H1 as1 rel1 f1 r1 => ?_⟩
    split at h1
    · rename_i xs e1
      obtain ⟨l, mm, rr, v, ea, ev, o, put⟩ := rel1.sl.at e1
      obtain ⟨a1, vs1, rfl, rfl, ha1, rs1⟩ := o
      rw [es] at ev
      cases ev
      have nd := rel1.nd
      rw [ea] at nd
      have n1 := List.nodup_append.mp nd
      have n2 := List.nodup_append.mp n1.1
      -- the callee keeps away from all else
      have b1 : ∀ b, Bv [a] (fun b => b ∈ l ∨ b ∈ rr ∨ B0 b) b ↔ Bv as1 B0 b := fun b => by
        unfold Bv
        rw [ea]
        simp only [List.mem_append, List.mem_singleton]
        constructor
        · rintro (h | h | h | h)
          · exact .inl (.inl (.inr h))
          · exact .inl (.inl (.inl h))
          · exact .inl (.inr h)
          · exact .inr h
        · rintro (((h | h) | h) | h)
          · exact .inr (.inl h)
          · exact .inl h
          · exact .inr (.inr (.inl h))
          · exact .inr (.inr (.inr h))
      refine ⟨fun b => b ∈ l ∨ b ∈ rr ∨ B0 b, [a], .ow xs :: ds.map .fr, ?_, ⟨?_, by simp, fun b hb => ?_, fun b hb => ?_⟩, ?_⟩
      · rw [List.length_cons, List.length_map]
        refine hl xs ds fun z => ?_
        rw [z] at h1
        exact h1
      · have q1 : Rs X.K X.mg H1 (Bv [a] fun b => b ∈ l ∨ b ∈ rr ∨ B0 b) ds us := Rs.mono (fun _ _ _ h => h) (fun b _ q => (b1 b).mp q) r1
        have q2 : Rs X.K X.mg H1 (Bv [a] fun b => b ∈ l ∨ b ∈ rr ∨ B0 b) xs vs1 := Rs.mono (fun _ _ _ h => h) (fun b _ q => (b1 b).mp q) rs1
        exact .cons (as := [a]) (bs := []) ⟨a, vs1, rfl, rfl, ha1, q2⟩ (Sl.frs q1)
      · have : b = a := by simpa using hb
        subst this
        rintro (z | z | z)
        · exact n2.2.2 b z b (by simp) rfl
        · exact n1.2.2 b (by simp) b z rfl
        · exact rel1.dis b (by rw [ea]; simp) z
      · refine rel1.tracked ?_
        rcases hb with z | z | z
        · exact .inl (by rw [ea]; simp [z])
        · exact .inl (by rw [ea]; simp [z])
        · exact .inr z
      · -- behind the call
        have fin : ∀ {s : S} {outs : List S} {H' : Hp} {as' : List Addr}, Rel X.K X.mg (fun b => b ∈ l ∨ b ∈ rr ∨ B0 b) (s :: outs) ((V.ref a :: us).map some) H' as' → Fwd [a] H1 as' H' →
            ∃ as2, Rel X.K X.mg B0 (ρ1.set j s) σ H' as2 ∧ Fwd as1 H1 as2 H' ∧ ∀ {d : D} {v : V}, R X.K X.mg H' (Bv as' fun b => b ∈ l ∨ b ∈ rr ∨ B0 b) d v → R X.K X.mg H' (Bv as2 B0) d v := by
          intro s outs H' as' rel' f'
          obtain ⟨m', r', em', o', _⟩ : ∃ m rr', as' = m ++ rr' ∧ Os X.K X.mg H' (Bv as' fun b => b ∈ l ∨ b ∈ rr ∨ B0 b) s (some (.ref a)) m ∧ True := by
            have gen : ∀ {as0 : List Addr} {σ0 : L2.St}, Sl X.K X.mg H' (Bv as' fun b => b ∈ l ∨ b ∈ rr ∨ B0 b) (s :: outs) (some (.ref a) :: σ0) as0 → ∃ m rr', as0 = m ++ rr' ∧ Os X.K X.mg H' (Bv as' fun b => b ∈ l ∨ b ∈ rr ∨ B0 b) s (some (.ref a)) m ∧ True := by
              intro as0 σ0 q
              cases q with
              | cons o r => exact ⟨_, _, rfl, o, trivial⟩
            exact gen rel'.sl
          have sub : ∀ b, Bv (l ++ m' ++ rr) B0 b → Bv as' (fun b => b ∈ l ∨ b ∈ rr ∨ B0 b) b := fun b hb => by
            rcases hb with hb | hb
            · simp only [List.mem_append] at hb
              rcases hb with (hb | hb) | hb
              · exact .inr (.inl hb)
              · exact .inl (by rw [em']; exact List.mem_append_left _ hb)
              · exact .inr (.inr (.inl hb))
            · exact .inr (.inr (.inr hb))
          have m1 : ∀ b ∈ m', b ∈ as' := fun b hb => by rw [em']; exact List.mem_append_left _ hb
          have kp : ∀ {b : Addr} {ob : HO}, b ≠ a → H1 b = some ob → H' b = some ob ∧ b ∉ as' := fun {b ob} n q => f'.st b ob (by simpa using n) q
          have la : ∀ b, b ∈ l ∨ b ∈ rr → b ≠ a := fun b hb z => by
            subst z
            rcases hb with z | z
            · exact n2.2.2 b z b (by simp) rfl
            · exact n1.2.2 b (by simp) b z rfl
          have same1 : ∀ b, b ∈ l ∨ b ∈ rr → H' b = H1 b := fun b hb => by
            have : H1 b ≠ none := rel1.tracked (.inl (by rw [ea]; simp only [List.mem_append]; exact hb.elim (fun z => .inl (.inl z)) .inr))
            cases q : H1 b with
            | none => exact absurd q this
            | some ob => exact (kp (la b hb) q).1
          have hB : ∀ b, H1 b ≠ none → Bv (l ++ m' ++ rr) B0 b → Bv as1 B0 b := fun b n q => by
            rcases q with q | q
            · simp only [List.mem_append] at q
              refine .inl ?_
              rw [ea]
              simp only [List.mem_append, List.mem_singleton]
              rcases q with (q | q) | q
              · exact .inl (.inl q)
              · by_cases z : b = a
                · exact .inl (.inr z)
                · cases w : H1 b with
                  | none => exact absurd w n
                  | some ob => exact absurd (m1 b q) (kp z w).2
              · exact .inr q
            · exact .inr q
          have sl := put H' (Bv (l ++ m' ++ rr) B0) s (some (.ref a)) m' (fun {s v as0} hm os => os.mono (fun b ob n q => (kp (fun z => n (.inl (by rw [ea, z]; simp))) q).1) hB fun b hb => same1 b (hm b hb))
            (o'.mono (fun _ _ _ h => h) (fun b _ q => sub b q) fun _ _ => rfl)
          rw [set_self es] at sl
          refine ⟨l ++ m' ++ rr, ⟨sl, ?_, fun b hb => ?_, fun b hb => f'.tr b (rel1.trk b hb)⟩, ⟨fun b ob n q => ?_, f'.tr⟩, fun {d v} q => R.mono (fun _ _ _ h => h) (fun b _ q => sub b q) q⟩
          · have nd' := rel'.nd
            rw [em'] at nd'
            refine List.nodup_append.mpr ⟨List.nodup_append.mpr ⟨n2.1, (List.nodup_append.mp nd').1, fun b hb c hc z => ?_⟩, n1.2.1, fun b hb c hc z => ?_⟩
            · subst z
              exact rel'.dis b (m1 b hc) (.inl hb)
            · subst z
              rcases List.mem_append.mp hb with hb | hb
              · exact n1.2.2 b (List.mem_append_left _ hb) b hc rfl
              · exact rel'.dis b (m1 b hb) (.inr (.inl hc))
          · simp only [List.mem_append] at hb
            rcases hb with (hb | hb) | hb
            · exact rel1.dis b (by rw [ea]; simp [hb])
            · exact fun z => rel'.dis b (m1 b hb) (.inr (.inr z))
            · exact rel1.dis b (by rw [ea]; simp [hb])
          · have ba : b ≠ a := fun z => n (by rw [ea, z]; simp)
            obtain ⟨h1', h2'⟩ := kp ba q
            refine ⟨h1', fun z => ?_⟩
            simp only [List.mem_append] at z
            rcases z with (z | z) | z
            · exact n (by rw [ea]; simp [z])
            · exact h2' (m1 b z)
            · exact n (by rw [ea]; simp [z])
        cases em : m (.ow xs :: ds.map .fr) with
        | ok d outs =>
          rw [em] at h1
          cases outs with
          | nil => exact h1.elim
          | cons s outs =>
            intro v H' as' rel' f' r'
            obtain ⟨as2, rel2, f2, wk⟩ := fin rel' f'
            exact h1 v H' as2 rel2 (f1.trans f2) (wk r')
        | nw ds outs =>
          rw [em] at h1
          cases outs with
          | nil => exact h1.elim
          | cons s outs =>
            intro p vs H' as' rel' f' hp hp' rs
            have relB : Rel X.K X.mg (fun b => b ∈ l ∨ b ∈ rr ∨ B0 b) (s :: outs) ((V.ref a :: us).map some) H' as' := rel'.unplus
            obtain ⟨as2, rel2, f2, wk⟩ := fin relB f'
            refine h1 _ H' as2 rel2 (f1.trans f2) (wk ⟨p, vs, rfl, ⟨hp', fun z => ?_⟩, rs.unplus⟩)
            rcases z with z | z
            · exact rel'.dis p z (.inl rfl)
            · refine rel1.tracked (a := p) ?_ hp
              rcases z with z | z | z
              · exact .inl (by rw [ea]; simp [z])
              · exact .inl (by rw [ea]; simp [z])
              · exact .inr z
        | ex c w outs =>
          rw [em] at h1
          cases outs with
          | nil => exact h1.elim
          | cons s outs =>
            intro C dd H' as' v hc hd rw' rel' f'
            obtain ⟨as2, rel2, f2, wk⟩ := fin rel' f'
            exact h1 C dd H' as2 v hc hd (wk rw') rel2 (f1.trans f2)
        | bad => rw [em] at h1; exact h1.elim
    · exact h1.elim
  · exact h.elim
theorem ve_callO {j : Nat} {y : Str} {p2 : Pos} (F : FnOk X.prog X.w X.K X.mg X.base (L2.CX X.prog X.w) k f fd ps (spM X.K X.mg n m)) (hl : ∀ (xs : List D) (ds : List D), m (.ow xs :: ds.map .fr) ≠ .bad → ds.length + 1 = n) (hr : Room k X.A) (hg : Gl X x) (hm : X.mg x = some (.ref f)) (hk : PySem.W.keepIn X.K (.ref f) = true) (hb : Binds X.K fd ps []) (tk : Takes X W)
    (hi : X.N[j]? = some y) (hv : Vis X.env.scope y) (ha : VA X W es fl) (hd : (y == ("__debug__" : Str)) = false := by decide) (hcd : (y == ("__classdict__" : Str)) = false := by decide)
    (hs : starEach (.Name y p2 :: es) X.env = (false, eval (.Name y p2) X.env) :: starEach es X.env := by rfl) (hdb : (x == ("__debug__" : Str)) = false := by decide) (hpl : (backTo pos (starEach es X.env)).any (·.1) = false := by rfl) :
    VE X W (.Call (.Name x p) (.Name y p2 :: es) [] pos) (eFnO j m fl) :=
  PE_weak (pe_callS F hr hg hm hk hb (fun σ => passAt tk σ) (pa_cons (pe_var hi hv hd hcd) ha hs) hdb hs hpl) fun _ _ _ h => fnO_post hl h
end
end VS
/-! ## VS7 -/
set_option Elab.async false
set_option linter.all false
set_option maxRecDepth 100000
set_option maxHeartbeats 4000000
set_option autoImplicit false
namespace L2
open PySem PySem.Spec PyProof.Rows
/-- a clause: except C: suite; except C as n: suite (n in slot i) -/
inductive HdE where
  | pl (c : Value) (ts : Addr → Value → Option Addr → TS)
  | as (c : Value) (i : Nat) (ts : Addr → Value → Option Addr → TS)
def wMix (K : PySem.W.Frag) (Wout : WX) (D : Ends) : List HdE → WX
  | [] => Wout
  | .pl c ts :: r => fun cls d σ H => ∃ b, PySem.W.exmOne K cls c = some b ∧ (b = true → ∀ a, H a = none → ts a cls d D σ H) ∧ (b = false → wMix K Wout D r cls d σ H)
  | .as c i ts :: r => fun cls d σ H => ∃ b, PySem.W.exmOne K cls c = some b ∧
      (b = true → ∀ a, H a = none → ts a cls d { nx := fun σ' H' => D.nx (σ'.set i none) H', rt := D.rt, bk := fun σ' H' => D.bk (σ'.set i none) H', ct := fun σ' H' => D.ct (σ'.set i none) H' } (σ.set i (some (.ref a))) H) ∧ (b = false → wMix K Wout D r cls d σ H)
inductive HdsX (X : Cx) : List ExceptHandler → List HdE → Prop
  | nil : HdsX X [] []
  | pl {x : Str} {c : Value} {ts : Addr → Value → Option Addr → TS} {b₀ : Stmt} {suite : List Stmt} {np pos' : Pos} {hds : List ExceptHandler} {l : List HdE} (hc : Names X x c)
      (hsu : ∀ (a : Addr) (oe : Obj) (cls : Value) (d : Option Addr) (pn : List (Addr × Obj)), Zc cls d oe → (∃ vs, oe.data = .fields vs) → PSs (X.suite a ((a, oe) :: pn)) (b₀ :: suite) (ts a cls d)) (r : HdsX X hds l) :
      HdsX X (.ExceptHandler (some (.Name x np)) none (b₀ :: suite) pos' :: hds) (.pl c ts :: l)
  | as {x n : Str} {c : Value} {i : Nat} {ts : Addr → Value → Option Addr → TS} {b₀ : Stmt} {suite : List Stmt} {np pos' : Pos} {hds : List ExceptHandler} {l : List HdE} (hc : Names X x c) (hN : X.N.Nodup) (hi : X.N[i]? = some n) (hln : X.env.kindOf n = some .local)
      (hsu : ∀ (a : Addr) (oe : Obj) (cls : Value) (d : Option Addr) (pn : List (Addr × Obj)), Zc cls d oe → (∃ vs, oe.data = .fields vs) → PSs (X.suite a ((a, oe) :: pn)) (b₀ :: suite) (ts a cls d)) (r : HdsX X hds l) :
      HdsX X (.ExceptHandler (some (.Name x np)) (some n) (b₀ :: suite) pos' :: hds) (.as c i ts :: l)
section
variable {X : Cx} {body : List Stmt} {h₀ : ExceptHandler} {hds : List ExceptHandler} {l : List HdE} {pos : Pos} {tb : WX → TS} {Wout : WX}
theorem ps_try_mix (hs : X.stack = X.env :: X.outer) (hf : X.env.frame = some X.env.locals) (tk : Takes X Wout)
    (hb : ∀ (W : WX) (pn : List (Addr × Obj)) (xe : Value → Shared → Prop), Takes (X.tr pn xe) W → PassesOwn (model X.prog X.w) X.A X.env xe → PSs (X.tr pn xe) body (tb W))
    (hh : HdsX X (h₀ :: hds) l) : PS X (.Try body (h₀ :: hds) [] [] pos) (fun D σ H => tb (wMix X.K Wout D l) D σ H) := by
  refine ⟨fun pins s σ H D I h => ?_⟩
  have ok := I.ok
  have hfr : X.A.frames = some (X.env :: X.outer) := by rw [ok.frames, hs]
  refine wpAny_Try_except ?_
  refine wpAny_mono ((hb (wMix X.K Wout D l) (X.pn ++ pins) (fun e s₁ => wpAny (model X.prog X.w) X.A (noteFrame e X.env) (fun _ s₂ => wpAny (model X.prog X.w) X.A (setFlight e none) (fun _ s₃ =>
    wpAny (model X.prog X.w) X.A (handleBy e X.env (h₀ :: hds)) (SP X pins D) X.xe s₃) X.xe s₂) X.xe s₁) (fun u s' xx => ?_) PassesOwn.looking).run [] s σ H D (I.toTry _) h) (fun f s1 hsp => ?_) (fun e s1 he => he)
  · -- the catch
    obtain ⟨a, B, sI, pins', σ', H', cls, d, rfl, J', nb, up, sky, na, os, ag, w⟩ := xx
    have J : Inv X pins σ' H' sI := J'.ofTry ok
    have sky' : Sky B (X.env :: X.outer) a (Zc cls d) X.env.locals s'.heap := by rw [← hs]; exact sky
    show wpAny (model X.prog X.w) X.A (noteFrame (.ref a) X.env) _ _ _
    refine Sky.land Zc.steady hfr hf sky' fun h3 fl3 up3 => ?_
    have J3 : Inv X pins σ' H' { s' with heap := h3 } := J.landed nb fl3.1 (up.trans up3) os ag
    obtain ⟨oe3, vs3, he3, hz3, hd3⟩ := fl3.there
    have notFr : ∀ {h : Heap} {o : Obj} {vs : Array Value}, h.FunFrames B (X.env :: X.outer) → h.get? a = some o → o.data = .fields vs → a ∉ frs (X.env :: X.outer) := fun {h o vs} ff e dd hm => by
      obtain ⟨_, o', e', hnf⟩ := ff.mem hm
      rw [e] at e'; cases e'
      exact hnf _ dd
    have nfr := notFr fl3.2.2.1 he3 hd3
    have nL : a ≠ X.env.locals := fun z => nfr (List.mem_filterMap.mpr ⟨X.env, List.mem_cons_self, by rw [hf, z]⟩)
    have nF : a ∉ X.fs := fun hm => by
      obtain ⟨e, he, q⟩ := List.mem_filterMap.mp hm
      exact nfr (List.mem_filterMap.mpr ⟨e, List.mem_cons_of_mem _ he, q⟩)
    have S3 := J3.suite he3 hd3 na nL nF
    have go : ∀ {hds' : List ExceptHandler} {l' : List HdE}, HdsX X hds' l' → wMix X.K Wout D l' cls d σ' H' →
        wpAny (model X.prog X.w) X.A (handleBy (.ref a) X.env hds') (SP X pins D) X.xe { s' with heap := h3 } := by
      intro hds' l' hk
      induction hk with
      | nil =>
        intro w
        refine wpAny_handleBy_nil ?_
        obtain ⟨k1, k2, k3, oe, vs, T, oT, ts', he, hz, hd, h1, hr⟩ := id fl3
        unfold PySem.passOn
        refine wpAny_bind (wpAny_field he hd h1 ?_)
        rw [if_neg (show ¬ ((Value.ref T == Value.none) = true) from by simp)]
        have fin : wpAny (model X.prog X.w) X.A (setFlight (.ref a) X.env.frame) (fun _ s4 => wpAny (model X.prog X.w) X.A (throw (.ref a) : Sem Flow) (SP X pins D) X.xe s4) X.xe { s' with heap := h3 } := by
          rw [hf]
          refine HandSPX.setFlight_upZ fl3 fun h4 hh4 up4 => wpAny_throw (tk _ _ ?_)
          exact ⟨a, B, sI, pins, σ', H', cls, d, rfl, J, nb, (up.trans up3).trans up4, .inr (.inr (by rw [hs]; exact hh4)), na, os, ag, w⟩
        first
          | exact wpAny_bind (wpAny_pure (wpAny_bind fin))
          | exact wpAny_bind fin
      | @pl x c ts b₀ suite np pos' hds2 l2 hc hsu r ih =>
        intro w
        obtain ⟨b, hb1, hyes, hno⟩ := w
        refine wpAny_handleBy_cons (codeAny_handlers_test ?_) (by intro q; cases q)
        have LT : PySem.W.Looks (model X.prog X.w) h3 (typeOf (.ref a)) cls := fun A Q E s k q => wpAny_typeOf_ref (k _ _ he3) (by rw [hz3.1]; exact q)
        have LM := PySem.W.exm_one (M := model X.prog X.w) (J3.kIn) LT hb1
        have test : ∀ {Q : Value → Shared → Prop} {E : Value → Shared → Prop}, Q c { s' with heap := h3 } → wpAny (model X.prog X.w) (X.A.mark (some (.ref a))) (eval (.Name x np) X.env) Q E { s' with heap := h3 } := fun {Q E} q => by
          obtain ⟨hg, hdbg, hm | ⟨hm, hv, hnn⟩⟩ := hc
          · exact ld_glob (X := X.suite a ((a, oe3) :: (X.pn ++ pins))) S3 hg hm q hdbg
          · exact ld_blt (X := X.suite a ((a, oe3) :: (X.pn ++ pins))) S3 hg hm hv q hnn hdbg
        refine test (LM.here ?_)
        cases b with
        | true =>
          refine codeAny_handlers_suite ?_
          refine HandSPX.lands_againZ fl3 fun h4 fl4 up4 => ?_
          have J4 : Inv X pins σ' H' { s' with heap := h4 } := J.landed nb fl4.1 ((up.trans up3).trans up4) os ag
          obtain ⟨oe4, vs4, he4, hz4, hd4⟩ := fl4.there
          have S4 := J4.suite he4 hd4 na nL nF
          refine wpAny_mono ((hsu a oe4 cls d (X.pn ++ pins) hz4 ⟨_, hd4⟩).run [] _ _ H' _ S4 (hyes rfl a na)) (fun f s6 hsp => ?_) (fun _ _ z => False.elim z)
          cases f with
          | next =>
            obtain ⟨σ6, H6, S6, q6⟩ := hsp
            exact ⟨_, _, S6.unsuite ok, q6⟩
          | brk =>
            obtain ⟨σ6, H6, S6, q6⟩ := hsp
            exact ⟨_, _, S6.unsuite ok, q6⟩
          | cont =>
            obtain ⟨σ6, H6, S6, q6⟩ := hsp
            exact ⟨_, _, S6.unsuite ok, q6⟩
          | ret u =>
            obtain ⟨v6, σ6, H6, S6, r6, q6⟩ := hsp
            exact ⟨_, _, _, S6.unsuite ok, r6, q6⟩
        | false =>
          show wpAny _ X.A (handleBy (.ref a) X.env hds2) _ _ _
          exact ih (hno rfl)
      | @as x n c i ts b₀ suite np pos' hds2 l2 hc hN hi hln hsu r ih =>
        intro w
        obtain ⟨b, hb1, hyes, hno⟩ := w
        have hloc : Loc X.env.scope n := .inl hln
        refine wpAny_handleBy_cons (codeAny_handlers_test ?_) (by intro q; cases q)
        have LT : PySem.W.Looks (model X.prog X.w) h3 (typeOf (.ref a)) cls := fun A Q E s k q => wpAny_typeOf_ref (k _ _ he3) (by rw [hz3.1]; exact q)
        have LM := PySem.W.exm_one (M := model X.prog X.w) (J3.kIn) LT hb1
        have test : ∀ {Q : Value → Shared → Prop} {E : Value → Shared → Prop}, Q c { s' with heap := h3 } → wpAny (model X.prog X.w) (X.A.mark (some (.ref a))) (eval (.Name x np) X.env) Q E { s' with heap := h3 } := fun {Q E} q => by
          obtain ⟨hg, hdbg, hm | ⟨hm, hv, hnn⟩⟩ := hc
          · exact ld_glob (X := X.suite a ((a, oe3) :: (X.pn ++ pins))) S3 hg hm q hdbg
          · exact ld_blt (X := X.suite a ((a, oe3) :: (X.pn ++ pins))) S3 hg hm hv q hnn hdbg
        refine test (LM.here ?_)
        cases b with
        | true =>
          refine codeAny_handlers_suite_as ?_
          refine HandSPX.lands_againZ fl3 fun h4 fl4 up4 => ?_
          have J4 : Inv X pins σ' H' { s' with heap := h4 } := J.landed nb fl4.1 ((up.trans up3).trans up4) os ag
          obtain ⟨oe4, vs4, he4, hz4, hd4⟩ := fl4.there
          have S4 := J4.suite he4 hd4 na nL nF
          refine store_ok (X := X.suite a ((a, oe4) :: (X.pn ++ pins))) (v := .ref a) S4 hN hi hloc rfl (fun s5 S5 => ?_) (.inr hln)
          refine wpAny_mono ((hsu a oe4 cls d (X.pn ++ pins) hz4 ⟨_, hd4⟩).run [] s5 _ H' _ S5 (hyes rfl a na)) (fun f s6 hsp => ?_) (fun _ _ z => False.elim z)
          have end_ : ∀ {σ6 : L2.St} {H6 : Hp} {Q : Shared → Prop}, Inv (X.suite a ((a, oe4) :: (X.pn ++ pins))) [] σ6 H6 s6 → (∀ s7, Inv X pins (σ6.set i none) H6 s7 → Q s7) →
              wpAny (model X.prog X.w) X.A (do bindName X.env n .none; unbindBehindTheSuite X.env n pos') (fun _ s7 => Q s7) X.xe s6 := fun {σ6 H6 Q} S6 hq => gone_ok (S6.unsuite ok) hN hi hln hq
          cases f with
          | next =>
            obtain ⟨σ6, H6, S6, q6⟩ := hsp
            exact end_ S6 fun s7 J7 => ⟨_, _, J7, q6⟩
          | brk =>
            obtain ⟨σ6, H6, S6, q6⟩ := hsp
            exact end_ S6 fun s7 J7 => ⟨_, _, J7, q6⟩
          | cont =>
            obtain ⟨σ6, H6, S6, q6⟩ := hsp
            exact end_ S6 fun s7 J7 => ⟨_, _, J7, q6⟩
          | ret u =>
            obtain ⟨v6, σ6, H6, S6, r6, q6⟩ := hsp
            exact end_ S6 fun s7 J7 => ⟨_, _, _, J7, r6, q6⟩
        | false =>
          show wpAny _ X.A (handleBy (.ref a) X.env hds2) _ _ _
          exact ih (hno rfl)
    exact go hh w
  · cases f with
    | next =>
      obtain ⟨σ', H', J', q⟩ := hsp
      exact wpAny_execs_nil ⟨σ', H', J'.ofTry ok, q⟩
    | brk =>
      obtain ⟨σ', H', J', q⟩ := hsp
      exact ⟨σ', H', J'.ofTry ok, q⟩
    | cont =>
      obtain ⟨σ', H', J', q⟩ := hsp
      exact ⟨σ', H', J'.ofTry ok, q⟩
    | ret u =>
      obtain ⟨v, σ', H', J', r, q⟩ := hsp
      exact ⟨v, σ', H', J'.ofTry ok, r, q⟩
end
end L2
namespace VS
open PySem PySem.Spec L2
/-! ### an error of the text's own is made and raised -/
/-- the promise of the errors' __init__: self.what = what -/
def spIni (K : PySem.W.Frag) : Sp := fun vs H Q _ => ∃ (a C : Addr) (y : V), vs = [.ref a, y] ∧ OexC K C ∧ PySem.W.findIn K (.ref C) "what" = some none ∧ H a = some (exo a C none) ∧
  ∀ dx, H dx = none → dx ≠ a → Q .non (upd (upd H dx (exd dx [(("what" : Str), y)])) a (exo a C (some dx)))
/-- what the written part says of an error's class -/
structure ErrC (K : PySem.W.Frag) (fI : Addr) (C : Addr) : Prop where
  T : OexC K C
  iC : PySem.W.findIn K (.ref C) "__init__" = some (some (.ref fI))
  no : PySem.W.findIn K (.ref C) "what" = some none
theorem ok_ini {P : Program} {w : World} {K : PySem.W.Frag} {mg : Str → Option Value} {base : Heap} {f : Addr} {fd : FuncData} {qual : Str} {st : Stmt} {p1 p2 p3 p4 : Pos} (F : Fun K "__init__" qual st f fd) (Sc : FnScope ["self", "what"] ["self", "what"] (defScope st))
    (hb : defBody st = [.Assign [.Attribute (.Name "self" p1) "what" p2] (.Name "what" p3) p4]) (v1 : (defScope st).names.lookup (("self" : Str)) = some NameKind.local) (v2 : (defScope st).names.lookup (("what" : Str)) = some NameKind.local)
    (hs : ∀ env : Env, env.scope = defScope st → swapsWith (.Name "what" p3) (some (.Attribute (.Name "self" p1) "what" p2)) p4.line env = pure false := by intro _ _; rfl) :
    FnOk P w K mg base (L2.CX P w) 1 f fd ["self", "what"] (spIni K) := by
  refine F.okX Sc (fun vs H Q E h => ?_) (fun cdv A outer s H vs Q E hr h => ?_)
  · obtain ⟨a, C, y, rfl, _⟩ := h
    rfl
  · obtain ⟨a, C, y, rfl, T, no, ha, q⟩ := h
    rw [hb]
    refine ⟨_, pss_one (ps_ost (pe_var (i := 0) rfl (.inl v1)) (pe_var (i := 1) rfl (.inl v2)) (hs _ rfl)), ?_⟩
    exact ⟨y, rfl, .ref a, rfl, a, C, rfl, T, no, .inl ⟨ha, fun dx hd ne => q dx hd ne⟩⟩
/-- raise C(e) -/
def sRaise (c : Str) (f : List S → Out D) : List S → SO := fun ρ => (f ρ).toS fun d ρ1 => .ex c d ρ1
theorem vs_raise {X : Cx} {W : WX} {P : Nat → Prop} {x : Str} {C fI : Addr} {fd : FuncData} {k : Nat} {e : Expr} {fe : List S → Out D} {p pos pos2 : Pos} (hc : X.calm = true) (tk : Takes X W) (T : ErrC X.K fI C) (tI : PySem.W.typeIn X.K (.ref fI) = some (.type "function"))
    (F1 : FnOk X.prog X.w X.K X.mg X.base (L2.CX X.prog X.w) k fI fd ["self", "what"] (spIni X.K)) (hr : Room (k + 1) X.A) (hb : Binds X.K fd ["self", "what"] []) (hg : Gl X x) (hm : X.mg x = some (.ref C)) (he : VE X W e fe)
    (hdb : (x == ("__debug__" : Str)) = false := by decide) (hst : starEach [e] X.env = (false, eval e X.env) :: starEach [] X.env := by rfl) (hpl : (backTo pos (starEach [] X.env)).any (·.1) = false := by rfl) :
    VS1 X W P (.Raise (some (.Call (.Name x p) [e] [] pos)) none pos2) (sRaise x fe) := by
  refine PS_weak (ps_raise hc tk (pmk_oex T.T T.iC tI F1 hr hb .nil passL hg hm (pa_cons he pa_nil hst) hdb hst hpl)) ?_
  rintro E σ H ⟨B0, ρ, as, rel, h⟩
  refine ⟨B0, ρ, as, rel, h.bind (fun _ _ _ => trivial) fun d ρ1 h1 y H1 as1 rel1 f1 r1 => ⟨by show 1 ≤ 1000; decide, fun a ha => ?_⟩⟩
  refine ⟨a, C, y, rfl, T.T, T.no, upd_same, fun dx hdx ne => ⟨rfl, dx, [(("what" : Str), y)], upd_same, by rw [upd_ne ne]; exact upd_same, ?_, ?_⟩⟩
  · rw [upd_ne ne] at hdx
    exact hdx
  · rw [upd_ne ne] at hdx
    have same : Same H1 (upd (L2.del (upd (upd (upd H1 a (exo a C none)) dx (exd dx [(("what" : Str), y)])) a (exo a C (some dx))) a) dx (.xd [(("what" : Str), y)])) := fun b o q => by
      have n1 : b ≠ dx := ne_of_none q hdx
      have n2 : b ≠ a := ne_of_none q ha
      rw [upd_ne n1, del_ne n2, upd_ne n2, upd_ne n1, upd_ne n2]
      exact q
    obtain ⟨rel2, f2⟩ := rel1.same same
    exact h1 σ Pin.refl C dx _ as1 y hm upd_same (r1.same same) rel2 (f1.trans f2)
/-! ### try -/
/-- is an error of class c of class d: what the table says -/
abbrev Tbl := List ((Str × Str) × Bool)
def Tbl.sub (t : Tbl) (c d : Str) : Option Bool := t.lookup (c, d)
def TblOk (K : PySem.W.Frag) (mg : Str → Option Value) (t : Tbl) : Prop := ∀ c d b, ((c, d), b) ∈ t → ∀ C D' : Addr, mg c = some (.ref C) → mg d = some (.ref D') → PySem.W.exmOne K (.ref C) (.ref D') = some b
theorem lookup_mem {α β : Type} [BEq α] [LawfulBEq α] : ∀ {l : List (α × β)} {a : α} {b : β}, l.lookup a = some b → (a, b) ∈ l
  | [], _, _, h => by simp at h
  | (k, v) :: l, a, b, h => by
    rw [List.lookup_cons] at h
    cases e : a == k with
    | true =>
      rw [e] at h
      cases h
      rw [eq_of_beq e]
      exact List.mem_cons_self
    | false =>
      rw [e] at h
      exact List.mem_cons_of_mem _ (lookup_mem h)
/-- the clauses: class, what the suite does with the error's what -/
def sHs (t : Tbl) : List (Str × (D → List S → SO)) → Str → D → List S → SO
  | [], c, w, ρ => .ex c w ρ
  | (d, f) :: r, c, w, ρ => match t.sub c d with
    | some true => f w ρ
    | some false => sHs t r c w ρ
    | none => .bad
def sTry (t : Tbl) (fb : List S → SO) (hs : List (Str × (D → List S → SO))) : List S → SO := fun ρ => match fb ρ with
  | .ex c w ρ' => sHs t hs c w ρ'
  | o => o
/-- what a clause's suite is worth -/
def HdOk (K : PySem.W.Frag) (mg : Str → Option Value) (W : WX) (P : Nat → Prop) (t : Tbl) (x : Str) (f : D → List S → SO) : HdE → Prop
  | .pl c ts => (∃ C, c = .ref C ∧ mg x = some (.ref C)) ∧ ∀ (B0 : Av) (as : List Addr) (ρ : List S) (σ : L2.St) (H : Hp) (E : Ends) (c' : Str) (a C dd : Addr) (v : V) (w : D), t.sub c' x = some true → Rel K mg B0 ρ σ H as → H a = none → mg c' = some (.ref C) → H dd = some (.xd [(("what" : Str), v)]) → R K mg H (Bv as B0) w v →
      SPost K mg W P B0 as H σ E (f w ρ) → ts a (.ref C) (some dd) E σ H
  | .as c i ts => (∃ C, c = .ref C ∧ mg x = some (.ref C)) ∧ ∀ (B0 : Av) (as : List Addr) (ρ : List S) (σ : L2.St) (H : Hp) (E : Ends) (c' : Str) (a C dd : Addr) (v : V) (w : D), t.sub c' x = some true → Rel K mg B0 ρ σ H as → H a = none → mg c' = some (.ref C) → H dd = some (.xd [(("what" : Str), v)]) → R K mg H (Bv as B0) w v →
      SPost K mg W P B0 as H σ E (f w ρ) → ts a (.ref C) (some dd) { nx := fun σ' H' => E.nx (σ'.set i none) H', rt := E.rt, bk := fun σ' H' => E.bk (σ'.set i none) H', ct := fun σ' H' => E.ct (σ'.set i none) H' } (σ.set i (some (.ref a))) H
inductive HdsV (K : PySem.W.Frag) (mg : Str → Option Value) (W : WX) (P : Nat → Prop) (t : Tbl) : List (Str × (D → List S → SO)) → List HdE → Prop
  | nil : HdsV K mg W P t [] []
  | cons {x : Str} {f : D → List S → SO} {h : HdE} {r : List (Str × (D → List S → SO))} {l : List HdE} : HdOk K mg W P t x f h → HdsV K mg W P t r l → HdsV K mg W P t ((x, f) :: r) (h :: l)
theorem hs_post {K : PySem.W.Frag} {mg : Str → Option Value} {W : WX} {P : Nat → Prop} {t : Tbl} (ht : TblOk K mg t) {hs : List (Str × (D → List S → SO))} {l : List HdE} (hv : HdsV K mg W P t hs l) {B0 : Av} {as : List Addr} {ρ : List S} {σ : L2.St} {H : Hp} {E : Ends} {c : Str} {C dd : Addr} {v : V} {w : D}
    (rel : Rel K mg B0 ρ σ H as) (hc : mg c = some (.ref C)) (hd : H dd = some (.xd [(("what" : Str), v)])) (r : R K mg H (Bv as B0) w v) (h : SPost K mg W P B0 as H σ E (sHs t hs c w ρ)) : wMix K W E l (.ref C) (some dd) σ H := by
  induction hv with
  | nil => exact h σ Pin.refl C dd H as v hc hd r rel Fwd.refl
  | @cons x f hd' r' l' ho _ ih =>
    unfold sHs at h
    cases e : t.sub c x with
    | none => rw [e] at h; exact h.elim
    | some b =>
      rw [e] at h
      have hm := lookup_mem (show t.lookup (c, x) = some b from e)
      cases hd' with
      | pl cv ts =>
        obtain ⟨⟨C2, rfl, h2⟩, q⟩ := ho
        refine ⟨b, ht c x b hm C C2 hc h2, fun eb a ha => ?_, fun eb => ?_⟩
        · subst eb
          exact q B0 as ρ σ H E c a C dd v w e rel ha hc hd r h
        · subst eb
          exact ih h
      | as cv i ts =>
        obtain ⟨⟨C2, rfl, h2⟩, q⟩ := ho
        refine ⟨b, ht c x b hm C C2 hc h2, fun eb a ha => ?_, fun eb => ?_⟩
        · subst eb
          exact q B0 as ρ σ H E c a C dd v w e rel ha hc hd r h
        · subst eb
          exact ih h
theorem vs_try {X : Cx} {W : WX} {P : Nat → Prop} {body : List Stmt} {h₀ : ExceptHandler} {hds : List ExceptHandler} {l : List HdE} {pos : Pos} {t : Tbl} {fb : List S → SO} {hs : List (Str × (D → List S → SO))} (hst : X.stack = X.env :: X.outer) (hf : X.env.frame = some X.env.locals) (tk : Takes X W) (ht : TblOk X.K X.mg t)
    (hb : ∀ (W' : WX) (pn : List (Addr × Obj)) (xe : Value → Shared → Prop), Takes (X.tr pn xe) W' → PassesOwn (model X.prog X.w) X.A X.env xe → PSs (X.tr pn xe) body (tS X.K X.mg W' P fb))
    (hh : HdsX X (h₀ :: hds) l) (hv : HdsV X.K X.mg W P t hs l) : VS1 X W P (.Try body (h₀ :: hds) [] [] pos) (sTry t fb hs) := by
  refine PS_weak (ps_try_mix hst hf tk hb hh) ?_
  rintro E σ H ⟨B0, ρ, as, rel, h⟩
  refine ⟨B0, ρ, as, rel, ?_⟩
  unfold sTry at h
  cases e : fb ρ with
  | nx ρ' => rw [e] at h; exact h
  | bk ρ' => rw [e] at h; exact h
  | ct ρ' => rw [e] at h; exact h
  | rt d ρ' => rw [e] at h; exact h
  | rn d ρ' => rw [e] at h; exact h
  | bad => rw [e] at h; exact h
  | ex c w ρ' =>
    rw [e] at h
    intro σ' p C dd H' as' v hc hd r rel' f'
    exact hs_post ht hv rel' hc hd r (SPost.fwd f' p h)
/-- a plain suite -/
theorem hd_pl {X : Cx} {W : WX} {P : Nat → Prop} {x : Str} {C : Addr} {f : List S → SO} {t : Tbl} (hm : X.mg x = some (.ref C)) : HdOk X.K X.mg W P t x (fun _ => f) (.pl (.ref C) fun _ _ _ => tS X.K X.mg W P f) :=
  ⟨⟨C, rfl, hm⟩, fun B0 as ρ σ H E c' a C' dd v w _ rel _ _ _ _ h => ⟨B0, ρ, as, rel, h⟩⟩
end VS
/-! ## VS8 -/
set_option Elab.async false
set_option linter.all false
set_option maxRecDepth 100000
set_option maxHeartbeats 4000000
set_option autoImplicit false
namespace VS
open PySem PySem.Spec L2

/-! ### isinstance(e, T), T a built-in class -/
def tyD : D → String
  | .non => "NoneType"
  | .bl _ => "bool"
  | .int _ => "int"
  | .str _ => "str"
  | .tup _ => "tuple"
  | .lst _ => "list"
  | .scr _ => "list"
  | .ins _ _ _ => ""
def isiT (T : String) (d : D) : Option Bool := match d with
  | .ins _ _ _ => none
  | .scr _ => none
  | d => kitB (tyD d) T
theorem Rd.tup_ty {K : PySem.W.Frag} {H : Hp} {a : Addr} {vs : List V} (h : Rd H a (.tup vs)) : TyX K H (.ref a) (.type "tuple") := by
  rcases h with h | ⟨o, h⟩
  · exact .base (.tup h)
  · exact .fTuple h
theorem tyX_of {K : PySem.W.Frag} {mg : Str → Option Value} {H : Hp} {B : Av} {d : D} {x : V} {T : String} {b : Bool} (r : R K mg H B d x) (h : isiT T d = some b) : TyX K H x (.type (tyD d)) ∧ PySem.W.kitOne K (.type (tyD d)) (.type T) = some b := by
  cases d with
  | non => cases (show x = V.non from r); exact ⟨.base .non, kit_ty h⟩
  | bl c => cases (show x = V.bl c from r); exact ⟨.base (.bl c), kit_ty h⟩
  | int i => cases (show x = V.int i from r); exact ⟨.base (.int i), kit_ty h⟩
  | str z => cases (show x = V.str z from r); exact ⟨.base (.str z), kit_ty h⟩
  | tup ds =>
    obtain ⟨a, vs, rfl, tp, rs⟩ := r
    refine ⟨?_, kit_ty h⟩
    rcases tp with ⟨tp, _⟩ | ⟨o, its, n, hk, hc, _⟩
    · exact Rd.tup_ty tp
    · exact .kTuple hk hc
  | lst ds =>
    obtain ⟨a, vs, rfl, tp, rs⟩ := r
    exact ⟨.base (.lst tp.1), kit_ty h⟩
  | scr ns => cases h
  | ins _ _ _ => cases h
def eIsi (T : String) (f : List S → Out D) : List S → Out D := fun ρ => (f ρ).bind fun d ρ1 => match isiT T d with
  | some b => .ok (.bl b) ρ1
  | none => .bad
section
variable {X : Cx} {W : WX} {P : Nat → Prop} {a b c e : Expr} {fa fb fc : List S → Out D} {pos : Pos}
theorem ve_isi {T : String} {y : Str} {p p2 : Pos} (hg : Gl X "isinstance") (hm : X.mg "isinstance" = none) (hg2 : Gl X y) (hm2 : X.mg y = none) (hv : bootBuiltins y = some (.type T)) (ha : VE X W e fa) (hn2 : y ≠ "__name__" := by decide) (hd2 : (y == ("__debug__" : Str)) = false := by decide)
    (he : starEach [e, .Name y p2] X.env = (false, eval e X.env) :: starEach [.Name y p2] X.env := by rfl) (he2 : starEach [.Name y p2] X.env = (false, eval (.Name y p2) X.env) :: starEach [] X.env := by rfl)
    (hpl : (backTo pos (starEach [.Name y p2] X.env)).any (·.1) = false := by rfl) : VE X W (.Call (.Name "isinstance" p) [e, .Name y p2] [] pos) (eIsi T fa) := by
  refine PE_weak (pe_callB call_isi hg hm PyProof.Rows.boot_isinstance (pa_cons ha (pa_cons (pe_bltn (v := .ty T) hg2 hm2 hv rfl hn2 hd2) pa_nil he2) he) (by decide) (by decide) he hpl) ?_
  rintro σ H Q ⟨B0, ρ, as, rel, h⟩
  refine ⟨B0, ρ, as, rel, h.bind fun d ρ1 h1 x H1 as1 rel1 f1 r1 => ?_⟩
  cases e1 : isiT T d with
  | none => rw [e1] at h1; exact h1.elim
  | some b =>
    rw [e1] at h1
    obtain ⟨ty, hk⟩ := tyX_of r1 e1
    exact ⟨x, .ty T, _, _, b, rfl, .ty T, ty, hk, h1 _ H1 as1 rel1 f1 rfl⟩

/-! ### slices -/
/-- a part of a slice: an int, or left out -/
def tOpt (K : PySem.W.Frag) (mg : Str → Option Value) (W : WX) (f : List S → Out (Option Int)) : TO := fun σ H Q => ∃ B0 ρ as, Rel K mg B0 ρ σ H as ∧
  EPost K mg W B0 as H σ (fun o ρ' => ∀ H' as', Rel K mg B0 ρ' σ H' as' → Fwd as H as' H' → Q o H') (f ρ)
abbrev VO (X : Cx) (W : WX) (o : Option Expr) (f : List S → Out (Option Int)) : Prop := PO X o (tOpt X.K X.mg W f)
def oNone : List S → Out (Option Int) := fun ρ => .ok none ρ
def oSome (f : List S → Out D) : List S → Out (Option Int) := fun ρ => (f ρ).bind fun d ρ1 => match d with
  | .int i => .ok (some i) ρ1
  | _ => .bad
theorem vo_none : VO X W none oNone := ⟨fun pins s σ H Q I h => by
  obtain ⟨B0, ρ, as, rel, h⟩ := h
  exact po_none.run pins s σ H Q I (h H as rel Fwd.refl)⟩
theorem vo_some (ha : VE X W e fa) : VO X W (some e) (oSome fa) := ⟨fun pins s σ H Q I h => by
  obtain ⟨B0, ρ, as, rel, h⟩ := h
  refine (po_some ha).run pins s σ H Q I ⟨B0, ρ, as, rel, h.bind fun d ρ1 h1 x H1 as1 rel1 f1 r1 => ?_⟩
  cases d with
  | int i => exact ⟨i, r1, h1 H1 as1 rel1 f1⟩
  | _ => exact h1.elim⟩
def cutD (ds : List D) (lo hi : Option Int) : List D := (ds.drop (HT.sIx ds.length 0 lo)).take (HT.sIx ds.length ds.length hi - HT.sIx ds.length 0 lo)
theorem Rs.cut {K : PySem.W.Frag} {mg : Str → Option Value} {H : Hp} {B : Av} {ds : List D} {xs : List V} (r : Rs K mg H B ds xs) (lo hi : Option Int) : Rs K mg H B (cutD ds lo hi) (cutV xs lo hi) := by
  unfold cutD cutV
  rw [r.length]
  exact Rs.take _ (Rs.drop _ r)
def eSlice (f : List S → Out D) (fl fu : List S → Out (Option Int)) : List S → Out D := fun ρ => (f ρ).bind fun d ρ1 => (fl ρ1).bind fun l ρ2 => (fu ρ2).bind fun u ρ3 => match d with
  | .tup ds => .ok (.tup (cutD ds l u)) ρ3
  | .lst ds => .ok (.lst (cutD ds l u)) ρ3
  | _ => .bad
theorem ve_slice {lo hi : Option Expr} {p2 : Pos} {fl fu : List S → Out (Option Int)} (ha : VE X W e fa) (hl : VO X W lo fl) (hu : VO X W hi fu) : VE X W (.Subscript e (.Slice lo hi none p2) pos) (eSlice fa fl fu) := by
  refine PE_weak (pe_slice (sl_list.or sl_tupA) ha hl hu) ?_
  rintro σ H Q ⟨B0, ρ, as, rel, h⟩
  refine ⟨B0, ρ, as, rel, h.bind fun d ρ1 h1 x H1 as1 rel1 f1 r1 => ⟨B0, ρ1, as1, rel1, (h1.bind fun l ρ2 h2 => h2).fwd f1 fun l ρ2 h2 H2 as2 rel2 f2 => ⟨B0, ρ2, as2, rel2, (h2.bind fun u ρ3 h3 => h3).fwd (f1.trans f2) fun u ρ3 h3 H3 as3 rel3 f3 => ?_⟩⟩⟩
  have r3 := (r1.fwd f2).fwd f3
  have f03 := (f1.trans f2).trans f3
  cases d with
  | tup ds =>
    obtain ⟨p, vs, rfl, tp, rs⟩ := r3
    refine .inr ⟨p, vs, rfl, tp.sq, fun hw => ?_, fun _ n hn => ?_⟩
    · refine h3 _ H3 as3 rel3 f03 ⟨p, vs, rfl, tp, ?_⟩
      have e1 : cutD ds l u = ds := by
        unfold cutD
        rw [rs.length, hw.1, hw.2, List.drop_zero, Nat.sub_zero, ← rs.length, List.take_length]
      rw [e1]
      exact rs
    · obtain ⟨rel4, f4⟩ := rel3.same (same_upd (o := .tup (cutV vs l u)) hn)
      exact h3 _ _ as3 rel4 (f03.trans f4) ⟨n, _, rfl, .inl ⟨.inl upd_same, fun hb => rel3.tracked hb hn⟩, (rs.cut l u).same (same_upd hn)⟩
  | lst ds =>
    obtain ⟨p, vs, rfl, tp, rs⟩ := r3
    refine .inl ⟨p, vs, rfl, tp.sq, fun n hn => ?_⟩
    obtain ⟨rel4, f4⟩ := rel3.same (same_upd (o := .lst (cutV vs l u)) hn)
    exact h3 _ _ as3 rel4 (f03.trans f4) ⟨n, _, rfl, ⟨upd_same, fun hb => rel3.tracked hb hn⟩, (rs.cut l u).same (same_upd hn)⟩
  | _ => exact h3.elim

/-! ### a, b = e1, e2: each a value or a new list -/
/-- what is kept away from besides -/
def PlusL (B0 : Av) (ps : List Addr) : Av := fun a => a ∈ ps ∨ B0 a
def tA2 (K : PySem.W.Frag) (mg : Str → Option Value) (W : WX) (f : List S → Out (List S)) : TA := fun σ H Q => ∃ B0 ρ as, Rel K mg B0 ρ σ H as ∧
  EPost K mg W B0 as H σ (fun ss ρ' => ∀ xs H' as' ps, Rel K mg (PlusL B0 ps) ρ' σ H' as' → Fwd as H as' H' → (∀ p ∈ ps, H p = none) → ps.Nodup → Sl K mg H' (Bv as' (PlusL B0 ps)) ss (xs.map some) ps → Q xs H') (f ρ)
abbrev VA2 (X : Cx) (W : WX) (es : List Expr) (f : List S → Out (List S)) : Prop := PA X es (tA2 X.K X.mg W f)
def a2Nil : List S → Out (List S) := fun ρ => .ok [] ρ
def a2Fr (f : List S → Out D) (g : List S → Out (List S)) : List S → Out (List S) := fun ρ => (f ρ).bind fun d ρ1 => (g ρ1).bind fun ss ρ2 => .ok (.fr d :: ss) ρ2
def a2Ow (f : List S → Out (List D)) (g : List S → Out (List S)) : List S → Out (List S) := fun ρ => (f ρ).bind fun d ρ1 => (g ρ1).bind fun ss ρ2 => .ok (.ow d :: ss) ρ2
variable {es : List Expr} {g : List S → Out (List S)} {fn : List S → Out (List D)}
theorem va2_nil : VA2 X W [] a2Nil := by
  refine PA_weak pa_nil ?_
  rintro σ H Q ⟨B0, ρ, as, rel, h⟩
  have e : PlusL B0 [] = B0 := by funext a; simp [PlusL]
  exact h [] H as [] (by rw [e]; exact rel) Fwd.refl (fun p hp => by simp at hp) List.nodup_nil .nil
theorem va2_fr (ha : VE X W a fa) (hr : VA2 X W es g) (hs : starEach (a :: es) X.env = (false, eval a X.env) :: starEach es X.env := by rfl) : VA2 X W (a :: es) (a2Fr fa g) := by
  refine PA_weak (pa_cons ha hr hs) ?_
  rintro σ H Q ⟨B0, ρ, as, rel, h⟩
  refine ⟨B0, ρ, as, rel, h.bind fun d ρ1 h1 x H1 as1 rel1 f1 r1 => ⟨B0, ρ1, as1, rel1, (h1.bind fun ss ρ2 h2 => h2).fwd f1 fun ss ρ2 h2 xs H2 as2 ps rel2 f2 hp nd sl => ?_⟩⟩
  have r2 : R X.K X.mg H2 (Bv as2 (PlusL B0 ps)) d x := R.mono f2.keep (fun a n q => by
    rcases q with q | q | q
    · exact f2.bv (B0 := B0) a n (.inl q)
    · exact absurd (hp a q) n
    · exact .inr q) r1
  exact h2 (x :: xs) H2 as2 ps rel2 (f1.trans f2) (fun p h => f1.unt (hp p h)) nd (.cons (as := []) ⟨rfl, x, rfl, r2⟩ sl)
theorem va2_ow (ha : VN X W a fn) (hr : VA2 X W es g) (hs : starEach (a :: es) X.env = (false, eval a X.env) :: starEach es X.env := by rfl) : VA2 X W (a :: es) (a2Ow fn g) := by
  refine PA_weak (pa_cons ha hr hs) ?_
  rintro σ H Q ⟨B0, ρ, as, rel, h⟩
  refine ⟨B0, ρ, as, rel, h.bind fun ds ρ1 h1 p vs H1 as1 rel1 f1 hp0 hp r1 => ⟨Plus B0 p, ρ1, as1, rel1, ?_⟩⟩
  have h1' := h1.bind (G := fun ss ρ2 => ∀ (xs : List V) (H' : Hp) (as' ps : List Addr), Rel X.K X.mg (PlusL B0 ps) ρ2 σ H' as' → Fwd as H as' H' → (∀ p ∈ ps, H p = none) → ps.Nodup → Sl X.K X.mg H' (Bv as' (PlusL B0 ps)) (.ow ds :: ss) (xs.map some) ps → Q xs H') fun ss ρ2 h2 => h2
  -- exceptions: the new list is no more kept away from
  have tr : EPost X.K X.mg W (Plus B0 p) as1 H1 σ (fun ss ρ' => ∀ xs H' as' ps, Rel X.K X.mg (PlusL (Plus B0 p) ps) ρ' σ H' as' → Fwd as1 H1 as' H' → (∀ p ∈ ps, H1 p = none) → ps.Nodup → Sl X.K X.mg H' (Bv as' (PlusL (Plus B0 p) ps)) ss (xs.map some) ps → Q (V.ref p :: xs) H') (g ρ1) := by
    cases eg : g ρ1 with
    | bad => rw [eg] at h1'; exact h1'.elim
    | ex c w ρ2 =>
      rw [eg] at h1'
      exact fun C dd H' as' v hm hd rw' rel' f' => h1' C dd H' as' v hm hd (R.mono (fun _ _ _ h => h) (fun a _ q => q.imp id .inr) rw') rel'.unplus (f1.trans f')
    | ok ss ρ2 =>
      rw [eg] at h1'
      intro xs H2 as2 ps rel2 f2 hps nd sl
      have e : PlusL (Plus B0 p) ps = PlusL B0 (p :: ps) := by
        funext a
        simp only [PlusL, Plus, List.mem_cons, eq_iff_iff]
        constructor
        · rintro (h | h | h)
          · exact .inl (.inr h)
          · exact .inl (.inl h)
          · exact .inr h
        · rintro ((h | h) | h)
          · exact .inr (.inl h)
          · exact .inl h
          · exact .inr (.inr h)
      have hp1 : H1 p ≠ none := by rw [hp]; intro z; cases z
      have pps : p ∉ ps := fun z => hp1 (hps p z)
      have pas : p ∉ as1 := fun z => rel1.dis p z (.inl rfl)
      rw [e] at rel2 sl
      refine h1' (V.ref p :: xs) H2 as2 (p :: ps) rel2 (f1.trans f2) (fun q hq => ?_) (List.nodup_cons.mpr ⟨pps, nd⟩) ?_
      · rcases List.mem_cons.mp hq with rfl | hq
        · exact hp0
        · exact f1.unt (hps q hq)
      · refine .cons (as := [p]) ⟨p, vs, rfl, rfl, (f2.st p _ pas hp).1, ?_⟩ sl
        refine Rs.mono f2.keep (fun a n q => ?_) r1
        rcases q with q | q | q
        · exact f2.bv (B0 := Plus B0 p) a n (.inl q)
        · rcases List.mem_cons.mp q with z | z
          · exact .inr (.inl z)
          · exact absurd (hps a z) n
        · exact .inr (.inr q)
  exact tr
end
section
variable {K : PySem.W.Frag} {mg : Str → Option Value} {B0 : Av} {H : Hp} {as : List Addr} {σ : L2.St} {ρ : List S}
/-- a slot takes a value, with the list that it alone holds -/
theorem Rel.take {i : Nat} {s : S} {v : V} {m rest : List Addr} {H0 : Hp} {as0 : List Addr} (r : Rel K mg (PlusL B0 (m ++ rest)) ρ σ H as) (f : Fwd as0 H0 as H) (hm0 : ∀ p ∈ m, H0 p = none) (hB : ∀ p ∈ m, ¬ B0 p) (nd : (m ++ rest).Nodup)
    (o : Os K mg H (Bv as (PlusL B0 (m ++ rest))) s (some v) m) :
    ∃ as', Rel K mg (PlusL B0 rest) (ρ.set i s) (σ.set i (some v)) H as' ∧ Fwd as0 H0 as' H ∧ ∀ b, H b ≠ none → Bv as' (PlusL B0 rest) b → Bv as (PlusL B0 (m ++ rest)) b := by
  have n0 := List.nodup_append.mp nd
  cases e : ρ[i]? with
  | none =>
    have h1 : ρ.length ≤ i := List.getElem?_eq_none_iff.mp e
    have h2 : σ.length ≤ i := by rw [← r.len]; exact h1
    rw [List.set_eq_of_length_le h1, List.set_eq_of_length_le h2]
    have sub : ∀ b, Bv as (PlusL B0 rest) b → Bv as (PlusL B0 (m ++ rest)) b := fun b q => q.imp id fun q => q.imp (fun z => List.mem_append_right _ z) id
    exact ⟨as, ⟨r.sl.mono (fun _ _ _ h => h) (fun a _ q => sub a q) fun _ _ => rfl, r.nd, fun a ha q => r.dis a ha (q.imp (fun z => List.mem_append_right _ z) id), fun a q => r.trk a (q.imp (fun z => List.mem_append_right _ z) id)⟩, f, fun b _ q => sub b q⟩
  | some s0 =>
    obtain ⟨l, m0, rr, v0, e1, e2, o0, put⟩ := r.sl.at e
    have nda := r.nd
    have nm : ∀ p ∈ m, p ∉ as := fun p hp z => r.dis p z (.inl (List.mem_append_left _ hp))
    rw [e1] at nda
    have sub : ∀ b, b ∈ l ++ m ++ rr → b ∈ m ∨ b ∈ as := fun b hb => by
      rw [e1]
      simp only [List.mem_append] at hb ⊢
      rcases hb with (hb | hb) | hb
      · exact .inr (.inl (.inl hb))
      · exact .inl hb
      · exact .inr (.inr hb)
    have sub2 : ∀ b, Bv (l ++ m ++ rr) (PlusL B0 rest) b → Bv as (PlusL B0 (m ++ rest)) b := fun b hb => by
      rcases hb with hb | hb | hb
      · exact (sub b hb).elim (fun z => .inr (.inl (List.mem_append_left _ z))) .inl
      · exact .inr (.inl (List.mem_append_right _ hb))
      · exact .inr (.inr hb)
    refine ⟨l ++ m ++ rr, ⟨?_, ?_, fun b hb => ?_, fun b hb => r.trk b (hb.imp (fun z => List.mem_append_right _ z) id)⟩, ⟨fun b ob n hb => ⟨(f.st b ob n hb).1, fun z => ?_⟩, f.tr⟩, fun b _ q => sub2 b q⟩
    · exact put H (Bv (l ++ m ++ rr) (PlusL B0 rest)) s (some v) m (fun {s v as0} _ os => os.mono (fun _ _ _ h => h) (fun b _ hb => sub2 b hb) fun _ _ => rfl) (o.mono (fun _ _ _ h => h) (fun b _ hb => sub2 b hb) fun _ _ => rfl)
    · have h1 := List.nodup_append.mp nda
      have h2 := List.nodup_append.mp h1.1
      refine List.nodup_append.mpr ⟨List.nodup_append.mpr ⟨h2.1, n0.1, fun b hb c hc z => ?_⟩, h1.2.1, fun b hb c hc z => ?_⟩
      · subst z
        exact nm b hc (by rw [e1]; simp [hb])
      · subst z
        rcases List.mem_append.mp hb with z | z
        · exact h1.2.2 b (List.mem_append_left _ z) b hc rfl
        · exact nm b z (by rw [e1]; simp [hc])
    · rcases sub b hb with z | z
      · rintro (q | q)
        · exact n0.2.2 b z b q rfl
        · exact hB b z q
      · exact fun q => r.dis b z (q.imp (fun z => List.mem_append_right _ z) id)
    · rcases sub b z with z | z
      · rw [hm0 b z] at hb; cases hb
      · exact (f.st b ob n hb).2 z
end
/-- a, b = ..; a, b, c = ..: names -/
def setAll : List Nat → List S → List S → Option (List S)
  | [], [], ρ => some ρ
  | i :: is, s :: ss, ρ => setAll is ss (ρ.set i s)
  | _, _, _ => none
def setV : List Nat → List V → L2.St → L2.St
  | i :: is, x :: xs, σ => setV is xs (σ.set i (some x))
  | _, _, σ => σ
def sPar (is : List Nat) (f : List S → Out (List S)) : List S → SO := fun ρ => (f ρ).toS fun ss ρ1 => match setAll is ss ρ1 with
  | some ρ2 => .nx ρ2
  | none => .bad
theorem setV_pin {P : Nat → Prop} : ∀ {is : List Nat} {xs : List V} {σ : L2.St}, (∀ i ∈ is, ¬ P i) → Pin P σ (setV is xs σ)
  | [], _, σ, _ => by cases ‹List V› <;> exact Pin.refl
  | i :: is, [], σ, _ => Pin.refl
  | i :: is, x :: xs, σ, h => (Pin.set (h i List.mem_cons_self)).trans (setV_pin fun j hj => h j (List.mem_cons_of_mem _ hj))
theorem setAll_ok {K : PySem.W.Frag} {mg : Str → Option Value} {B0 : Av} {H H0 : Hp} {as0 : List Addr} (hB : ∀ a, B0 a → H0 a ≠ none) : ∀ {is : List Nat} {ss : List S} {ρ ρ' : List S} {σ : L2.St} {xs : List V} {ps as : List Addr}, Rel K mg (PlusL B0 ps) ρ σ H as → Fwd as0 H0 as H → (∀ p ∈ ps, H0 p = none) → ps.Nodup →
    Sl K mg H (Bv as (PlusL B0 ps)) ss (xs.map some) ps → setAll is ss ρ = some ρ' → ∃ as', Rel K mg B0 ρ' (setV is xs σ) H as' ∧ Fwd as0 H0 as' H
  | [], [], ρ, ρ', σ, xs, ps, as, r, f, hp, nd, sl, e => by
    cases e
    have hl := sl.length
    have ex : xs = [] := List.eq_nil_of_length_eq_zero (by rw [List.length_map] at hl; exact hl.symm)
    subst ex
    cases sl
    have eb : PlusL B0 [] = B0 := by funext a; simp [PlusL]
    rw [eb] at r
    exact ⟨as, r, f⟩
  | [], _ :: _, ρ, ρ', σ, xs, ps, as, r, f, hp, nd, sl, e => by cases e
  | _ :: _, [], ρ, ρ', σ, xs, ps, as, r, f, hp, nd, sl, e => by cases e
  | i :: is, s :: ss, ρ, ρ', σ, xs, ps, as, r, f, hp, nd, sl, e => by
    cases xs with
    | nil => cases sl
    | cons x xs =>
      have gen : ∃ m rr, ps = m ++ rr ∧ Os K mg H (Bv as (PlusL B0 ps)) s (some x) m ∧ Sl K mg H (Bv as (PlusL B0 ps)) ss (xs.map some) rr := by
        have g2 : ∀ {q : List Addr} {σ0 : L2.St} {B : Av}, Sl K mg H B (s :: ss) (some x :: σ0) q → ∃ m rr, q = m ++ rr ∧ Os K mg H B s (some x) m ∧ Sl K mg H B ss σ0 rr := by
          intro q σ0 B z
          cases z with
          | cons o r => exact ⟨_, _, rfl, o, r⟩
        exact g2 sl
      obtain ⟨m, rr, rfl, o, sr⟩ := gen
      obtain ⟨as2, r2, f2, sub⟩ := r.take (i := i) f (fun p h => hp p (List.mem_append_left _ h)) (fun p h z => hB p z (hp p (List.mem_append_left _ h))) nd o
      show ∃ as', Rel K mg B0 ρ' (setV is xs (σ.set i (some x))) H as' ∧ Fwd as0 H0 as' H
      exact setAll_ok hB r2 f2 (fun p h => hp p (List.mem_append_right _ h)) (List.nodup_append.mp nd).2.1 (sr.mono (fun _ _ _ h => h) sub fun _ _ => rfl) (show setAll is ss (ρ.set i s) = some ρ' from e)
section
variable {X : Cx} {W : WX} {P : Nat → Prop} {a b c e : Expr} {g : List S → Out (List S)} {pos : Pos}
theorem par_post {is : List Nat} (hP : ∀ i ∈ is, ¬ P i) {E : Ends} {σ : L2.St} {H : Hp} (h : tS X.K X.mg W P (sPar is g) E σ H) : tA2 X.K X.mg W g σ H fun xs H1 => E.nx (setV is xs σ) H1 := by
  obtain ⟨B0, ρ, as, rel, h⟩ := h
  refine ⟨B0, ρ, as, rel, h.bind (fun _ _ _ => trivial) fun ss ρ1 h1 xs H1 as1 ps rel1 f1 hp nd sl => ?_⟩
  cases e : setAll is ss ρ1 with
  | none => rw [e] at h1; exact h1.elim
  | some ρ2 =>
    rw [e] at h1
    obtain ⟨as2, rel2, f2⟩ := setAll_ok (fun a h => rel.trk a h) rel1 f1 hp nd sl e
    exact h1 _ H1 as2 rel2 f2 (setV_pin hP)
/-- two plain local names -/
theorem vs_par {i j : Nat} {x y : Str} {px py pt pt2 : Pos} {kt k2 : Nat} (hP : ∀ k ∈ [i, j], ¬ P k) (hc : X.calm = true) (hN : X.N.Nodup) (hi : X.N[i]? = some x) (hj : X.N[j]? = some y) (hij : i ≠ j) (hx : X.env.scope.names.lookup x = some .local) (hy : X.env.scope.names.lookup y = some .local) (ha : VA2 X W [a, b] g)
    (hl : ∀ ρ ss ρ', g ρ = .ok ss ρ' → ss.length = 2)
    (hw : swappedStores [.Tuple [.Name x px, .Name y py] kt pt] (.Tuple [a, b] k2 pt2) X.env = pure (some [x, y])) (hs : swapsWithSole [.Tuple [.Name x px, .Name y py] kt pt] (.Tuple [a, b] k2 pt2) pos.line X.env = pure false := by rfl) :
    VS1 X W P (.Assign [.Tuple [.Name x px, .Name y py] kt pt] (.Tuple [a, b] k2 pt2) pos) (sPar [i, j] g) := by
  refine PS_weak (ps_par hc hN hi hj hij hx hy ha hw hs) ?_
  intro E σ H h
  have q := par_post hP h
  obtain ⟨B0, ρ, as, rel, q⟩ := q
  refine ⟨B0, ρ, as, rel, ?_⟩
  cases e : g ρ with
  | bad => rw [e] at q; exact q
  | ex c w ρ1 => rw [e] at q; exact q
  | ok ss ρ1 =>
    rw [e] at q
    intro xs H1 as1 ps rel1 f1 hp nd sl
    have l2 := sl.length
    rw [hl _ _ _ e, List.length_map] at l2
    match xs, l2 with
    | [v, w], _ => exact ⟨v, w, rfl, q [v, w] H1 as1 ps rel1 f1 hp nd sl⟩
theorem vs_par3 {i j l : Nat} {x y z : Str} {px py pz pt pt2 : Pos} {kt k2 : Nat} (hP : ∀ k ∈ [i, j, l], ¬ P k) (hc : X.calm = true) (hN : X.N.Nodup) (hi : X.N[i]? = some x) (hj : X.N[j]? = some y) (hk : X.N[l]? = some z) (hij : i ≠ j) (hil : i ≠ l) (hjl : j ≠ l) (hx : X.env.scope.names.lookup x = some .local) (hy : X.env.scope.names.lookup y = some .local) (hz : X.env.scope.names.lookup z = some .local) (ha : VA2 X W [a, b, c] g)
    (hl : ∀ ρ ss ρ', g ρ = .ok ss ρ' → ss.length = 3)
    (hw : swappedStores [.Tuple [.Name x px, .Name y py, .Name z pz] kt pt] (.Tuple [a, b, c] k2 pt2) X.env = pure (some [x, y, z])) (hs : swapsWithSole [.Tuple [.Name x px, .Name y py, .Name z pz] kt pt] (.Tuple [a, b, c] k2 pt2) pos.line X.env = pure false := by rfl) :
    VS1 X W P (.Assign [.Tuple [.Name x px, .Name y py, .Name z pz] kt pt] (.Tuple [a, b, c] k2 pt2) pos) (sPar [i, j, l] g) := by
  refine PS_weak (ps_par3 hc hN hi hj hk hij hil hjl hx hy hz ha hw hs) ?_
  intro E σ H h
  have q := par_post hP h
  obtain ⟨B0, ρ, as, rel, q⟩ := q
  refine ⟨B0, ρ, as, rel, ?_⟩
  cases e : g ρ with
  | bad => rw [e] at q; exact q
  | ex c w ρ1 => rw [e] at q; exact q
  | ok ss ρ1 =>
    rw [e] at q
    intro xs H1 as1 ps rel1 f1 hp nd sl
    have l2 := sl.length
    rw [hl _ _ _ e, List.length_map] at l2
    match xs, l2 with
    | [u, v, w], _ => exact ⟨u, v, w, rfl, q [u, v, w] H1 as1 ps rel1 f1 hp nd sl⟩
end
end VS
/-! ## VS9 -/
set_option Elab.async false
set_option linter.all false
set_option maxRecDepth 100000
set_option maxHeartbeats 4000000
set_option autoImplicit false
namespace PySem
open Sem (wp)
open AutoSeq1 (wpAny_loadPart')
theorem meets_enumerate_newT (l : Addr) (items : Array Value) (n : Nat) (dct : Option Addr) (sl : Array (Option Value)) :
    Meets (Builtin.«enumerate.__new__» ⟨[.type "enumerate", .ref l], []⟩) (fun _ R s => s.heap.get? l = some { cls := .type "tuple", dict := dct, data := .seq items n, slots := sl } ∧
      R (.ok (.ret (.ref (s.heap.push { cls := .type "tuple_iterator", data := .fields #[.ref l, .int 0 0] }).objs.size)))
        { s with heap := (s.heap.push { cls := .type "tuple_iterator", data := .fields #[.ref l, .int 0 0] }).push { cls := .type "enumerate", data := .fields #[.none, .bool false, .ref s.heap.objs.size, rawInt 0, .none, .none] } }) :=
  .of_wp fun prog w A R s h => by
    obtain ⟨hp, g, d, tk, os⟩ := s; obtain ⟨hl, h⟩ := h
    have hsub := sub_enumerate
    have hL : Heap.IsTuple (Shared.heap ⟨hp, g, d, tk, os⟩) l items := ⟨_, hl, rfl, n, rfl⟩
    wp_walk using wpAny_loadPart' hl
    refine wpAny_stack_any fun st => wpAny_pure ?_
    split
    · rename_i c _ _ _ _ _
      cases (c == Value.type "enumerate")
      · wp_walk using wpAny_loadPart' hl, wpAny_pyIter_tuple hL
        exact ⟨_, rfl, h⟩
      · wp_walk using wpAny_loadPart' hl, wpAny_pyIter_tuple hL
        exact ⟨_, rfl, h⟩
    · wp_walk using wpAny_loadPart' hl, wpAny_pyIter_tuple hL
      exact ⟨_, rfl, h⟩
section
variable {prog : Program} {w : World} {A : Around} {E : Value → Shared → Prop} {s : Shared}
theorem call_enumerate_tupleV {l : Addr} {items : Array Value} {Q : Value → Shared → Prop} (hL : s.heap.IsTuple l items)
    (h : ∀ h', IsEnum h' (s.heap.objs.size + 1) s.heap.objs.size 0 .none → h'.IsTupleIter s.heap.objs.size l 0 → h'.objs.size = s.heap.objs.size + 2 →
      (∀ b o, s.heap.get? b = some o → h'.get? b = some o) → Q (.ref (s.heap.objs.size + 1)) { s with heap := h' }) :
    wpAny (model prog w) A (call (.type "enumerate") [.ref l]) Q E s := by
  obtain ⟨⟨c, dct, dt, sl⟩, hl, hc, n, hd⟩ := hL
  replace hc : c = .type "tuple" := hc
  replace hd : dt = .seq items n := hd
  subst hc hd
  refine callType_new F.called_enumerate (by decide) (F.typeCall_enumerate_1 _) (F.newCall_enumerate_1 _) (fun obj => F.args_object_init_2 obj _) F.entry_enumerate_new
    (meets_enumerate_newT l items n dct sl) ⟨hl, ?_⟩
  have hz : (s.heap.push { cls := .type "tuple_iterator", data := .fields #[.ref l, .int 0 0] }).objs.size = s.heap.objs.size + 1 := Heap.size_push ..
  show _ ∧ _
  rw [hz]
  have he : IsEnum ((s.heap.push { cls := .type "tuple_iterator", data := .fields #[.ref l, .int 0 0] }).push
      { cls := .type "enumerate", data := .fields #[.none, .bool false, .ref s.heap.objs.size, rawInt 0, .none, .none] }) (s.heap.objs.size + 1) s.heap.objs.size 0 .none := by
    have := Heap.get?_push_size (s.heap.push { cls := .type "tuple_iterator", data := .fields #[.ref l, .int 0 0] })
      (o := { cls := .type "enumerate", data := .fields #[.none, .bool false, .ref s.heap.objs.size, rawInt 0, .none, .none] }) rfl
    rw [hz] at this; exact this
  refine ⟨⟨_, he, rfl⟩, h _ he ⟨_, Heap.get?_push_of_some _ (Heap.get?_push_size _ rfl), rfl, rfl⟩ (by rw [Heap.size_push, hz]) fun b o x => Heap.get?_push_of_some _ (Heap.get?_push_of_some _ x)⟩
end
end PySem
namespace L2
open PySem PySem.Spec PyProof.Rows
/-- the tuple at a, each item in a new pair -/
def IteT (K : PySem.W.Frag) (a : Addr) : It :=
  ⟨fun i H => ∃ (xs : List V) (x : V), SqT K H a xs ∧ xs[i]? = some x, fun i H v H' => ∃ T x, v = .ref T ∧ H T = none ∧ H' = upd H T (.tup [.int (i : Nat), x]) ∧ ∀ xs, SqT K H a xs → xs[i]? = some x, fun i H => ∃ xs : List V, SqT K H a xs ∧ xs.length ≤ i⟩
theorem turn_enumT {P : Program} {w : World} {K : PySem.W.Frag} {elts : List Expr} {kk : Nat} {tpos : Pos} (a e it : Addr) :
    Turn P w K (.Tuple elts kk tpos) (IteT K a) [e, it] e (fun i h => (∃ old, IsEnum h e it ((i : Nat) : Int) old) ∧ h.IsTupleIter it a i ∧ e ≠ it ∧ e ≠ a ∧ it ≠ a) where
  mem := by simp
  obj := fun i h st b hb => by
    obtain ⟨⟨old, he⟩, ⟨o, ho, hc, hd⟩, _⟩ := st
    have e' : b = e ∨ b = it := by simpa using hb
    rcases e' with z | z
    · rw [z]; exact ⟨_, he, fun v q => nomatch q⟩
    · rw [z]; exact ⟨o, ho, fun v q => by rw [hd] at q; cases q⟩
  keep := fun i h h' st k => let ⟨⟨old, he⟩, hi, hne⟩ := st; ⟨⟨old, k e (by simp) _ he⟩, hi.at fun o q => k it (by simp) o q, hne⟩
  item := by
    intro X hP hw hK hc i pins s σ H E I hf st hg
    subst hP hw hK
    obtain ⟨⟨old, he⟩, hit, hne, hea, hia⟩ := st
    obtain ⟨xs, x, hq, hx⟩ := hg
    obtain ⟨its, rv, p, hz⟩ := I.tuple hq
    obtain ⟨u, hu, ru⟩ := rv.get hx
    have hel : e < s.heap.objs.size := Heap.lt_size he
    have hil : it < s.heap.objs.size := by obtain ⟨_, q, _⟩ := hit; exact Heap.lt_size q
    have hin : i < its.toArray.size := by
      rw [List.size_toArray]
      exact (List.getElem?_eq_some_iff.mp hu).1
    refine wpAny_pyNext_enum_itemD (Draws.tuple (show X.A.in1.handled = none from I.ok.hd hc) it a (Ne.symm hia) its.toArray) he ⟨hit, p⟩ hin hne (by simp [hne, hea]) fun x' h' tk px ho st' hT hsz hk => ?_
    obtain ⟨hit', _⟩ := st'
    have ex : x' = u := by
      have px' : its.toArray[i]? = some x' := px
      have hu' : its.toArray[i]? = some u := by simpa using hu
      rw [hu'] at px'
      exact (Option.some.inj px').symm
    subst ex
    refine ⟨_, rfl, wpAny_letOwnedTupleGo_enum (s := { s with heap := h', toks := tk + 1 }) ho fun h'' he' sb => ?_⟩
    have hT2 : h''.get? s.heap.objs.size = some { cls := .type "tuple", data := .seq #[.int i tk, x'] } := (sb.2 _ (Nat.ne_of_gt hel)).trans hT
    have new : ObjOk X.prog X.w (upd H s.heap.objs.size (.tup [.int (i : Nat), x])) h'' s.heap.objs.size (.tup [.int (i : Nat), x]) :=
      ⟨by show 2 ≤ sizeLine; decide, [.int i tk, x'], .cons ⟨_, rfl⟩ (.cons ru .nil), ⟨_, hT2, rfl, _, rfl⟩⟩
    have I1 : Inv X pins σ (upd H s.heap.objs.size (.tup [.int (i : Nat), x])) { s with heap := h'', toks := tk + 1 } :=
      I.turnedNew (ch := [e, it]) (fun b ob hb q => (sb.2 b (fun z => hb (by simp [z]))).trans (hk b ob (fun z => hb (by simp [z])) (fun z => hb (by simp [z])) q)) hf (Nat.le_refl _) new
    refine ⟨.ref s.heap.objs.size, _, I1, rfl, ⟨_, x, rfl, I.hok.fresh (Nat.le_refl _), rfl, fun ys hy => by rw [I.tuple_inj hy hq]; exact hx⟩, ⟨⟨x', ?_⟩, hit'.at fun o q => (sb.2 it (Ne.symm hne)).trans q, hne, hea, hia⟩, fun b hb => ?_⟩
    · have e1 : ((i + 1 : Nat) : Int) = (i : Int) + 1 := by omega
      rw [e1]; exact he'
    · have hb' : b < s.heap.objs.size := by
        have e' : b = e ∨ b = it := by simpa using hb
        rcases e' with z | z
        · rw [z]; exact hel
        · rw [z]; exact hil
      rw [upd_ne (Nat.ne_of_lt hb')]
      exact (hf b hb).1
  done := by
    intro X hP hw hK hc i pins s σ H E I hf st hg
    subst hP hw hK
    obtain ⟨⟨old, he⟩, hit, hne, hea, hia⟩ := st
    obtain ⟨xs, hq, hx⟩ := hg
    obtain ⟨its, rv, p, hz⟩ := I.tuple hq
    obtain ⟨f0, f1, f2, f3, f4, f5⟩ := hf it (by simp)
    have hl := rv.length
    -- the inner iterator is at its end or past it
    have hnx : ∀ (Q : Value → Shared → Prop) (E' : Value → Shared → Prop), (∀ h' e, Heap.ExtBut it s.heap h' → (∃ o, h'.get? e = some o ∧ o.cls = .type "StopIteration") → E' (.ref e) { s with heap := h' }) →
        wpAny (model X.prog X.w) X.A.in1 (Builtin.SmallTypes.nextOf (.ref it)) Q E' s := fun Q E' hE => wpAny_nextOf_tuple_end (show X.A.in1.handled = none from I.ok.hd hc) hit (show s.heap.IsTuple a its.toArray from p) (by simp; omega) hE
    have hT : s.TypeIs (.ref e) "enumerate" := ⟨_, he, rfl⟩
    unfold pyNext
    refine wpAny_bind (wpAny_attempt (wpAny_callSpecial?_slot (name := Str.ofString "__next__") hT F.slot_enumerate_next
      (wpAny_call_entry F.slot_enumerate_next hT F.entry_enumerate_next ?_ (F.args_enumerate_next_1 _))))
    show wpAny _ _ (field (.ref e) 2 >>= _) _ _ _
    refine wpAny_bind (wpAny_field he rfl (x := .ref it) rfl ?_)
    refine wpAny_bind (hnx _ _ fun h' x he' hx' => ?_)
    obtain ⟨o, ho, hcc⟩ := hx'
    refine wpAny_bind (wpAny_isInstance (T := "StopIteration") (b := true) ⟨o, ho, hcc⟩ isSubtype_stop ?_)
    exact wpAny_pure ⟨rfl, I.turned (t' := s.toks) (fun b o hb q => he' b o hb q) f0 f1 f3 f4 f5⟩
  self := fun A i s Q E st h => let ⟨⟨_, he⟩, _⟩ := st; wpAny_pyIter_enum he h
def iEnumT (K : PySem.W.Frag) (ta : TA) : TI := fun σ H R => ta σ H fun vs H1 => ∃ a xs, vs = [.ref a] ∧ SqT K H1 a xs ∧ R (IteT K a) H1
theorem pi_enumT {X : Cx} {e : Expr} {ta : TA} {p pos tpos : Pos} {elts : List Expr} {kk : Nat} (hg : Gl X "enumerate") (hm : X.mg "enumerate" = none) (ha : PA X [e] ta) (hs : starEach [e] X.env = [(false, eval e X.env)] := by rfl) :
    PI X (.Tuple elts kk tpos) (.Call (.Name "enumerate" p) [e] [] pos) (iEnumT X.K ta) := by
  refine ⟨fun pins s σ H R I h => ?_⟩
  refine Call_ (ld_blt I hg hm boot_enumerate (PyProof.Rows.callWith_type1 (thn (ha.run pos pins s σ H _ I h) fun us s1 ⟨vs, H1, I1, r1, q1⟩ => ?_) hs rfl))
  obtain ⟨a, xs, ex, hq, q⟩ := q1
  subst ex
  cases r1 with
  | cons r rr =>
    cases rr
    cases r
    obtain ⟨its, rv, p', hz⟩ := I1.tuple hq
    have hal : a < s1.heap.objs.size := by obtain ⟨_, q, _⟩ := id p'; exact Heap.lt_size q
    refine call_enumerate_tupleV p' fun h' he hit hsz hk => wpAny_pyIter_enum he ?_
    have I2 : Inv X pins σ H1 { s1 with heap := h' } := I1.kept (t' := s1.toks) hk
    refine ⟨s1.heap.objs.size + 1, [s1.heap.objs.size + 1, s1.heap.objs.size], _, _, H1, rfl, I2, turn_enumT a (s1.heap.objs.size + 1) s1.heap.objs.size, ⟨⟨.none, he⟩, hit, Nat.succ_ne_self _, Nat.ne_of_gt (Nat.lt_succ_of_lt hal), Nat.ne_of_gt hal⟩, fun b hb => ?_, q⟩
    have e' : b = s1.heap.objs.size + 1 ∨ b = s1.heap.objs.size := by simpa using hb
    have hle : s1.heap.objs.size ≤ b := by
      rcases e' with z | z
      · rw [z]; exact Nat.le_add_right _ _
      · rw [z]; exact Nat.le_refl _
    exact I1.fpOk hle (I1.hok.fresh hle)
end L2
namespace VS
open PySem PySem.Spec L2
def iEnum (f : List S → Out (List D)) : List S → Out (List D) := fun ρ => (f ρ).bind fun ds ρ1 => match ds with
  | [.lst xs] => .ok (enumFrom 0 xs) ρ1
  | [.tup xs] => .ok (enumFrom 0 xs) ρ1
  | _ => .bad
theorem yields_enumT {K : PySem.W.Frag} {mg : Str → Option Value} {B0 : Av} {as : List Addr} {H : Hp} {a : Addr} {vs : List V} {ds : List D} (hp : Tp K H (Bv as B0) a vs) (r : Rs K mg H (Bv as B0) ds vs) : Yields K mg B0 (IteT K a) (enumFrom 0 ds) as H := by
  intro as1 H1 B1 f hB tr i
  have hp1 := hp.fwd f hB
  have r1 := r.fwd1 f hB
  have sq : SqT K H1 a vs := hp1.sq
  refine ⟨fun hi => ⟨vs, sq, by rw [← r1.length]; rw [enumFrom_length] at hi; exact hi⟩, fun d hd => ?_⟩
  rw [enumFrom_get] at hd
  cases e : ds[i]? with
  | none => rw [e] at hd; cases hd
  | some d0 =>
    rw [e] at hd
    cases hd
    obtain ⟨x, hx, rx⟩ := r1.get e
    refine ⟨⟨vs, x, sq, hx⟩, fun y H2 ⟨T, x', e1, nT, e2, q⟩ => ?_⟩
    have := q vs sq
    rw [hx] at this
    cases this
    subst e1 e2
    refine ⟨same_upd nT, T, _, rfl, .inl ⟨.inl upd_same, fun z => tr T z nT⟩, ?_⟩
    refine Rs.cons ?_ (Rs.cons (rx.same (same_upd nT)) Rs.nil)
    show V.int (i : Nat) = V.int ((0 + i : Nat) : Int)
    rw [Nat.zero_add]
section
variable {X : Cx} {W : WX} {fl : List S → Out (List D)}
theorem vi_enum {e : Expr} {p pos tpos : Pos} {elts : List Expr} {kk : Nat} (hg : Gl X "enumerate") (hm : X.mg "enumerate" = none) (ha : VA X W [e] fl) (hs : starEach [e] X.env = [(false, eval e X.env)] := by rfl) : VI X W (.Tuple elts kk tpos) (.Call (.Name "enumerate" p) [e] [] pos) (iEnum fl) := by
  refine ⟨fun pins s σ H T I hw => ?_⟩
  obtain ⟨B0, ρ, as, rel, hw⟩ := hw
  unfold iEnum at hw
  cases e1 : fl ρ with
  | ok ds ρ1 =>
    rw [e1] at hw
    match ds, hw, e1 with
    | [.lst xs], hw, e1 =>
      refine (pi_enum hg hm ha hs).run pins s σ H T I ⟨B0, ρ, as, rel, ?_⟩
      rw [e1]
      intro us H1 as1 rel1 f1 r1
      obtain ⟨x, rfl, a, vs, rfl, lp, rs⟩ := r1.one
      exact ⟨a, vs, rfl, lp.sq, hw _ H1 as1 rel1 f1 (yields_enum lp rs)⟩
    | [.tup xs], hw, e1 =>
      refine (pi_enumT hg hm ha hs).run pins s σ H T I ⟨B0, ρ, as, rel, ?_⟩
      rw [e1]
      intro us H1 as1 rel1 f1 r1
      obtain ⟨x, rfl, a, vs, rfl, lp, rs⟩ := r1.one
      exact ⟨a, vs, rfl, lp.sq, hw _ H1 as1 rel1 f1 (yields_enumT lp rs)⟩
  | ex c w ρ1 =>
    rw [e1] at hw
    refine (pi_enum hg hm ha hs).run pins s σ H T I ⟨B0, ρ, as, rel, ?_⟩
    rw [e1]
    exact hw
  | bad => rw [e1] at hw; exact hw.elim
end
/-! ### except C as n: return ['..', n.what], ('..', n.what) -/
/-- errors of class x alone are the clause's -/
def Tbl.only (t : Tbl) (x : Str) : Bool := t.all fun p => !(p.1.2 == x && p.2) || p.1.1 == x
theorem only_eq {t : Tbl} {x c : Str} (h : t.only x = true) (hs : t.sub c x = some true) : c = x := by
  have hm := lookup_mem (show t.lookup (c, x) = some true from hs)
  have := List.all_eq_true.mp h _ hm
  simpa using this
theorem pss_when {X : Cx} {st : List Stmt} {t : TS} {p : Prop} (h : p → PSs X st t) : PSs X st (fun D σ H => p ∧ t D σ H) := ⟨fun pins s σ H D I w => (h w.1).run pins s σ H D I w.2⟩
/-- what must be known of the clause's class -/
structure CatC (K : PySem.W.Frag) (C : Addr) : Prop where
  xf : XfC K C
  no : PySem.W.findIn K (.ref C) "what" = some none
def tsWhat (s : Str) (C : Addr) (i : Nat) (lst : Bool) : Addr → Value → Option Addr → TS := fun a cls d D σ H => cls = .ref C ∧
  (if lst then tRet (tLst (tCons (tC (.str s)) (tCons (tXf a cls d C "what" (tVar i)) tNil))) else tRet (tTup (tCons (tC (.str s)) (tCons (tXf a cls d C "what" (tVar i)) tNil)))) D σ H
/-- return ['..', n.what] -/
def fWhat (s : Str) (i : Nat) (lst : Bool) : D → List S → SO := fun w ρ => if i < ρ.length then .rt (if lst then .lst [.str s, w] else .tup [.str s, w]) ρ else .bad
section
variable {X : Cx} {W : WX} {P : Nat → Prop} {t : Tbl} {s x n : Str} {C : Addr} {i : Nat} {j1 : Nat} {p1 p2 p3 p4 p5 : Pos} {k1 : Nat}
theorem su_lst (T : CatC X.K C) (hi : X.N[i]? = some n) (hv : Vis X.env.scope n) (hd : (n == ("__debug__" : Str)) = false) (hcd : (n == ("__classdict__" : Str)) = false) (a : Addr) (oe : Obj) (cls : Value) (d : Option Addr) (pn : List (Addr × Obj)) (hz : Zc cls d oe) (hf : ∃ vs, oe.data = .fields vs)
    (hb : attributeBase (.Name n p2) "what" X.env (eval (.Name n p2) X.env) = eval (.Name n p2) X.env) (h1 : starEach [.Constant (.str s) j1 p1, .Attribute (.Name n p2) "what" p3] X.env = [(false, eval (.Constant (.str s) j1 p1) X.env), (false, eval (.Attribute (.Name n p2) "what" p3) X.env)])
    (h2 : starEach [.Attribute (.Name n p2) "what" p3] X.env = [(false, eval (.Attribute (.Name n p2) "what" p3) X.env)]) :
    PSs (X.suite a ((a, oe) :: pn)) [.Return (some (.List [.Constant (.str s) j1 p1, .Attribute (.Name n p2) "what" p3] p4)) p5] (tsWhat s C i true a cls d) :=
  pss_when fun _ => pss_one (ps_ret (pe_lst (pa_cons pe_str (pa_cons (pe_xf T.xf T.no hz hf (pe_var hi hv hd hcd) hb) pa_nil h2) (by
    show starEach _ X.env = (false, eval _ X.env) :: starEach _ X.env
    rw [h1, h2]))))
theorem su_tup (T : CatC X.K C) (hi : X.N[i]? = some n) (hv : Vis X.env.scope n) (hd : (n == ("__debug__" : Str)) = false) (hcd : (n == ("__classdict__" : Str)) = false) (a : Addr) (oe : Obj) (cls : Value) (d : Option Addr) (pn : List (Addr × Obj)) (hz : Zc cls d oe) (hf : ∃ vs, oe.data = .fields vs)
    (hb : attributeBase (.Name n p2) "what" X.env (eval (.Name n p2) X.env) = eval (.Name n p2) X.env) (h1 : starEach [.Constant (.str s) j1 p1, .Attribute (.Name n p2) "what" p3] X.env = [(false, eval (.Constant (.str s) j1 p1) X.env), (false, eval (.Attribute (.Name n p2) "what" p3) X.env)])
    (h2 : starEach [.Attribute (.Name n p2) "what" p3] X.env = [(false, eval (.Attribute (.Name n p2) "what" p3) X.env)]) :
    PSs (X.suite a ((a, oe) :: pn)) [.Return (some (.Tuple [.Constant (.str s) j1 p1, .Attribute (.Name n p2) "what" p3] k1 p4)) p5] (tsWhat s C i false a cls d) :=
  pss_when fun _ => pss_one (ps_ret (pe_tup (pa_cons pe_str (pa_cons (pe_xf T.xf T.no hz hf (pe_var hi hv hd hcd) hb) pa_nil h2) (by
    show starEach _ X.env = (false, eval _ X.env) :: starEach _ X.env
    rw [h1, h2]))))
theorem hd_what {lst : Bool} (hm : X.mg x = some (.ref C)) (ho : t.only x = true) : HdOk X.K X.mg W P t x (fWhat s i lst) (.as (.ref C) i (tsWhat s C i lst)) := by
  refine ⟨⟨C, rfl, hm⟩, fun B0 as ρ σ H E c' a C' dd v w hs rel ha hc hd r h => ?_⟩
  have e := only_eq ho hs
  subst e
  have eC : C' = C := by
    rw [hm] at hc
    cases hc
    rfl
  subst eC
  unfold fWhat at h
  by_cases hi : i < ρ.length
  · rw [if_pos hi] at h
    have hi2 : i < σ.length := by rw [← rel.len]; exact hi
    have hv : (σ.set i (some (V.ref a)))[i]? = some (some (.ref a)) := List.getElem?_set_self hi2
    have look : ([(("what" : Str), v)] : List (Str × V)).lookup ("what" : Str) = some v := by simp [List.lookup]
    refine ⟨rfl, ?_⟩
    cases lst with
    | true =>
      rw [if_pos rfl]
      refine ⟨_, hv, rfl, rfl, dd, _, v, rfl, hd, look, by show 2 ≤ sizeLine; decide, fun p hp => ?_⟩
      obtain ⟨rel2, f2⟩ := rel.same (same_upd (o := .lst [.str s, v]) hp)
      exact h (.ref p) σ _ as rel2 f2 Pin.refl ⟨p, _, rfl, ⟨upd_same, fun hb => rel.tracked hb hp⟩, Rs.cons rfl (Rs.cons (r.same (same_upd hp)) Rs.nil)⟩
    | false =>
      rw [if_neg Bool.false_ne_true]
      refine ⟨_, hv, rfl, rfl, dd, _, v, rfl, hd, look, by show 2 ≤ sizeLine; decide, fun p hp => ?_⟩
      obtain ⟨rel2, f2⟩ := rel.same (same_upd (o := .tup [.str s, v]) hp)
      exact h (.ref p) σ _ as rel2 f2 Pin.refl ⟨p, _, rfl, .inl ⟨.inl upd_same, fun hb => rel.tracked hb hp⟩, Rs.cons rfl (Rs.cons (r.same (same_upd hp)) Rs.nil)⟩
  · rw [if_neg hi] at h; exact h.elim
end
end VS
/-! ## VSA -/
set_option Elab.async false
set_option linter.all false
set_option maxRecDepth 100000
set_option maxHeartbeats 4000000
set_option autoImplicit false
namespace VS
open PySem PySem.Spec L2
theorem hu65 {A : Around} {k : Nat} (r : Room k A) : A.units + 65 < cLine := by have := r.un; omega
def A2len (g : List S → Out (List S)) (n : Nat) : Prop := ∀ ρ ss ρ', g ρ = .ok ss ρ' → ss.length = n
theorem a2len_nil : A2len a2Nil 0 := fun ρ ss ρ' h => by cases h; rfl
theorem a2len_fr {f : List S → Out D} {g : List S → Out (List S)} {n : Nat} (h : A2len g n) : A2len (a2Fr f g) (n + 1) := fun ρ ss ρ' e => by
  unfold a2Fr at e
  cases e1 : f ρ with
  | bad => rw [e1] at e; cases e
  | ex c w r => rw [e1] at e; cases e
  | ok d r =>
    rw [e1] at e
    have e : (g r).bind (fun ss ρ2 => Out.ok (S.fr d :: ss) ρ2) = .ok ss ρ' := e
    cases e2 : g r with
    | bad => rw [e2] at e; cases e
    | ex c w r => rw [e2] at e; cases e
    | ok s2 r2 =>
      rw [e2] at e
      cases e
      rw [List.length_cons, h _ _ _ e2]
theorem a2len_ow {f : List S → Out (List D)} {g : List S → Out (List S)} {n : Nat} (h : A2len g n) : A2len (a2Ow f g) (n + 1) := fun ρ ss ρ' e => by
  unfold a2Ow at e
  cases e1 : f ρ with
  | bad => rw [e1] at e; cases e
  | ex c w r => rw [e1] at e; cases e
  | ok d r =>
    rw [e1] at e
    have e : (g r).bind (fun ss ρ2 => Out.ok (S.ow d :: ss) ρ2) = .ok ss ρ' := e
    cases e2 : g r with
    | bad => rw [e2] at e; cases e
    | ex c w r => rw [e2] at e; cases e
    | ok s2 r2 =>
      rw [e2] at e
      cases e
      rw [List.length_cons, h _ _ _ e2]
section
variable {X : Cx} {W : WX} {P : Nat → Prop} {a b : Expr} {fa fb : List S → Out D} {pos : Pos}
/-- [..] * n: a new list -/
def nRep (fl : List S → Out D) (fn : List S → Out D) : List S → Out (List D) := fun ρ => (fl ρ).bind fun d ρ1 => (fn ρ1).bind fun k ρ2 => match d, k with
  | .lst ds, .int k => if Fit k ∧ ds.length * k.toNat ≤ sizeLine then .ok (List.replicate k.toNat ds).flatten ρ2 else .bad
  | _, _ => .bad
theorem vn_rep (ha : VE X W a fa) (hb : VE X W b fb) : VN X W (.BinOp a .Mult b pos) (nRep fa fb) := by
  refine PE_weak (pe_op op_rep ha hb) ?_
  rintro σ H Q ⟨B0, ρ, as, rel, h⟩
  refine ⟨B0, ρ, as, rel, h.bind fun d ρ1 h1 x H1 as1 rel1 f1 r1 => ⟨B0, ρ1, as1, rel1, (h1.bind fun e ρ2 h2 => h2).fwd f1 fun e ρ2 h2 y H2 as2 rel2 f2 r2 => ?_⟩⟩
  cases d with
  | lst ds =>
    cases e with
    | int k =>
      have h2 : EPost X.K X.mg W B0 as H σ _ (if Fit k ∧ ds.length * k.toNat ≤ sizeLine then Out.ok (List.replicate k.toNat ds).flatten ρ2 else .bad) := h2
      by_cases c : Fit k ∧ ds.length * k.toNat ≤ sizeLine
      · rw [if_pos c] at h2
        have c : -(2 ^ 63) ≤ k ∧ k < 2 ^ 63 ∧ ds.length * k.toNat ≤ sizeLine := ⟨by have := c.1.ok; omega, by have := c.1.ok; omega, c.2⟩
        obtain ⟨p, vs, rfl, tp, rs⟩ := r1.fwd f2
        cases (show y = V.int k from r2)
        refine ⟨p, k, vs, rfl, rfl, tp.1, c.1, c.2.1, by rw [← rs.length]; exact c.2.2, fun n hn => ?_⟩
        exact h2 n _ _ as2 (rel2.plus hn) (((f1.trans f2)).trans (rel2.same (same_upd hn)).2) ((f1.trans f2).unt hn) upd_same (Rs.plus (rs.rep _) hn (same_upd hn))
      · rw [if_neg c] at h2; exact h2.elim
    | _ => exact h2.elim
  | _ => cases e <;> exact h2.elim
/-- a target = a value -/
def sAsg (g : D → List S → Option (List S)) (f : List S → Out D) : List S → SO := fun ρ => (f ρ).toS fun d ρ1 => match g d ρ1 with
  | some ρ2 => .nx ρ2
  | none => .bad
theorem vs_asg {tg e : Expr} {fe : List S → Out D} {g : D → List S → Option (List S)} (he : VE X W e fe) (hg : VG X P tg g) (hs : swapsWithSole [tg] e pos.line X.env = pure false := by rfl) (hw : swappedStores [tg] e X.env = pure none := by rfl)
    (h1 : (assignEach [tg] X.env).map (·.2) = [assign tg X.env] := by rfl) : VS1 X W P (.Assign [tg] e pos) (sAsg g fe) := by
  refine PS_weak (ps_asg he hg hs hw h1) ?_
  rintro E σ H ⟨B0, ρ, as, rel, h⟩
  refine ⟨B0, ρ, as, rel, h.bind (fun _ _ _ => trivial) fun d ρ1 h1 x H1 as1 rel1 f1 r1 => ?_⟩
  cases e : g d ρ1 with
  | none => rw [e] at h1; exact h1.elim
  | some ρ2 =>
    rw [e] at h1
    exact ⟨B0, ρ1, as1, d, ρ2, rel1, r1, e, fun σ' as' rel' f' p' => h1 σ' H1 as' rel' (f1.trans f') p'⟩
end
/-! ### the end -/
def spEnd (K : PySem.W.Frag) : Sp := fun vs H Q _ => ∃ (a : Addr) (ns : List Int), vs = [.ref a] ∧ SqL K H a (ns.map V.int) ∧ ns.length ≤ 63 ∧ ∀ H', Q (.bl true) H'
theorem end_of {K : PySem.W.Frag} {mg : Str → Option Value} {m : List S → FO} (hm : ∀ ns : List Int, ns.length ≤ 63 → ∃ outs, m [.fr (.scr ns)] = .ok (.bl true) outs) {vs : List V} {H : Hp} {Q : VK} {E : XK} (h : spEnd K vs H Q E) : spM K mg 1 m vs H Q E := by
  obtain ⟨a, ns, rfl, hS, hl, q⟩ := h
  obtain ⟨outs, e⟩ := hm ns hl
  refine ⟨fun _ => False, [], [.fr (.scr ns)], rfl, ⟨?_, List.nodup_nil, fun a h => by simp at h, fun a h => h.elim⟩, ?_⟩
  · refine .cons (as := []) ⟨rfl, .ref a, rfl, a, rfl, ?_⟩ .nil
    exact hS.imp (fun h => ⟨h, fun z => z.elim (fun z => by simp at z) id⟩) id
  · rw [e]
    intro x H' as' rel' f' r
    cases (show x = V.bl true from r)
    exact q H'
theorem cx_no {P : Program} {w : World} {H : Hp} {s s' : Shared} {e : Value} (h : L2.CX P w [] H s (fun _ _ _ => False) e s') : False := by
  obtain ⟨_, _, _, _, _, _, _, _, _, _, _, _, z⟩ := h
  exact z
end VS
/-! ## VM -/
set_option Elab.async false
set_option linter.all false
set_option maxRecDepth 100000
set_option maxHeartbeats 4000000
set_option autoImplicit false
namespace VS
open PySem PySem.Spec L2
theorem sLoop_inv {g : D → List S → Option (List S)} {fb : List S → SO} (I : List D → List S → Prop)
    (hs : ∀ d ds ρ, I (d :: ds) ρ → ∃ ρ1 ρ2, g d ρ = some ρ1 ∧ (fb ρ1 = .nx ρ2 ∨ fb ρ1 = .ct ρ2) ∧ I ds ρ2) : ∀ (items : List D) (ρ : List S), I items ρ → ∃ ρ', sLoop g fb items ρ = .nx ρ' ∧ I [] ρ'
  | [], ρ, h => ⟨ρ, rfl, h⟩
  | d :: ds, ρ, h => by
    obtain ⟨ρ1, ρ2, e1, e2, h2⟩ := hs d ds ρ h
    obtain ⟨ρ', e3, h3⟩ := sLoop_inv I hs ds ρ2 h2
    refine ⟨ρ', ?_, h3⟩
    rw [sLoop, e1]
    rcases e2 with e2 | e2
    · simp only [e2]; exact e3
    · simp only [e2]; exact e3
theorem sComp_map {g : D → List S → Option (List S)} {ft : List S → Out Bool} {fe : List S → Out D} {vs : List Nat} {ρ : List S} {f : D → D} :
    ∀ (ds acc : List D), (∀ d ∈ ds, ∃ ρ1 ρ2 ρ3, g d ρ = some ρ1 ∧ ft ρ1 = .ok true ρ2 ∧ fe ρ2 = .ok (f d) ρ3 ∧ wipeS ρ3 vs = ρ) → acc.length + ds.length ≤ sizeLine → sComp g ft fe vs ds ρ acc = .ok (acc ++ ds.map f) ρ
  | [], acc, _, _ => by simp [sComp]
  | d :: ds, acc, h, hl => by
    obtain ⟨ρ1, ρ2, ρ3, e1, e2, e3, e4⟩ := h d (by simp)
    have hl' : acc.length < sizeLine := by simp only [List.length_cons] at hl; omega
    rw [sComp, e1]
    simp only [e2, e3, if_pos hl', e4]
    rw [sComp_map ds (acc ++ [f d]) (fun x hx => h x (List.mem_cons_of_mem _ hx)) (by simp only [List.length_append, List.length_cons, List.length_nil] at hl ⊢; omega)]
    simp
theorem atI_of {α : Type} {xs : List α} {i : Int} (h0 : 0 ≤ i) (h1 : i < xs.length) : ∃ x, atI xs i = some x ∧ xs[i.toNat]? = some x := by
  have : i.toNat < xs.length := by omega
  refine ⟨xs[i.toNat], ?_, by simp [this]⟩
  unfold atI ixN
  rw [if_pos h0, if_pos h1]
  simp [this]
theorem atI_nat {α : Type} {xs : List α} {k : Nat} (h1 : k < xs.length) : atI xs (k : Int) = xs[k]? := by
  unfold atI ixN
  rw [if_pos (by omega), if_pos (by omega)]
  simp
theorem ixN_of {n : Nat} {i : Int} (h0 : 0 ≤ i) (h1 : i < n) : ixN n i = some i.toNat := by
  unfold ixN
  rw [if_pos h0, if_pos h1]
theorem seqIx_of {n : Nat} {i : Int} (h0 : 0 ≤ i) (h1 : i < n) : seqIndex? i n = some i.toNat := (ixN_seq (ixN_of h0 h1)).1
theorem szl : PySem.sizeLine = 16777216 := by unfold PySem.sizeLine; decide
theorem fit_int {i : Int} (h0 : -1048576 < i) (h1 : i < 1048576) : Fit i := Fit.of (by omega) (by omega)
theorem fit_nat {n : Nat} (h : n < 1048576) : Fit (n : Int) := fit_int (by omega) (by omega)
def R1 (ds : List D) (ρ1 : List S) : Out (List D) := match ds with
  | [.int j] => if Fit j then .ok ((List.range j.toNat).map fun (k : Nat) => D.int (k : Int)) ρ1 else .bad
  | _ => .bad
theorem iR1_eq (f : List S → Out (List D)) (ρ : List S) : iRange1 f ρ = (f ρ).bind R1 := rfl
theorem R1_int (j : Int) (ρ1 : List S) : R1 [.int j] ρ1 = if Fit j then .ok ((List.range j.toNat).map fun (k : Nat) => D.int (k : Int)) ρ1 else .bad := rfl
theorem R1_ok (n : Nat) (hn : n < 1048576) (ρ1 : List S) : R1 [.int n] ρ1 = .ok ((List.range n).map fun (k : Nat) => D.int (k : Int)) ρ1 := by
  rw [R1_int, if_pos (fit_nat hn), Int.toNat_natCast]
def R2 (ds : List D) (ρ1 : List S) : Out (List D) := match ds with
  | [.int i, .int j] => if Fit i ∧ Fit j then .ok ((List.range (j - i).toNat).map fun (k : Nat) => D.int (i + k)) ρ1 else .bad
  | _ => .bad
theorem iR2_eq (f : List S → Out (List D)) (ρ : List S) : iRange2 f ρ = (f ρ).bind R2 := rfl
theorem R2_int (i j : Int) (ρ1 : List S) : R2 [.int i, .int j] ρ1 = if Fit i ∧ Fit j then .ok ((List.range (j - i).toNat).map fun (k : Nat) => D.int (i + k)) ρ1 else .bad := rfl
theorem R2_ok (i n : Int) (h0 : 0 ≤ i) (h2 : i < 1048576) (h1 : 0 ≤ n) (hn : n < 1048576) (ρ1 : List S) : R2 [.int i, .int n] ρ1 = .ok ((List.range (n - i).toNat).map fun (k : Nat) => D.int (i + k)) ρ1 := by
  rw [R2_int, if_pos ⟨fit_int (by omega) (by omega), fit_int (by omega) (by omega)⟩]
/-- the source of a script's draws -/
def Src (s : S) : Prop := ∃ a b : Int, s = .ow [.int a, .int b] ∧ 0 ≤ b ∧ b < 2147483647
section
open VS
theorem gMod_ii (i j : Int) : VS.gMod (.int i) (.int j) = if 0 < j then some (.int (i % j)) else none := rfl
theorem gDiv_ii (i j : Int) : VS.gDiv (.int i) (.int j) = if CDivW i j then some (.int (i / j)) else none := rfl
theorem gAdd_ii (i j : Int) : VS.gAdd (.int i) (.int j) = some (.int (i + j)) := rfl
theorem gSub_ii (i j : Int) : VS.gSub (.int i) (.int j) = some (.int (i - j)) := rfl
theorem gMul_ii (i j : Int) : VS.gMul (.int i) (.int j) = if CMul i j ∨ CMulW i j then some (.int (i * j)) else none := rfl
theorem gPow_ii (i j : Int) : VS.gPow (.int i) (.int j) = if CPow i j then some (.int (i ^ j.toNat)) else none := rfl
theorem gLt_ii (i j : Int) : VS.gLt (.int i) (.int j) = some (.bl (decide (i < j))) := rfl
theorem gLe_ii (i j : Int) : VS.gLe (.int i) (.int j) = some (.bl (decide (i ≤ j))) := rfl
theorem gGt_ii (i j : Int) : VS.gGt (.int i) (.int j) = some (.bl (decide (j < i))) := rfl
theorem gGe_ii (i j : Int) : VS.gGe (.int i) (.int j) = some (.bl (decide (j ≤ i))) := rfl
theorem gEq_ii (n : Bool) (i j : Int) : VS.gEq n (.int i) (.int j) = some (.bl (xor n (i == j))) := rfl
theorem gEq_bb (n : Bool) (i j : Bool) : VS.gEq n (.bl i) (.bl j) = some (.bl (xor n (i == j))) := rfl
theorem gIs_bb (n : Bool) (i j : Bool) : VS.gIs n (.bl i) (.bl j) = some (.bl (xor n (decide (i = j)))) := rfl
theorem gIx_t (ds : List D) (i : Int) : VS.gIx (.tup ds) (.int i) = atI ds i := rfl
theorem gIx_l (ds : List D) (i : Int) : VS.gIx (.lst ds) (.int i) = atI ds i := rfl
theorem gIx_s (ds : List Int) (i : Int) : VS.gIx (.scr ds) (.int i) = (atI ds i).map D.int := rfl
end
end VS
/-! ## worth -/
namespace Law
open PySem PySem.Spec L2 VS
def topS (i : Nat) : Stmt := PySem.Challenge.pw_nearlords_k08_houses_and_their_errors.main.body.getD i (.Pass ⟨0, 0, 0, 0⟩)
/-- turns of a while: more than any takes -/
def fuel : Nat := 1000000
/-- which error is of which class -/
def tbl : Tbl := [(("BadSize", "Refused"), true), (("BadSize", "BadSize"), true), (("BadSize", "BadParent"), false), (("BadSize", "Round"), false), (("BadParent", "Refused"), true), (("BadParent", "BadSize"), false), (("BadParent", "BadParent"), true), (("BadParent", "Round"), false), (("Round", "Refused"), true), (("Round", "BadSize"), false), (("Round", "BadParent"), false), (("Round", "Round"), true)]
/-! ### is_number -/
abbrev s_is_number : Stmt := topS 8
abbrev N_is_number : List Str := ["thing"]
theorem sc_is_number : FnScope N_is_number ["thing"] (defScope s_is_number) := ⟨rfl, rfl, rfl, by decide +kernel, rfl, by decide +kernel, by decide +kernel⟩
def b_is_number : List S → SO :=
  sRet (eAnd (eIsi "int" (eVar 0)) (bV (bNot (eB (eIsi "bool" (eVar 0))))))
def m_is_number : List S → FO := mFr 1 1 b_is_number
/-! ### is_number_row -/
abbrev s_is_number_row : Stmt := topS 9
abbrev N_is_number_row : List Str := ["thing", "part"]
theorem sc_is_number_row : FnScope N_is_number_row ["thing"] (defScope s_is_number_row) := ⟨rfl, rfl, rfl, by decide +kernel, rfl, by decide +kernel, by decide +kernel⟩
def b_is_number_row : List S → SO :=
  sRet (eAnd (eIsi "tuple" (eVar 0)) (eCall gAll (aCons (eN (nComp (iSeq (eVar 0)) (gN 1) (bYes) (eFn m_is_number (aCons (eVar 1) (aNil))) [1])) (aNil))))
def m_is_number_row : List S → FO := mFr 1 2 b_is_number_row
/-! ### check_size -/
abbrev s_check_size : Stmt := topS 10
abbrev N_check_size : List Str := ["n"]
theorem sc_check_size : FnScope N_check_size ["n"] (defScope s_check_size) := ⟨rfl, rfl, rfl, by decide +kernel, rfl, by decide +kernel, by decide +kernel⟩
def b_check_size : List S → SO :=
  sIf (bNot (eB (eChain gLe gLe (eC (.int 1)) (eVar 0) (eC (.int (16)))))) (sRaise "BadSize" (eVar 0)) (sNext)
def m_check_size : List S → FO := mFr 1 1 b_check_size
/-! ### _comes_to_door -/
abbrev s__comes_to_door : Stmt := topS 14
abbrev N__comes_to_door : List Str := ["parents", "x", "_"]
theorem sc__comes_to_door : FnScope N__comes_to_door ["parents", "x"] (defScope s__comes_to_door) := ⟨rfl, rfl, rfl, by decide +kernel, rfl, by decide +kernel, by decide +kernel⟩
def b__comes_to_door : List S → SO :=
  sSeq (sFor (iSeq (eVar 0)) (gN 2) (sIf (eB (eOp (gEq true) (eVar 1) (eC (.int (-1))))) (sSet 1 (eOp gIx (eVar 0) (eVar 1))) (sNext)))
    (sRet (eOp (gEq false) (eVar 1) (eC (.int (-1)))))
def m__comes_to_door : List S → FO := mFr 2 3 b__comes_to_door
/-! ### made_house -/
abbrev s_made_house : Stmt := topS 12
abbrev N_made_house : List Str := ["parents", "n", "x", "parent"]
theorem sc_made_house : FnScope N_made_house ["parents"] (defScope s_made_house) := ⟨rfl, rfl, rfl, by decide +kernel, rfl, by decide +kernel, by decide +kernel⟩
def b_made_house : List S → SO :=
  sSeq (sSet 1 (eCall gLen (aCons (eVar 0) (aNil))))
    (sSeq (sExpr (eFn m_check_size (aCons (eVar 1) (aNil))))
    (sSeq (sFor (iEnum (aCons (eVar 0) (aNil))) (gTp 2 (gsCons (gN 2) (gsCons (gN 3) (gsNil)))) (sIf (bOr (eB (eOp (gEq false) (eVar 3) (eVar 2))) (bNot (eB (eChain gLe gLt (eC (.int (-1))) (eVar 3) (eVar 1))))) (sRaise "BadParent" (eVar 2)) (sNext)))
    (sSeq (sFor (iRange1 (aCons (eVar 1) (aNil))) (gN 2) (sIf (bNot (eTr (eFn m__comes_to_door (aCons (eVar 0) (aCons (eVar 2) (aNil)))))) (sRaise "Round" (eVar 2)) (sNext)))
    (sRet (eVar 0)))))
def m_made_house : List S → FO := mFr 1 4 b_made_house
/-! ### is_house -/
abbrev s_is_house : Stmt := topS 13
abbrev N_is_house : List Str := ["thing"]
theorem sc_is_house : FnScope N_is_house ["thing"] (defScope s_is_house) := ⟨rfl, rfl, rfl, by decide +kernel, rfl, by decide +kernel, by decide +kernel⟩
def b_is_house : List S → SO :=
  sSeq (sIf (bNot (eTr (eFn m_is_number_row (aCons (eVar 0) (aNil))))) (sRet (eC (.bl false))) (sNext))
    (sSeq (sTry tbl (sExpr (eFn m_made_house (aCons (eVar 0) (aNil)))) [("Refused", fun _ => sRet (eC (.bl false)))])
    (sRet (eC (.bl true))))
def m_is_house : List S → FO := mFr 1 1 b_is_house
/-! ### _law_pool -/
abbrev s__law_pool : Stmt := topS 16
abbrev N__law_pool : List Str := ["script", "k", "cell", "big", "stirred"]
theorem sc__law_pool : FnScope N__law_pool ["script", "k"] (defScope s__law_pool) := ⟨rfl, rfl, rfl, by decide +kernel, rfl, by decide +kernel, by decide +kernel⟩
def b__law_pool : List S → SO :=
  sSeq (sSet 2 (eC (.int 0)))
    (sSeq (sIf (eB (eOp gLt (eVar 1) (eCall gLen (aCons (eVar 0) (aNil))))) (sSet 2 (eOp gIx (eVar 0) (eVar 1))) (sIf (eTr (eVar 0)) (sSet 2 (eOp gIx (eVar 0) (eC (.int 0)))) (sNext)))
    (sSeq (sSet 3 (eCall gMax2 (aCons (eCall gInt (aCons (eVar 2) (aNil))) (aCons (eCall gInt (aCons (eOp gSub (eUn gNeg (eC (.int 1))) (eVar 2)) (aNil))) (aNil)))))
    (sSeq (sSet 4 (eOp gMod (eCall gInt (aCons (eOp gMul (eOp gAdd (eOp gAdd (eOp gAdd (eOp gMod (eCall gInt (aCons (eVar 3) (aNil))) (eC (.int 2147483629))) (eOp gMul (eOp gMul (eC (.int 7919)) (eVar 1)) (eVar 1))) (eOp gMul (eC (.int 31)) (eVar 1))) (eC (.int 17))) (eC (.int 48271))) (aNil))) (eC (.int 2147483647))))
    (sRetNew (nLst (aCons (eOp gMul (eVar 3) (eCall gInt (aCons (eOp gGe (eVar 3) (eOp gPow (eC (.int 10)) (eC (.int 18)))) (aNil)))) (aCons (eVar 4) (aNil))))))))
def m__law_pool : List S → FO := mFr 2 5 b__law_pool
/-! ### _law_take -/
abbrev s__law_take : Stmt := topS 17
abbrev N__law_take : List Str := ["source", "top", "digit"]
theorem sc__law_take : FnScope N__law_take ["source", "top"] (defScope s__law_take) := ⟨rfl, rfl, rfl, by decide +kernel, rfl, by decide +kernel, by decide +kernel⟩
def b__law_take : List S → SO :=
  sSeq (sIf (eB (eOp gGt (eIxO 0 (eC (.int 0))) (eC (.int 0)))) (sSeq (sSet 2 (eOp gMod (eCall gInt (aCons (eIxO 0 (eC (.int 0))) (aNil))) (eVar 1)))
    (sSeq (sSetIx 0 (eC (.int 0)) (eOp gDiv (eIxO 0 (eC (.int 0))) (eVar 1)))
    (sRet (eVar 2)))) (sNext))
    (sSeq (sSetIx 0 (eC (.int 1)) (eOp gMod (eCall gInt (aCons (eOp gAdd (eOp gMul (eIxO 0 (eC (.int 1))) (eC (.int 39373))) (eC (.int 7))) (aNil))) (eC (.int 2147483647))))
    (sRet (eOp gMod (eCall gInt (aCons (eOp gDiv (eOp gMod (eCall gInt (aCons (eOp gMul (eIxO 0 (eC (.int 1))) (eIxO 0 (eC (.int 1)))) (aNil))) (eC (.int 2147483629))) (eC (.int 32))) (aNil))) (eVar 1))))
def m__law_take : List S → FO := mOw 2 3 b__law_take
/-! ### _law_one -/
abbrev s__law_one : Stmt := topS 18
abbrev N__law_one : List Str := ["source", "things"]
theorem sc__law_one : FnScope N__law_one ["source", "things"] (defScope s__law_one) := ⟨rfl, rfl, rfl, by decide +kernel, rfl, by decide +kernel, by decide +kernel⟩
def b__law_one : List S → SO :=
  sRet (eOp gIx (eVar 1) (eFnO 0 m__law_take (aCons (eCall gLen (aCons (eVar 1) (aNil))) (aNil))))
def m__law_one : List S → FO := mOw 2 2 b__law_one
/-! ### _law_shuffled -/
abbrev s__law_shuffled : Stmt := topS 19
abbrev N__law_shuffled : List Str := ["source", "count", "left", "found", "turn", "x"]
theorem sc__law_shuffled : FnScope N__law_shuffled ["source", "count"] (defScope s__law_shuffled) := ⟨rfl, rfl, rfl, by decide +kernel, rfl, by decide +kernel, by decide +kernel⟩
def b__law_shuffled : List S → SO :=
  sSeq (sPar [2, 3] (a2Ow (nComp (iRange1 (aCons (eVar 1) (aNil))) (gN 5) (bYes) (eVar 5) [5]) (a2Ow (nLst (aNil)) (a2Nil))))
    (sSeq (sFor (iRange1 (aCons (eVar 1) (aNil))) (gN 4) (sExpr (eMeth 3 gAppend (aCons (eMeth 2 gPopAt (aCons (eFnO 0 m__law_take (aCons (eLenO 2) (aNil))) (aNil))) (aNil)))))
    (sRet (eVar 3)))
def m__law_shuffled : List S → FO := mOw 2 6 b__law_shuffled
/-! ### _law_house -/
abbrev s__law_house : Stmt := topS 20
abbrev N__law_house : List Str := ["source", "n", "names", "kind", "parents", "k", "at"]
theorem sc__law_house : FnScope N__law_house ["source", "n"] (defScope s__law_house) := ⟨rfl, rfl, rfl, by decide +kernel, rfl, by decide +kernel, by decide +kernel⟩
def b__law_house : List S → SO :=
  sSeq (sPar [2, 3, 4] (a2Fr (eFnO 0 m__law_shuffled (aCons (eVar 1) (aNil))) (a2Fr (eFnO 0 m__law_take (aCons (eC (.int 5)) (aNil))) (a2Ow (nRep (eN (nLst (aCons (eUn gNeg (eC (.int 1))) (aNil)))) (eVar 1)) (a2Nil)))))
    (sSeq (sFor (iRange2 (aCons (eC (.int 1)) (aCons (eVar 1) (aNil)))) (gN 5) (sSeq (sSet 6 (eFnO 0 m__law_take (aCons (eOp gAdd (eVar 5) (eC (.int 1))) (aNil))))
    (sSeq (sIf (bOr (eB (eOp (gEq false) (eVar 3) (eC (.int 0)))) (bAnd (eB (eOp (gEq false) (eVar 3) (eC (.int 1)))) (eB (eOp (gEq false) (eFnO 0 m__law_take (aCons (eC (.int 2)) (aNil))) (eC (.int 0)))))) (sSet 6 (eVar 5)) (sNext))
    (sIf (eB (eOp gGt (eVar 6) (eC (.int 0)))) (sSetIx 4 (eOp gIx (eVar 2) (eVar 5)) (eOp gIx (eVar 2) (eOp gSub (eVar 6) (eC (.int 1))))) (sNext)))))
    (sRet (eCall gTupleOf (aCons (eVar 4) (aNil)))))
def m__law_house : List S → FO := mOw 2 7 b__law_house
/-! ### _law_bent -/
abbrev s__law_bent : Stmt := topS 21
abbrev N__law_bent : List Str := ["source", "house", "row", "n", "turn", "x", "way", "parent"]
theorem sc__law_bent : FnScope N__law_bent ["source", "house"] (defScope s__law_bent) := ⟨rfl, rfl, rfl, by decide +kernel, rfl, by decide +kernel, by decide +kernel⟩
def b__law_bent : List S → SO :=
  sSeq (sPar [2, 3] (a2Ow (nComp (iSeq (eVar 1)) (gN 7) (bYes) (eVar 7) [7]) (a2Fr (eCall gLen (aCons (eVar 1) (aNil))) (a2Nil))))
    (sSeq (sFor (iRange1 (aCons (eFnO 0 m__law_take (aCons (eC (.int 3)) (aNil))) (aNil))) (gN 4) (sSeq (sSet 5 (eFnO 0 m__law_take (aCons (eVar 3) (aNil))))
    (sSetIx 2 (eVar 5) (eFnO 0 m__law_one (aCons (eN (nLst (aCons (eUn gNeg (eC (.int 2))) (aCons (eVar 3) (aCons (eVar 5) (aCons (eFnO 0 m__law_take (aCons (eVar 3) (aNil))) (aCons (eFnO 0 m__law_take (aCons (eVar 3) (aNil))) (aCons (eOp gPow (eC (.int 10)) (eC (.int 20))) (aCons (eUn gNeg (eOp gPow (eC (.int 10)) (eC (.int 20)))) (aNil)))))))))) (aNil))))))
    (sSeq (sSet 6 (eFnO 0 m__law_take (aCons (eC (.int 8)) (aNil))))
    (sSeq (sIf (eB (eOp (gEq false) (eVar 6) (eC (.int 0)))) (sExpr (eMeth 2 gPopAt (aCons (eFnO 0 m__law_take (aCons (eVar 3) (aNil))) (aNil)))) (sNext))
    (sSeq (sIf (eB (eOp (gEq false) (eVar 6) (eC (.int 1)))) (sExpr (eMeth 2 gInsert (aCons (eFnO 0 m__law_take (aCons (eOp gAdd (eVar 3) (eC (.int 1))) (aNil))) (aCons (eOp gSub (eFnO 0 m__law_take (aCons (eOp gAdd (eVar 3) (eC (.int 1))) (aNil))) (eC (.int 1))) (aNil))))) (sNext))
    (sRet (eCall gTupleOf (aCons (eVar 2) (aNil))))))))
def m__law_bent : List S → FO := mOw 2 8 b__law_bent
/-! ### _law_due -/
abbrev s__law_due : Stmt := topS 22
abbrev N__law_due : List Str := ["parents", "n", "x", "at", "turn"]
theorem sc__law_due : FnScope N__law_due ["parents"] (defScope s__law_due) := ⟨rfl, rfl, rfl, by decide +kernel, rfl, by decide +kernel, by decide +kernel⟩
def b__law_due : List S → SO :=
  sSeq (sSet 1 (eCall gLen (aCons (eVar 0) (aNil))))
    (sSeq (sIf (bOr (eB (eOp gLt (eVar 1) (eC (.int 1)))) (eB (eOp gGt (eVar 1) (eC (.int 16))))) (sRet (eTup (aCons (eC (.str "size")) (aCons (eVar 1) (aNil))))) (sNext))
    (sSeq (sFor (iRange1 (aCons (eVar 1) (aNil))) (gN 2) (sIf (bOr (eB (eOp gLt (eOp gIx (eVar 0) (eVar 2)) (eUn gNeg (eC (.int 1))))) (bOr (eB (eOp gGe (eOp gIx (eVar 0) (eVar 2)) (eVar 1))) (eB (eOp (gEq false) (eOp gIx (eVar 0) (eVar 2)) (eVar 2))))) (sRet (eTup (aCons (eC (.str "parent")) (aCons (eVar 2) (aNil))))) (sNext)))
    (sSeq (sFor (iRange1 (aCons (eVar 1) (aNil))) (gN 2) (sSeq (sSet 3 (eVar 2))
    (sSeq (sFor (iRange1 (aCons (eVar 1) (aNil))) (gN 4) (sIf (eB (eOp gGe (eVar 3) (eC (.int 0)))) (sSet 3 (eOp gIx (eVar 0) (eVar 3))) (sNext)))
    (sIf (eB (eOp gGe (eVar 3) (eC (.int 0)))) (sRet (eTup (aCons (eC (.str "round")) (aCons (eVar 2) (aNil))))) (sNext)))))
    (sRet (eTup (aCons (eC (.str "house")) (aCons (eVar 0) (aNil))))))))
def m__law_due : List S → FO := mFr 1 5 b__law_due
/-! ### _law_told -/
abbrev s__law_told : Stmt := topS 23
abbrev N__law_told : List Str := ["parents", "told", "raised"]
theorem sc__law_told : FnScope N__law_told ["parents"] (defScope s__law_told) := ⟨rfl, rfl, rfl, by decide +kernel, rfl, by decide +kernel, by decide +kernel⟩
def b__law_told : List S → SO :=
  sSeq (sTry tbl (sSet 1 (eFn m_made_house (aCons (eVar 0) (aNil)))) [("BadSize", fWhat "size" 2 false), ("BadParent", fWhat "parent" 2 false), ("Round", fWhat "round" 2 false), ("Refused", fun _ => sRet (eTup (aCons (eC (.str "other")) (aCons (eC (.int 0)) (aNil)))))])
    (sRet (eTup (aCons (eC (.str "house")) (aCons (eVar 1) (aNil)))))
def m__law_told : List S → FO := mFr 1 3 b__law_told
/-! ### _law_right -/
abbrev s__law_right : Stmt := topS 24
abbrev N__law_right : List Str := ["parents", "due", "said"]
theorem sc__law_right : FnScope N__law_right ["parents"] (defScope s__law_right) := ⟨rfl, rfl, rfl, by decide +kernel, rfl, by decide +kernel, by decide +kernel⟩
def b__law_right : List S → SO :=
  sSeq (sPar [1, 2] (a2Fr (eFn m__law_due (aCons (eVar 0) (aNil))) (a2Fr (eFn m_is_house (aCons (eVar 0) (aNil))) (a2Nil))))
    (sRet (eAnd (eOp (gEq false) (eFn m__law_told (aCons (eVar 0) (aNil))) (eVar 1)) (eAnd (eIsi "bool" (eVar 2)) (eOp (gEq false) (eVar 2) (eOp (gEq false) (eOp gIx (eVar 1) (eC (.int 0))) (eC (.str "house")))))))
def m__law_right : List S → FO := mFr 1 3 b__law_right
/-! ### law -/
abbrev s_law : Stmt := topS 25
abbrev N_law : List Str := ["script", "source", "n", "house", "bent", "long", "parents", "x", "odd", "things", "thing"]
theorem sc_law : FnScope N_law ["script"] (defScope s_law) := ⟨rfl, rfl, rfl, by decide +kernel, rfl, by decide +kernel, by decide +kernel⟩
def b_law : List S → SO :=
  sSeq (sOwn 1 (nFn m__law_pool (aCons (eVar 0) (aCons (eC (.int 0)) (aNil)))))
    (sSeq (sSet 2 (eFnO 1 m__law_one (aCons (eN (nLst (aCons (eC (.int 1)) (aCons (eC (.int 2)) (aCons (eC (.int 3)) (aCons (eC (.int 4)) (aCons (eC (.int 5)) (aCons (eC (.int 6)) (aCons (eC (.int 7)) (aCons (eOp gAdd (eC (.int 2)) (eFnO 1 m__law_take (aCons (eC (.int 15)) (aNil)))) (aNil))))))))))) (aNil))))
    (sSeq (sSet 3 (eFnO 1 m__law_house (aCons (eVar 2) (aNil))))
    (sSeq (sSet 4 (eFnO 1 m__law_bent (aCons (eVar 3) (aNil))))
    (sSeq (sSet 5 (eOp gMul (eTup (aCons (eUn gNeg (eC (.int 1))) (aNil))) (eOp gAdd (eC (.int 16)) (eFnO 1 m__law_take (aCons (eC (.int 3)) (aNil))))))
    (sSeq (sFor (iSeq (eN (nLst (aCons (eVar 3) (aCons (eVar 4) (aCons (eFnO 1 m__law_bent (aCons (eVar 3) (aNil))) (aCons (eTup (aNil)) (aCons (eVar 5) (aNil))))))))) (gN 6) (sIf (bNot (eTr (eFn m__law_right (aCons (eVar 6) (aNil))))) (sRet (eC (.bl false))) (sNext)))
    (sSeq (sPar [7, 8] (a2Fr (eFnO 1 m__law_take (aCons (eVar 2) (aNil))) (a2Fr (eFnO 1 m__law_one (aCons (eN (nLst (aCons (eC (.str "")) (aCons (eC (.str "-1")) (aCons (eC (.str "0")) (aCons (eTup (aNil)) (aCons (eTup (aCons (eUn gNeg (eC (.int 1))) (aNil))) (aCons (eTup (aCons (eTup (aCons (eUn gNeg (eC (.int 1))) (aNil))) (aNil))) (aNil))))))))) (aNil))) (a2Nil))))
    (sSeq (sSet 9 (eN (nLst (aCons (eC (.int 0)) (aCons (eUn gNeg (eC (.int 1))) (aCons (eC (.int 7)) (aCons (eOp gPow (eC (.int 10)) (eC (.int 30))) (aCons (eC (.str "")) (aCons (eC (.str "-1")) (aCons (eTup (aCons (eTup (aCons (eUn gNeg (eC (.int 1))) (aNil))) (aNil))) (aCons (eTup (aCons (eC (.str "-1")) (aNil))) (aCons (eTup (aCons (eVar 3) (aNil))) (aCons (eOp gAdd (eOp gAdd (eSlice (eVar 3) (oNone) (oSome (eVar 7))) (eTup (aCons (eVar 8) (aNil)))) (eSlice (eVar 3) (oSome (eOp gAdd (eVar 7) (eC (.int 1)))) (oNone))) (aNil))))))))))))))
    (sSeq (sFor (iSeq (eVar 9)) (gN 10) (sIf (eB (eOp (gIs true) (eFn m_is_house (aCons (eVar 10) (aNil))) (eC (.bl false)))) (sRet (eC (.bl false))) (sNext)))
    (sRet (eC (.bl true)))))))))))
def m_law : List S → FO := mFr 1 11 b_law
end Law
/-! ## k08X -/
set_option Elab.async false
set_option linter.all false
set_option maxRecDepth 100000
set_option maxHeartbeats 4000000
set_option autoImplicit false
namespace Law
open VS L2

theorem take_ok {s : S} (hs : Src s) {top : Int} (h0 : 0 < top) (h1 : top < 1048576) : ∃ s' r, Src s' ∧ m__law_take [s, .fr (.int top)] = .ok (.int r) [s', .fr (.int top)] ∧ 0 ≤ r ∧ r < top := by
  obtain ⟨a, b, rfl, hb, hb'⟩ := hs
  have lg : CDivW a top := ⟨h0, by
    have : top.natAbs < 2 ^ 20 := by omega
    have := (Nat.log2_lt (n := top.natAbs) (k := 20) (by omega)).mpr this
    omega⟩
  by_cases ha : 0 < a
  · refine ⟨.ow [.int (a / top), .int b], a % top, ⟨_, _, rfl, hb, hb'⟩, ?_, Int.emod_nonneg _ (by omega), Int.emod_lt_of_pos _ h0⟩
    simp [Out.bind, Out.toS, sSeq, sIf, sSet, sOwn, sExpr, sRet, sRetNew, sRetN, sNext, sSetIx, eVar, eC, eOp, eUn, eB, asB, eTr, truD, bNot, bAnd, bOr, bV, VS.eAnd, VS.eOr, aNil, aCons, eCall, eIxO, eLenO, eMeth, VS.gInt, gMod_ii, gDiv_ii, gAdd_ii, gSub_ii, gMul_ii, gPow_ii, gLt_ii, gLe_ii, gGt_ii, gGe_ii, gEq_ii, gEq_bb, gIs_bb, gIx_t, gIx_l, gIx_s, VS.gNeg, gMax2, gMin2, gLen, gTupleOf, allFr, pad, mOw, mFr, headS, m__law_take, b__law_take, atI, ixN, ha, h0, lg]
  · have m1 : CMul b 39373 := .inr (by omega)
    let b2 := (b * 39373 + 7) % 2147483647
    have l1 : 0 ≤ b2 := Int.emod_nonneg _ (by omega)
    have l2 : b2 < 2147483647 := Int.emod_lt_of_pos _ (by omega)
    have m2 : CMul b2 b2 := .inr (by omega)
    have d2 : CDivW (b2 * b2 % 2147483629) 32 := ⟨by omega, by decide⟩
    refine ⟨.ow [.int a, .int b2], (b2 * b2 % 2147483629 / 32) % top, ⟨_, _, rfl, l1, l2⟩, ?_, Int.emod_nonneg _ (by omega), Int.emod_lt_of_pos _ h0⟩
    have e : (b * 39373 + 7) % 2147483647 = b2 := rfl
    simp [Out.bind, Out.toS, sSeq, sIf, sSet, sOwn, sExpr, sRet, sRetNew, sRetN, sNext, sSetIx, eVar, eC, eOp, eUn, eB, asB, eTr, truD, bNot, bAnd, bOr, bV, VS.eAnd, VS.eOr, aNil, aCons, eCall, eIxO, eLenO, eMeth, VS.gInt, gMod_ii, gDiv_ii, gAdd_ii, gSub_ii, gMul_ii, gPow_ii, gLt_ii, gLe_ii, gGt_ii, gGe_ii, gEq_ii, gEq_bb, gIs_bb, gIx_t, gIx_l, gIx_s, VS.gNeg, gMax2, gMin2, gLen, gTupleOf, allFr, pad, mOw, mFr, headS, m__law_take, b__law_take, atI, ixN, ha, h0, m1, e, m2, d2]

theorem take2 {b : Int} (a : Int) (hb : 0 ≤ b ∧ b < 2147483647) {top : Int} (h0 : 0 < top) (h1 : top < 1048576) : ∃ a' b' r, (0 ≤ b' ∧ b' < 2147483647) ∧ m__law_take [.ow [.int a, .int b], .fr (.int top)] = .ok (.int r) [.ow [.int a', .int b'], .fr (.int top)] ∧ 0 ≤ r ∧ r < top := by
  obtain ⟨s', r, ⟨a', b', rfl, h2⟩, h3⟩ := take_ok ⟨a, b, rfl, hb⟩ h0 h1
  exact ⟨a', b', r, h2, h3⟩
theorem one_ok {b : Int} (a : Int) (hb : 0 ≤ b ∧ b < 2147483647) (ds : List D) (h0 : 0 < ds.length) (h1 : ds.length < 1048576) : ∃ a' b' d, (0 ≤ b' ∧ b' < 2147483647) ∧ m__law_one [.ow [.int a, .int b], .fr (.lst ds)] = .ok d [.ow [.int a', .int b'], .fr (.lst ds)] ∧ d ∈ ds := by
  obtain ⟨a', b', r, hb', e, r0, r1⟩ := take2 a hb (top := ds.length) (by omega) (by omega)
  obtain ⟨d, e2, e3⟩ := atI_of r0 r1
  refine ⟨a', b', d, hb', ?_, List.mem_of_getElem? e3⟩
  simp [Out.bind, Out.toS, sSeq, sIf, sSet, sOwn, sExpr, sRet, sRetNew, sRetN, sNext, sSetIx, eVar, eC, eOp, eUn, eB, asB, eTr, truD, bNot, bAnd, bOr, bV, VS.eAnd, VS.eOr, aNil, aCons, eCall, eIxO, eLenO, eMeth, VS.gInt, gMod_ii, gDiv_ii, gAdd_ii, gSub_ii, gMul_ii, gPow_ii, gLt_ii, gLe_ii, gGt_ii, gGe_ii, gEq_ii, gEq_bb, gIs_bb, gIx_t, gIx_l, gIx_s, VS.gNeg, gMax2, gMin2, gLen, gTupleOf, allFr, pad, mOw, mFr, headS, m__law_one, b__law_one, eFnO, e, e2]
def Num (n : Int) (d : D) : Prop := ∃ i, d = .int i ∧ 0 ≤ i ∧ i < n
theorem shuf_ok {b : Int} (a : Int) (hb : 0 ≤ b ∧ b < 2147483647) (n : Nat) (hn : n < 1048576) : ∃ a' b' ds, (0 ≤ b' ∧ b' < 2147483647) ∧ m__law_shuffled [.ow [.int a, .int b], .fr (.int n)] = .ok (.lst ds) [.ow [.int a', .int b'], .fr (.int n)] ∧ ds.length = n ∧ ∀ d ∈ ds, Num n d := by
  have sz := szl
  have e1 := sComp_map (g := gN 5) (ft := bYes) (fe := eVar 5) (vs := [5]) (ρ := [.ow [.int a, .int b], .fr (.int n), .un, .un, .un, .un]) (f := id) ((List.range n).map fun (k : Nat) => D.int k) [] (fun d _ => ⟨_, _, _, rfl, rfl, rfl, rfl⟩) (by simp [Out.bind, Out.toS, sSeq, sIf, sSet, sOwn, sExpr, sRet, sRetNew, sRetN, sNext, sSetIx, eVar, eC, eOp, eUn, eB, asB, eTr, truD, bNot, bAnd, bOr, bV, VS.eAnd, VS.eOr, aNil, aCons, eCall, eIxO, eLenO, eMeth, VS.gInt, gMod_ii, gDiv_ii, gAdd_ii, gSub_ii, gMul_ii, gPow_ii, gLt_ii, gLe_ii, gGt_ii, gGe_ii, gEq_ii, gEq_bb, gIs_bb, gIx_t, gIx_l, gIx_s, VS.gNeg, gMax2, gMin2, gLen, gTupleOf, allFr, pad, mOw, mFr, headS]; omega)
  simp [Out.bind, Out.toS, sSeq, sIf, sSet, sOwn, sExpr, sRet, sRetNew, sRetN, sNext, sSetIx, eVar, eC, eOp, eUn, eB, asB, eTr, truD, bNot, bAnd, bOr, bV, VS.eAnd, VS.eOr, aNil, aCons, eCall, eIxO, eLenO, eMeth, VS.gInt, gMod_ii, gDiv_ii, gAdd_ii, gSub_ii, gMul_ii, gPow_ii, gLt_ii, gLe_ii, gGt_ii, gGe_ii, gEq_ii, gEq_bb, gIs_bb, gIx_t, gIx_l, gIx_s, VS.gNeg, gMax2, gMin2, gLen, gTupleOf, allFr, pad, mOw, mFr, headS] at e1
  obtain ⟨ρ', e2, a', b', left, found, t4, e3, hb', l1, l2, l3, l4⟩ := sLoop_inv (g := gN 4) (fb := sExpr (eMeth 3 VS.gAppend (aCons (eMeth 2 VS.gPopAt (aCons (eFnO 0 m__law_take (aCons (eLenO 2) (aNil))) (aNil))) (aNil))))
    (fun items ρ => ∃ a b left found t4, ρ = [S.ow [D.int a, D.int b], .fr (.int n), .ow left, .ow found, t4, .un] ∧ (0 ≤ b ∧ b < 2147483647) ∧ left.length = items.length ∧ found.length + items.length = n ∧ (∀ d ∈ left, Num n d) ∧ (∀ d ∈ found, Num n d))
    (by
      rintro d ds ρ ⟨a, b, left, found, t4, rfl, hb, l1, l2, l3, l4⟩
      simp only [List.length_cons] at l1 l2
      obtain ⟨a', b', r, hb', e, r0, r1⟩ := take2 a hb (top := left.length) (by omega) (by omega)
      have rl : r.toNat < left.length := by omega
      have ge : left[r.toNat]? = some left[r.toNat] := by simp [Out.bind, Out.toS, sSeq, sIf, sSet, sOwn, sExpr, sRet, sRetNew, sRetN, sNext, sSetIx, eVar, eC, eOp, eUn, eB, asB, eTr, truD, bNot, bAnd, bOr, bV, VS.eAnd, VS.eOr, aNil, aCons, eCall, eIxO, eLenO, eMeth, VS.gInt, gMod_ii, gDiv_ii, gAdd_ii, gSub_ii, gMul_ii, gPow_ii, gLt_ii, gLe_ii, gGt_ii, gGe_ii, gEq_ii, gEq_bb, gIs_bb, gIx_t, gIx_l, gIx_s, VS.gNeg, gMax2, gMin2, gLen, gTupleOf, allFr, pad, mOw, mFr, headS, rl]
      have si := seqIx_of r0 r1
      have c1 : Fit r := fit_int (by omega) (by omega)
      have c2 : found.length < PySem.sizeLine := by omega
      refine ⟨_, [S.ow [D.int a', D.int b'], .fr (.int n), .ow (left.eraseIdx r.toNat), .ow (found ++ [left[r.toNat]]), .fr d, .un], rfl, .inl ?_, a', b', _, _, _, rfl, hb', ?_, ?_, ?_, ?_⟩
      · simp [Out.bind, Out.toS, sSeq, sIf, sSet, sOwn, sExpr, sRet, sRetNew, sRetN, sNext, sSetIx, eVar, eC, eOp, eUn, eB, asB, eTr, truD, bNot, bAnd, bOr, bV, VS.eAnd, VS.eOr, aNil, aCons, eCall, eIxO, eLenO, eMeth, VS.gInt, gMod_ii, gDiv_ii, gAdd_ii, gSub_ii, gMul_ii, gPow_ii, gLt_ii, gLe_ii, gGt_ii, gGe_ii, gEq_ii, gEq_bb, gIs_bb, gIx_t, gIx_l, gIx_s, VS.gNeg, gMax2, gMin2, gLen, gTupleOf, allFr, pad, mOw, mFr, headS, eFnO, e, VS.gPopAt, VS.gAppend, si, ge, c2, c1]
      · rw [List.length_eraseIdx_of_lt rl]; omega
      · simp [Out.bind, Out.toS, sSeq, sIf, sSet, sOwn, sExpr, sRet, sRetNew, sRetN, sNext, sSetIx, eVar, eC, eOp, eUn, eB, asB, eTr, truD, bNot, bAnd, bOr, bV, VS.eAnd, VS.eOr, aNil, aCons, eCall, eIxO, eLenO, eMeth, VS.gInt, gMod_ii, gDiv_ii, gAdd_ii, gSub_ii, gMul_ii, gPow_ii, gLt_ii, gLe_ii, gGt_ii, gGe_ii, gEq_ii, gEq_bb, gIs_bb, gIx_t, gIx_l, gIx_s, VS.gNeg, gMax2, gMin2, gLen, gTupleOf, allFr, pad, mOw, mFr, headS]; omega
      · exact fun d hd => l3 d (List.mem_of_mem_eraseIdx hd)
      · intro d hd
        rw [List.mem_append, List.mem_singleton] at hd
        rcases hd with hd | rfl
        · exact l4 d hd
        · exact l3 _ (List.getElem_mem _))
    ((List.range n).map fun (k : Nat) => D.int k) [S.ow [D.int a, D.int b], .fr (.int n), .ow ((List.range n).map fun (k : Nat) => D.int k), .ow [], .un, .un]
    ⟨a, b, _, _, _, rfl, hb, by simp [Out.bind, Out.toS, sSeq, sIf, sSet, sOwn, sExpr, sRet, sRetNew, sRetN, sNext, sSetIx, eVar, eC, eOp, eUn, eB, asB, eTr, truD, bNot, bAnd, bOr, bV, VS.eAnd, VS.eOr, aNil, aCons, eCall, eIxO, eLenO, eMeth, VS.gInt, gMod_ii, gDiv_ii, gAdd_ii, gSub_ii, gMul_ii, gPow_ii, gLt_ii, gLe_ii, gGt_ii, gGe_ii, gEq_ii, gEq_bb, gIs_bb, gIx_t, gIx_l, gIx_s, VS.gNeg, gMax2, gMin2, gLen, gTupleOf, allFr, pad, mOw, mFr, headS], by simp [Out.bind, Out.toS, sSeq, sIf, sSet, sOwn, sExpr, sRet, sRetNew, sRetN, sNext, sSetIx, eVar, eC, eOp, eUn, eB, asB, eTr, truD, bNot, bAnd, bOr, bV, VS.eAnd, VS.eOr, aNil, aCons, eCall, eIxO, eLenO, eMeth, VS.gInt, gMod_ii, gDiv_ii, gAdd_ii, gSub_ii, gMul_ii, gPow_ii, gLt_ii, gLe_ii, gGt_ii, gGe_ii, gEq_ii, gEq_bb, gIs_bb, gIx_t, gIx_l, gIx_s, VS.gNeg, gMax2, gMin2, gLen, gTupleOf, allFr, pad, mOw, mFr, headS], fun d hd => by
      obtain ⟨k, hk, rfl⟩ := List.mem_map.mp hd
      exact ⟨k, rfl, by omega, by rw [List.mem_range] at hk; omega⟩, fun d hd => by simp [Out.bind, Out.toS, sSeq, sIf, sSet, sOwn, sExpr, sRet, sRetNew, sRetN, sNext, sSetIx, eVar, eC, eOp, eUn, eB, asB, eTr, truD, bNot, bAnd, bOr, bV, VS.eAnd, VS.eOr, aNil, aCons, eCall, eIxO, eLenO, eMeth, VS.gInt, gMod_ii, gDiv_ii, gAdd_ii, gSub_ii, gMul_ii, gPow_ii, gLt_ii, gLe_ii, gGt_ii, gGe_ii, gEq_ii, gEq_bb, gIs_bb, gIx_t, gIx_l, gIx_s, VS.gNeg, gMax2, gMin2, gLen, gTupleOf, allFr, pad, mOw, mFr, headS] at hd⟩
  subst e3
  refine ⟨a', b', found, hb', ?_, by simpa using l2, l4⟩
  simp [Out.bind, Out.toS, sSeq, sIf, sSet, sOwn, sExpr, sRet, sRetNew, sRetN, sNext, sSetIx, eVar, eC, eOp, eUn, eB, asB, eTr, truD, bNot, bAnd, bOr, bV, VS.eAnd, VS.eOr, aNil, aCons, eCall, eIxO, eLenO, eMeth, VS.gInt, gMod_ii, gDiv_ii, gAdd_ii, gSub_ii, gMul_ii, gPow_ii, gLt_ii, gLe_ii, gGt_ii, gGe_ii, gEq_ii, gEq_bb, gIs_bb, gIx_t, gIx_l, gIx_s, VS.gNeg, gMax2, gMin2, gLen, gTupleOf, allFr, pad, mOw, mFr, headS, m__law_shuffled, b__law_shuffled, sPar, a2Ow, a2Nil, nComp, iR1_eq, R1_ok n hn, plainS, wipeS, backS, e1, nLst, setAll, sFor, e2]

end Law
/-! ## k08Y -/
set_option Elab.async false
set_option linter.all false
set_option maxRecDepth 100000
set_option maxHeartbeats 4000000
set_option autoImplicit false
namespace Law
open VS L2

theorem house_ok {b : Int} (a : Int) (hb : 0 ≤ b ∧ b < 2147483647) (n : Nat) (hn : n < 1000) : ∃ (a' b' : Int) (ps : List Int), (0 ≤ b' ∧ b' < 2147483647) ∧ m__law_house [.ow [.int a, .int b], .fr (.int n)] = .ok (.tup (ps.map D.int)) [.ow [.int a', .int b'], .fr (.int n)] ∧ ps.length = n := by
  have sz := szl
  obtain ⟨a1, b1, names, hb1, e1, ln, hnm⟩ := shuf_ok a hb n (by omega)
  obtain ⟨a2, b2, kind, hb2, e2, k0, k1⟩ := take2 a1 hb1 (top := 5) (by omega) (by omega)
  obtain ⟨ρ', e3, a', b', ps, t5, t6, rfl, hb', lp, _⟩ := sLoop_inv (g := gN 5) (fb := (sSeq (sSet 6 (eFnO 0 m__law_take (aCons (eOp VS.gAdd (eVar 5) (eC (.int 1))) (aNil))))
    (sSeq (sIf (bOr (eB (eOp (VS.gEq false) (eVar 3) (eC (.int 0)))) (bAnd (eB (eOp (VS.gEq false) (eVar 3) (eC (.int 1)))) (eB (eOp (VS.gEq false) (eFnO 0 m__law_take (aCons (eC (.int 2)) (aNil))) (eC (.int 0)))))) (sSet 6 (eVar 5)) (sNext))
    (sIf (eB (eOp VS.gGt (eVar 6) (eC (.int 0)))) (sSetIx 4 (eOp VS.gIx (eVar 2) (eVar 5)) (eOp VS.gIx (eVar 2) (eOp VS.gSub (eVar 6) (eC (.int 1))))) (sNext)))))
    (fun items ρ => ∃ (a b : Int) (ps : List Int) (t5 t6 : S), ρ = [S.ow [D.int a, D.int b], .fr (.int n), .fr (.lst names), .fr (.int kind), .ow (ps.map D.int), t5, t6] ∧ (0 ≤ b ∧ b < 2147483647) ∧ ps.length = n ∧ (∀ d ∈ items, ∃ k : Int, d = .int k ∧ 1 ≤ k ∧ k < n))
    (by
      rintro d ds ρ ⟨a, b, ps, t5, t6, rfl, hb, lp, hi⟩
      obtain ⟨k, rfl, kl, kh⟩ := hi d (by simp [Out.bind, Out.toS, sSeq, sIf, sSet, sOwn, sExpr, sRet, sRetNew, sRetN, sNext, sSetIx, eVar, eC, eOp, eUn, eB, asB, eTr, truD, bNot, bAnd, bOr, bV, VS.eAnd, VS.eOr, aNil, aCons, eCall, eIxO, eLenO, eMeth, VS.gInt, gMod_ii, gDiv_ii, gAdd_ii, gSub_ii, gMul_ii, gPow_ii, gLt_ii, gLe_ii, gGt_ii, gGe_ii, gEq_ii, gEq_bb, gIs_bb, gIx_t, gIx_l, gIx_s, VS.gNeg, gMax2, gMin2, gLen, gTupleOf, allFr, pad, mOw, mFr, headS, szl])
      have hi' : ∀ d ∈ ds, ∃ k : Int, d = .int k ∧ 1 ≤ k ∧ k < n := fun d h => hi d (List.mem_cons_of_mem _ h)
      obtain ⟨a3, b3, r, hb3, e3, r0, r1⟩ := take2 a hb (top := k + 1) (by omega) (by omega)
      obtain ⟨nk, en, en2⟩ := atI_of (xs := names) (i := k) (by omega) (by omega)
      obtain ⟨i, rfl, i0, i1⟩ := hnm nk (List.mem_of_getElem? en2)
      have fin : ∀ (a b at_ : Int), (0 ≤ b ∧ b < 2147483647) → 0 ≤ at_ → at_ ≤ k → ∃ ρ2, sIf (eB (eOp VS.gGt (eVar 6) (eC (.int 0)))) (sSetIx 4 (eOp VS.gIx (eVar 2) (eVar 5)) (eOp VS.gIx (eVar 2) (eOp VS.gSub (eVar 6) (eC (.int 1))))) (sNext)
          [S.ow [D.int a, D.int b], .fr (.int n), .fr (.lst names), .fr (.int kind), .ow (ps.map D.int), .fr (.int k), .fr (.int at_)] = .nx ρ2 ∧ ∃ (a b : Int) (ps : List Int) (t5 t6 : S), ρ2 = [S.ow [D.int a, D.int b], .fr (.int n), .fr (.lst names), .fr (.int kind), .ow (ps.map D.int), t5, t6] ∧ (0 ≤ b ∧ b < 2147483647) ∧ ps.length = n ∧ (∀ d ∈ ds, ∃ k : Int, d = .int k ∧ 1 ≤ k ∧ k < n) := by
        intro a b at_ hb h0 h1
        by_cases c : 0 < at_
        · obtain ⟨nv, ev, ev2⟩ := atI_of (xs := names) (i := at_ - 1) (by omega) (by omega)
          obtain ⟨v, rfl, _, _⟩ := hnm nv (List.mem_of_getElem? ev2)
          have ix := ixN_of (n := ps.length) i0 (by omega)
          refine ⟨[S.ow [D.int a, D.int b], .fr (.int n), .fr (.lst names), .fr (.int kind), .ow ((ps.set i.toNat v).map D.int), .fr (.int k), .fr (.int at_)], ?_, a, b, ps.set i.toNat v, _, _, rfl, hb, by simpa using lp, hi'⟩
          simp [Out.bind, Out.toS, sSeq, sIf, sSet, sOwn, sExpr, sRet, sRetNew, sRetN, sNext, sSetIx, eVar, eC, eOp, eUn, eB, asB, eTr, truD, bNot, bAnd, bOr, bV, VS.eAnd, VS.eOr, aNil, aCons, eCall, eIxO, eLenO, eMeth, VS.gInt, gMod_ii, gDiv_ii, gAdd_ii, gSub_ii, gMul_ii, gPow_ii, gLt_ii, gLe_ii, gGt_ii, gGe_ii, gEq_ii, gEq_bb, gIs_bb, gIx_t, gIx_l, gIx_s, VS.gNeg, gMax2, gMin2, gLen, gTupleOf, allFr, pad, mOw, mFr, headS, szl, c, ev, en, ix, List.map_set]
        · refine ⟨[S.ow [D.int a, D.int b], .fr (.int n), .fr (.lst names), .fr (.int kind), .ow (ps.map D.int), .fr (.int k), .fr (.int at_)], ?_, a, b, ps, _, _, rfl, hb, lp, hi'⟩
          simp [Out.bind, Out.toS, sSeq, sIf, sSet, sOwn, sExpr, sRet, sRetNew, sRetN, sNext, sSetIx, eVar, eC, eOp, eUn, eB, asB, eTr, truD, bNot, bAnd, bOr, bV, VS.eAnd, VS.eOr, aNil, aCons, eCall, eIxO, eLenO, eMeth, VS.gInt, gMod_ii, gDiv_ii, gAdd_ii, gSub_ii, gMul_ii, gPow_ii, gLt_ii, gLe_ii, gGt_ii, gGe_ii, gEq_ii, gEq_bb, gIs_bb, gIx_t, gIx_l, gIx_s, VS.gNeg, gMax2, gMin2, gLen, gTupleOf, allFr, pad, mOw, mFr, headS, szl, c]
      by_cases c0 : kind = 0
      · obtain ⟨ρ2, f1, f2⟩ := fin a3 b3 k hb3 (by omega) (by omega)
        refine ⟨_, ρ2, rfl, .inl ?_, f2⟩
        rw [← f1]
        simp [Out.bind, Out.toS, sSeq, sIf, sSet, sOwn, sExpr, sRet, sRetNew, sRetN, sNext, sSetIx, eVar, eC, eOp, eUn, eB, asB, eTr, truD, bNot, bAnd, bOr, bV, VS.eAnd, VS.eOr, aNil, aCons, eCall, eIxO, eLenO, eMeth, VS.gInt, gMod_ii, gDiv_ii, gAdd_ii, gSub_ii, gMul_ii, gPow_ii, gLt_ii, gLe_ii, gGt_ii, gGe_ii, gEq_ii, gEq_bb, gIs_bb, gIx_t, gIx_l, gIx_s, VS.gNeg, gMax2, gMin2, gLen, gTupleOf, allFr, pad, mOw, mFr, headS, szl, eFnO, e3, c0]
      · by_cases c1 : kind = 1
        · obtain ⟨a4, b4, r', hb4, e4, r0', r1'⟩ := take2 a3 hb3 (top := 2) (by omega) (by omega)
          by_cases c2 : r' = 0
          · obtain ⟨ρ2, f1, f2⟩ := fin a4 b4 k hb4 (by omega) (by omega)
            refine ⟨_, ρ2, rfl, .inl ?_, f2⟩
            rw [← f1]
            simp [Out.bind, Out.toS, sSeq, sIf, sSet, sOwn, sExpr, sRet, sRetNew, sRetN, sNext, sSetIx, eVar, eC, eOp, eUn, eB, asB, eTr, truD, bNot, bAnd, bOr, bV, VS.eAnd, VS.eOr, aNil, aCons, eCall, eIxO, eLenO, eMeth, VS.gInt, gMod_ii, gDiv_ii, gAdd_ii, gSub_ii, gMul_ii, gPow_ii, gLt_ii, gLe_ii, gGt_ii, gGe_ii, gEq_ii, gEq_bb, gIs_bb, gIx_t, gIx_l, gIx_s, VS.gNeg, gMax2, gMin2, gLen, gTupleOf, allFr, pad, mOw, mFr, headS, szl, eFnO, e3, c0, c1, e4, c2]
          · obtain ⟨ρ2, f1, f2⟩ := fin a4 b4 r hb4 (by omega) (by omega)
            refine ⟨_, ρ2, rfl, .inl ?_, f2⟩
            rw [← f1]
            simp [Out.bind, Out.toS, sSeq, sIf, sSet, sOwn, sExpr, sRet, sRetNew, sRetN, sNext, sSetIx, eVar, eC, eOp, eUn, eB, asB, eTr, truD, bNot, bAnd, bOr, bV, VS.eAnd, VS.eOr, aNil, aCons, eCall, eIxO, eLenO, eMeth, VS.gInt, gMod_ii, gDiv_ii, gAdd_ii, gSub_ii, gMul_ii, gPow_ii, gLt_ii, gLe_ii, gGt_ii, gGe_ii, gEq_ii, gEq_bb, gIs_bb, gIx_t, gIx_l, gIx_s, VS.gNeg, gMax2, gMin2, gLen, gTupleOf, allFr, pad, mOw, mFr, headS, szl, eFnO, e3, c0, c1, e4, c2]
        · obtain ⟨ρ2, f1, f2⟩ := fin a3 b3 r hb3 (by omega) (by omega)
          refine ⟨_, ρ2, rfl, .inl ?_, f2⟩
          rw [← f1]
          simp [Out.bind, Out.toS, sSeq, sIf, sSet, sOwn, sExpr, sRet, sRetNew, sRetN, sNext, sSetIx, eVar, eC, eOp, eUn, eB, asB, eTr, truD, bNot, bAnd, bOr, bV, VS.eAnd, VS.eOr, aNil, aCons, eCall, eIxO, eLenO, eMeth, VS.gInt, gMod_ii, gDiv_ii, gAdd_ii, gSub_ii, gMul_ii, gPow_ii, gLt_ii, gLe_ii, gGt_ii, gGe_ii, gEq_ii, gEq_bb, gIs_bb, gIx_t, gIx_l, gIx_s, VS.gNeg, gMax2, gMin2, gLen, gTupleOf, allFr, pad, mOw, mFr, headS, szl, eFnO, e3, c0, c1])
    ((List.range ((n : Int) - 1).toNat).map fun (k : Nat) => D.int (1 + k)) [S.ow [D.int a2, D.int b2], .fr (.int n), .fr (.lst names), .fr (.int kind), .ow ((List.replicate n (-1)).map D.int), .un, .un]
    ⟨a2, b2, _, _, _, rfl, hb2, by simp [Out.bind, Out.toS, sSeq, sIf, sSet, sOwn, sExpr, sRet, sRetNew, sRetN, sNext, sSetIx, eVar, eC, eOp, eUn, eB, asB, eTr, truD, bNot, bAnd, bOr, bV, VS.eAnd, VS.eOr, aNil, aCons, eCall, eIxO, eLenO, eMeth, VS.gInt, gMod_ii, gDiv_ii, gAdd_ii, gSub_ii, gMul_ii, gPow_ii, gLt_ii, gLe_ii, gGt_ii, gGe_ii, gEq_ii, gEq_bb, gIs_bb, gIx_t, gIx_l, gIx_s, VS.gNeg, gMax2, gMin2, gLen, gTupleOf, allFr, pad, mOw, mFr, headS, szl], fun d hd => by
      obtain ⟨k, hk, rfl⟩ := List.mem_map.mp hd
      exact ⟨1 + k, rfl, by omega, by rw [List.mem_range] at hk; omega⟩⟩
  refine ⟨a', b', ps, hb', ?_, lp⟩
  have f1 : Fit (n : Int) := fit_nat (by omega)
  have f2 : n ≤ 16777216 := by omega
  simp [Out.bind, Out.toS, sSeq, sIf, sSet, sOwn, sExpr, sRet, sRetNew, sRetN, sNext, sSetIx, eVar, eC, eOp, eUn, eB, asB, eTr, truD, bNot, bAnd, bOr, bV, VS.eAnd, VS.eOr, aNil, aCons, eCall, eIxO, eLenO, eMeth, VS.gInt, gMod_ii, gDiv_ii, gAdd_ii, gSub_ii, gMul_ii, gPow_ii, gLt_ii, gLe_ii, gGt_ii, gGe_ii, gEq_ii, gEq_bb, gIs_bb, gIx_t, gIx_l, gIx_s, VS.gNeg, gMax2, gMin2, gLen, gTupleOf, allFr, pad, mOw, mFr, headS, szl] at e3
  simp [Out.bind, Out.toS, sSeq, sIf, sSet, sOwn, sExpr, sRet, sRetNew, sRetN, sNext, sSetIx, eVar, eC, eOp, eUn, eB, asB, eTr, truD, bNot, bAnd, bOr, bV, VS.eAnd, VS.eOr, aNil, aCons, eCall, eIxO, eLenO, eMeth, VS.gInt, gMod_ii, gDiv_ii, gAdd_ii, gSub_ii, gMul_ii, gPow_ii, gLt_ii, gLe_ii, gGt_ii, gGe_ii, gEq_ii, gEq_bb, gIs_bb, gIx_t, gIx_l, gIx_s, VS.gNeg, gMax2, gMin2, gLen, gTupleOf, allFr, pad, mOw, mFr, headS, szl, m__law_house, b__law_house, sPar, a2Fr, a2Ow, a2Nil, eFnO, e1, e2, nRep, eN, nLst, f1, f2, setAll, sFor, iR2_eq, R2_ok 1 n (by omega) (by omega) (by omega) (by omega), e3]
end Law
/-! ## k08Z -/
set_option Elab.async false
set_option linter.all false
set_option maxRecDepth 100000
set_option maxHeartbeats 4000000
set_option autoImplicit false
namespace Law
open VS L2

theorem erase_map : ∀ (l : List Int) (k : Nat), (l.map D.int).eraseIdx k = (l.eraseIdx k).map D.int
  | [], k => by simp [Out.bind, Out.toS, sSeq, sIf, sSet, sOwn, sExpr, sRet, sRetNew, sRetN, sNext, sSetIx, eVar, eC, eOp, eUn, eB, asB, eTr, truD, bNot, bAnd, bOr, bV, VS.eAnd, VS.eOr, aNil, aCons, eCall, eIxO, eLenO, eMeth, VS.gInt, gMod_ii, gDiv_ii, gAdd_ii, gSub_ii, gMul_ii, gPow_ii, gLt_ii, gLe_ii, gGt_ii, gGe_ii, gEq_ii, gEq_bb, gIs_bb, gIx_t, gIx_l, gIx_s, VS.gNeg, gMax2, gMin2, gLen, gTupleOf, allFr, pad, mOw, mFr, headS, szl]
  | x :: xs, 0 => by simp [Out.bind, Out.toS, sSeq, sIf, sSet, sOwn, sExpr, sRet, sRetNew, sRetN, sNext, sSetIx, eVar, eC, eOp, eUn, eB, asB, eTr, truD, bNot, bAnd, bOr, bV, VS.eAnd, VS.eOr, aNil, aCons, eCall, eIxO, eLenO, eMeth, VS.gInt, gMod_ii, gDiv_ii, gAdd_ii, gSub_ii, gMul_ii, gPow_ii, gLt_ii, gLe_ii, gGt_ii, gGe_ii, gEq_ii, gEq_bb, gIs_bb, gIx_t, gIx_l, gIx_s, VS.gNeg, gMax2, gMin2, gLen, gTupleOf, allFr, pad, mOw, mFr, headS, szl]
  | x :: xs, k + 1 => by simp [Out.bind, Out.toS, sSeq, sIf, sSet, sOwn, sExpr, sRet, sRetNew, sRetN, sNext, sSetIx, eVar, eC, eOp, eUn, eB, asB, eTr, truD, bNot, bAnd, bOr, bV, VS.eAnd, VS.eOr, aNil, aCons, eCall, eIxO, eLenO, eMeth, VS.gInt, gMod_ii, gDiv_ii, gAdd_ii, gSub_ii, gMul_ii, gPow_ii, gLt_ii, gLe_ii, gGt_ii, gGe_ii, gEq_ii, gEq_bb, gIs_bb, gIx_t, gIx_l, gIx_s, VS.gNeg, gMax2, gMin2, gLen, gTupleOf, allFr, pad, mOw, mFr, headS, szl, erase_map xs k]
theorem map_at {ps : List Int} {d : D} (h : d ∈ ps.map D.int) : ∃ v, d = .int v := by
  obtain ⟨v, _, rfl⟩ := List.mem_map.mp h
  exact ⟨v, rfl⟩
theorem bent_ok {b : Int} (a : Int) (hb : 0 ≤ b ∧ b < 2147483647) (ps : List Int) (hn : ps.length < 1000) (h0 : 0 < ps.length) : ∃ (a' b' : Int) (qs : List Int), (0 ≤ b' ∧ b' < 2147483647) ∧
    m__law_bent [.ow [.int a, .int b], .fr (.tup (ps.map D.int))] = .ok (.tup (qs.map D.int)) [.ow [.int a', .int b'], .fr (.tup (ps.map D.int))] ∧ qs.length ≤ ps.length + 1 := by
  obtain ⟨a1, b1, t, hb1, e1, t0, t1⟩ := take2 a hb (top := 3) (by omega) (by omega)
  have c1 := sComp_map (g := gN 7) (ft := bYes) (fe := eVar 7) (vs := [7]) (ρ := [.ow [.int a, .int b], .fr (.tup (ps.map D.int)), .un, .un, .un, .un, .un, .un]) (f := id) (ps.map D.int) [] (fun d _ => ⟨_, _, _, rfl, rfl, rfl, rfl⟩) (by rw [szl]; simp [Out.bind, Out.toS, sSeq, sIf, sSet, sOwn, sExpr, sRet, sRetNew, sRetN, sNext, sSetIx, eVar, eC, eOp, eUn, eB, asB, eTr, truD, bNot, bAnd, bOr, bV, VS.eAnd, VS.eOr, aNil, aCons, eCall, eIxO, eLenO, eMeth, VS.gInt, gMod_ii, gDiv_ii, gAdd_ii, gSub_ii, gMul_ii, gPow_ii, gLt_ii, gLe_ii, gGt_ii, gGe_ii, gEq_ii, gEq_bb, gIs_bb, gIx_t, gIx_l, gIx_s, VS.gNeg, gMax2, gMin2, gLen, gTupleOf, allFr, pad, mOw, mFr, headS, szl]; omega)
  simp [Out.bind, Out.toS, sSeq, sIf, sSet, sOwn, sExpr, sRet, sRetNew, sRetN, sNext, sSetIx, eVar, eC, eOp, eUn, eB, asB, eTr, truD, bNot, bAnd, bOr, bV, VS.eAnd, VS.eOr, aNil, aCons, eCall, eIxO, eLenO, eMeth, VS.gInt, gMod_ii, gDiv_ii, gAdd_ii, gSub_ii, gMul_ii, gPow_ii, gLt_ii, gLe_ii, gGt_ii, gGe_ii, gEq_ii, gEq_bb, gIs_bb, gIx_t, gIx_l, gIx_s, VS.gNeg, gMax2, gMin2, gLen, gTupleOf, allFr, pad, mOw, mFr, headS, szl] at c1
  obtain ⟨ρ', e3, a', b', qs, t4, t5, t6, rfl, hb', lq⟩ := sLoop_inv (g := gN 4) (fb := (sSeq (sSet 5 (eFnO 0 m__law_take (aCons (eVar 3) (aNil))))
    (sSetIx 2 (eVar 5) (eFnO 0 m__law_one (aCons (eN (nLst (aCons (eUn VS.gNeg (eC (.int 2))) (aCons (eVar 3) (aCons (eVar 5) (aCons (eFnO 0 m__law_take (aCons (eVar 3) (aNil))) (aCons (eFnO 0 m__law_take (aCons (eVar 3) (aNil))) (aCons (eOp VS.gPow (eC (.int 10)) (eC (.int 20))) (aCons (eUn VS.gNeg (eOp VS.gPow (eC (.int 10)) (eC (.int 20)))) (aNil)))))))))) (aNil))))))
    (fun items ρ => ∃ (a b : Int) (qs : List Int) (t4 t5 t6 : S), ρ = [S.ow [D.int a, D.int b], .fr (.tup (ps.map D.int)), .ow (qs.map D.int), .fr (.int ps.length), t4, t5, t6, .un] ∧ (0 ≤ b ∧ b < 2147483647) ∧ qs.length = ps.length)
    (by
      rintro d ds ρ ⟨a, b, qs, t4, t5, t6, rfl, hb, lq⟩
      obtain ⟨a3, b3, x, hb3, e3, x0, x1⟩ := take2 a hb (top := ps.length) (by omega) (by omega)
      obtain ⟨a4, b4, y, hb4, e4, _, _⟩ := take2 a3 hb3 (top := ps.length) (by omega) (by omega)
      obtain ⟨a5, b5, z, hb5, e5, _, _⟩ := take2 a4 hb4 (top := ps.length) (by omega) (by omega)
      obtain ⟨a6, b6, w, hb6, e6, hw⟩ := one_ok a5 hb5 [.int (-2), .int ps.length, .int x, .int y, .int z, .int 100000000000000000000, .int (-100000000000000000000)] (by simp [Out.bind, Out.toS, sSeq, sIf, sSet, sOwn, sExpr, sRet, sRetNew, sRetN, sNext, sSetIx, eVar, eC, eOp, eUn, eB, asB, eTr, truD, bNot, bAnd, bOr, bV, VS.eAnd, VS.eOr, aNil, aCons, eCall, eIxO, eLenO, eMeth, VS.gInt, gMod_ii, gDiv_ii, gAdd_ii, gSub_ii, gMul_ii, gPow_ii, gLt_ii, gLe_ii, gGt_ii, gGe_ii, gEq_ii, gEq_bb, gIs_bb, gIx_t, gIx_l, gIx_s, VS.gNeg, gMax2, gMin2, gLen, gTupleOf, allFr, pad, mOw, mFr, headS, szl]) (by simp [Out.bind, Out.toS, sSeq, sIf, sSet, sOwn, sExpr, sRet, sRetNew, sRetN, sNext, sSetIx, eVar, eC, eOp, eUn, eB, asB, eTr, truD, bNot, bAnd, bOr, bV, VS.eAnd, VS.eOr, aNil, aCons, eCall, eIxO, eLenO, eMeth, VS.gInt, gMod_ii, gDiv_ii, gAdd_ii, gSub_ii, gMul_ii, gPow_ii, gLt_ii, gLe_ii, gGt_ii, gGe_ii, gEq_ii, gEq_bb, gIs_bb, gIx_t, gIx_l, gIx_s, VS.gNeg, gMax2, gMin2, gLen, gTupleOf, allFr, pad, mOw, mFr, headS, szl])
      obtain ⟨v, rfl⟩ : ∃ v, w = .int v := map_at (ps := [-2, (ps.length : Int), x, y, z, 100000000000000000000, -100000000000000000000]) (by simpa using hw)
      have ix := ixN_of (n := qs.length) (i := x) x0 (by omega)
      have pw : CPow 10 20 := ⟨by omega, by omega, by decide⟩
      refine ⟨_, [S.ow [D.int a6, D.int b6], .fr (.tup (ps.map D.int)), .ow ((qs.set x.toNat v).map D.int), .fr (.int ps.length), .fr d, .fr (.int x), t6, .un], rfl, .inl ?_, a6, b6, qs.set x.toNat v, _, _, _, rfl, hb6, by simpa using lq⟩
      simp [Out.bind, Out.toS, sSeq, sIf, sSet, sOwn, sExpr, sRet, sRetNew, sRetN, sNext, sSetIx, eVar, eC, eOp, eUn, eB, asB, eTr, truD, bNot, bAnd, bOr, bV, VS.eAnd, VS.eOr, aNil, aCons, eCall, eIxO, eLenO, eMeth, VS.gInt, gMod_ii, gDiv_ii, gAdd_ii, gSub_ii, gMul_ii, gPow_ii, gLt_ii, gLe_ii, gGt_ii, gGe_ii, gEq_ii, gEq_bb, gIs_bb, gIx_t, gIx_l, gIx_s, VS.gNeg, gMax2, gMin2, gLen, gTupleOf, allFr, pad, mOw, mFr, headS, szl, eFnO, e3, e4, e5, e6, eN, nLst, pw, ix, List.map_set])
    ((List.range t.toNat).map fun (k : Nat) => D.int k) [S.ow [D.int a1, D.int b1], .fr (.tup (ps.map D.int)), .ow (ps.map D.int), .fr (.int ps.length), .un, .un, .un, .un]
    ⟨a1, b1, ps, _, _, _, rfl, hb1, rfl⟩
  obtain ⟨a7, b7, way, hb7, e7, w0, w1⟩ := take2 a' hb' (top := 8) (by omega) (by omega)
  have tt : ((t.toNat : Nat) : Int) = t := by omega
  have rg := R1_ok t.toNat (by omega)
  rw [tt] at rg
  by_cases c0 : way = 0
  · obtain ⟨a8, b8, x, hb8, e8, x0, x1⟩ := take2 a7 hb7 (top := ps.length) (by omega) (by omega)
    have xl : x.toNat < qs.length := by omega
    have si := seqIx_of (n := qs.length) x0 (by omega)
    have fx : Fit x := fit_int (by omega) (by omega)
    refine ⟨a8, b8, qs.eraseIdx x.toNat, hb8, ?_, by rw [List.length_eraseIdx_of_lt xl]; omega⟩
    simp [Out.bind, Out.toS, sSeq, sIf, sSet, sOwn, sExpr, sRet, sRetNew, sRetN, sNext, sSetIx, eVar, eC, eOp, eUn, eB, asB, eTr, truD, bNot, bAnd, bOr, bV, VS.eAnd, VS.eOr, aNil, aCons, eCall, eIxO, eLenO, eMeth, VS.gInt, gMod_ii, gDiv_ii, gAdd_ii, gSub_ii, gMul_ii, gPow_ii, gLt_ii, gLe_ii, gGt_ii, gGe_ii, gEq_ii, gEq_bb, gIs_bb, gIx_t, gIx_l, gIx_s, VS.gNeg, gMax2, gMin2, gLen, gTupleOf, allFr, pad, mOw, mFr, headS, szl, m__law_bent, b__law_bent, sPar, a2Fr, a2Ow, a2Nil, eFnO, e1, nComp, iSeq, plainS, wipeS, backS, c1, setAll, sFor, iR1_eq, rg, e3, e7, c0, e8, VS.gPopAt, fx, si, xl, erase_map]
  · by_cases c2 : way = 1
    · obtain ⟨a8, b8, x, hb8, e8, x0, x1⟩ := take2 a7 hb7 (top := (ps.length : Int) + 1) (by omega) (by omega)
      obtain ⟨a9, b9, y, hb9, e9, y0, y1⟩ := take2 a8 hb8 (top := (ps.length : Int) + 1) (by omega) (by omega)
      have fx : Fit x := fit_int (by omega) (by omega)
      have ql : qs.length < 16777216 := by omega
      refine ⟨a9, b9, qs.take x.toNat ++ [y - 1] ++ qs.drop x.toNat, hb9, ?_, by simp [Out.bind, Out.toS, sSeq, sIf, sSet, sOwn, sExpr, sRet, sRetNew, sRetN, sNext, sSetIx, eVar, eC, eOp, eUn, eB, asB, eTr, truD, bNot, bAnd, bOr, bV, VS.eAnd, VS.eOr, aNil, aCons, eCall, eIxO, eLenO, eMeth, VS.gInt, gMod_ii, gDiv_ii, gAdd_ii, gSub_ii, gMul_ii, gPow_ii, gLt_ii, gLe_ii, gGt_ii, gGe_ii, gEq_ii, gEq_bb, gIs_bb, gIx_t, gIx_l, gIx_s, VS.gNeg, gMax2, gMin2, gLen, gTupleOf, allFr, pad, mOw, mFr, headS, szl]; omega⟩
      simp [Out.bind, Out.toS, sSeq, sIf, sSet, sOwn, sExpr, sRet, sRetNew, sRetN, sNext, sSetIx, eVar, eC, eOp, eUn, eB, asB, eTr, truD, bNot, bAnd, bOr, bV, VS.eAnd, VS.eOr, aNil, aCons, eCall, eIxO, eLenO, eMeth, VS.gInt, gMod_ii, gDiv_ii, gAdd_ii, gSub_ii, gMul_ii, gPow_ii, gLt_ii, gLe_ii, gGt_ii, gGe_ii, gEq_ii, gEq_bb, gIs_bb, gIx_t, gIx_l, gIx_s, VS.gNeg, gMax2, gMin2, gLen, gTupleOf, allFr, pad, mOw, mFr, headS, szl, m__law_bent, b__law_bent, sPar, a2Fr, a2Ow, a2Nil, eFnO, e1, nComp, iSeq, plainS, wipeS, backS, c1, setAll, sFor, iR1_eq, rg, e3, e7, c0, c2, e8, e9, VS.gInsert, ql, x0, fx, List.map_take, List.map_drop]
    · refine ⟨a7, b7, qs, hb7, ?_, by omega⟩
      simp [Out.bind, Out.toS, sSeq, sIf, sSet, sOwn, sExpr, sRet, sRetNew, sRetN, sNext, sSetIx, eVar, eC, eOp, eUn, eB, asB, eTr, truD, bNot, bAnd, bOr, bV, VS.eAnd, VS.eOr, aNil, aCons, eCall, eIxO, eLenO, eMeth, VS.gInt, gMod_ii, gDiv_ii, gAdd_ii, gSub_ii, gMul_ii, gPow_ii, gLt_ii, gLe_ii, gGt_ii, gGe_ii, gEq_ii, gEq_bb, gIs_bb, gIx_t, gIx_l, gIx_s, VS.gNeg, gMax2, gMin2, gLen, gTupleOf, allFr, pad, mOw, mFr, headS, szl, m__law_bent, b__law_bent, sPar, a2Fr, a2Ow, a2Nil, eFnO, e1, nComp, iSeq, plainS, wipeS, backS, c1, setAll, sFor, iR1_eq, rg, e3, e7, c0, c2]
end Law
/-! ## k08A -/
set_option Elab.async false
set_option linter.all false
set_option maxRecDepth 100000
set_option maxHeartbeats 4000000
set_option autoImplicit false
namespace Law
open VS L2

def fstBad (n : Int) : Nat → List Int → Option Nat
  | _, [] => none
  | k, p :: ps => if p = k ∨ ¬ (-1 ≤ p ∧ p < n) then some k else fstBad n (k + 1) ps
theorem fstBad_none {n : Int} : ∀ {ps : List Int} {k : Nat}, fstBad n k ps = none → ∀ p ∈ ps, -1 ≤ p ∧ p < n
  | [], _, _, p, h => by simp [Out.bind, Out.toS, sSeq, sIf, sSet, sOwn, sExpr, sRet, sRetNew, sRetN, sNext, sSetIx, eVar, eC, eOp, eUn, eB, asB, eTr, truD, bNot, bAnd, bOr, bV, VS.eAnd, VS.eOr, aNil, aCons, eCall, eIxO, eLenO, eMeth, VS.gInt, gMod_ii, gDiv_ii, gAdd_ii, gSub_ii, gMul_ii, gPow_ii, gLt_ii, gLe_ii, gGt_ii, gGe_ii, gEq_ii, gEq_bb, gIs_bb, gIx_t, gIx_l, gIx_s, VS.gNeg, gMax2, gMin2, gLen, gTupleOf, allFr, pad, mOw, mFr, headS, szl, eChain, sRaise, Option.bind] at h
  | q :: ps, k, h, p, hp => by
    unfold fstBad at h
    by_cases c : q = k ∨ ¬ (-1 ≤ q ∧ q < n)
    · rw [if_pos c] at h; cases h
    · rw [if_neg c] at h
      rw [List.mem_cons] at hp
      rcases hp with rfl | hp
      · exact Decidable.not_not.mp fun z => c (.inr z)
      · exact fstBad_none h p hp
/-- the loop of made_house over its parents -/
def fb1 : List S → SO := (sIf (bOr (eB (eOp (VS.gEq false) (eVar 3) (eVar 2))) (bNot (eB (eChain VS.gLe VS.gLt (eC (.int (-1))) (eVar 3) (eVar 1))))) (sRaise "BadParent" (eVar 2)) (sNext))
theorem mh1 (P : D) (n : Int) : ∀ (suf : List Int) (k : Nat) (t2 t3 : S),
    (fstBad n k suf = none → ∃ t2' t3', sLoop (gTp 2 (gsCons (gN 2) (gsCons (gN 3) (gsNil)))) fb1 (enumFrom k (suf.map D.int)) [.fr P, .fr (.int n), t2, t3] = .nx [.fr P, .fr (.int n), t2', t3']) ∧
    (∀ x, fstBad n k suf = some x → ∃ ρ', sLoop (gTp 2 (gsCons (gN 2) (gsCons (gN 3) (gsNil)))) fb1 (enumFrom k (suf.map D.int)) [.fr P, .fr (.int n), t2, t3] = .ex "BadParent" (.int x) ρ')
  | [], k, t2, t3 => ⟨fun _ => ⟨t2, t3, rfl⟩, fun x h => by simp [Out.bind, Out.toS, sSeq, sIf, sSet, sOwn, sExpr, sRet, sRetNew, sRetN, sNext, sSetIx, eVar, eC, eOp, eUn, eB, asB, eTr, truD, bNot, bAnd, bOr, bV, VS.eAnd, VS.eOr, aNil, aCons, eCall, eIxO, eLenO, eMeth, VS.gInt, gMod_ii, gDiv_ii, gAdd_ii, gSub_ii, gMul_ii, gPow_ii, gLt_ii, gLe_ii, gGt_ii, gGe_ii, gEq_ii, gEq_bb, gIs_bb, gIx_t, gIx_l, gIx_s, VS.gNeg, gMax2, gMin2, gLen, gTupleOf, allFr, pad, mOw, mFr, headS, szl, eChain, sRaise, Option.bind, fstBad] at h⟩
  | p :: ps, k, t2, t3 => by
    have ih := mh1 P n ps (k + 1) (.fr (.int k)) (.fr (.int p))
    have st : sLoop (gTp 2 (gsCons (gN 2) (gsCons (gN 3) (gsNil)))) fb1 (enumFrom k ((p :: ps).map D.int)) [.fr P, .fr (.int n), t2, t3] =
        if p = k ∨ ¬ (-1 ≤ p ∧ p < n) then .ex "BadParent" (.int k) [.fr P, .fr (.int n), .fr (.int k), .fr (.int p)] else sLoop (gTp 2 (gsCons (gN 2) (gsCons (gN 3) (gsNil)))) fb1 (enumFrom (k + 1) (ps.map D.int)) [.fr P, .fr (.int n), .fr (.int k), .fr (.int p)] := by
      by_cases c1 : p = k
      · subst c1
        simp [Out.bind, Out.toS, sSeq, sIf, sSet, sOwn, sExpr, sRet, sRetNew, sRetN, sNext, sSetIx, eVar, eC, eOp, eUn, eB, asB, eTr, truD, bNot, bAnd, bOr, bV, VS.eAnd, VS.eOr, aNil, aCons, eCall, eIxO, eLenO, eMeth, VS.gInt, gMod_ii, gDiv_ii, gAdd_ii, gSub_ii, gMul_ii, gPow_ii, gLt_ii, gLe_ii, gGt_ii, gGe_ii, gEq_ii, gEq_bb, gIs_bb, gIx_t, gIx_l, gIx_s, VS.gNeg, gMax2, gMin2, gLen, gTupleOf, allFr, pad, mOw, mFr, headS, szl, eChain, sRaise, Option.bind, enumFrom, sLoop, gTp, gsCons, gsNil, gN, fb1]
      · by_cases c2 : -1 ≤ p
        · by_cases c3 : p < n
          · simp [Out.bind, Out.toS, sSeq, sIf, sSet, sOwn, sExpr, sRet, sRetNew, sRetN, sNext, sSetIx, eVar, eC, eOp, eUn, eB, asB, eTr, truD, bNot, bAnd, bOr, bV, VS.eAnd, VS.eOr, aNil, aCons, eCall, eIxO, eLenO, eMeth, VS.gInt, gMod_ii, gDiv_ii, gAdd_ii, gSub_ii, gMul_ii, gPow_ii, gLt_ii, gLe_ii, gGt_ii, gGe_ii, gEq_ii, gEq_bb, gIs_bb, gIx_t, gIx_l, gIx_s, VS.gNeg, gMax2, gMin2, gLen, gTupleOf, allFr, pad, mOw, mFr, headS, szl, eChain, sRaise, Option.bind, enumFrom, sLoop, gTp, gsCons, gsNil, gN, fb1, c1, c2, c3]
          · simp [Out.bind, Out.toS, sSeq, sIf, sSet, sOwn, sExpr, sRet, sRetNew, sRetN, sNext, sSetIx, eVar, eC, eOp, eUn, eB, asB, eTr, truD, bNot, bAnd, bOr, bV, VS.eAnd, VS.eOr, aNil, aCons, eCall, eIxO, eLenO, eMeth, VS.gInt, gMod_ii, gDiv_ii, gAdd_ii, gSub_ii, gMul_ii, gPow_ii, gLt_ii, gLe_ii, gGt_ii, gGe_ii, gEq_ii, gEq_bb, gIs_bb, gIx_t, gIx_l, gIx_s, VS.gNeg, gMax2, gMin2, gLen, gTupleOf, allFr, pad, mOw, mFr, headS, szl, eChain, sRaise, Option.bind, enumFrom, sLoop, gTp, gsCons, gsNil, gN, fb1, c1, c2, c3]
        · simp [Out.bind, Out.toS, sSeq, sIf, sSet, sOwn, sExpr, sRet, sRetNew, sRetN, sNext, sSetIx, eVar, eC, eOp, eUn, eB, asB, eTr, truD, bNot, bAnd, bOr, bV, VS.eAnd, VS.eOr, aNil, aCons, eCall, eIxO, eLenO, eMeth, VS.gInt, gMod_ii, gDiv_ii, gAdd_ii, gSub_ii, gMul_ii, gPow_ii, gLt_ii, gLe_ii, gGt_ii, gGe_ii, gEq_ii, gEq_bb, gIs_bb, gIx_t, gIx_l, gIx_s, VS.gNeg, gMax2, gMin2, gLen, gTupleOf, allFr, pad, mOw, mFr, headS, szl, eChain, sRaise, Option.bind, enumFrom, sLoop, gTp, gsCons, gsNil, gN, fb1, c1, c2]
    rw [st]
    unfold fstBad
    by_cases c : p = k ∨ ¬ (-1 ≤ p ∧ p < n)
    · simp only [if_pos c]
      exact ⟨fun h => by simp [Out.bind, Out.toS, sSeq, sIf, sSet, sOwn, sExpr, sRet, sRetNew, sRetN, sNext, sSetIx, eVar, eC, eOp, eUn, eB, asB, eTr, truD, bNot, bAnd, bOr, bV, VS.eAnd, VS.eOr, aNil, aCons, eCall, eIxO, eLenO, eMeth, VS.gInt, gMod_ii, gDiv_ii, gAdd_ii, gSub_ii, gMul_ii, gPow_ii, gLt_ii, gLe_ii, gGt_ii, gGe_ii, gEq_ii, gEq_bb, gIs_bb, gIx_t, gIx_l, gIx_s, VS.gNeg, gMax2, gMin2, gLen, gTupleOf, allFr, pad, mOw, mFr, headS, szl, eChain, sRaise, Option.bind] at h, fun x h => ⟨_, by cases h; rfl⟩⟩
    · simp only [if_neg c]
      exact ih
/-- .. of the law's own -/
def fb2 : List S → SO := (sIf (bOr (eB (eOp VS.gLt (eOp VS.gIx (eVar 0) (eVar 2)) (eUn VS.gNeg (eC (.int 1))))) (bOr (eB (eOp VS.gGe (eOp VS.gIx (eVar 0) (eVar 2)) (eVar 1))) (eB (eOp (VS.gEq false) (eOp VS.gIx (eVar 0) (eVar 2)) (eVar 2))))) (sRet (eTup (aCons (eC (.str "parent")) (aCons (eVar 2) (aNil))))) (sNext))
theorem du1 (ps : List Int) (n : Int) (t3 t4 : S) : ∀ (m k : Nat) (t2 : S), k + m = ps.length →
    (fstBad n k (ps.drop k) = none → ∃ t2', sLoop (gN 2) fb2 ((List.range' k m).map fun (j : Nat) => D.int j) [.fr (.tup (ps.map D.int)), .fr (.int n), t2, t3, t4] = .nx [.fr (.tup (ps.map D.int)), .fr (.int n), t2', t3, t4]) ∧
    (∀ x, fstBad n k (ps.drop k) = some x → ∃ ρ', sLoop (gN 2) fb2 ((List.range' k m).map fun (j : Nat) => D.int j) [.fr (.tup (ps.map D.int)), .fr (.int n), t2, t3, t4] = .rt (.tup [.str "parent", .int x]) ρ')
  | 0, k, t2, h => by
    rw [List.drop_of_length_le (by omega)]
    exact ⟨fun _ => ⟨t2, rfl⟩, fun x h => by simp [Out.bind, Out.toS, sSeq, sIf, sSet, sOwn, sExpr, sRet, sRetNew, sRetN, sNext, sSetIx, eVar, eC, eOp, eUn, eB, asB, eTr, truD, bNot, bAnd, bOr, bV, VS.eAnd, VS.eOr, aNil, aCons, eCall, eIxO, eLenO, eMeth, VS.gInt, gMod_ii, gDiv_ii, gAdd_ii, gSub_ii, gMul_ii, gPow_ii, gLt_ii, gLe_ii, gGt_ii, gGe_ii, gEq_ii, gEq_bb, gIs_bb, gIx_t, gIx_l, gIx_s, VS.gNeg, gMax2, gMin2, gLen, gTupleOf, allFr, pad, mOw, mFr, headS, szl, eChain, sRaise, Option.bind, fstBad] at h⟩
  | m + 1, k, t2, h => by
    have kl : k < ps.length := by omega
    have ih := du1 ps n t3 t4 m (k + 1) (.fr (.int k)) (by omega)
    have ak : atI (ps.map D.int) (k : Int) = some (.int ps[k]) := by
      rw [atI_nat (by simpa using kl)]
      simp [Out.bind, Out.toS, sSeq, sIf, sSet, sOwn, sExpr, sRet, sRetNew, sRetN, sNext, sSetIx, eVar, eC, eOp, eUn, eB, asB, eTr, truD, bNot, bAnd, bOr, bV, VS.eAnd, VS.eOr, aNil, aCons, eCall, eIxO, eLenO, eMeth, VS.gInt, gMod_ii, gDiv_ii, gAdd_ii, gSub_ii, gMul_ii, gPow_ii, gLt_ii, gLe_ii, gGt_ii, gGe_ii, gEq_ii, gEq_bb, gIs_bb, gIx_t, gIx_l, gIx_s, VS.gNeg, gMax2, gMin2, gLen, gTupleOf, allFr, pad, mOw, mFr, headS, szl, eChain, sRaise, Option.bind, kl]
    rw [List.drop_eq_getElem_cons kl]
    have st : sLoop (gN 2) fb2 ((List.range' k (m + 1)).map fun (j : Nat) => D.int j) [.fr (.tup (ps.map D.int)), .fr (.int n), t2, t3, t4] =
        if ps[k] = k ∨ ¬ (-1 ≤ ps[k] ∧ ps[k] < n) then .rt (.tup [.str "parent", .int k]) [.fr (.tup (ps.map D.int)), .fr (.int n), .fr (.int k), t3, t4] else sLoop (gN 2) fb2 ((List.range' (k + 1) m).map fun (j : Nat) => D.int j) [.fr (.tup (ps.map D.int)), .fr (.int n), .fr (.int k), t3, t4] := by
      by_cases c2 : -1 ≤ ps[k]
      · have c2' : ¬ ps[k] < -1 := by omega
        by_cases c3 : ps[k] < n
        · have c3' : ¬ n ≤ ps[k] := by omega
          by_cases c1 : ps[k] = k
          · simp [Out.bind, Out.toS, sSeq, sIf, sSet, sOwn, sExpr, sRet, sRetNew, sRetN, sNext, sSetIx, eVar, eC, eOp, eUn, eB, asB, eTr, truD, bNot, bAnd, bOr, bV, VS.eAnd, VS.eOr, aNil, aCons, eCall, eIxO, eLenO, eMeth, VS.gInt, gMod_ii, gDiv_ii, gAdd_ii, gSub_ii, gMul_ii, gPow_ii, gLt_ii, gLe_ii, gGt_ii, gGe_ii, gEq_ii, gEq_bb, gIs_bb, gIx_t, gIx_l, gIx_s, VS.gNeg, gMax2, gMin2, gLen, gTupleOf, allFr, pad, mOw, mFr, headS, szl, eChain, sRaise, Option.bind, List.range'_succ, sLoop, gN, fb2, ak, c2', c3', c1, eTup]
          · simp [Out.bind, Out.toS, sSeq, sIf, sSet, sOwn, sExpr, sRet, sRetNew, sRetN, sNext, sSetIx, eVar, eC, eOp, eUn, eB, asB, eTr, truD, bNot, bAnd, bOr, bV, VS.eAnd, VS.eOr, aNil, aCons, eCall, eIxO, eLenO, eMeth, VS.gInt, gMod_ii, gDiv_ii, gAdd_ii, gSub_ii, gMul_ii, gPow_ii, gLt_ii, gLe_ii, gGt_ii, gGe_ii, gEq_ii, gEq_bb, gIs_bb, gIx_t, gIx_l, gIx_s, VS.gNeg, gMax2, gMin2, gLen, gTupleOf, allFr, pad, mOw, mFr, headS, szl, eChain, sRaise, Option.bind, List.range'_succ, sLoop, gN, fb2, ak, c2, c3, c2', c3', c1, eTup]
        · have c3' : n ≤ ps[k] := by omega
          simp [Out.bind, Out.toS, sSeq, sIf, sSet, sOwn, sExpr, sRet, sRetNew, sRetN, sNext, sSetIx, eVar, eC, eOp, eUn, eB, asB, eTr, truD, bNot, bAnd, bOr, bV, VS.eAnd, VS.eOr, aNil, aCons, eCall, eIxO, eLenO, eMeth, VS.gInt, gMod_ii, gDiv_ii, gAdd_ii, gSub_ii, gMul_ii, gPow_ii, gLt_ii, gLe_ii, gGt_ii, gGe_ii, gEq_ii, gEq_bb, gIs_bb, gIx_t, gIx_l, gIx_s, VS.gNeg, gMax2, gMin2, gLen, gTupleOf, allFr, pad, mOw, mFr, headS, szl, eChain, sRaise, Option.bind, List.range'_succ, sLoop, gN, fb2, ak, c2, c3, c2', c3', eTup]
      · have c2' : ps[k] < -1 := by omega
        simp [Out.bind, Out.toS, sSeq, sIf, sSet, sOwn, sExpr, sRet, sRetNew, sRetN, sNext, sSetIx, eVar, eC, eOp, eUn, eB, asB, eTr, truD, bNot, bAnd, bOr, bV, VS.eAnd, VS.eOr, aNil, aCons, eCall, eIxO, eLenO, eMeth, VS.gInt, gMod_ii, gDiv_ii, gAdd_ii, gSub_ii, gMul_ii, gPow_ii, gLt_ii, gLe_ii, gGt_ii, gGe_ii, gEq_ii, gEq_bb, gIs_bb, gIx_t, gIx_l, gIx_s, VS.gNeg, gMax2, gMin2, gLen, gTupleOf, allFr, pad, mOw, mFr, headS, szl, eChain, sRaise, Option.bind, List.range'_succ, sLoop, gN, fb2, ak, c2, c2', eTup]
    rw [st]
    unfold fstBad
    by_cases c : ps[k] = k ∨ ¬ (-1 ≤ ps[k] ∧ ps[k] < n)
    · simp only [if_pos c]
      exact ⟨fun h => by simp [Out.bind, Out.toS, sSeq, sIf, sSet, sOwn, sExpr, sRet, sRetNew, sRetN, sNext, sSetIx, eVar, eC, eOp, eUn, eB, asB, eTr, truD, bNot, bAnd, bOr, bV, VS.eAnd, VS.eOr, aNil, aCons, eCall, eIxO, eLenO, eMeth, VS.gInt, gMod_ii, gDiv_ii, gAdd_ii, gSub_ii, gMul_ii, gPow_ii, gLt_ii, gLe_ii, gGt_ii, gGe_ii, gEq_ii, gEq_bb, gIs_bb, gIx_t, gIx_l, gIx_s, VS.gNeg, gMax2, gMin2, gLen, gTupleOf, allFr, pad, mOw, mFr, headS, szl, eChain, sRaise, Option.bind] at h, fun x h => ⟨_, by cases h; rfl⟩⟩
    · simp only [if_neg c]
      exact ih
end Law
/-! ## k08B -/
set_option Elab.async false
set_option linter.all false
set_option maxRecDepth 100000
set_option maxHeartbeats 4000000
set_option autoImplicit false
namespace Law
open VS L2

/-- one step of the parents' chain -/
def stp (ps : List Int) (x : Int) : Int := if x = -1 then -1 else (ps[x.toNat]?).getD (-1)
def itp (ps : List Int) : Nat → Int → Int
  | 0, x => x
  | m + 1, x => itp ps m (stp ps x)
theorem stp_ok {ps : List Int} (hv : ∀ p ∈ ps, -1 ≤ p ∧ p < ps.length) {x : Int} (h : -1 ≤ x ∧ x < ps.length) : -1 ≤ stp ps x ∧ stp ps x < ps.length := by
  unfold stp
  by_cases c : x = -1
  · rw [if_pos c]; omega
  · rw [if_neg c]
    have : x.toNat < ps.length := by omega
    rw [List.getElem?_eq_getElem this]
    exact hv _ (List.getElem_mem _)
theorem stp_at {ps : List Int} {x : Int} (h : -1 ≤ x ∧ x < ps.length) (c : x ≠ -1) : atI (ps.map D.int) x = some (.int (stp ps x)) := by
  obtain ⟨d, e1, e2⟩ := atI_of (xs := ps.map D.int) (i := x) (by omega) (by simpa using h.2)
  rw [e1]
  have : x.toNat < ps.length := by omega
  unfold stp
  rw [if_neg c]
  rw [List.getElem?_map, List.getElem?_eq_getElem this] at e2
  rw [List.getElem?_eq_getElem this]
  cases e2
  rfl
theorem itp_ok {ps : List Int} (hv : ∀ p ∈ ps, -1 ≤ p ∧ p < ps.length) : ∀ (m : Nat) {x : Int}, (-1 ≤ x ∧ x < ps.length) → -1 ≤ itp ps m x ∧ itp ps m x < ps.length
  | 0, _, h => h
  | m + 1, _, h => itp_ok hv m (stp_ok hv h)
def fb3 : List S → SO := (sIf (eB (eOp (VS.gEq true) (eVar 1) (eC (.int (-1))))) (sSet 1 (eOp VS.gIx (eVar 0) (eVar 1))) (sNext))
theorem co1 {ps : List Int} (hv : ∀ p ∈ ps, -1 ≤ p ∧ p < ps.length) : ∀ (items : List D) (x : Int) (t : S), (-1 ≤ x ∧ x < ps.length) →
    ∃ t', sLoop (gN 2) fb3 items [.fr (.tup (ps.map D.int)), .fr (.int x), t] = .nx [.fr (.tup (ps.map D.int)), .fr (.int (itp ps items.length x)), t']
  | [], x, t, _ => ⟨t, rfl⟩
  | d :: ds, x, t, h => by
    obtain ⟨t', e⟩ := co1 hv ds (stp ps x) (.fr d) (stp_ok hv h)
    refine ⟨t', ?_⟩
    by_cases c : x = -1
    · subst c
      simp [Out.bind, Out.toS, sSeq, sIf, sSet, sOwn, sExpr, sRet, sRetNew, sRetN, sNext, sSetIx, eVar, eC, eOp, eUn, eB, asB, eTr, truD, bNot, bAnd, bOr, bV, VS.eAnd, VS.eOr, aNil, aCons, eCall, eIxO, eLenO, eMeth, VS.gInt, gMod_ii, gDiv_ii, gAdd_ii, gSub_ii, gMul_ii, gPow_ii, gLt_ii, gLe_ii, gGt_ii, gGe_ii, gEq_ii, gEq_bb, gIs_bb, gIx_t, gIx_l, gIx_s, VS.gNeg, gMax2, gMin2, gLen, gTupleOf, allFr, pad, mOw, mFr, headS, szl, eChain, sRaise, Option.bind, sLoop, gN, fb3]
      exact e
    · simp [Out.bind, Out.toS, sSeq, sIf, sSet, sOwn, sExpr, sRet, sRetNew, sRetN, sNext, sSetIx, eVar, eC, eOp, eUn, eB, asB, eTr, truD, bNot, bAnd, bOr, bV, VS.eAnd, VS.eOr, aNil, aCons, eCall, eIxO, eLenO, eMeth, VS.gInt, gMod_ii, gDiv_ii, gAdd_ii, gSub_ii, gMul_ii, gPow_ii, gLt_ii, gLe_ii, gGt_ii, gGe_ii, gEq_ii, gEq_bb, gIs_bb, gIx_t, gIx_l, gIx_s, VS.gNeg, gMax2, gMin2, gLen, gTupleOf, allFr, pad, mOw, mFr, headS, szl, eChain, sRaise, Option.bind, sLoop, gN, fb3, c, stp_at h c]
      exact e
theorem comes_ok {ps : List Int} (hv : ∀ p ∈ ps, -1 ≤ p ∧ p < ps.length) {x : Int} (h : -1 ≤ x ∧ x < ps.length) : m__comes_to_door [.fr (.tup (ps.map D.int)), .fr (.int x)] = .ok (.bl (itp ps ps.length x == -1)) [.fr (.tup (ps.map D.int)), .fr (.int x)] := by
  obtain ⟨t', e⟩ := co1 hv (ps.map D.int) x .un h
  rw [List.length_map] at e
  have e : sLoop (gN 2) (sIf (eB (eOp (VS.gEq true) (eVar 1) (eC (.int (-1))))) (sSet 1 (eOp VS.gIx (eVar 0) (eVar 1))) (sNext)) (ps.map D.int) [.fr (.tup (ps.map D.int)), .fr (.int x), .un] = _ := e
  simp [Out.bind, Out.toS, sSeq, sIf, sSet, sOwn, sExpr, sRet, sRetNew, sRetN, sNext, sSetIx, eVar, eC, eOp, eUn, eB, asB, eTr, truD, bNot, bAnd, bOr, bV, VS.eAnd, VS.eOr, aNil, aCons, eCall, eIxO, eLenO, eMeth, VS.gInt, gMod_ii, gDiv_ii, gAdd_ii, gSub_ii, gMul_ii, gPow_ii, gLt_ii, gLe_ii, gGt_ii, gGe_ii, gEq_ii, gEq_bb, gIs_bb, gIx_t, gIx_l, gIx_s, VS.gNeg, gMax2, gMin2, gLen, gTupleOf, allFr, pad, mOw, mFr, headS, szl, eChain, sRaise, Option.bind] at e
  simp [Out.bind, Out.toS, sSeq, sIf, sSet, sOwn, sExpr, sRet, sRetNew, sRetN, sNext, sSetIx, eVar, eC, eOp, eUn, eB, asB, eTr, truD, bNot, bAnd, bOr, bV, VS.eAnd, VS.eOr, aNil, aCons, eCall, eIxO, eLenO, eMeth, VS.gInt, gMod_ii, gDiv_ii, gAdd_ii, gSub_ii, gMul_ii, gPow_ii, gLt_ii, gLe_ii, gGt_ii, gGe_ii, gEq_ii, gEq_bb, gIs_bb, gIx_t, gIx_l, gIx_s, VS.gNeg, gMax2, gMin2, gLen, gTupleOf, allFr, pad, mOw, mFr, headS, szl, eChain, sRaise, Option.bind, m__comes_to_door, b__comes_to_door, sFor, iSeq, e]
def fb4 : List S → SO := (sIf (bNot (eTr (eFn m__comes_to_door (aCons (eVar 0) (aCons (eVar 2) (aNil)))))) (sRaise "Round" (eVar 2)) (sNext))
/-- the first place that doesn't come to the door -/
def fstRnd (ps : List Int) : List Nat → Option Nat
  | [] => none
  | x :: xs => if itp ps ps.length x = -1 then fstRnd ps xs else some x
theorem mh2 {ps : List Int} (hv : ∀ p ∈ ps, -1 ≤ p ∧ p < ps.length) (n : D) : ∀ (xs : List Nat) (t2 t3 : S), (∀ x ∈ xs, x < ps.length) →
    (fstRnd ps xs = none → ∃ t2', sLoop (gN 2) fb4 (xs.map fun (j : Nat) => D.int j) [.fr (.tup (ps.map D.int)), .fr n, t2, t3] = .nx [.fr (.tup (ps.map D.int)), .fr n, t2', t3]) ∧
    (∀ x, fstRnd ps xs = some x → ∃ ρ', sLoop (gN 2) fb4 (xs.map fun (j : Nat) => D.int j) [.fr (.tup (ps.map D.int)), .fr n, t2, t3] = .ex "Round" (.int x) ρ')
  | [], t2, t3, _ => ⟨fun _ => ⟨t2, rfl⟩, fun x h => by simp [Out.bind, Out.toS, sSeq, sIf, sSet, sOwn, sExpr, sRet, sRetNew, sRetN, sNext, sSetIx, eVar, eC, eOp, eUn, eB, asB, eTr, truD, bNot, bAnd, bOr, bV, VS.eAnd, VS.eOr, aNil, aCons, eCall, eIxO, eLenO, eMeth, VS.gInt, gMod_ii, gDiv_ii, gAdd_ii, gSub_ii, gMul_ii, gPow_ii, gLt_ii, gLe_ii, gGt_ii, gGe_ii, gEq_ii, gEq_bb, gIs_bb, gIx_t, gIx_l, gIx_s, VS.gNeg, gMax2, gMin2, gLen, gTupleOf, allFr, pad, mOw, mFr, headS, szl, eChain, sRaise, Option.bind, fstRnd] at h⟩
  | x :: xs, t2, t3, hx => by
    have ih := mh2 hv n xs (.fr (.int x)) t3 (fun y hy => hx y (List.mem_cons_of_mem _ hy))
    have e := comes_ok hv (x := (x : Int)) (by have := hx x (by simp [Out.bind, Out.toS, sSeq, sIf, sSet, sOwn, sExpr, sRet, sRetNew, sRetN, sNext, sSetIx, eVar, eC, eOp, eUn, eB, asB, eTr, truD, bNot, bAnd, bOr, bV, VS.eAnd, VS.eOr, aNil, aCons, eCall, eIxO, eLenO, eMeth, VS.gInt, gMod_ii, gDiv_ii, gAdd_ii, gSub_ii, gMul_ii, gPow_ii, gLt_ii, gLe_ii, gGt_ii, gGe_ii, gEq_ii, gEq_bb, gIs_bb, gIx_t, gIx_l, gIx_s, VS.gNeg, gMax2, gMin2, gLen, gTupleOf, allFr, pad, mOw, mFr, headS, szl, eChain, sRaise, Option.bind]); omega)
    unfold fstRnd
    by_cases c : itp ps ps.length x = -1
    · simp only [if_pos c]
      have st : sLoop (gN 2) fb4 ((x :: xs).map fun (j : Nat) => D.int j) [.fr (.tup (ps.map D.int)), .fr n, t2, t3] = sLoop (gN 2) fb4 (xs.map fun (j : Nat) => D.int j) [.fr (.tup (ps.map D.int)), .fr n, .fr (.int x), t3] := by
        simp [Out.bind, Out.toS, sSeq, sIf, sSet, sOwn, sExpr, sRet, sRetNew, sRetN, sNext, sSetIx, eVar, eC, eOp, eUn, eB, asB, eTr, truD, bNot, bAnd, bOr, bV, VS.eAnd, VS.eOr, aNil, aCons, eCall, eIxO, eLenO, eMeth, VS.gInt, gMod_ii, gDiv_ii, gAdd_ii, gSub_ii, gMul_ii, gPow_ii, gLt_ii, gLe_ii, gGt_ii, gGe_ii, gEq_ii, gEq_bb, gIs_bb, gIx_t, gIx_l, gIx_s, VS.gNeg, gMax2, gMin2, gLen, gTupleOf, allFr, pad, mOw, mFr, headS, szl, eChain, sRaise, Option.bind, sLoop, gN, fb4, eFn, e, c]
      rw [st]
      exact ih
    · simp only [if_neg c]
      have st : sLoop (gN 2) fb4 ((x :: xs).map fun (j : Nat) => D.int j) [.fr (.tup (ps.map D.int)), .fr n, t2, t3] = .ex "Round" (.int x) [.fr (.tup (ps.map D.int)), .fr n, .fr (.int x), t3] := by
        simp [Out.bind, Out.toS, sSeq, sIf, sSet, sOwn, sExpr, sRet, sRetNew, sRetN, sNext, sSetIx, eVar, eC, eOp, eUn, eB, asB, eTr, truD, bNot, bAnd, bOr, bV, VS.eAnd, VS.eOr, aNil, aCons, eCall, eIxO, eLenO, eMeth, VS.gInt, gMod_ii, gDiv_ii, gAdd_ii, gSub_ii, gMul_ii, gPow_ii, gLt_ii, gLe_ii, gGt_ii, gGe_ii, gEq_ii, gEq_bb, gIs_bb, gIx_t, gIx_l, gIx_s, VS.gNeg, gMax2, gMin2, gLen, gTupleOf, allFr, pad, mOw, mFr, headS, szl, eChain, sRaise, Option.bind, sLoop, gN, fb4, eFn, e, c]
      exact ⟨fun h => by simp [Out.bind, Out.toS, sSeq, sIf, sSet, sOwn, sExpr, sRet, sRetNew, sRetN, sNext, sSetIx, eVar, eC, eOp, eUn, eB, asB, eTr, truD, bNot, bAnd, bOr, bV, VS.eAnd, VS.eOr, aNil, aCons, eCall, eIxO, eLenO, eMeth, VS.gInt, gMod_ii, gDiv_ii, gAdd_ii, gSub_ii, gMul_ii, gPow_ii, gLt_ii, gLe_ii, gGt_ii, gGe_ii, gEq_ii, gEq_bb, gIs_bb, gIx_t, gIx_l, gIx_s, VS.gNeg, gMax2, gMin2, gLen, gTupleOf, allFr, pad, mOw, mFr, headS, szl, eChain, sRaise, Option.bind] at h, fun y h => ⟨_, by cases h; exact st⟩⟩
def fb5 : List S → SO := (sIf (eB (eOp VS.gGe (eVar 3) (eC (.int 0)))) (sSet 3 (eOp VS.gIx (eVar 0) (eVar 3))) (sNext))
theorem du2 {ps : List Int} (hv : ∀ p ∈ ps, -1 ≤ p ∧ p < ps.length) (n y : D) : ∀ (items : List D) (x : Int) (t : S), (-1 ≤ x ∧ x < ps.length) →
    ∃ t', sLoop (gN 4) fb5 items [.fr (.tup (ps.map D.int)), .fr n, .fr y, .fr (.int x), t] = .nx [.fr (.tup (ps.map D.int)), .fr n, .fr y, .fr (.int (itp ps items.length x)), t']
  | [], x, t, _ => ⟨t, rfl⟩
  | d :: ds, x, t, h => by
    obtain ⟨t', e⟩ := du2 hv n y ds (stp ps x) (.fr d) (stp_ok hv h)
    refine ⟨t', ?_⟩
    by_cases c : x = -1
    · subst c
      simp [Out.bind, Out.toS, sSeq, sIf, sSet, sOwn, sExpr, sRet, sRetNew, sRetN, sNext, sSetIx, eVar, eC, eOp, eUn, eB, asB, eTr, truD, bNot, bAnd, bOr, bV, VS.eAnd, VS.eOr, aNil, aCons, eCall, eIxO, eLenO, eMeth, VS.gInt, gMod_ii, gDiv_ii, gAdd_ii, gSub_ii, gMul_ii, gPow_ii, gLt_ii, gLe_ii, gGt_ii, gGe_ii, gEq_ii, gEq_bb, gIs_bb, gIx_t, gIx_l, gIx_s, VS.gNeg, gMax2, gMin2, gLen, gTupleOf, allFr, pad, mOw, mFr, headS, szl, eChain, sRaise, Option.bind, sLoop, gN, fb5]
      exact e
    · have c' : 0 ≤ x := by omega
      simp [Out.bind, Out.toS, sSeq, sIf, sSet, sOwn, sExpr, sRet, sRetNew, sRetN, sNext, sSetIx, eVar, eC, eOp, eUn, eB, asB, eTr, truD, bNot, bAnd, bOr, bV, VS.eAnd, VS.eOr, aNil, aCons, eCall, eIxO, eLenO, eMeth, VS.gInt, gMod_ii, gDiv_ii, gAdd_ii, gSub_ii, gMul_ii, gPow_ii, gLt_ii, gLe_ii, gGt_ii, gGe_ii, gEq_ii, gEq_bb, gIs_bb, gIx_t, gIx_l, gIx_s, VS.gNeg, gMax2, gMin2, gLen, gTupleOf, allFr, pad, mOw, mFr, headS, szl, eChain, sRaise, Option.bind, sLoop, gN, fb5, c', stp_at h c]
      exact e
def fb6 : List S → SO := (sSeq (sSet 3 (eVar 2))
    (sSeq (sFor (iRange1 (aCons (eVar 1) (aNil))) (gN 4) fb5)
    (sIf (eB (eOp VS.gGe (eVar 3) (eC (.int 0)))) (sRet (eTup (aCons (eC (.str "round")) (aCons (eVar 2) (aNil))))) (sNext))))
theorem du3 {ps : List Int} (hl : ps.length < 1000) (hv : ∀ p ∈ ps, -1 ≤ p ∧ p < ps.length) : ∀ (xs : List Nat) (t2 t3 t4 : S), (∀ x ∈ xs, x < ps.length) →
    (fstRnd ps xs = none → ∃ t2' t3' t4', sLoop (gN 2) fb6 (xs.map fun (j : Nat) => D.int j) [.fr (.tup (ps.map D.int)), .fr (.int ps.length), t2, t3, t4] = .nx [.fr (.tup (ps.map D.int)), .fr (.int ps.length), t2', t3', t4']) ∧
    (∀ x, fstRnd ps xs = some x → ∃ ρ', sLoop (gN 2) fb6 (xs.map fun (j : Nat) => D.int j) [.fr (.tup (ps.map D.int)), .fr (.int ps.length), t2, t3, t4] = .rt (.tup [.str "round", .int x]) ρ')
  | [], t2, t3, t4, _ => ⟨fun _ => ⟨t2, t3, t4, rfl⟩, fun x h => by simp [Out.bind, Out.toS, sSeq, sIf, sSet, sOwn, sExpr, sRet, sRetNew, sRetN, sNext, sSetIx, eVar, eC, eOp, eUn, eB, asB, eTr, truD, bNot, bAnd, bOr, bV, VS.eAnd, VS.eOr, aNil, aCons, eCall, eIxO, eLenO, eMeth, VS.gInt, gMod_ii, gDiv_ii, gAdd_ii, gSub_ii, gMul_ii, gPow_ii, gLt_ii, gLe_ii, gGt_ii, gGe_ii, gEq_ii, gEq_bb, gIs_bb, gIx_t, gIx_l, gIx_s, VS.gNeg, gMax2, gMin2, gLen, gTupleOf, allFr, pad, mOw, mFr, headS, szl, eChain, sRaise, Option.bind, fstRnd] at h⟩
  | x :: xs, t2, t3, t4, hx => by
    have hx0 : (-1 : Int) ≤ x ∧ (x : Int) < ps.length := by have := hx x (by simp [Out.bind, Out.toS, sSeq, sIf, sSet, sOwn, sExpr, sRet, sRetNew, sRetN, sNext, sSetIx, eVar, eC, eOp, eUn, eB, asB, eTr, truD, bNot, bAnd, bOr, bV, VS.eAnd, VS.eOr, aNil, aCons, eCall, eIxO, eLenO, eMeth, VS.gInt, gMod_ii, gDiv_ii, gAdd_ii, gSub_ii, gMul_ii, gPow_ii, gLt_ii, gLe_ii, gGt_ii, gGe_ii, gEq_ii, gEq_bb, gIs_bb, gIx_t, gIx_l, gIx_s, VS.gNeg, gMax2, gMin2, gLen, gTupleOf, allFr, pad, mOw, mFr, headS, szl, eChain, sRaise, Option.bind]); omega
    obtain ⟨t', e⟩ := du2 hv (.int ps.length) (.int x) ((List.range ps.length).map fun (k : Nat) => D.int k) x t4 hx0
    rw [List.length_map, List.length_range] at e
    have ih := du3 hl hv xs (.fr (.int x)) (.fr (.int (itp ps ps.length x))) t' (fun y hy => hx y (List.mem_cons_of_mem _ hy))
    have bd := itp_ok hv ps.length hx0
    have rg := R1_ok ps.length (by omega)
    unfold fstRnd
    by_cases c : itp ps ps.length x = -1
    · simp only [if_pos c]
      have st : sLoop (gN 2) fb6 ((x :: xs).map fun (j : Nat) => D.int j) [.fr (.tup (ps.map D.int)), .fr (.int ps.length), t2, t3, t4] = sLoop (gN 2) fb6 (xs.map fun (j : Nat) => D.int j) [.fr (.tup (ps.map D.int)), .fr (.int ps.length), .fr (.int x), .fr (.int (itp ps ps.length x)), t'] := by
        simp [Out.bind, Out.toS, sSeq, sIf, sSet, sOwn, sExpr, sRet, sRetNew, sRetN, sNext, sSetIx, eVar, eC, eOp, eUn, eB, asB, eTr, truD, bNot, bAnd, bOr, bV, VS.eAnd, VS.eOr, aNil, aCons, eCall, eIxO, eLenO, eMeth, VS.gInt, gMod_ii, gDiv_ii, gAdd_ii, gSub_ii, gMul_ii, gPow_ii, gLt_ii, gLe_ii, gGt_ii, gGe_ii, gEq_ii, gEq_bb, gIs_bb, gIx_t, gIx_l, gIx_s, VS.gNeg, gMax2, gMin2, gLen, gTupleOf, allFr, pad, mOw, mFr, headS, szl, eChain, sRaise, Option.bind, sLoop, gN, fb6, sFor, iR1_eq, rg, e, c]
      rw [st]
      exact ih
    · simp only [if_neg c]
      have c' : 0 ≤ itp ps ps.length x := by omega
      have st : sLoop (gN 2) fb6 ((x :: xs).map fun (j : Nat) => D.int j) [.fr (.tup (ps.map D.int)), .fr (.int ps.length), t2, t3, t4] = .rt (.tup [.str "round", .int x]) [.fr (.tup (ps.map D.int)), .fr (.int ps.length), .fr (.int x), .fr (.int (itp ps ps.length x)), t'] := by
        simp [Out.bind, Out.toS, sSeq, sIf, sSet, sOwn, sExpr, sRet, sRetNew, sRetN, sNext, sSetIx, eVar, eC, eOp, eUn, eB, asB, eTr, truD, bNot, bAnd, bOr, bV, VS.eAnd, VS.eOr, aNil, aCons, eCall, eIxO, eLenO, eMeth, VS.gInt, gMod_ii, gDiv_ii, gAdd_ii, gSub_ii, gMul_ii, gPow_ii, gLt_ii, gLe_ii, gGt_ii, gGe_ii, gEq_ii, gEq_bb, gIs_bb, gIx_t, gIx_l, gIx_s, VS.gNeg, gMax2, gMin2, gLen, gTupleOf, allFr, pad, mOw, mFr, headS, szl, eChain, sRaise, Option.bind, sLoop, gN, fb6, sFor, iR1_eq, rg, e, c', eTup]
      exact ⟨fun h => by simp [Out.bind, Out.toS, sSeq, sIf, sSet, sOwn, sExpr, sRet, sRetNew, sRetN, sNext, sSetIx, eVar, eC, eOp, eUn, eB, asB, eTr, truD, bNot, bAnd, bOr, bV, VS.eAnd, VS.eOr, aNil, aCons, eCall, eIxO, eLenO, eMeth, VS.gInt, gMod_ii, gDiv_ii, gAdd_ii, gSub_ii, gMul_ii, gPow_ii, gLt_ii, gLe_ii, gGt_ii, gGe_ii, gEq_ii, gEq_bb, gIs_bb, gIx_t, gIx_l, gIx_s, VS.gNeg, gMax2, gMin2, gLen, gTupleOf, allFr, pad, mOw, mFr, headS, szl, eChain, sRaise, Option.bind] at h, fun y h => ⟨_, by cases h; exact st⟩⟩
end Law
/-! ## k08C -/
set_option Elab.async false
set_option linter.all false
set_option maxRecDepth 100000
set_option maxHeartbeats 4000000
set_option autoImplicit false
namespace Law
open VS L2

theorem kb_tt : kitB "tuple" "tuple" = some true := by decide +kernel
theorem isi_tt (ds : List D) : isiT "tuple" (.tup ds) = some true := kb_tt
theorem kb_ti : kitB "int" "tuple" = some false := by decide +kernel
theorem isi_ti (i : Int) : isiT "tuple" (.int i) = some false := kb_ti
theorem kb_ts : kitB "str" "tuple" = some false := by decide +kernel
theorem isi_ts (x : PySem.Str) : isiT "tuple" (.str x) = some false := kb_ts
theorem kb_it : kitB "tuple" "int" = some false := by decide +kernel
theorem isi_it (ds : List D) : isiT "int" (.tup ds) = some false := kb_it
theorem kb_ii : kitB "int" "int" = some true := by decide +kernel
theorem isi_ii (i : Int) : isiT "int" (.int i) = some true := kb_ii
theorem kb_is : kitB "str" "int" = some false := by decide +kernel
theorem isi_is (x : PySem.Str) : isiT "int" (.str x) = some false := kb_is
theorem kb_bi : kitB "int" "bool" = some false := by decide +kernel
theorem isi_bi (i : Int) : isiT "bool" (.int i) = some false := kb_bi
theorem kb_bb : kitB "bool" "bool" = some true := by decide +kernel
theorem isi_bb (b : Bool) : isiT "bool" (.bl b) = some true := kb_bb
theorem made_size (ps : List Int) (h : ¬ (1 ≤ (ps.length : Int) ∧ (ps.length : Int) ≤ 16)) : m_made_house [.fr (.tup (ps.map D.int))] = .ex "BadSize" (.int ps.length) [.fr (.tup (ps.map D.int))] ∧ m__law_due [.fr (.tup (ps.map D.int))] = .ok (.tup [.str "size", .int ps.length]) [.fr (.tup (ps.map D.int))] := by
  by_cases c : 1 ≤ (ps.length : Int)
  · have c2 : ¬ (ps.length : Int) ≤ 16 := fun z => h ⟨c, z⟩
    have c3 : 16 < (ps.length : Int) := by omega
    have c4 : ¬ (ps.length : Int) < 1 := by omega
    constructor
    · simp [Out.bind, Out.toS, sSeq, sIf, sSet, sOwn, sExpr, sRet, sRetNew, sRetN, sNext, sSetIx, eVar, eC, eOp, eUn, eB, asB, eTr, truD, bNot, bAnd, bOr, bV, VS.eAnd, VS.eOr, aNil, aCons, eCall, eIxO, eLenO, eMeth, VS.gInt, gMod_ii, gDiv_ii, gAdd_ii, gSub_ii, gMul_ii, gPow_ii, gLt_ii, gLe_ii, gGt_ii, gGe_ii, gEq_ii, gEq_bb, gIs_bb, gIx_t, gIx_l, gIx_s, VS.gNeg, gMax2, gMin2, gLen, gTupleOf, allFr, pad, mOw, mFr, headS, szl, eChain, sRaise, Option.bind, sTry, sHs, Tbl.sub, tbl, m_made_house, b_made_house, eFn, m_check_size, b_check_size, c, c2]
    · simp [Out.bind, Out.toS, sSeq, sIf, sSet, sOwn, sExpr, sRet, sRetNew, sRetN, sNext, sSetIx, eVar, eC, eOp, eUn, eB, asB, eTr, truD, bNot, bAnd, bOr, bV, VS.eAnd, VS.eOr, aNil, aCons, eCall, eIxO, eLenO, eMeth, VS.gInt, gMod_ii, gDiv_ii, gAdd_ii, gSub_ii, gMul_ii, gPow_ii, gLt_ii, gLe_ii, gGt_ii, gGe_ii, gEq_ii, gEq_bb, gIs_bb, gIx_t, gIx_l, gIx_s, VS.gNeg, gMax2, gMin2, gLen, gTupleOf, allFr, pad, mOw, mFr, headS, szl, eChain, sRaise, Option.bind, sTry, sHs, Tbl.sub, tbl, m__law_due, b__law_due, c4, c3, eTup]
  · have c4 : (ps.length : Int) < 1 := by omega
    constructor
    · simp [Out.bind, Out.toS, sSeq, sIf, sSet, sOwn, sExpr, sRet, sRetNew, sRetN, sNext, sSetIx, eVar, eC, eOp, eUn, eB, asB, eTr, truD, bNot, bAnd, bOr, bV, VS.eAnd, VS.eOr, aNil, aCons, eCall, eIxO, eLenO, eMeth, VS.gInt, gMod_ii, gDiv_ii, gAdd_ii, gSub_ii, gMul_ii, gPow_ii, gLt_ii, gLe_ii, gGt_ii, gGe_ii, gEq_ii, gEq_bb, gIs_bb, gIx_t, gIx_l, gIx_s, VS.gNeg, gMax2, gMin2, gLen, gTupleOf, allFr, pad, mOw, mFr, headS, szl, eChain, sRaise, Option.bind, sTry, sHs, Tbl.sub, tbl, m_made_house, b_made_house, eFn, m_check_size, b_check_size, c]
    · simp [Out.bind, Out.toS, sSeq, sIf, sSet, sOwn, sExpr, sRet, sRetNew, sRetN, sNext, sSetIx, eVar, eC, eOp, eUn, eB, asB, eTr, truD, bNot, bAnd, bOr, bV, VS.eAnd, VS.eOr, aNil, aCons, eCall, eIxO, eLenO, eMeth, VS.gInt, gMod_ii, gDiv_ii, gAdd_ii, gSub_ii, gMul_ii, gPow_ii, gLt_ii, gLe_ii, gGt_ii, gGe_ii, gEq_ii, gEq_bb, gIs_bb, gIx_t, gIx_l, gIx_s, VS.gNeg, gMax2, gMin2, gLen, gTupleOf, allFr, pad, mOw, mFr, headS, szl, eChain, sRaise, Option.bind, sTry, sHs, Tbl.sub, tbl, m__law_due, b__law_due, c4, eTup]
theorem made_parent (ps : List Int) (h : 1 ≤ (ps.length : Int) ∧ (ps.length : Int) ≤ 16) (x : Nat) (hx : fstBad ps.length 0 ps = some x) : m_made_house [.fr (.tup (ps.map D.int))] = .ex "BadParent" (.int x) [.fr (.tup (ps.map D.int))] ∧ m__law_due [.fr (.tup (ps.map D.int))] = .ok (.tup [.str "parent", .int x]) [.fr (.tup (ps.map D.int))] := by
  have c4 : ¬ (ps.length : Int) < 1 := by omega
  have c3 : ¬ 16 < (ps.length : Int) := by omega
  have rg := R1_ok ps.length (by omega)
  obtain ⟨ρ1, e1⟩ := (mh1 (.tup (ps.map D.int)) ps.length ps 0 .un .un).2 x hx
  obtain ⟨ρ2, e2⟩ := (du1 ps ps.length .un .un ps.length 0 .un (by omega)).2 x hx
  rw [← List.range_eq_range'] at e2
  unfold fb1 at e1
  unfold fb2 at e2
  simp [Out.bind, Out.toS, sSeq, sIf, sSet, sOwn, sExpr, sRet, sRetNew, sRetN, sNext, sSetIx, eVar, eC, eOp, eUn, eB, asB, eTr, truD, bNot, bAnd, bOr, bV, VS.eAnd, VS.eOr, aNil, aCons, eCall, eIxO, eLenO, eMeth, VS.gInt, gMod_ii, gDiv_ii, gAdd_ii, gSub_ii, gMul_ii, gPow_ii, gLt_ii, gLe_ii, gGt_ii, gGe_ii, gEq_ii, gEq_bb, gIs_bb, gIx_t, gIx_l, gIx_s, VS.gNeg, gMax2, gMin2, gLen, gTupleOf, allFr, pad, mOw, mFr, headS, szl, eChain, sRaise, Option.bind, sTry, sHs, Tbl.sub, tbl] at e1 e2
  constructor
  · simp [Out.bind, Out.toS, sSeq, sIf, sSet, sOwn, sExpr, sRet, sRetNew, sRetN, sNext, sSetIx, eVar, eC, eOp, eUn, eB, asB, eTr, truD, bNot, bAnd, bOr, bV, VS.eAnd, VS.eOr, aNil, aCons, eCall, eIxO, eLenO, eMeth, VS.gInt, gMod_ii, gDiv_ii, gAdd_ii, gSub_ii, gMul_ii, gPow_ii, gLt_ii, gLe_ii, gGt_ii, gGe_ii, gEq_ii, gEq_bb, gIs_bb, gIx_t, gIx_l, gIx_s, VS.gNeg, gMax2, gMin2, gLen, gTupleOf, allFr, pad, mOw, mFr, headS, szl, eChain, sRaise, Option.bind, sTry, sHs, Tbl.sub, tbl, m_made_house, b_made_house, eFn, m_check_size, b_check_size, h.1, h.2, sFor, VS.iEnum, iEnumL, e1]
  · simp [Out.bind, Out.toS, sSeq, sIf, sSet, sOwn, sExpr, sRet, sRetNew, sRetN, sNext, sSetIx, eVar, eC, eOp, eUn, eB, asB, eTr, truD, bNot, bAnd, bOr, bV, VS.eAnd, VS.eOr, aNil, aCons, eCall, eIxO, eLenO, eMeth, VS.gInt, gMod_ii, gDiv_ii, gAdd_ii, gSub_ii, gMul_ii, gPow_ii, gLt_ii, gLe_ii, gGt_ii, gGe_ii, gEq_ii, gEq_bb, gIs_bb, gIx_t, gIx_l, gIx_s, VS.gNeg, gMax2, gMin2, gLen, gTupleOf, allFr, pad, mOw, mFr, headS, szl, eChain, sRaise, Option.bind, sTry, sHs, Tbl.sub, tbl, m__law_due, b__law_due, c4, c3, sFor, iR1_eq, rg, e2]
theorem made_rest (ps : List Int) (h : 1 ≤ (ps.length : Int) ∧ (ps.length : Int) ≤ 16) (hx : fstBad ps.length 0 ps = none) :
    (∀ x, fstRnd ps (List.range ps.length) = some x → m_made_house [.fr (.tup (ps.map D.int))] = .ex "Round" (.int x) [.fr (.tup (ps.map D.int))] ∧ m__law_due [.fr (.tup (ps.map D.int))] = .ok (.tup [.str "round", .int x]) [.fr (.tup (ps.map D.int))]) ∧
    (fstRnd ps (List.range ps.length) = none → m_made_house [.fr (.tup (ps.map D.int))] = .ok (.tup (ps.map D.int)) [.fr (.tup (ps.map D.int))] ∧ m__law_due [.fr (.tup (ps.map D.int))] = .ok (.tup [.str "house", .tup (ps.map D.int)]) [.fr (.tup (ps.map D.int))]) := by
  have c4 : ¬ (ps.length : Int) < 1 := by omega
  have c3 : ¬ 16 < (ps.length : Int) := by omega
  have rg := R1_ok ps.length (by omega)
  have hv := fstBad_none hx
  have hr : ∀ x ∈ List.range ps.length, x < ps.length := fun x hx => List.mem_range.mp hx
  obtain ⟨t2, t3, e1⟩ := (mh1 (.tup (ps.map D.int)) ps.length ps 0 .un .un).1 hx
  obtain ⟨t2', e2⟩ := (du1 ps ps.length .un .un ps.length 0 .un (by omega)).1 hx
  rw [← List.range_eq_range'] at e2
  unfold fb1 at e1
  unfold fb2 at e2
  simp [Out.bind, Out.toS, sSeq, sIf, sSet, sOwn, sExpr, sRet, sRetNew, sRetN, sNext, sSetIx, eVar, eC, eOp, eUn, eB, asB, eTr, truD, bNot, bAnd, bOr, bV, VS.eAnd, VS.eOr, aNil, aCons, eCall, eIxO, eLenO, eMeth, VS.gInt, gMod_ii, gDiv_ii, gAdd_ii, gSub_ii, gMul_ii, gPow_ii, gLt_ii, gLe_ii, gGt_ii, gGe_ii, gEq_ii, gEq_bb, gIs_bb, gIx_t, gIx_l, gIx_s, VS.gNeg, gMax2, gMin2, gLen, gTupleOf, allFr, pad, mOw, mFr, headS, szl, eChain, sRaise, Option.bind, sTry, sHs, Tbl.sub, tbl] at e1 e2
  constructor
  · intro x hx
    obtain ⟨ρ3, e3⟩ := (mh2 hv (.int ps.length) (List.range ps.length) t2 t3 hr).2 x hx
    obtain ⟨ρ4, e4⟩ := (du3 (by omega) hv (List.range ps.length) t2' .un .un hr).2 x hx
    unfold fb4 at e3
    unfold fb6 fb5 at e4
    simp [Out.bind, Out.toS, sSeq, sIf, sSet, sOwn, sExpr, sRet, sRetNew, sRetN, sNext, sSetIx, eVar, eC, eOp, eUn, eB, asB, eTr, truD, bNot, bAnd, bOr, bV, VS.eAnd, VS.eOr, aNil, aCons, eCall, eIxO, eLenO, eMeth, VS.gInt, gMod_ii, gDiv_ii, gAdd_ii, gSub_ii, gMul_ii, gPow_ii, gLt_ii, gLe_ii, gGt_ii, gGe_ii, gEq_ii, gEq_bb, gIs_bb, gIx_t, gIx_l, gIx_s, VS.gNeg, gMax2, gMin2, gLen, gTupleOf, allFr, pad, mOw, mFr, headS, szl, eChain, sRaise, Option.bind, sTry, sHs, Tbl.sub, tbl] at e3 e4
    constructor
    · simp [Out.bind, Out.toS, sSeq, sIf, sSet, sOwn, sExpr, sRet, sRetNew, sRetN, sNext, sSetIx, eVar, eC, eOp, eUn, eB, asB, eTr, truD, bNot, bAnd, bOr, bV, VS.eAnd, VS.eOr, aNil, aCons, eCall, eIxO, eLenO, eMeth, VS.gInt, gMod_ii, gDiv_ii, gAdd_ii, gSub_ii, gMul_ii, gPow_ii, gLt_ii, gLe_ii, gGt_ii, gGe_ii, gEq_ii, gEq_bb, gIs_bb, gIx_t, gIx_l, gIx_s, VS.gNeg, gMax2, gMin2, gLen, gTupleOf, allFr, pad, mOw, mFr, headS, szl, eChain, sRaise, Option.bind, sTry, sHs, Tbl.sub, tbl, m_made_house, b_made_house, eFn, m_check_size, b_check_size, h.1, h.2, sFor, VS.iEnum, iEnumL, e1, iR1_eq, rg, e3]
    · simp [Out.bind, Out.toS, sSeq, sIf, sSet, sOwn, sExpr, sRet, sRetNew, sRetN, sNext, sSetIx, eVar, eC, eOp, eUn, eB, asB, eTr, truD, bNot, bAnd, bOr, bV, VS.eAnd, VS.eOr, aNil, aCons, eCall, eIxO, eLenO, eMeth, VS.gInt, gMod_ii, gDiv_ii, gAdd_ii, gSub_ii, gMul_ii, gPow_ii, gLt_ii, gLe_ii, gGt_ii, gGe_ii, gEq_ii, gEq_bb, gIs_bb, gIx_t, gIx_l, gIx_s, VS.gNeg, gMax2, gMin2, gLen, gTupleOf, allFr, pad, mOw, mFr, headS, szl, eChain, sRaise, Option.bind, sTry, sHs, Tbl.sub, tbl, m__law_due, b__law_due, c4, c3, sFor, iR1_eq, rg, e2, e4]
  · intro hx
    obtain ⟨u2, e3⟩ := (mh2 hv (.int ps.length) (List.range ps.length) t2 t3 hr).1 hx
    obtain ⟨v2, v3, v4, e4⟩ := (du3 (by omega) hv (List.range ps.length) t2' .un .un hr).1 hx
    unfold fb4 at e3
    unfold fb6 fb5 at e4
    simp [Out.bind, Out.toS, sSeq, sIf, sSet, sOwn, sExpr, sRet, sRetNew, sRetN, sNext, sSetIx, eVar, eC, eOp, eUn, eB, asB, eTr, truD, bNot, bAnd, bOr, bV, VS.eAnd, VS.eOr, aNil, aCons, eCall, eIxO, eLenO, eMeth, VS.gInt, gMod_ii, gDiv_ii, gAdd_ii, gSub_ii, gMul_ii, gPow_ii, gLt_ii, gLe_ii, gGt_ii, gGe_ii, gEq_ii, gEq_bb, gIs_bb, gIx_t, gIx_l, gIx_s, VS.gNeg, gMax2, gMin2, gLen, gTupleOf, allFr, pad, mOw, mFr, headS, szl, eChain, sRaise, Option.bind, sTry, sHs, Tbl.sub, tbl] at e3 e4
    constructor
    · simp [Out.bind, Out.toS, sSeq, sIf, sSet, sOwn, sExpr, sRet, sRetNew, sRetN, sNext, sSetIx, eVar, eC, eOp, eUn, eB, asB, eTr, truD, bNot, bAnd, bOr, bV, VS.eAnd, VS.eOr, aNil, aCons, eCall, eIxO, eLenO, eMeth, VS.gInt, gMod_ii, gDiv_ii, gAdd_ii, gSub_ii, gMul_ii, gPow_ii, gLt_ii, gLe_ii, gGt_ii, gGe_ii, gEq_ii, gEq_bb, gIs_bb, gIx_t, gIx_l, gIx_s, VS.gNeg, gMax2, gMin2, gLen, gTupleOf, allFr, pad, mOw, mFr, headS, szl, eChain, sRaise, Option.bind, sTry, sHs, Tbl.sub, tbl, m_made_house, b_made_house, eFn, m_check_size, b_check_size, h.1, h.2, sFor, VS.iEnum, iEnumL, e1, iR1_eq, rg, e3]
    · simp [Out.bind, Out.toS, sSeq, sIf, sSet, sOwn, sExpr, sRet, sRetNew, sRetN, sNext, sSetIx, eVar, eC, eOp, eUn, eB, asB, eTr, truD, bNot, bAnd, bOr, bV, VS.eAnd, VS.eOr, aNil, aCons, eCall, eIxO, eLenO, eMeth, VS.gInt, gMod_ii, gDiv_ii, gAdd_ii, gSub_ii, gMul_ii, gPow_ii, gLt_ii, gLe_ii, gGt_ii, gGe_ii, gEq_ii, gEq_bb, gIs_bb, gIx_t, gIx_l, gIx_s, VS.gNeg, gMax2, gMin2, gLen, gTupleOf, allFr, pad, mOw, mFr, headS, szl, eChain, sRaise, Option.bind, sTry, sHs, Tbl.sub, tbl, m__law_due, b__law_due, c4, c3, sFor, iR1_eq, rg, e2, e4, eTup]
end Law
/-! ## k08D -/
set_option Elab.async false
set_option linter.all false
set_option maxRecDepth 100000
set_option maxHeartbeats 4000000
set_option autoImplicit false
namespace Law
open VS L2

theorem sb1 : Tbl.sub tbl "BadSize" "BadSize" = some true := by decide +kernel
theorem sb2 : Tbl.sub tbl "BadSize" "Refused" = some true := by decide +kernel
theorem sb3 : Tbl.sub tbl "BadParent" "BadSize" = some false := by decide +kernel
theorem sb4 : Tbl.sub tbl "BadParent" "BadParent" = some true := by decide +kernel
theorem sb5 : Tbl.sub tbl "BadParent" "Refused" = some true := by decide +kernel
theorem sb6 : Tbl.sub tbl "Round" "BadSize" = some false := by decide +kernel
theorem sb7 : Tbl.sub tbl "Round" "BadParent" = some false := by decide +kernel
theorem sb8 : Tbl.sub tbl "Round" "Round" = some true := by decide +kernel
theorem sb9 : Tbl.sub tbl "Round" "Refused" = some true := by decide +kernel
def isN : D → Bool
  | .int _ => true
  | _ => false
def Kd (d : D) : Prop := (∃ i, d = .int i) ∨ (∃ x, d = .str x) ∨ (∃ ds, d = .tup ds)
theorem num_ok {d : D} (h : Kd d) : m_is_number [.fr d] = .ok (.bl (isN d)) [.fr d] := by
  rcases h with ⟨i, rfl⟩ | ⟨x, rfl⟩ | ⟨ds, rfl⟩
  · simp [Out.bind, Out.toS, sSeq, sIf, sSet, sOwn, sExpr, sRet, sRetNew, sRetN, sNext, sSetIx, eVar, eC, eOp, eUn, eB, asB, eTr, truD, bNot, bAnd, bOr, bV, VS.eAnd, VS.eOr, aNil, aCons, eCall, eIxO, eLenO, eMeth, VS.gInt, gMod_ii, gDiv_ii, gAdd_ii, gSub_ii, gMul_ii, gPow_ii, gLt_ii, gLe_ii, gGt_ii, gGe_ii, gEq_ii, gEq_bb, gIs_bb, gIx_t, gIx_l, gIx_s, VS.gNeg, gMax2, gMin2, gLen, gTupleOf, allFr, pad, mOw, mFr, headS, szl, eChain, sRaise, Option.bind, sTry, sHs, fWhat, m_is_number, b_is_number, eIsi, isi_ii, isi_bi, isN]
  · simp [Out.bind, Out.toS, sSeq, sIf, sSet, sOwn, sExpr, sRet, sRetNew, sRetN, sNext, sSetIx, eVar, eC, eOp, eUn, eB, asB, eTr, truD, bNot, bAnd, bOr, bV, VS.eAnd, VS.eOr, aNil, aCons, eCall, eIxO, eLenO, eMeth, VS.gInt, gMod_ii, gDiv_ii, gAdd_ii, gSub_ii, gMul_ii, gPow_ii, gLt_ii, gLe_ii, gGt_ii, gGe_ii, gEq_ii, gEq_bb, gIs_bb, gIx_t, gIx_l, gIx_s, VS.gNeg, gMax2, gMin2, gLen, gTupleOf, allFr, pad, mOw, mFr, headS, szl, eChain, sRaise, Option.bind, sTry, sHs, fWhat, m_is_number, b_is_number, eIsi, isi_is, isN]
  · simp [Out.bind, Out.toS, sSeq, sIf, sSet, sOwn, sExpr, sRet, sRetNew, sRetN, sNext, sSetIx, eVar, eC, eOp, eUn, eB, asB, eTr, truD, bNot, bAnd, bOr, bV, VS.eAnd, VS.eOr, aNil, aCons, eCall, eIxO, eLenO, eMeth, VS.gInt, gMod_ii, gDiv_ii, gAdd_ii, gSub_ii, gMul_ii, gPow_ii, gLt_ii, gLe_ii, gGt_ii, gGe_ii, gEq_ii, gEq_bb, gIs_bb, gIx_t, gIx_l, gIx_s, VS.gNeg, gMax2, gMin2, gLen, gTupleOf, allFr, pad, mOw, mFr, headS, szl, eChain, sRaise, Option.bind, sTry, sHs, fWhat, m_is_number, b_is_number, eIsi, isi_it, isN]
theorem bools_map (f : D → Bool) : ∀ ds : List D, boolsOf (ds.map fun d => .bl (f d)) = some (ds.map f)
  | [] => rfl
  | d :: ds => by simp [Out.bind, Out.toS, sSeq, sIf, sSet, sOwn, sExpr, sRet, sRetNew, sRetN, sNext, sSetIx, eVar, eC, eOp, eUn, eB, asB, eTr, truD, bNot, bAnd, bOr, bV, VS.eAnd, VS.eOr, aNil, aCons, eCall, eIxO, eLenO, eMeth, VS.gInt, gMod_ii, gDiv_ii, gAdd_ii, gSub_ii, gMul_ii, gPow_ii, gLt_ii, gLe_ii, gGt_ii, gGe_ii, gEq_ii, gEq_bb, gIs_bb, gIx_t, gIx_l, gIx_s, VS.gNeg, gMax2, gMin2, gLen, gTupleOf, allFr, pad, mOw, mFr, headS, szl, eChain, sRaise, Option.bind, sTry, sHs, fWhat, boolsOf, bools_map f ds]
theorem row_ok (ds : List D) (hk : ∀ d ∈ ds, Kd d) (hl : ds.length < 1000) : m_is_number_row [.fr (.tup ds)] = .ok (.bl (ds.all isN)) [.fr (.tup ds)] := by
  have e := sComp_map (g := gN 1) (ft := bYes) (fe := eFn m_is_number (aCons (eVar 1) (aNil))) (vs := [1]) (ρ := [.fr (.tup ds), .un]) (f := fun d => .bl (isN d)) ds [] (fun d hd => ⟨_, _, [.fr (.tup ds), .fr d], rfl, rfl, by simp [Out.bind, Out.toS, sSeq, sIf, sSet, sOwn, sExpr, sRet, sRetNew, sRetN, sNext, sSetIx, eVar, eC, eOp, eUn, eB, asB, eTr, truD, bNot, bAnd, bOr, bV, VS.eAnd, VS.eOr, aNil, aCons, eCall, eIxO, eLenO, eMeth, VS.gInt, gMod_ii, gDiv_ii, gAdd_ii, gSub_ii, gMul_ii, gPow_ii, gLt_ii, gLe_ii, gGt_ii, gGe_ii, gEq_ii, gEq_bb, gIs_bb, gIx_t, gIx_l, gIx_s, VS.gNeg, gMax2, gMin2, gLen, gTupleOf, allFr, pad, mOw, mFr, headS, szl, eChain, sRaise, Option.bind, sTry, sHs, fWhat, eFn, num_ok (hk d hd)], rfl⟩) (by rw [szl]; simp [Out.bind, Out.toS, sSeq, sIf, sSet, sOwn, sExpr, sRet, sRetNew, sRetN, sNext, sSetIx, eVar, eC, eOp, eUn, eB, asB, eTr, truD, bNot, bAnd, bOr, bV, VS.eAnd, VS.eOr, aNil, aCons, eCall, eIxO, eLenO, eMeth, VS.gInt, gMod_ii, gDiv_ii, gAdd_ii, gSub_ii, gMul_ii, gPow_ii, gLt_ii, gLe_ii, gGt_ii, gGe_ii, gEq_ii, gEq_bb, gIs_bb, gIx_t, gIx_l, gIx_s, VS.gNeg, gMax2, gMin2, gLen, gTupleOf, allFr, pad, mOw, mFr, headS, szl, eChain, sRaise, Option.bind, sTry, sHs, fWhat]; omega)
  simp [Out.bind, Out.toS, sSeq, sIf, sSet, sOwn, sExpr, sRet, sRetNew, sRetN, sNext, sSetIx, eVar, eC, eOp, eUn, eB, asB, eTr, truD, bNot, bAnd, bOr, bV, VS.eAnd, VS.eOr, aNil, aCons, eCall, eIxO, eLenO, eMeth, VS.gInt, gMod_ii, gDiv_ii, gAdd_ii, gSub_ii, gMul_ii, gPow_ii, gLt_ii, gLe_ii, gGt_ii, gGe_ii, gEq_ii, gEq_bb, gIs_bb, gIx_t, gIx_l, gIx_s, VS.gNeg, gMax2, gMin2, gLen, gTupleOf, allFr, pad, mOw, mFr, headS, szl, eChain, sRaise, Option.bind, sTry, sHs, fWhat] at e
  simp [Out.bind, Out.toS, sSeq, sIf, sSet, sOwn, sExpr, sRet, sRetNew, sRetN, sNext, sSetIx, eVar, eC, eOp, eUn, eB, asB, eTr, truD, bNot, bAnd, bOr, bV, VS.eAnd, VS.eOr, aNil, aCons, eCall, eIxO, eLenO, eMeth, VS.gInt, gMod_ii, gDiv_ii, gAdd_ii, gSub_ii, gMul_ii, gPow_ii, gLt_ii, gLe_ii, gGt_ii, gGe_ii, gEq_ii, gEq_bb, gIs_bb, gIx_t, gIx_l, gIx_s, VS.gNeg, gMax2, gMin2, gLen, gTupleOf, allFr, pad, mOw, mFr, headS, szl, eChain, sRaise, Option.bind, sTry, sHs, fWhat, m_is_number_row, b_is_number_row, eIsi, isi_tt, nComp, iSeq, plainS, wipeS, backS, e, eN, gAll, bools_map]
theorem all_isN (ps : List Int) : (ps.map D.int).all isN = true := by
  rw [List.all_eq_true]
  intro d hd
  obtain ⟨v, rfl⟩ := map_at hd
  rfl
theorem kd_map (ps : List Int) : ∀ d ∈ ps.map D.int, Kd d := fun d hd => .inl (map_at hd)
theorem row_ints (ps : List Int) (hl : ps.length < 1000) : m_is_number_row [.fr (.tup (ps.map D.int))] = .ok (.bl true) [.fr (.tup (ps.map D.int))] := by
  rw [row_ok _ (kd_map ps) (by simpa using hl), all_isN]
/-- things that are no houses -/
def NoH (d : D) : Prop := (∃ i, d = .int i) ∨ (∃ x, d = .str x) ∨ (∃ ds : List D, d = .tup ds ∧ ds.length < 1000 ∧ (∀ d ∈ ds, Kd d) ∧ ds.all isN = false)
theorem noh_ok {d : D} (h : NoH d) : m_is_house [.fr d] = .ok (.bl false) [.fr d] := by
  rcases h with ⟨i, rfl⟩ | ⟨x, rfl⟩ | ⟨ds, rfl, hl, hk, hn⟩
  · simp [Out.bind, Out.toS, sSeq, sIf, sSet, sOwn, sExpr, sRet, sRetNew, sRetN, sNext, sSetIx, eVar, eC, eOp, eUn, eB, asB, eTr, truD, bNot, bAnd, bOr, bV, VS.eAnd, VS.eOr, aNil, aCons, eCall, eIxO, eLenO, eMeth, VS.gInt, gMod_ii, gDiv_ii, gAdd_ii, gSub_ii, gMul_ii, gPow_ii, gLt_ii, gLe_ii, gGt_ii, gGe_ii, gEq_ii, gEq_bb, gIs_bb, gIx_t, gIx_l, gIx_s, VS.gNeg, gMax2, gMin2, gLen, gTupleOf, allFr, pad, mOw, mFr, headS, szl, eChain, sRaise, Option.bind, sTry, sHs, fWhat, m_is_house, b_is_house, eFn, m_is_number_row, b_is_number_row, eIsi, isi_ti]
  · simp [Out.bind, Out.toS, sSeq, sIf, sSet, sOwn, sExpr, sRet, sRetNew, sRetN, sNext, sSetIx, eVar, eC, eOp, eUn, eB, asB, eTr, truD, bNot, bAnd, bOr, bV, VS.eAnd, VS.eOr, aNil, aCons, eCall, eIxO, eLenO, eMeth, VS.gInt, gMod_ii, gDiv_ii, gAdd_ii, gSub_ii, gMul_ii, gPow_ii, gLt_ii, gLe_ii, gGt_ii, gGe_ii, gEq_ii, gEq_bb, gIs_bb, gIx_t, gIx_l, gIx_s, VS.gNeg, gMax2, gMin2, gLen, gTupleOf, allFr, pad, mOw, mFr, headS, szl, eChain, sRaise, Option.bind, sTry, sHs, fWhat, m_is_house, b_is_house, eFn, m_is_number_row, b_is_number_row, eIsi, isi_ts]
  · simp [Out.bind, Out.toS, sSeq, sIf, sSet, sOwn, sExpr, sRet, sRetNew, sRetN, sNext, sSetIx, eVar, eC, eOp, eUn, eB, asB, eTr, truD, bNot, bAnd, bOr, bV, VS.eAnd, VS.eOr, aNil, aCons, eCall, eIxO, eLenO, eMeth, VS.gInt, gMod_ii, gDiv_ii, gAdd_ii, gSub_ii, gMul_ii, gPow_ii, gLt_ii, gLe_ii, gGt_ii, gGe_ii, gEq_ii, gEq_bb, gIs_bb, gIx_t, gIx_l, gIx_s, VS.gNeg, gMax2, gMin2, gLen, gTupleOf, allFr, pad, mOw, mFr, headS, szl, eChain, sRaise, Option.bind, sTry, sHs, fWhat, m_is_house, b_is_house, eFn, row_ok ds hk hl, hn]
theorem so1 : PySem.PyData.strOk "size" = true := by decide +kernel
theorem so2 : PySem.PyData.strOk "parent" = true := by decide +kernel
theorem so3 : PySem.PyData.strOk "round" = true := by decide +kernel
theorem so4 : PySem.PyData.strOk "house" = true := by decide +kernel
theorem teq (k : PySem.Str) (v : Int) (h : PySem.PyData.strOk k = true) : VS.gEq false (.tup [.str k, .int v]) (.tup [.str k, .int v]) = some (.bl true) := by
  simp [Out.bind, Out.toS, sSeq, sIf, sSet, sOwn, sExpr, sRet, sRetNew, sRetN, sNext, sSetIx, eVar, eC, eOp, eUn, eB, asB, eTr, truD, bNot, bAnd, bOr, bV, VS.eAnd, VS.eOr, aNil, aCons, eCall, eIxO, eLenO, eMeth, VS.gInt, gMod_ii, gDiv_ii, gAdd_ii, gSub_ii, gMul_ii, gPow_ii, gLt_ii, gLe_ii, gGt_ii, gGe_ii, gEq_ii, gEq_bb, gIs_bb, gIx_t, gIx_l, gIx_s, VS.gNeg, gMax2, gMin2, gLen, gTupleOf, allFr, pad, mOw, mFr, headS, szl, eChain, sRaise, Option.bind, sTry, sHs, fWhat, VS.gEq, D.flatN, D.flatNs, h, D.deq, D.deqs]
theorem flat_ints (n : Nat) : ∀ ps : List Int, D.flatNs n (ps.map D.int) = true
  | [] => by simp [Out.bind, Out.toS, sSeq, sIf, sSet, sOwn, sExpr, sRet, sRetNew, sRetN, sNext, sSetIx, eVar, eC, eOp, eUn, eB, asB, eTr, truD, bNot, bAnd, bOr, bV, VS.eAnd, VS.eOr, aNil, aCons, eCall, eIxO, eLenO, eMeth, VS.gInt, gMod_ii, gDiv_ii, gAdd_ii, gSub_ii, gMul_ii, gPow_ii, gLt_ii, gLe_ii, gGt_ii, gGe_ii, gEq_ii, gEq_bb, gIs_bb, gIx_t, gIx_l, gIx_s, VS.gNeg, gMax2, gMin2, gLen, gTupleOf, allFr, pad, mOw, mFr, headS, szl, eChain, sRaise, Option.bind, sTry, sHs, fWhat, D.flatNs]
  | p :: ps => by
    cases n <;> simp [Out.bind, Out.toS, sSeq, sIf, sSet, sOwn, sExpr, sRet, sRetNew, sRetN, sNext, sSetIx, eVar, eC, eOp, eUn, eB, asB, eTr, truD, bNot, bAnd, bOr, bV, VS.eAnd, VS.eOr, aNil, aCons, eCall, eIxO, eLenO, eMeth, VS.gInt, gMod_ii, gDiv_ii, gAdd_ii, gSub_ii, gMul_ii, gPow_ii, gLt_ii, gLe_ii, gGt_ii, gGe_ii, gEq_ii, gEq_bb, gIs_bb, gIx_t, gIx_l, gIx_s, VS.gNeg, gMax2, gMin2, gLen, gTupleOf, allFr, pad, mOw, mFr, headS, szl, eChain, sRaise, Option.bind, sTry, sHs, fWhat, D.flatNs, D.flatN, flat_ints _ ps]
theorem deq_ints : ∀ ps : List Int, D.deqs (ps.map D.int) (ps.map D.int) = true
  | [] => by simp [Out.bind, Out.toS, sSeq, sIf, sSet, sOwn, sExpr, sRet, sRetNew, sRetN, sNext, sSetIx, eVar, eC, eOp, eUn, eB, asB, eTr, truD, bNot, bAnd, bOr, bV, VS.eAnd, VS.eOr, aNil, aCons, eCall, eIxO, eLenO, eMeth, VS.gInt, gMod_ii, gDiv_ii, gAdd_ii, gSub_ii, gMul_ii, gPow_ii, gLt_ii, gLe_ii, gGt_ii, gGe_ii, gEq_ii, gEq_bb, gIs_bb, gIx_t, gIx_l, gIx_s, VS.gNeg, gMax2, gMin2, gLen, gTupleOf, allFr, pad, mOw, mFr, headS, szl, eChain, sRaise, Option.bind, sTry, sHs, fWhat, D.deqs]
  | p :: ps => by simp [Out.bind, Out.toS, sSeq, sIf, sSet, sOwn, sExpr, sRet, sRetNew, sRetN, sNext, sSetIx, eVar, eC, eOp, eUn, eB, asB, eTr, truD, bNot, bAnd, bOr, bV, VS.eAnd, VS.eOr, aNil, aCons, eCall, eIxO, eLenO, eMeth, VS.gInt, gMod_ii, gDiv_ii, gAdd_ii, gSub_ii, gMul_ii, gPow_ii, gLt_ii, gLe_ii, gGt_ii, gGe_ii, gEq_ii, gEq_bb, gIs_bb, gIx_t, gIx_l, gIx_s, VS.gNeg, gMax2, gMin2, gLen, gTupleOf, allFr, pad, mOw, mFr, headS, szl, eChain, sRaise, Option.bind, sTry, sHs, fWhat, D.deqs, D.deq, deq_ints ps]
theorem heq (ps : List Int) : VS.gEq false (.tup [.str "house", .tup (ps.map D.int)]) (.tup [.str "house", .tup (ps.map D.int)]) = some (.bl true) := by
  simp [Out.bind, Out.toS, sSeq, sIf, sSet, sOwn, sExpr, sRet, sRetNew, sRetN, sNext, sSetIx, eVar, eC, eOp, eUn, eB, asB, eTr, truD, bNot, bAnd, bOr, bV, VS.eAnd, VS.eOr, aNil, aCons, eCall, eIxO, eLenO, eMeth, VS.gInt, gMod_ii, gDiv_ii, gAdd_ii, gSub_ii, gMul_ii, gPow_ii, gLt_ii, gLe_ii, gGt_ii, gGe_ii, gEq_ii, gEq_bb, gIs_bb, gIx_t, gIx_l, gIx_s, VS.gNeg, gMax2, gMin2, gLen, gTupleOf, allFr, pad, mOw, mFr, headS, szl, eChain, sRaise, Option.bind, sTry, sHs, fWhat, VS.gEq, D.flatN, D.flatNs, so4, D.deq, D.deqs, flat_ints, deq_ints]
theorem se1 : VS.gEq false (.str "size") (.str "house") = some (.bl false) := by
  have h : ((("size" : PySem.Str) == "house") = false) := by decide +kernel
  simp [Out.bind, Out.toS, sSeq, sIf, sSet, sOwn, sExpr, sRet, sRetNew, sRetN, sNext, sSetIx, eVar, eC, eOp, eUn, eB, asB, eTr, truD, bNot, bAnd, bOr, bV, VS.eAnd, VS.eOr, aNil, aCons, eCall, eIxO, eLenO, eMeth, VS.gInt, gMod_ii, gDiv_ii, gAdd_ii, gSub_ii, gMul_ii, gPow_ii, gLt_ii, gLe_ii, gGt_ii, gGe_ii, gEq_ii, gEq_bb, gIs_bb, gIx_t, gIx_l, gIx_s, VS.gNeg, gMax2, gMin2, gLen, gTupleOf, allFr, pad, mOw, mFr, headS, szl, eChain, sRaise, Option.bind, sTry, sHs, fWhat, VS.gEq, D.flatN, so1, so4, D.deq, h]
theorem se2 : VS.gEq false (.str "parent") (.str "house") = some (.bl false) := by
  have h : ((("parent" : PySem.Str) == "house") = false) := by decide +kernel
  simp [Out.bind, Out.toS, sSeq, sIf, sSet, sOwn, sExpr, sRet, sRetNew, sRetN, sNext, sSetIx, eVar, eC, eOp, eUn, eB, asB, eTr, truD, bNot, bAnd, bOr, bV, VS.eAnd, VS.eOr, aNil, aCons, eCall, eIxO, eLenO, eMeth, VS.gInt, gMod_ii, gDiv_ii, gAdd_ii, gSub_ii, gMul_ii, gPow_ii, gLt_ii, gLe_ii, gGt_ii, gGe_ii, gEq_ii, gEq_bb, gIs_bb, gIx_t, gIx_l, gIx_s, VS.gNeg, gMax2, gMin2, gLen, gTupleOf, allFr, pad, mOw, mFr, headS, szl, eChain, sRaise, Option.bind, sTry, sHs, fWhat, VS.gEq, D.flatN, so2, so4, D.deq, h]
theorem se3 : VS.gEq false (.str "round") (.str "house") = some (.bl false) := by
  have h : ((("round" : PySem.Str) == "house") = false) := by decide +kernel
  simp [Out.bind, Out.toS, sSeq, sIf, sSet, sOwn, sExpr, sRet, sRetNew, sRetN, sNext, sSetIx, eVar, eC, eOp, eUn, eB, asB, eTr, truD, bNot, bAnd, bOr, bV, VS.eAnd, VS.eOr, aNil, aCons, eCall, eIxO, eLenO, eMeth, VS.gInt, gMod_ii, gDiv_ii, gAdd_ii, gSub_ii, gMul_ii, gPow_ii, gLt_ii, gLe_ii, gGt_ii, gGe_ii, gEq_ii, gEq_bb, gIs_bb, gIx_t, gIx_l, gIx_s, VS.gNeg, gMax2, gMin2, gLen, gTupleOf, allFr, pad, mOw, mFr, headS, szl, eChain, sRaise, Option.bind, sTry, sHs, fWhat, VS.gEq, D.flatN, so3, so4, D.deq, h]
theorem se4 : VS.gEq false (.str "house") (.str "house") = some (.bl true) := by
  simp [Out.bind, Out.toS, sSeq, sIf, sSet, sOwn, sExpr, sRet, sRetNew, sRetN, sNext, sSetIx, eVar, eC, eOp, eUn, eB, asB, eTr, truD, bNot, bAnd, bOr, bV, VS.eAnd, VS.eOr, aNil, aCons, eCall, eIxO, eLenO, eMeth, VS.gInt, gMod_ii, gDiv_ii, gAdd_ii, gSub_ii, gMul_ii, gPow_ii, gLt_ii, gLe_ii, gGt_ii, gGe_ii, gEq_ii, gEq_bb, gIs_bb, gIx_t, gIx_l, gIx_s, VS.gNeg, gMax2, gMin2, gLen, gTupleOf, allFr, pad, mOw, mFr, headS, szl, eChain, sRaise, Option.bind, sTry, sHs, fWhat, VS.gEq, D.flatN, so4, D.deq]
theorem right_ok (ps : List Int) (hl : ps.length < 1000) : m__law_right [.fr (.tup (ps.map D.int))] = .ok (.bl true) [.fr (.tup (ps.map D.int))] := by
  have hr := row_ints ps hl
  have a0 : ∀ (x y : D), atI [x, y] 0 = some x := fun x y => rfl
  by_cases c : 1 ≤ (ps.length : Int) ∧ (ps.length : Int) ≤ 16
  · cases e1 : fstBad ps.length 0 ps with
    | some x =>
      obtain ⟨m, d⟩ := made_parent ps c x e1
      simp [Out.bind, Out.toS, sSeq, sIf, sSet, sOwn, sExpr, sRet, sRetNew, sRetN, sNext, sSetIx, eVar, eC, eOp, eUn, eB, asB, eTr, truD, bNot, bAnd, bOr, bV, VS.eAnd, VS.eOr, aNil, aCons, eCall, eIxO, eLenO, eMeth, VS.gInt, gMod_ii, gDiv_ii, gAdd_ii, gSub_ii, gMul_ii, gPow_ii, gLt_ii, gLe_ii, gGt_ii, gGe_ii, gEq_ii, gEq_bb, gIs_bb, gIx_t, gIx_l, gIx_s, VS.gNeg, gMax2, gMin2, gLen, gTupleOf, allFr, pad, mOw, mFr, headS, szl, eChain, sRaise, Option.bind, sTry, sHs, fWhat, m__law_right, b__law_right, sPar, a2Fr, a2Nil, eFn, d, m_is_house, b_is_house, hr, m, sb5, setAll, m__law_told, b__law_told, sb3, sb4, teq _ _ so2, eIsi, isi_bb, a0, se2]
    | none =>
      obtain ⟨h1, h2⟩ := made_rest ps c e1
      cases e2 : fstRnd ps (List.range ps.length) with
      | some x =>
        obtain ⟨m, d⟩ := h1 x e2
        simp [Out.bind, Out.toS, sSeq, sIf, sSet, sOwn, sExpr, sRet, sRetNew, sRetN, sNext, sSetIx, eVar, eC, eOp, eUn, eB, asB, eTr, truD, bNot, bAnd, bOr, bV, VS.eAnd, VS.eOr, aNil, aCons, eCall, eIxO, eLenO, eMeth, VS.gInt, gMod_ii, gDiv_ii, gAdd_ii, gSub_ii, gMul_ii, gPow_ii, gLt_ii, gLe_ii, gGt_ii, gGe_ii, gEq_ii, gEq_bb, gIs_bb, gIx_t, gIx_l, gIx_s, VS.gNeg, gMax2, gMin2, gLen, gTupleOf, allFr, pad, mOw, mFr, headS, szl, eChain, sRaise, Option.bind, sTry, sHs, fWhat, m__law_right, b__law_right, sPar, a2Fr, a2Nil, eFn, d, m_is_house, b_is_house, hr, m, sb9, setAll, m__law_told, b__law_told, sb6, sb7, sb8, teq _ _ so3, eIsi, isi_bb, a0, se3]
      | none =>
        obtain ⟨m, d⟩ := h2 e2
        simp [Out.bind, Out.toS, sSeq, sIf, sSet, sOwn, sExpr, sRet, sRetNew, sRetN, sNext, sSetIx, eVar, eC, eOp, eUn, eB, asB, eTr, truD, bNot, bAnd, bOr, bV, VS.eAnd, VS.eOr, aNil, aCons, eCall, eIxO, eLenO, eMeth, VS.gInt, gMod_ii, gDiv_ii, gAdd_ii, gSub_ii, gMul_ii, gPow_ii, gLt_ii, gLe_ii, gGt_ii, gGe_ii, gEq_ii, gEq_bb, gIs_bb, gIx_t, gIx_l, gIx_s, VS.gNeg, gMax2, gMin2, gLen, gTupleOf, allFr, pad, mOw, mFr, headS, szl, eChain, sRaise, Option.bind, sTry, sHs, fWhat, m__law_right, b__law_right, sPar, a2Fr, a2Nil, eFn, d, m_is_house, b_is_house, hr, m, setAll, m__law_told, b__law_told, heq, eIsi, isi_bb, a0, se4, eTup]
  · obtain ⟨m, d⟩ := made_size ps c
    simp [Out.bind, Out.toS, sSeq, sIf, sSet, sOwn, sExpr, sRet, sRetNew, sRetN, sNext, sSetIx, eVar, eC, eOp, eUn, eB, asB, eTr, truD, bNot, bAnd, bOr, bV, VS.eAnd, VS.eOr, aNil, aCons, eCall, eIxO, eLenO, eMeth, VS.gInt, gMod_ii, gDiv_ii, gAdd_ii, gSub_ii, gMul_ii, gPow_ii, gLt_ii, gLe_ii, gGt_ii, gGe_ii, gEq_ii, gEq_bb, gIs_bb, gIx_t, gIx_l, gIx_s, VS.gNeg, gMax2, gMin2, gLen, gTupleOf, allFr, pad, mOw, mFr, headS, szl, eChain, sRaise, Option.bind, sTry, sHs, fWhat, m__law_right, b__law_right, sPar, a2Fr, a2Nil, eFn, d, m_is_house, b_is_house, hr, m, sb2, setAll, m__law_told, b__law_told, sb1, teq _ _ so1, eIsi, isi_bb, a0, se1]
end Law
/-! ## k08F -/
set_option Elab.async false
set_option linter.all false
set_option maxRecDepth 100000
set_option maxHeartbeats 4000000
set_option autoImplicit false
namespace Law
open VS L2

theorem pool_ok (ns : List Int) : ∃ a b : Int, (0 ≤ b ∧ b < 2147483647) ∧ m__law_pool [.fr (.scr ns), .fr (.int 0)] = .nw [.int a, .int b] [.fr (.scr ns), .fr (.int 0)] := by
  have m1 : CMul 7919 0 := .inr (by omega)
  have m2 : CMul 0 0 := .inr (by omega)
  have m3 : CMul 31 0 := .inr (by omega)
  have m4 : ∀ i, CMul i 48271 := fun i => .inr (by omega)
  have m5 : ∀ i, CMul i 1 := fun i => .inr (by omega)
  have m6 : ∀ i, CMul i 0 := fun i => .inr (by omega)
  have pw : CPow 10 18 := ⟨by omega, by omega, by decide⟩
  have run : ∀ cell : Int, ∃ a b : Int, (0 ≤ b ∧ b < 2147483647) ∧ (sSeq (sSet 3 (eCall gMax2 (aCons (eCall VS.gInt (aCons (eVar 2) (aNil))) (aCons (eCall VS.gInt (aCons (eOp VS.gSub (eUn VS.gNeg (eC (.int 1))) (eVar 2)) (aNil))) (aNil)))))
    (sSeq (sSet 4 (eOp VS.gMod (eCall VS.gInt (aCons (eOp VS.gMul (eOp VS.gAdd (eOp VS.gAdd (eOp VS.gAdd (eOp VS.gMod (eCall VS.gInt (aCons (eVar 3) (aNil))) (eC (.int 2147483629))) (eOp VS.gMul (eOp VS.gMul (eC (.int 7919)) (eVar 1)) (eVar 1))) (eOp VS.gMul (eC (.int 31)) (eVar 1))) (eC (.int 17))) (eC (.int 48271))) (aNil))) (eC (.int 2147483647))))
    (sRetNew (nLst (aCons (eOp VS.gMul (eVar 3) (eCall VS.gInt (aCons (eOp VS.gGe (eVar 3) (eOp VS.gPow (eC (.int 10)) (eC (.int 18)))) (aNil)))) (aCons (eVar 4) (aNil))))))) [.fr (.scr ns), .fr (.int 0), .fr (.int cell), .un, .un] = .rn [.int a, .int b] [.fr (.scr ns), .fr (.int 0), .fr (.int cell), .fr (.int (if -1 - cell > cell then -1 - cell else cell)), .fr (.int b)] := by
    intro cell
    by_cases c : (10 : Int) ^ 18 ≤ (if -1 - cell > cell then -1 - cell else cell)
    · refine ⟨(if -1 - cell > cell then -1 - cell else cell) * 1, ((if -1 - cell > cell then -1 - cell else cell) % 2147483629 + 17) * 48271 % 2147483647, ⟨Int.emod_nonneg _ (by omega), Int.emod_lt_of_pos _ (by omega)⟩, ?_⟩
      simp [Out.bind, Out.toS, sSeq, sIf, sSet, sOwn, sExpr, sRet, sRetNew, sRetN, sNext, sSetIx, eVar, eC, eOp, eUn, eB, asB, eTr, truD, bNot, bAnd, bOr, bV, VS.eAnd, VS.eOr, aNil, aCons, eCall, eIxO, eLenO, eMeth, VS.gInt, gMod_ii, gDiv_ii, gAdd_ii, gSub_ii, gMul_ii, gPow_ii, gLt_ii, gLe_ii, gGt_ii, gGe_ii, gEq_ii, gEq_bb, gIs_bb, gIx_t, gIx_l, gIx_s, VS.gNeg, gMax2, gMin2, gLen, gTupleOf, allFr, pad, mOw, mFr, headS, szl, eChain, sRaise, Option.bind] at c
      simp [Out.bind, Out.toS, sSeq, sIf, sSet, sOwn, sExpr, sRet, sRetNew, sRetN, sNext, sSetIx, eVar, eC, eOp, eUn, eB, asB, eTr, truD, bNot, bAnd, bOr, bV, VS.eAnd, VS.eOr, aNil, aCons, eCall, eIxO, eLenO, eMeth, VS.gInt, gMod_ii, gDiv_ii, gAdd_ii, gSub_ii, gMul_ii, gPow_ii, gLt_ii, gLe_ii, gGt_ii, gGe_ii, gEq_ii, gEq_bb, gIs_bb, gIx_t, gIx_l, gIx_s, VS.gNeg, gMax2, gMin2, gLen, gTupleOf, allFr, pad, mOw, mFr, headS, szl, eChain, sRaise, Option.bind, nLst, m1, m2, m3, m4, m5, pw, c]
    · refine ⟨(if -1 - cell > cell then -1 - cell else cell) * 0, ((if -1 - cell > cell then -1 - cell else cell) % 2147483629 + 17) * 48271 % 2147483647, ⟨Int.emod_nonneg _ (by omega), Int.emod_lt_of_pos _ (by omega)⟩, ?_⟩
      simp [Out.bind, Out.toS, sSeq, sIf, sSet, sOwn, sExpr, sRet, sRetNew, sRetN, sNext, sSetIx, eVar, eC, eOp, eUn, eB, asB, eTr, truD, bNot, bAnd, bOr, bV, VS.eAnd, VS.eOr, aNil, aCons, eCall, eIxO, eLenO, eMeth, VS.gInt, gMod_ii, gDiv_ii, gAdd_ii, gSub_ii, gMul_ii, gPow_ii, gLt_ii, gLe_ii, gGt_ii, gGe_ii, gEq_ii, gEq_bb, gIs_bb, gIx_t, gIx_l, gIx_s, VS.gNeg, gMax2, gMin2, gLen, gTupleOf, allFr, pad, mOw, mFr, headS, szl, eChain, sRaise, Option.bind] at c
      have c' : ¬ 1000000000000000000 ≤ (if cell < -1 - cell then -1 - cell else cell) := by omega
      simp [Out.bind, Out.toS, sSeq, sIf, sSet, sOwn, sExpr, sRet, sRetNew, sRetN, sNext, sSetIx, eVar, eC, eOp, eUn, eB, asB, eTr, truD, bNot, bAnd, bOr, bV, VS.eAnd, VS.eOr, aNil, aCons, eCall, eIxO, eLenO, eMeth, VS.gInt, gMod_ii, gDiv_ii, gAdd_ii, gSub_ii, gMul_ii, gPow_ii, gLt_ii, gLe_ii, gGt_ii, gGe_ii, gEq_ii, gEq_bb, gIs_bb, gIx_t, gIx_l, gIx_s, VS.gNeg, gMax2, gMin2, gLen, gTupleOf, allFr, pad, mOw, mFr, headS, szl, eChain, sRaise, Option.bind, nLst, m1, m2, m3, m4, m6, pw, c']
  cases ns with
  | nil =>
    obtain ⟨a, b, hb, e⟩ := run 0
    refine ⟨a, b, hb, ?_⟩
    simp [Out.bind, Out.toS, sSeq, sIf, sSet, sOwn, sExpr, sRet, sRetNew, sRetN, sNext, sSetIx, eVar, eC, eOp, eUn, eB, asB, eTr, truD, bNot, bAnd, bOr, bV, VS.eAnd, VS.eOr, aNil, aCons, eCall, eIxO, eLenO, eMeth, VS.gInt, gMod_ii, gDiv_ii, gAdd_ii, gSub_ii, gMul_ii, gPow_ii, gLt_ii, gLe_ii, gGt_ii, gGe_ii, gEq_ii, gEq_bb, gIs_bb, gIx_t, gIx_l, gIx_s, VS.gNeg, gMax2, gMin2, gLen, gTupleOf, allFr, pad, mOw, mFr, headS, szl, eChain, sRaise, Option.bind] at e
    simp [Out.bind, Out.toS, sSeq, sIf, sSet, sOwn, sExpr, sRet, sRetNew, sRetN, sNext, sSetIx, eVar, eC, eOp, eUn, eB, asB, eTr, truD, bNot, bAnd, bOr, bV, VS.eAnd, VS.eOr, aNil, aCons, eCall, eIxO, eLenO, eMeth, VS.gInt, gMod_ii, gDiv_ii, gAdd_ii, gSub_ii, gMul_ii, gPow_ii, gLt_ii, gLe_ii, gGt_ii, gGe_ii, gEq_ii, gEq_bb, gIs_bb, gIx_t, gIx_l, gIx_s, VS.gNeg, gMax2, gMin2, gLen, gTupleOf, allFr, pad, mOw, mFr, headS, szl, eChain, sRaise, Option.bind, m__law_pool, b__law_pool, e]
  | cons x xs =>
    obtain ⟨a, b, hb, e⟩ := run x
    refine ⟨a, b, hb, ?_⟩
    have ax : atI (x :: xs) 0 = some x := atI_nat (xs := x :: xs) (k := 0) (by simp [Out.bind, Out.toS, sSeq, sIf, sSet, sOwn, sExpr, sRet, sRetNew, sRetN, sNext, sSetIx, eVar, eC, eOp, eUn, eB, asB, eTr, truD, bNot, bAnd, bOr, bV, VS.eAnd, VS.eOr, aNil, aCons, eCall, eIxO, eLenO, eMeth, VS.gInt, gMod_ii, gDiv_ii, gAdd_ii, gSub_ii, gMul_ii, gPow_ii, gLt_ii, gLe_ii, gGt_ii, gGe_ii, gEq_ii, gEq_bb, gIs_bb, gIx_t, gIx_l, gIx_s, VS.gNeg, gMax2, gMin2, gLen, gTupleOf, allFr, pad, mOw, mFr, headS, szl, eChain, sRaise, Option.bind])
    have l : (0 : Int) < (xs.length : Int) + 1 := by omega
    simp [Out.bind, Out.toS, sSeq, sIf, sSet, sOwn, sExpr, sRet, sRetNew, sRetN, sNext, sSetIx, eVar, eC, eOp, eUn, eB, asB, eTr, truD, bNot, bAnd, bOr, bV, VS.eAnd, VS.eOr, aNil, aCons, eCall, eIxO, eLenO, eMeth, VS.gInt, gMod_ii, gDiv_ii, gAdd_ii, gSub_ii, gMul_ii, gPow_ii, gLt_ii, gLe_ii, gGt_ii, gGe_ii, gEq_ii, gEq_bb, gIs_bb, gIx_t, gIx_l, gIx_s, VS.gNeg, gMax2, gMin2, gLen, gTupleOf, allFr, pad, mOw, mFr, headS, szl, eChain, sRaise, Option.bind] at e
    simp [Out.bind, Out.toS, sSeq, sIf, sSet, sOwn, sExpr, sRet, sRetNew, sRetN, sNext, sSetIx, eVar, eC, eOp, eUn, eB, asB, eTr, truD, bNot, bAnd, bOr, bV, VS.eAnd, VS.eOr, aNil, aCons, eCall, eIxO, eLenO, eMeth, VS.gInt, gMod_ii, gDiv_ii, gAdd_ii, gSub_ii, gMul_ii, gPow_ii, gLt_ii, gLe_ii, gGt_ii, gGe_ii, gEq_ii, gEq_bb, gIs_bb, gIx_t, gIx_l, gIx_s, VS.gNeg, gMax2, gMin2, gLen, gTupleOf, allFr, pad, mOw, mFr, headS, szl, eChain, sRaise, Option.bind, m__law_pool, b__law_pool, l, ax, e]
end Law
/-! ## k08G -/
set_option Elab.async false
set_option linter.all false
set_option maxRecDepth 100000
set_option maxHeartbeats 4000000
set_option autoImplicit false
namespace Law
open VS L2

theorem cut_mem {ds : List D} {l u : Option Int} {d : D} (h : d ∈ cutD ds l u) : d ∈ ds := List.mem_of_mem_drop (List.mem_of_mem_take h)
theorem cut_len (ds : List D) (l u : Option Int) : (cutD ds l u).length ≤ ds.length := by
  unfold cutD
  rw [List.length_take, List.length_drop]
  omega
theorem math : ∀ ns : List Int, ns.length ≤ 63 → ∃ outs, m_law [.fr (.scr ns)] = .ok (.bl true) outs := by
  intro ns _
  have sz := szl
  obtain ⟨a0, b0, hb0, e0⟩ := pool_ok ns
  obtain ⟨a1, b1, r1, hb1, e1, r10, r11⟩ := take2 a0 hb0 (top := 15) (by omega) (by omega)
  obtain ⟨a2, b2, d2, hb2, e2, hd2⟩ := one_ok a1 hb1 [.int 1, .int 2, .int 3, .int 4, .int 5, .int 6, .int 7, .int (2 + r1)] (by simp [Out.bind, Out.toS, sSeq, sIf, sSet, sOwn, sExpr, sRet, sRetNew, sRetN, sNext, sSetIx, eVar, eC, eOp, eUn, eB, asB, eTr, truD, bNot, bAnd, bOr, bV, VS.eAnd, VS.eOr, aNil, aCons, eCall, eIxO, eLenO, eMeth, VS.gInt, gMod_ii, gDiv_ii, gAdd_ii, gSub_ii, gMul_ii, gPow_ii, gLt_ii, gLe_ii, gGt_ii, gGe_ii, gEq_ii, gEq_bb, gIs_bb, gIx_t, gIx_l, gIx_s, VS.gNeg, gMax2, gMin2, gLen, gTupleOf, allFr, pad, mOw, mFr, headS, szl, eChain, sRaise, Option.bind]) (by simp [Out.bind, Out.toS, sSeq, sIf, sSet, sOwn, sExpr, sRet, sRetNew, sRetN, sNext, sSetIx, eVar, eC, eOp, eUn, eB, asB, eTr, truD, bNot, bAnd, bOr, bV, VS.eAnd, VS.eOr, aNil, aCons, eCall, eIxO, eLenO, eMeth, VS.gInt, gMod_ii, gDiv_ii, gAdd_ii, gSub_ii, gMul_ii, gPow_ii, gLt_ii, gLe_ii, gGt_ii, gGe_ii, gEq_ii, gEq_bb, gIs_bb, gIx_t, gIx_l, gIx_s, VS.gNeg, gMax2, gMin2, gLen, gTupleOf, allFr, pad, mOw, mFr, headS, szl, eChain, sRaise, Option.bind])
  obtain ⟨n, rfl, n0, n1⟩ : ∃ n : Int, d2 = .int n ∧ 1 ≤ n ∧ n ≤ 16 := by
    simp [Out.bind, Out.toS, sSeq, sIf, sSet, sOwn, sExpr, sRet, sRetNew, sRetN, sNext, sSetIx, eVar, eC, eOp, eUn, eB, asB, eTr, truD, bNot, bAnd, bOr, bV, VS.eAnd, VS.eOr, aNil, aCons, eCall, eIxO, eLenO, eMeth, VS.gInt, gMod_ii, gDiv_ii, gAdd_ii, gSub_ii, gMul_ii, gPow_ii, gLt_ii, gLe_ii, gGt_ii, gGe_ii, gEq_ii, gEq_bb, gIs_bb, gIx_t, gIx_l, gIx_s, VS.gNeg, gMax2, gMin2, gLen, gTupleOf, allFr, pad, mOw, mFr, headS, szl, eChain, sRaise, Option.bind] at hd2
    rcases hd2 with rfl | rfl | rfl | rfl | rfl | rfl | rfl | rfl <;> exact ⟨_, rfl, by omega, by omega⟩
  obtain ⟨m, rfl⟩ : ∃ m : Nat, n = m := ⟨n.toNat, by omega⟩
  obtain ⟨a3, b3, ps, hb3, e3, lp⟩ := house_ok a2 hb2 m (by omega)
  obtain ⟨a4, b4, qs, hb4, e4, lq⟩ := bent_ok a3 hb3 ps (by omega) (by omega)
  obtain ⟨a5, b5, r5, hb5, e5, r50, r51⟩ := take2 a4 hb4 (top := 3) (by omega) (by omega)
  obtain ⟨a6, b6, rs, hb6, e6, lr⟩ := bent_ok a5 hb5 ps (by omega) (by omega)
  obtain ⟨a7, b7, x, hb7, e7, x0, x1⟩ := take2 a6 hb6 (top := (m : Int)) (by omega) (by omega)
  obtain ⟨a8, b8, odd, hb8, e8, ho⟩ := one_ok a7 hb7 [.str "", .str "-1", .str "0", .tup [], .tup [.int (-1)], .tup [.tup [.int (-1)]]] (by simp [Out.bind, Out.toS, sSeq, sIf, sSet, sOwn, sExpr, sRet, sRetNew, sRetN, sNext, sSetIx, eVar, eC, eOp, eUn, eB, asB, eTr, truD, bNot, bAnd, bOr, bV, VS.eAnd, VS.eOr, aNil, aCons, eCall, eIxO, eLenO, eMeth, VS.gInt, gMod_ii, gDiv_ii, gAdd_ii, gSub_ii, gMul_ii, gPow_ii, gLt_ii, gLe_ii, gGt_ii, gGe_ii, gEq_ii, gEq_bb, gIs_bb, gIx_t, gIx_l, gIx_s, VS.gNeg, gMax2, gMin2, gLen, gTupleOf, allFr, pad, mOw, mFr, headS, szl, eChain, sRaise, Option.bind]) (by simp [Out.bind, Out.toS, sSeq, sIf, sSet, sOwn, sExpr, sRet, sRetNew, sRetN, sNext, sSetIx, eVar, eC, eOp, eUn, eB, asB, eTr, truD, bNot, bAnd, bOr, bV, VS.eAnd, VS.eOr, aNil, aCons, eCall, eIxO, eLenO, eMeth, VS.gInt, gMod_ii, gDiv_ii, gAdd_ii, gSub_ii, gMul_ii, gPow_ii, gLt_ii, gLe_ii, gGt_ii, gGe_ii, gEq_ii, gEq_bb, gIs_bb, gIx_t, gIx_l, gIx_s, VS.gNeg, gMax2, gMin2, gLen, gTupleOf, allFr, pad, mOw, mFr, headS, szl, eChain, sRaise, Option.bind])
  have hodd : Kd odd ∧ isN odd = false := by
    simp [Out.bind, Out.toS, sSeq, sIf, sSet, sOwn, sExpr, sRet, sRetNew, sRetN, sNext, sSetIx, eVar, eC, eOp, eUn, eB, asB, eTr, truD, bNot, bAnd, bOr, bV, VS.eAnd, VS.eOr, aNil, aCons, eCall, eIxO, eLenO, eMeth, VS.gInt, gMod_ii, gDiv_ii, gAdd_ii, gSub_ii, gMul_ii, gPow_ii, gLt_ii, gLe_ii, gGt_ii, gGe_ii, gEq_ii, gEq_bb, gIs_bb, gIx_t, gIx_l, gIx_s, VS.gNeg, gMax2, gMin2, gLen, gTupleOf, allFr, pad, mOw, mFr, headS, szl, eChain, sRaise, Option.bind] at ho
    rcases ho with rfl | rfl | rfl | rfl | rfl | rfl
    · exact ⟨.inr (.inl ⟨_, rfl⟩), rfl⟩
    · exact ⟨.inr (.inl ⟨_, rfl⟩), rfl⟩
    · exact ⟨.inr (.inl ⟨_, rfl⟩), rfl⟩
    · exact ⟨.inr (.inr ⟨_, rfl⟩), rfl⟩
    · exact ⟨.inr (.inr ⟨_, rfl⟩), rfl⟩
    · exact ⟨.inr (.inr ⟨_, rfl⟩), rfl⟩
  -- the first loop
  let long : List Int := List.replicate (16 + r5).toNat (-1)
  have hlong : (List.replicate (16 + r5).toNat [D.int (-1)]).flatten = long.map D.int := by
    rw [List.flatten_replicate_singleton]
    simp [Out.bind, Out.toS, sSeq, sIf, sSet, sOwn, sExpr, sRet, sRetNew, sRetN, sNext, sSetIx, eVar, eC, eOp, eUn, eB, asB, eTr, truD, bNot, bAnd, bOr, bV, VS.eAnd, VS.eOr, aNil, aCons, eCall, eIxO, eLenO, eMeth, VS.gInt, gMod_ii, gDiv_ii, gAdd_ii, gSub_ii, gMul_ii, gPow_ii, gLt_ii, gLe_ii, gGt_ii, gGe_ii, gEq_ii, gEq_bb, gIs_bb, gIx_t, gIx_l, gIx_s, VS.gNeg, gMax2, gMin2, gLen, gTupleOf, allFr, pad, mOw, mFr, headS, szl, eChain, sRaise, Option.bind, long]
  obtain ⟨ρ1, f1, t6, rfl, _⟩ := sLoop_inv (g := gN 6) (fb := sIf (bNot (eTr (eFn m__law_right (aCons (eVar 6) (aNil))))) (sRet (eC (.bl false))) (sNext))
    (fun items ρ => ∃ t6 : S, ρ = [.fr (.scr ns), .ow [.int a6, .int b6], .fr (.int m), .fr (.tup (ps.map D.int)), .fr (.tup (qs.map D.int)), .fr (.tup (long.map D.int)), t6, .un, .un, .un, .un] ∧ ∀ d ∈ items, ∃ zs : List Int, d = .tup (zs.map D.int) ∧ zs.length < 1000)
    (by
      rintro d ds ρ ⟨t6, rfl, hi⟩
      obtain ⟨zs, rfl, hz⟩ := hi d (by simp [Out.bind, Out.toS, sSeq, sIf, sSet, sOwn, sExpr, sRet, sRetNew, sRetN, sNext, sSetIx, eVar, eC, eOp, eUn, eB, asB, eTr, truD, bNot, bAnd, bOr, bV, VS.eAnd, VS.eOr, aNil, aCons, eCall, eIxO, eLenO, eMeth, VS.gInt, gMod_ii, gDiv_ii, gAdd_ii, gSub_ii, gMul_ii, gPow_ii, gLt_ii, gLe_ii, gGt_ii, gGe_ii, gEq_ii, gEq_bb, gIs_bb, gIx_t, gIx_l, gIx_s, VS.gNeg, gMax2, gMin2, gLen, gTupleOf, allFr, pad, mOw, mFr, headS, szl, eChain, sRaise, Option.bind])
      refine ⟨_, _, rfl, .inl ?_, .fr (.tup (zs.map D.int)), rfl, fun d hd => hi d (List.mem_cons_of_mem _ hd)⟩
      simp [Out.bind, Out.toS, sSeq, sIf, sSet, sOwn, sExpr, sRet, sRetNew, sRetN, sNext, sSetIx, eVar, eC, eOp, eUn, eB, asB, eTr, truD, bNot, bAnd, bOr, bV, VS.eAnd, VS.eOr, aNil, aCons, eCall, eIxO, eLenO, eMeth, VS.gInt, gMod_ii, gDiv_ii, gAdd_ii, gSub_ii, gMul_ii, gPow_ii, gLt_ii, gLe_ii, gGt_ii, gGe_ii, gEq_ii, gEq_bb, gIs_bb, gIx_t, gIx_l, gIx_s, VS.gNeg, gMax2, gMin2, gLen, gTupleOf, allFr, pad, mOw, mFr, headS, szl, eChain, sRaise, Option.bind, eFn, right_ok zs hz])
    [.tup (ps.map D.int), .tup (qs.map D.int), .tup (rs.map D.int), .tup [], .tup (long.map D.int)]
    [.fr (.scr ns), .ow [.int a6, .int b6], .fr (.int m), .fr (.tup (ps.map D.int)), .fr (.tup (qs.map D.int)), .fr (.tup (long.map D.int)), .un, .un, .un, .un, .un]
    ⟨.un, rfl, by
      intro d hd
      simp only [List.mem_cons, List.not_mem_nil, or_false] at hd
      rcases hd with rfl | rfl | rfl | rfl | rfl
      · exact ⟨ps, rfl, by omega⟩
      · exact ⟨qs, rfl, by omega⟩
      · exact ⟨rs, rfl, by omega⟩
      · exact ⟨[], rfl, by decide⟩
      · exact ⟨long, rfl, by simp [Out.bind, Out.toS, sSeq, sIf, sSet, sOwn, sExpr, sRet, sRetNew, sRetN, sNext, sSetIx, eVar, eC, eOp, eUn, eB, asB, eTr, truD, bNot, bAnd, bOr, bV, VS.eAnd, VS.eOr, aNil, aCons, eCall, eIxO, eLenO, eMeth, VS.gInt, gMod_ii, gDiv_ii, gAdd_ii, gSub_ii, gMul_ii, gPow_ii, gLt_ii, gLe_ii, gGt_ii, gGe_ii, gEq_ii, gEq_bb, gIs_bb, gIx_t, gIx_l, gIx_s, VS.gNeg, gMax2, gMin2, gLen, gTupleOf, allFr, pad, mOw, mFr, headS, szl, eChain, sRaise, Option.bind, long]; omega⟩⟩
  -- the second
  let last : List D := cutD (ps.map D.int) none (some x) ++ [odd] ++ cutD (ps.map D.int) (some (x + 1)) none
  let things : List D := [.int 0, .int (-1), .int 7, .int 1000000000000000000000000000000, .str "", .str "-1", .tup [.tup [.int (-1)]], .tup [.str "-1"], .tup [.tup (ps.map D.int)], .tup last]
  have l1 := cut_len (ps.map D.int) none (some x)
  have l2 := cut_len (ps.map D.int) (some (x + 1)) none
  rw [List.length_map] at l1 l2
  obtain ⟨ρ2, f2, t10, rfl, _⟩ := sLoop_inv (g := gN 10) (fb := sIf (eB (eOp (VS.gIs true) (eFn m_is_house (aCons (eVar 10) (aNil))) (eC (.bl false)))) (sRet (eC (.bl false))) (sNext))
    (fun items ρ => ∃ t10 : S, ρ = [.fr (.scr ns), .ow [.int a8, .int b8], .fr (.int m), .fr (.tup (ps.map D.int)), .fr (.tup (qs.map D.int)), .fr (.tup (long.map D.int)), t6, .fr (.int x), .fr odd, .fr (.lst things), t10] ∧ ∀ d ∈ items, NoH d)
    (by
      rintro d ds ρ ⟨t10, rfl, hi⟩
      refine ⟨_, _, rfl, .inl ?_, .fr d, rfl, fun d hd => hi d (List.mem_cons_of_mem _ hd)⟩
      simp [Out.bind, Out.toS, sSeq, sIf, sSet, sOwn, sExpr, sRet, sRetNew, sRetN, sNext, sSetIx, eVar, eC, eOp, eUn, eB, asB, eTr, truD, bNot, bAnd, bOr, bV, VS.eAnd, VS.eOr, aNil, aCons, eCall, eIxO, eLenO, eMeth, VS.gInt, gMod_ii, gDiv_ii, gAdd_ii, gSub_ii, gMul_ii, gPow_ii, gLt_ii, gLe_ii, gGt_ii, gGe_ii, gEq_ii, gEq_bb, gIs_bb, gIx_t, gIx_l, gIx_s, VS.gNeg, gMax2, gMin2, gLen, gTupleOf, allFr, pad, mOw, mFr, headS, szl, eChain, sRaise, Option.bind, eFn, noh_ok (hi d (by simp [Out.bind, Out.toS, sSeq, sIf, sSet, sOwn, sExpr, sRet, sRetNew, sRetN, sNext, sSetIx, eVar, eC, eOp, eUn, eB, asB, eTr, truD, bNot, bAnd, bOr, bV, VS.eAnd, VS.eOr, aNil, aCons, eCall, eIxO, eLenO, eMeth, VS.gInt, gMod_ii, gDiv_ii, gAdd_ii, gSub_ii, gMul_ii, gPow_ii, gLt_ii, gLe_ii, gGt_ii, gGe_ii, gEq_ii, gEq_bb, gIs_bb, gIx_t, gIx_l, gIx_s, VS.gNeg, gMax2, gMin2, gLen, gTupleOf, allFr, pad, mOw, mFr, headS, szl, eChain, sRaise, Option.bind]))])
    things
    [.fr (.scr ns), .ow [.int a8, .int b8], .fr (.int m), .fr (.tup (ps.map D.int)), .fr (.tup (qs.map D.int)), .fr (.tup (long.map D.int)), t6, .fr (.int x), .fr odd, .fr (.lst things), .un]
    ⟨.un, rfl, by
      intro d hd
      simp only [things, List.mem_cons, List.not_mem_nil, or_false] at hd
      rcases hd with rfl | rfl | rfl | rfl | rfl | rfl | rfl | rfl | rfl | rfl
      · exact .inl ⟨_, rfl⟩
      · exact .inl ⟨_, rfl⟩
      · exact .inl ⟨_, rfl⟩
      · exact .inl ⟨_, rfl⟩
      · exact .inr (.inl ⟨_, rfl⟩)
      · exact .inr (.inl ⟨_, rfl⟩)
      · exact .inr (.inr ⟨_, rfl, by decide, fun d hd => by rw [List.mem_singleton] at hd; exact .inr (.inr ⟨_, hd⟩), rfl⟩)
      · exact .inr (.inr ⟨_, rfl, by decide, fun d hd => by rw [List.mem_singleton] at hd; exact .inr (.inl ⟨_, hd⟩), rfl⟩)
      · exact .inr (.inr ⟨_, rfl, by simp [Out.bind, Out.toS, sSeq, sIf, sSet, sOwn, sExpr, sRet, sRetNew, sRetN, sNext, sSetIx, eVar, eC, eOp, eUn, eB, asB, eTr, truD, bNot, bAnd, bOr, bV, VS.eAnd, VS.eOr, aNil, aCons, eCall, eIxO, eLenO, eMeth, VS.gInt, gMod_ii, gDiv_ii, gAdd_ii, gSub_ii, gMul_ii, gPow_ii, gLt_ii, gLe_ii, gGt_ii, gGe_ii, gEq_ii, gEq_bb, gIs_bb, gIx_t, gIx_l, gIx_s, VS.gNeg, gMax2, gMin2, gLen, gTupleOf, allFr, pad, mOw, mFr, headS, szl, eChain, sRaise, Option.bind], fun d hd => by rw [List.mem_singleton] at hd; exact .inr (.inr ⟨_, hd⟩), rfl⟩)
      · refine .inr (.inr ⟨last, rfl, by simp only [last, List.length_append, List.length_cons, List.length_nil]; omega, fun d hd => ?_, ?_⟩)
        · simp only [last, List.mem_append, List.mem_singleton] at hd
          rcases hd with (hd | rfl) | hd
          · exact kd_map ps d (cut_mem hd)
          · exact hodd.1
          · exact kd_map ps d (cut_mem hd)
        · rw [List.all_eq_false]
          exact ⟨odd, by simp [Out.bind, Out.toS, sSeq, sIf, sSet, sOwn, sExpr, sRet, sRetNew, sRetN, sNext, sSetIx, eVar, eC, eOp, eUn, eB, asB, eTr, truD, bNot, bAnd, bOr, bV, VS.eAnd, VS.eOr, aNil, aCons, eCall, eIxO, eLenO, eMeth, VS.gInt, gMod_ii, gDiv_ii, gAdd_ii, gSub_ii, gMul_ii, gPow_ii, gLt_ii, gLe_ii, gGt_ii, gGe_ii, gEq_ii, gEq_bb, gIs_bb, gIx_t, gIx_l, gIx_s, VS.gNeg, gMax2, gMin2, gLen, gTupleOf, allFr, pad, mOw, mFr, headS, szl, eChain, sRaise, Option.bind, last], by simp [Out.bind, Out.toS, sSeq, sIf, sSet, sOwn, sExpr, sRet, sRetNew, sRetN, sNext, sSetIx, eVar, eC, eOp, eUn, eB, asB, eTr, truD, bNot, bAnd, bOr, bV, VS.eAnd, VS.eOr, aNil, aCons, eCall, eIxO, eLenO, eMeth, VS.gInt, gMod_ii, gDiv_ii, gAdd_ii, gSub_ii, gMul_ii, gPow_ii, gLt_ii, gLe_ii, gGt_ii, gGe_ii, gEq_ii, gEq_bb, gIs_bb, gIx_t, gIx_l, gIx_s, VS.gNeg, gMax2, gMin2, gLen, gTupleOf, allFr, pad, mOw, mFr, headS, szl, eChain, sRaise, Option.bind, hodd.2]⟩⟩
  have q1 : 2 ≤ 16 + r5 ∧ 16 + r5 ≤ 1000 := by omega
  have q2 : CPow 10 30 := ⟨by omega, by omega, by decide⟩
  have q3 : (cutD (ps.map D.int) none (some x)).length + 1 ≤ 16777216 := by omega
  have q4 : (cutD (ps.map D.int) none (some x)).length + 1 + (cutD (ps.map D.int) (some (x + 1)) none).length ≤ 16777216 := by omega
  refine ⟨[.fr (.scr ns)], ?_⟩
  simp [Out.bind, Out.toS, sSeq, sIf, sSet, sOwn, sExpr, sRet, sRetNew, sRetN, sNext, sSetIx, eVar, eC, eOp, eUn, eB, asB, eTr, truD, bNot, bAnd, bOr, bV, VS.eAnd, VS.eOr, aNil, aCons, eCall, eIxO, eLenO, eMeth, VS.gInt, gMod_ii, gDiv_ii, gAdd_ii, gSub_ii, gMul_ii, gPow_ii, gLt_ii, gLe_ii, gGt_ii, gGe_ii, gEq_ii, gEq_bb, gIs_bb, gIx_t, gIx_l, gIx_s, VS.gNeg, gMax2, gMin2, gLen, gTupleOf, allFr, pad, mOw, mFr, headS, szl, eChain, sRaise, Option.bind] at f1 f2
  simp [Out.bind, Out.toS, sSeq, sIf, sSet, sOwn, sExpr, sRet, sRetNew, sRetN, sNext, sSetIx, eVar, eC, eOp, eUn, eB, asB, eTr, truD, bNot, bAnd, bOr, bV, VS.eAnd, VS.eOr, aNil, aCons, eCall, eIxO, eLenO, eMeth, VS.gInt, gMod_ii, gDiv_ii, gAdd_ii, gSub_ii, gMul_ii, gPow_ii, gLt_ii, gLe_ii, gGt_ii, gGe_ii, gEq_ii, gEq_bb, gIs_bb, gIx_t, gIx_l, gIx_s, VS.gNeg, gMax2, gMin2, gLen, gTupleOf, allFr, pad, mOw, mFr, headS, szl, eChain, sRaise, Option.bind, m_law, b_law, nFn, e0, eFnO, e1, eN, nLst, e2, e3, e4, e5, VS.gMul, eTup, q1, hlong, e6, sFor, iSeq, f1, sPar, a2Fr, a2Nil, e7, e8, setAll, q2, eSlice, oNone, oSome, VS.gAdd, q3, q4]
  simp [Out.bind, Out.toS, sSeq, sIf, sSet, sOwn, sExpr, sRet, sRetNew, sRetN, sNext, sSetIx, eVar, eC, eOp, eUn, eB, asB, eTr, truD, bNot, bAnd, bOr, bV, VS.eAnd, VS.eOr, aNil, aCons, eCall, eIxO, eLenO, eMeth, VS.gInt, gMod_ii, gDiv_ii, gAdd_ii, gSub_ii, gMul_ii, gPow_ii, gLt_ii, gLe_ii, gGt_ii, gGe_ii, gEq_ii, gEq_bb, gIs_bb, gIx_t, gIx_l, gIx_s, VS.gNeg, gMax2, gMin2, gLen, gTupleOf, allFr, pad, mOw, mFr, headS, szl, eChain, sRaise, Option.bind, things, last] at f2
  simp [Out.bind, Out.toS, sSeq, sIf, sSet, sOwn, sExpr, sRet, sRetNew, sRetN, sNext, sSetIx, eVar, eC, eOp, eUn, eB, asB, eTr, truD, bNot, bAnd, bOr, bV, VS.eAnd, VS.eOr, aNil, aCons, eCall, eIxO, eLenO, eMeth, VS.gInt, gMod_ii, gDiv_ii, gAdd_ii, gSub_ii, gMul_ii, gPow_ii, gLt_ii, gLe_ii, gGt_ii, gGe_ii, gEq_ii, gEq_bb, gIs_bb, gIx_t, gIx_l, gIx_s, VS.gNeg, gMax2, gMin2, gLen, gTupleOf, allFr, pad, mOw, mFr, headS, szl, eChain, sRaise, Option.bind, f2]
end Law
/-! ## walk -/
namespace Law
open PySem PySem.Spec L2 VS
/-! ### what the top has written -/
abbrev s_init : Stmt := inClass (topS 1) 0
theorem sc_init : FnScope ["self", "what"] ["self", "what"] (defScope s_init) := ⟨rfl, rfl, rfl, by decide +kernel, rfl, by decide +kernel, by decide +kernel⟩
structure TX (K : PySem.W.Frag) (mg : Str → Option Value) where
  f_is_number : Addr
  d_is_number : FuncData
  F_is_number : Fun K "is_number" "is_number" s_is_number f_is_number d_is_number
  g_is_number : mg "is_number" = some (.ref f_is_number)
  b_is_number : Binds K d_is_number ["thing"] []
  f_is_number_row : Addr
  d_is_number_row : FuncData
  F_is_number_row : Fun K "is_number_row" "is_number_row" s_is_number_row f_is_number_row d_is_number_row
  g_is_number_row : mg "is_number_row" = some (.ref f_is_number_row)
  b_is_number_row : Binds K d_is_number_row ["thing"] []
  f_check_size : Addr
  d_check_size : FuncData
  F_check_size : Fun K "check_size" "check_size" s_check_size f_check_size d_check_size
  g_check_size : mg "check_size" = some (.ref f_check_size)
  b_check_size : Binds K d_check_size ["n"] []
  f__comes_to_door : Addr
  d__comes_to_door : FuncData
  F__comes_to_door : Fun K "_comes_to_door" "_comes_to_door" s__comes_to_door f__comes_to_door d__comes_to_door
  g__comes_to_door : mg "_comes_to_door" = some (.ref f__comes_to_door)
  b__comes_to_door : Binds K d__comes_to_door ["parents", "x"] []
  f_made_house : Addr
  d_made_house : FuncData
  F_made_house : Fun K "made_house" "made_house" s_made_house f_made_house d_made_house
  g_made_house : mg "made_house" = some (.ref f_made_house)
  b_made_house : Binds K d_made_house ["parents"] []
  f_is_house : Addr
  d_is_house : FuncData
  F_is_house : Fun K "is_house" "is_house" s_is_house f_is_house d_is_house
  g_is_house : mg "is_house" = some (.ref f_is_house)
  b_is_house : Binds K d_is_house ["thing"] []
  f__law_pool : Addr
  d__law_pool : FuncData
  F__law_pool : Fun K "_law_pool" "_law_pool" s__law_pool f__law_pool d__law_pool
  g__law_pool : mg "_law_pool" = some (.ref f__law_pool)
  b__law_pool : Binds K d__law_pool ["script", "k"] []
  f__law_take : Addr
  d__law_take : FuncData
  F__law_take : Fun K "_law_take" "_law_take" s__law_take f__law_take d__law_take
  g__law_take : mg "_law_take" = some (.ref f__law_take)
  b__law_take : Binds K d__law_take ["source", "top"] []
  f__law_one : Addr
  d__law_one : FuncData
  F__law_one : Fun K "_law_one" "_law_one" s__law_one f__law_one d__law_one
  g__law_one : mg "_law_one" = some (.ref f__law_one)
  b__law_one : Binds K d__law_one ["source", "things"] []
  f__law_shuffled : Addr
  d__law_shuffled : FuncData
  F__law_shuffled : Fun K "_law_shuffled" "_law_shuffled" s__law_shuffled f__law_shuffled d__law_shuffled
  g__law_shuffled : mg "_law_shuffled" = some (.ref f__law_shuffled)
  b__law_shuffled : Binds K d__law_shuffled ["source", "count"] []
  f__law_house : Addr
  d__law_house : FuncData
  F__law_house : Fun K "_law_house" "_law_house" s__law_house f__law_house d__law_house
  g__law_house : mg "_law_house" = some (.ref f__law_house)
  b__law_house : Binds K d__law_house ["source", "n"] []
  f__law_bent : Addr
  d__law_bent : FuncData
  F__law_bent : Fun K "_law_bent" "_law_bent" s__law_bent f__law_bent d__law_bent
  g__law_bent : mg "_law_bent" = some (.ref f__law_bent)
  b__law_bent : Binds K d__law_bent ["source", "house"] []
  f__law_due : Addr
  d__law_due : FuncData
  F__law_due : Fun K "_law_due" "_law_due" s__law_due f__law_due d__law_due
  g__law_due : mg "_law_due" = some (.ref f__law_due)
  b__law_due : Binds K d__law_due ["parents"] []
  f__law_told : Addr
  d__law_told : FuncData
  F__law_told : Fun K "_law_told" "_law_told" s__law_told f__law_told d__law_told
  g__law_told : mg "_law_told" = some (.ref f__law_told)
  b__law_told : Binds K d__law_told ["parents"] []
  f__law_right : Addr
  d__law_right : FuncData
  F__law_right : Fun K "_law_right" "_law_right" s__law_right f__law_right d__law_right
  g__law_right : mg "_law_right" = some (.ref f__law_right)
  b__law_right : Binds K d__law_right ["parents"] []
  f_law : Addr
  d_law : FuncData
  F_law : Fun K "law" "law" s_law f_law d_law
  g_law : mg "law" = some (.ref f_law)
  b_law : Binds K d_law ["script"] []
  z_all : mg "all" = none
  z_bool : mg "bool" = none
  z_enumerate : mg "enumerate" = none
  z_int : mg "int" = none
  z_isinstance : mg "isinstance" = none
  z_len : mg "len" = none
  z_max : mg "max" = none
  z_range : mg "range" = none
  z_tuple : mg "tuple" = none
  t_DOOR : Tok
  c_DOOR : mg "DOOR" = some (.int (-1) t_DOOR)
  t_MOST_PLACES : Tok
  c_MOST_PLACES : mg "MOST_PLACES" = some (.int (16) t_MOST_PLACES)
  fI : Addr
  dI : FuncData
  FI : Fun K "__init__" "Refused.__init__" s_init fI dI
  bI : Binds K dI ["self", "what"] []
  tI : PySem.W.typeIn K (.ref fI) = some (.type "function")
  C_Refused : Addr
  gC_Refused : mg "Refused" = some (.ref C_Refused)
  x_Refused : ErrC K fI C_Refused
  k_Refused : CatC K C_Refused
  C_BadSize : Addr
  gC_BadSize : mg "BadSize" = some (.ref C_BadSize)
  x_BadSize : ErrC K fI C_BadSize
  k_BadSize : CatC K C_BadSize
  C_BadParent : Addr
  gC_BadParent : mg "BadParent" = some (.ref C_BadParent)
  x_BadParent : ErrC K fI C_BadParent
  k_BadParent : CatC K C_BadParent
  C_Round : Addr
  gC_Round : mg "Round" = some (.ref C_Round)
  x_Round : ErrC K fI C_Round
  k_Round : CatC K C_Round
  tb : TblOk K mg tbl
section
variable {P : Program} {w : World} {K : PySem.W.Frag} {mg : Str → Option Value} {base : Heap}
theorem ok_init (T : TX K mg) : FnOk P w K mg base (L2.CX P w) 1 T.fI T.dI ["self", "what"] (spIni K) := ok_ini T.FI sc_init (by rfl) (by decide +kernel) (by decide +kernel)
theorem ok_is_number (T : TX K mg) : FnOk P w K mg base (L2.CX P w) 1 T.f_is_number T.d_is_number ["thing"] (spM K mg 1 m_is_number) :=
  fn_fr T.F_is_number sc_is_number (fun cdv A outer s H E hr =>
    vss_one (vs_ret (ve_and (ve_isi (T := "int") (by rfl) T.z_isinstance (by rfl) T.z_int PyProof.Rows.boot_int (ve_var 0)) (ve_one (ve_not (ve_isi (T := "bool") (by rfl) T.z_isinstance (by rfl) T.z_bool PyProof.Rows.boot_bool (ve_var 0)))))))
theorem ok_is_number_row (T : TX K mg) : FnOk P w K mg base (L2.CX P w) 2 T.f_is_number_row T.d_is_number_row ["thing"] (spM K mg 1 m_is_number_row) :=
  fn_fr T.F_is_number_row sc_is_number_row (fun cdv A outer s H E hr =>
    vss_one (vs_ret (ve_and (ve_isi (T := "tuple") (by rfl) T.z_isinstance (by rfl) T.z_tuple PyProof.Rows.boot_tuple (ve_var 0)) (ve_one (ve_callB (cr_all rfl) cs_all (by rfl) T.z_all (by decide +kernel) (va_cons (ve_n (vn_comp (own := [("part", 1)]) rfl sc_is_number_row.nd (by decide) (vi_seq (ve_var 0)) (blkOk_by (own := [("part", 1)]) (N := N_is_number_row) (sc := defScope s_is_number_row) (by decide +kernel)) (fun _ _ _ _ _ => vg_name (i := 1) (by decide) sc_is_number_row.nd (by rfl) (by first | exact Or.inl rfl | exact Or.inr rfl)) (fun _ _ _ _ _ => vts_nil) (fun _ _ _ _ _ => ve_call (ok_is_number T) (fun _ h => mFr_len h) (hr.mono (by decide)) (by rfl) T.g_is_number T.F_is_number.kp T.b_is_number (takes0) (va_cons (ve_var 1) (va_nil))))) (va_nil)))))))
theorem ok_check_size (T : TX K mg) : FnOk P w K mg base (L2.CX P w) 3 T.f_check_size T.d_check_size ["n"] (spM K mg 1 m_check_size) :=
  fn_fr T.F_check_size sc_check_size (fun cdv A outer s H E hr =>
    vss_one (vs_if (vt_not (vt_chain op_le op_le os_le os_le (ve_int) (ve_var 0) (ve_glob (v := .int (16)) (d := .int (16)) (by rfl) T.c_MOST_PLACES ⟨_, rfl⟩ (fun _ _ => rfl)))) (vss_one (vs_raise rfl (takes_of rfl rfl rfl rfl) T.x_BadSize T.tI (ok_init T) (hr.mono (by decide)) T.bI (by rfl) T.gC_BadSize (ve_var 0))) (vss_nil)))
theorem ok__comes_to_door (T : TX K mg) : FnOk P w K mg base (L2.CX P w) 1 T.f__comes_to_door T.d__comes_to_door ["parents", "x"] (spM K mg 2 m__comes_to_door) :=
  fn_fr T.F__comes_to_door sc__comes_to_door (fun cdv A outer s H E hr =>
    vss_cons (vs_for (passes_of rfl) rfl (vi_seq (ve_var 0)) (vg_name (i := 2) (by exact id) sc__comes_to_door.nd (by rfl) (by first | exact Or.inl rfl | exact Or.inr rfl)) (vss_one (vs_if (vt_cmp (op_neD hr.units) os_ne (ve_var 1) (ve_glob (v := .int (-1)) (d := .int (-1)) (by rfl) T.c_DOOR ⟨_, rfl⟩ (fun _ _ => rfl)) (nomark _)) (vss_one (vs_set (i := 1) (by exact id) sc__comes_to_door.nd (by rfl) (by first | exact Or.inl rfl | exact Or.inr rfl) (ve_ix (ve_var 0) (ve_var 1) (fun _ _ => rfl)))) (vss_nil))))
    (vss_one (vs_ret (ve_cmp (op_eqD hr.units) os_eq (ve_var 1) (ve_glob (v := .int (-1)) (d := .int (-1)) (by rfl) T.c_DOOR ⟨_, rfl⟩ (fun _ _ => rfl)) (nomark _)))))
theorem ok_made_house (T : TX K mg) : FnOk P w K mg base (L2.CX P w) 4 T.f_made_house T.d_made_house ["parents"] (spM K mg 1 m_made_house) :=
  fn_fr T.F_made_house sc_made_house (fun cdv A outer s H E hr =>
    vss_cons (vs_set (i := 1) (by exact id) sc_made_house.nd (by rfl) (by first | exact Or.inl rfl | exact Or.inr rfl) (ve_callB call_len_seq cs_len (by rfl) T.z_len (by decide +kernel) (va_cons (ve_var 0) (va_nil))))
    (vss_cons (vs_expr (ve_call (ok_check_size T) (fun _ h => mFr_len h) (hr.mono (by decide)) (by rfl) T.g_check_size T.F_check_size.kp T.b_check_size (takes_of rfl rfl rfl rfl) (va_cons (ve_var 1) (va_nil))))
    (vss_cons (vs_for (passes_of rfl) rfl (vi_enum (by rfl) T.z_enumerate (va_cons (ve_var 0) (va_nil))) (vg_tup (n := 2) rfl (vgs_cons (vg_name (i := 2) (by exact id) sc_made_house.nd (by rfl) (by first | exact Or.inl rfl | exact Or.inr rfl)) (vgs_cons (vg_name (i := 3) (by exact id) sc_made_house.nd (by rfl) (by first | exact Or.inl rfl | exact Or.inr rfl)) (vgs_nil)))) (vss_one (vs_if (PW.pt (vw_or (vt_cmp (op_eqD hr.units) os_eq (ve_var 3) (ve_var 2) (nomark _)) (vw_or1 (vt_not (vt_chain op_le op_lt os_le os_lt (ve_glob (v := .int (-1)) (d := .int (-1)) (by rfl) T.c_DOOR ⟨_, rfl⟩ (fun _ _ => rfl)) (ve_var 3) (ve_var 1)))))) (vss_one (vs_raise rfl (takes_of rfl rfl rfl rfl) T.x_BadParent T.tI (ok_init T) (hr.mono (by decide)) T.bI (by rfl) T.gC_BadParent (ve_var 2))) (vss_nil))))
    (vss_cons (vs_for (passes_of rfl) rfl (vi_range1 (by rfl) T.z_range (va_cons (ve_var 1) (va_nil))) (vg_name (i := 2) (by exact id) sc_made_house.nd (by rfl) (by first | exact Or.inl rfl | exact Or.inr rfl)) (vss_one (vs_if (vt_not (vt_truth (ve_call (ok__comes_to_door T) (fun _ h => mFr_len h) (hr.mono (by decide)) (by rfl) T.g__comes_to_door T.F__comes_to_door.kp T.b__comes_to_door (takes_of rfl rfl rfl rfl) (va_cons (ve_var 0) (va_cons (ve_var 2) (va_nil)))))) (vss_one (vs_raise rfl (takes_of rfl rfl rfl rfl) T.x_Round T.tI (ok_init T) (hr.mono (by decide)) T.bI (by rfl) T.gC_Round (ve_var 2))) (vss_nil))))
    (vss_one (vs_ret (ve_var 0)))))))
theorem ok_is_house (T : TX K mg) : FnOk P w K mg base (L2.CX P w) 5 T.f_is_house T.d_is_house ["thing"] (spM K mg 1 m_is_house) :=
  fn_fr T.F_is_house sc_is_house (fun cdv A outer s H E hr =>
    vss_cons (vs_if (vt_not (vt_truth (ve_call (ok_is_number_row T) (fun _ h => mFr_len h) (hr.mono (by decide)) (by rfl) T.g_is_number_row T.F_is_number_row.kp T.b_is_number_row (takes_of rfl rfl rfl rfl) (va_cons (ve_var 0) (va_nil))))) (vss_one (vs_ret (ve_bl))) (vss_nil))
    (vss_cons (vs_try rfl rfl (takes_of rfl rfl rfl rfl) T.tb (fun Wt pnt xet tkt pot => vss_one (vs_expr (ve_call (ok_made_house T) (fun _ h => mFr_len h) (hr.mono (by decide)) (by rfl) T.g_made_house T.F_made_house.kp T.b_made_house (tkt) (va_cons (ve_var 0) (va_nil))))) (HdsX.pl ⟨rfl, by decide, .inl T.gC_Refused⟩ (fun a oe cls d pn _ _ => vss_one (vs_ret (ve_bl))) (HdsX.nil)) (HdsV.cons (hd_pl T.gC_Refused) (HdsV.nil)))
    (vss_one (vs_ret (ve_bl)))))
theorem ok__law_pool (T : TX K mg) : FnOk P w K mg base (L2.CX P w) 1 T.f__law_pool T.d__law_pool ["script", "k"] (spM K mg 2 m__law_pool) :=
  fn_fr T.F__law_pool sc__law_pool (fun cdv A outer s H E hr =>
    vss_cons (vs_set (i := 2) (by exact id) sc__law_pool.nd (by rfl) (by first | exact Or.inl rfl | exact Or.inr rfl) (ve_int))
    (vss_cons (vs_if (vt_cmp op_lt os_lt (ve_var 1) (ve_callB call_len_seq cs_len (by rfl) T.z_len (by decide +kernel) (va_cons (ve_var 0) (va_nil))) (nomark _)) (vss_one (vs_set (i := 2) (by exact id) sc__law_pool.nd (by rfl) (by first | exact Or.inl rfl | exact Or.inr rfl) (ve_ix (ve_var 0) (ve_var 1) (fun _ _ => rfl)))) (vss_one (vs_if (vt_truth (ve_var 0)) (vss_one (vs_set (i := 2) (by exact id) sc__law_pool.nd (by rfl) (by first | exact Or.inl rfl | exact Or.inr rfl) (ve_ix (ve_var 0) (ve_int) (fun _ _ => rfl)))) (vss_nil))))
    (vss_cons (vs_set (i := 3) (by exact id) sc__law_pool.nd (by rfl) (by first | exact Or.inl rfl | exact Or.inr rfl) (ve_callB (call_max2 rfl) cs_max2 (by rfl) T.z_max (by decide +kernel) (va_cons (ve_callTy call_int1 cs_int (by rfl) T.z_int (by decide +kernel) (va_cons (ve_var 2) (va_nil))) (va_cons (ve_callTy call_int1 cs_int (by rfl) T.z_int (by decide +kernel) (va_cons (ve_op op_sub os_sub (ve_un un_neg us_neg (ve_int)) (ve_var 2)) (va_nil))) (va_nil)))))
    (vss_cons (vs_set (i := 4) (by exact id) sc__law_pool.nd (by rfl) (by first | exact Or.inl rfl | exact Or.inr rfl) (ve_op op_mod os_mod (ve_callTy call_int1 cs_int (by rfl) T.z_int (by decide +kernel) (va_cons (ve_op op_mulA os_mul (ve_op op_addA os_add (ve_op op_addA os_add (ve_op op_addA os_add (ve_op op_mod os_mod (ve_callTy call_int1 cs_int (by rfl) T.z_int (by decide +kernel) (va_cons (ve_var 3) (va_nil))) (ve_int)) (ve_op op_mulA os_mul (ve_op op_mulA os_mul (ve_int) (ve_var 1)) (ve_var 1))) (ve_op op_mulA os_mul (ve_int) (ve_var 1))) (ve_int)) (ve_int)) (va_nil))) (ve_int)))
    (vss_one (vs_retNew (vn_lst (va_cons (ve_op op_mulA os_mul (ve_var 3) (ve_callTy call_int1 cs_int (by rfl) T.z_int (by decide +kernel) (va_cons (ve_cmp op_ge os_ge (ve_var 3) (ve_op op_pow os_pow (ve_int) (ve_int)) (nomark _)) (va_nil)))) (va_cons (ve_var 4) (va_nil))))))))))
theorem ok__law_take (T : TX K mg) : FnOk P w K mg base (L2.CX P w) 1 T.f__law_take T.d__law_take ["source", "top"] (spM K mg 2 m__law_take) :=
  fn_ow T.F__law_take sc__law_take (fun cdv A outer s H E hr =>
    vss_cons (vs_if (vt_cmp op_gt os_gt (ve_ixO (i := 0) (by rfl) (by first | exact Or.inl rfl | exact Or.inr (Or.inl rfl) | exact Or.inr (Or.inr rfl)) (ve_int) (fun _ _ => rfl)) (ve_int) (nomark _)) (vss_cons (vs_set (i := 2) (by decide) sc__law_take.nd (by rfl) (by first | exact Or.inl rfl | exact Or.inr rfl) (ve_op op_mod os_mod (ve_callTy call_int1 cs_int (by rfl) T.z_int (by decide +kernel) (va_cons (ve_ixO (i := 0) (by rfl) (by first | exact Or.inl rfl | exact Or.inr (Or.inl rfl) | exact Or.inr (Or.inr rfl)) (ve_int) (fun _ _ => rfl)) (va_nil))) (ve_var 1)))
    (vss_cons (vs_setIx (i := 0) (by rfl) (by first | exact Or.inl rfl | exact Or.inr (Or.inl rfl) | exact Or.inr (Or.inr rfl)) (ve_int) (ve_op op_fdivW os_div (ve_ixO (i := 0) (by rfl) (by first | exact Or.inl rfl | exact Or.inr (Or.inl rfl) | exact Or.inr (Or.inr rfl)) (ve_int) (fun _ _ => rfl)) (ve_var 1)))
    (vss_one (vs_ret (ve_var 2))))) (vss_nil))
    (vss_cons (vs_setIx (i := 0) (by rfl) (by first | exact Or.inl rfl | exact Or.inr (Or.inl rfl) | exact Or.inr (Or.inr rfl)) (ve_int) (ve_op op_mod os_mod (ve_callTy call_int1 cs_int (by rfl) T.z_int (by decide +kernel) (va_cons (ve_op op_addA os_add (ve_op op_mulA os_mul (ve_ixO (i := 0) (by rfl) (by first | exact Or.inl rfl | exact Or.inr (Or.inl rfl) | exact Or.inr (Or.inr rfl)) (ve_int) (fun _ _ => rfl)) (ve_int)) (ve_int)) (va_nil))) (ve_int)))
    (vss_one (vs_ret (ve_op op_mod os_mod (ve_callTy call_int1 cs_int (by rfl) T.z_int (by decide +kernel) (va_cons (ve_op op_fdivW os_div (ve_op op_mod os_mod (ve_callTy call_int1 cs_int (by rfl) T.z_int (by decide +kernel) (va_cons (ve_op op_mulA os_mul (ve_ixO (i := 0) (by rfl) (by first | exact Or.inl rfl | exact Or.inr (Or.inl rfl) | exact Or.inr (Or.inr rfl)) (ve_int) (fun _ _ => rfl)) (ve_ixO (i := 0) (by rfl) (by first | exact Or.inl rfl | exact Or.inr (Or.inl rfl) | exact Or.inr (Or.inr rfl)) (ve_int) (fun _ _ => rfl))) (va_nil))) (ve_int)) (ve_int)) (va_nil))) (ve_var 1))))))
theorem ok__law_one (T : TX K mg) : FnOk P w K mg base (L2.CX P w) 2 T.f__law_one T.d__law_one ["source", "things"] (spM K mg 2 m__law_one) :=
  fn_ow T.F__law_one sc__law_one (fun cdv A outer s H E hr =>
    vss_one (vs_ret (ve_ix (ve_var 1) (ve_callO (j := 0) (ok__law_take T) (fun _ _ h => mOw_len h) (hr.mono (by decide)) (by rfl) T.g__law_take T.F__law_take.kp T.b__law_take (takes_of rfl rfl rfl rfl) (by rfl) (by first | exact Or.inl rfl | exact Or.inr (Or.inl rfl) | exact Or.inr (Or.inr rfl)) (va_cons (ve_callB call_len_seq cs_len (by rfl) T.z_len (by decide +kernel) (va_cons (ve_var 1) (va_nil))) (va_nil))) (fun _ _ => rfl))))
theorem ok__law_shuffled (T : TX K mg) : FnOk P w K mg base (L2.CX P w) 2 T.f__law_shuffled T.d__law_shuffled ["source", "count"] (spM K mg 2 m__law_shuffled) :=
  fn_ow T.F__law_shuffled sc__law_shuffled (fun cdv A outer s H E hr =>
    vss_cons (vs_par (i := 2) (j := 3) (by simp) rfl sc__law_shuffled.nd (by rfl) (by rfl) (by decide) (by rfl) (by rfl) (va2_ow (vn_comp (own := [("x", 5)]) rfl sc__law_shuffled.nd (by decide) (vi_range1 (by rfl) T.z_range (va_cons (ve_var 1) (va_nil))) (blkOk_by (own := [("x", 5)]) (N := N__law_shuffled) (sc := defScope s__law_shuffled) (by decide +kernel)) (fun _ _ _ _ _ => vg_name (i := 5) (by decide) sc__law_shuffled.nd (by rfl) (by first | exact Or.inl rfl | exact Or.inr rfl)) (fun _ _ _ _ _ => vts_nil) (fun _ _ _ _ _ => ve_var 5)) (va2_ow (vn_lst (va_nil)) (va2_nil))) (a2len_ow (a2len_ow a2len_nil)) (by rfl))
    (vss_cons (vs_for (passes_of rfl) rfl (vi_range1 (by rfl) T.z_range (va_cons (ve_var 1) (va_nil))) (vg_name (i := 4) (by decide) sc__law_shuffled.nd (by rfl) (by first | exact Or.inl rfl | exact Or.inr rfl)) (vss_one (vs_expr (ve_meth (i := 3) PySem.F.slot_list_append PySem.F.type_list_append mt_append ms_append (by rfl) (by first | exact Or.inl rfl | exact Or.inr (Or.inl rfl) | exact Or.inr (Or.inr rfl)) (va_cons (ve_meth (i := 2) PySem.F.slot_list_pop PySem.F.type_list_pop mt_popAt ms_popAt (by rfl) (by first | exact Or.inl rfl | exact Or.inr (Or.inl rfl) | exact Or.inr (Or.inr rfl)) (va_cons (ve_callO (j := 0) (ok__law_take T) (fun _ _ h => mOw_len h) (hr.mono (by decide)) (by rfl) T.g__law_take T.F__law_take.kp T.b__law_take (takes_of rfl rfl rfl rfl) (by rfl) (by first | exact Or.inl rfl | exact Or.inr (Or.inl rfl) | exact Or.inr (Or.inr rfl)) (va_cons (ve_lenO (x := "len") (i := 2) (by rfl) (by first | exact Or.inl rfl | exact Or.inr (Or.inl rfl) | exact Or.inr (Or.inr rfl)) (by rfl) T.z_len) (va_nil))) (va_nil))) (va_nil))))))
    (vss_one (vs_ret (ve_var 3)))))
theorem ok__law_house (T : TX K mg) : FnOk P w K mg base (L2.CX P w) 3 T.f__law_house T.d__law_house ["source", "n"] (spM K mg 2 m__law_house) :=
  fn_ow T.F__law_house sc__law_house (fun cdv A outer s H E hr =>
    vss_cons (vs_par3 (i := 2) (j := 3) (l := 4) (by simp) rfl sc__law_house.nd (by rfl) (by rfl) (by rfl) (by decide) (by decide) (by decide) (by rfl) (by rfl) (by rfl) (va2_fr (ve_callO (j := 0) (ok__law_shuffled T) (fun _ _ h => mOw_len h) (hr.mono (by decide)) (by rfl) T.g__law_shuffled T.F__law_shuffled.kp T.b__law_shuffled (takes_of rfl rfl rfl rfl) (by rfl) (by first | exact Or.inl rfl | exact Or.inr (Or.inl rfl) | exact Or.inr (Or.inr rfl)) (va_cons (ve_var 1) (va_nil))) (va2_fr (ve_callO (j := 0) (ok__law_take T) (fun _ _ h => mOw_len h) (hr.mono (by decide)) (by rfl) T.g__law_take T.F__law_take.kp T.b__law_take (takes_of rfl rfl rfl rfl) (by rfl) (by first | exact Or.inl rfl | exact Or.inr (Or.inl rfl) | exact Or.inr (Or.inr rfl)) (va_cons (ve_int) (va_nil))) (va2_ow (vn_rep (ve_n (vn_lst (va_cons (ve_un un_neg us_neg (ve_int)) (va_nil)))) (ve_var 1)) (va2_nil)))) (a2len_fr (a2len_fr (a2len_ow a2len_nil))) (by rfl))
    (vss_cons (vs_for (passes_of rfl) rfl (vi_range2 (by rfl) T.z_range (va_cons (ve_int) (va_cons (ve_var 1) (va_nil)))) (vg_name (i := 5) (by decide) sc__law_house.nd (by rfl) (by first | exact Or.inl rfl | exact Or.inr rfl)) (vss_cons (vs_set (i := 6) (by decide) sc__law_house.nd (by rfl) (by first | exact Or.inl rfl | exact Or.inr rfl) (ve_callO (j := 0) (ok__law_take T) (fun _ _ h => mOw_len h) (hr.mono (by decide)) (by rfl) T.g__law_take T.F__law_take.kp T.b__law_take (takes_of rfl rfl rfl rfl) (by rfl) (by first | exact Or.inl rfl | exact Or.inr (Or.inl rfl) | exact Or.inr (Or.inr rfl)) (va_cons (ve_op op_addA os_add (ve_var 5) (ve_int)) (va_nil))))
    (vss_cons (vs_if (PW.pt (vw_or (vt_cmp (op_eqD hr.units) os_eq (ve_var 3) (ve_int) (nomark _)) (vw_or1 (PW.pt (vw_and (vt_cmp (op_eqD hr.units) os_eq (ve_var 3) (ve_int) (nomark _)) (vw_and1 (vt_cmp (op_eqD hr.units) os_eq (ve_callO (j := 0) (ok__law_take T) (fun _ _ h => mOw_len h) (hr.mono (by decide)) (by rfl) T.g__law_take T.F__law_take.kp T.b__law_take (takes_of rfl rfl rfl rfl) (by rfl) (by first | exact Or.inl rfl | exact Or.inr (Or.inl rfl) | exact Or.inr (Or.inr rfl)) (va_cons (ve_int) (va_nil))) (ve_int) (nomark _)))))))) (vss_one (vs_set (i := 6) (by decide) sc__law_house.nd (by rfl) (by first | exact Or.inl rfl | exact Or.inr rfl) (ve_var 5))) (vss_nil))
    (vss_one (vs_if (vt_cmp op_gt os_gt (ve_var 6) (ve_int) (nomark _)) (vss_one (vs_setIx (i := 4) (by rfl) (by first | exact Or.inl rfl | exact Or.inr (Or.inl rfl) | exact Or.inr (Or.inr rfl)) (ve_ix (ve_var 2) (ve_var 5) (fun _ _ => rfl)) (ve_ix (ve_var 2) (ve_op op_sub os_sub (ve_var 6) (ve_int)) (fun _ _ => rfl)))) (vss_nil))))))
    (vss_one (vs_ret (ve_callTy call_tuple_of cs_tuple (by rfl) T.z_tuple (by decide +kernel) (va_cons (ve_var 4) (va_nil)))))))
theorem ok__law_bent (T : TX K mg) : FnOk P w K mg base (L2.CX P w) 3 T.f__law_bent T.d__law_bent ["source", "house"] (spM K mg 2 m__law_bent) :=
  fn_ow T.F__law_bent sc__law_bent (fun cdv A outer s H E hr =>
    vss_cons (vs_par (i := 2) (j := 3) (by simp) rfl sc__law_bent.nd (by rfl) (by rfl) (by decide) (by rfl) (by rfl) (va2_ow (vn_comp (own := [("parent", 7)]) rfl sc__law_bent.nd (by decide) (vi_seq (ve_var 1)) (blkOk_by (own := [("parent", 7)]) (N := N__law_bent) (sc := defScope s__law_bent) (by decide +kernel)) (fun _ _ _ _ _ => vg_name (i := 7) (by decide) sc__law_bent.nd (by rfl) (by first | exact Or.inl rfl | exact Or.inr rfl)) (fun _ _ _ _ _ => vts_nil) (fun _ _ _ _ _ => ve_var 7)) (va2_fr (ve_callB call_len_seq cs_len (by rfl) T.z_len (by decide +kernel) (va_cons (ve_var 1) (va_nil))) (va2_nil))) (a2len_ow (a2len_fr a2len_nil)) (by rfl))
    (vss_cons (vs_for (passes_of rfl) rfl (vi_range1 (by rfl) T.z_range (va_cons (ve_callO (j := 0) (ok__law_take T) (fun _ _ h => mOw_len h) (hr.mono (by decide)) (by rfl) T.g__law_take T.F__law_take.kp T.b__law_take (takes_of rfl rfl rfl rfl) (by rfl) (by first | exact Or.inl rfl | exact Or.inr (Or.inl rfl) | exact Or.inr (Or.inr rfl)) (va_cons (ve_int) (va_nil))) (va_nil))) (vg_name (i := 4) (by decide) sc__law_bent.nd (by rfl) (by first | exact Or.inl rfl | exact Or.inr rfl)) (vss_cons (vs_set (i := 5) (by decide) sc__law_bent.nd (by rfl) (by first | exact Or.inl rfl | exact Or.inr rfl) (ve_callO (j := 0) (ok__law_take T) (fun _ _ h => mOw_len h) (hr.mono (by decide)) (by rfl) T.g__law_take T.F__law_take.kp T.b__law_take (takes_of rfl rfl rfl rfl) (by rfl) (by first | exact Or.inl rfl | exact Or.inr (Or.inl rfl) | exact Or.inr (Or.inr rfl)) (va_cons (ve_var 3) (va_nil))))
    (vss_one (vs_setIx (i := 2) (by rfl) (by first | exact Or.inl rfl | exact Or.inr (Or.inl rfl) | exact Or.inr (Or.inr rfl)) (ve_var 5) (ve_callO (j := 0) (ok__law_one T) (fun _ _ h => mOw_len h) (hr.mono (by decide)) (by rfl) T.g__law_one T.F__law_one.kp T.b__law_one (takes_of rfl rfl rfl rfl) (by rfl) (by first | exact Or.inl rfl | exact Or.inr (Or.inl rfl) | exact Or.inr (Or.inr rfl)) (va_cons (ve_n (vn_lst (va_cons (ve_un un_neg us_neg (ve_int)) (va_cons (ve_var 3) (va_cons (ve_var 5) (va_cons (ve_callO (j := 0) (ok__law_take T) (fun _ _ h => mOw_len h) (hr.mono (by decide)) (by rfl) T.g__law_take T.F__law_take.kp T.b__law_take (takes_of rfl rfl rfl rfl) (by rfl) (by first | exact Or.inl rfl | exact Or.inr (Or.inl rfl) | exact Or.inr (Or.inr rfl)) (va_cons (ve_var 3) (va_nil))) (va_cons (ve_callO (j := 0) (ok__law_take T) (fun _ _ h => mOw_len h) (hr.mono (by decide)) (by rfl) T.g__law_take T.F__law_take.kp T.b__law_take (takes_of rfl rfl rfl rfl) (by rfl) (by first | exact Or.inl rfl | exact Or.inr (Or.inl rfl) | exact Or.inr (Or.inr rfl)) (va_cons (ve_var 3) (va_nil))) (va_cons (ve_op op_pow os_pow (ve_int) (ve_int)) (va_cons (ve_un un_neg us_neg (ve_op op_pow os_pow (ve_int) (ve_int))) (va_nil)))))))))) (va_nil)))))))
    (vss_cons (vs_set (i := 6) (by decide) sc__law_bent.nd (by rfl) (by first | exact Or.inl rfl | exact Or.inr rfl) (ve_callO (j := 0) (ok__law_take T) (fun _ _ h => mOw_len h) (hr.mono (by decide)) (by rfl) T.g__law_take T.F__law_take.kp T.b__law_take (takes_of rfl rfl rfl rfl) (by rfl) (by first | exact Or.inl rfl | exact Or.inr (Or.inl rfl) | exact Or.inr (Or.inr rfl)) (va_cons (ve_int) (va_nil))))
    (vss_cons (vs_if (vt_cmp (op_eqD hr.units) os_eq (ve_var 6) (ve_int) (nomark _)) (vss_one (vs_expr (ve_meth (i := 2) PySem.F.slot_list_pop PySem.F.type_list_pop mt_popAt ms_popAt (by rfl) (by first | exact Or.inl rfl | exact Or.inr (Or.inl rfl) | exact Or.inr (Or.inr rfl)) (va_cons (ve_callO (j := 0) (ok__law_take T) (fun _ _ h => mOw_len h) (hr.mono (by decide)) (by rfl) T.g__law_take T.F__law_take.kp T.b__law_take (takes_of rfl rfl rfl rfl) (by rfl) (by first | exact Or.inl rfl | exact Or.inr (Or.inl rfl) | exact Or.inr (Or.inr rfl)) (va_cons (ve_var 3) (va_nil))) (va_nil))))) (vss_nil))
    (vss_cons (vs_if (vt_cmp (op_eqD hr.units) os_eq (ve_var 6) (ve_int) (nomark _)) (vss_one (vs_expr (ve_meth (i := 2) PySem.F.slot_list_insert PySem.F.type_list_insert mt_insert ms_insert (by rfl) (by first | exact Or.inl rfl | exact Or.inr (Or.inl rfl) | exact Or.inr (Or.inr rfl)) (va_cons (ve_callO (j := 0) (ok__law_take T) (fun _ _ h => mOw_len h) (hr.mono (by decide)) (by rfl) T.g__law_take T.F__law_take.kp T.b__law_take (takes_of rfl rfl rfl rfl) (by rfl) (by first | exact Or.inl rfl | exact Or.inr (Or.inl rfl) | exact Or.inr (Or.inr rfl)) (va_cons (ve_op op_addA os_add (ve_var 3) (ve_int)) (va_nil))) (va_cons (ve_op op_sub os_sub (ve_callO (j := 0) (ok__law_take T) (fun _ _ h => mOw_len h) (hr.mono (by decide)) (by rfl) T.g__law_take T.F__law_take.kp T.b__law_take (takes_of rfl rfl rfl rfl) (by rfl) (by first | exact Or.inl rfl | exact Or.inr (Or.inl rfl) | exact Or.inr (Or.inr rfl)) (va_cons (ve_op op_addA os_add (ve_var 3) (ve_int)) (va_nil))) (ve_int)) (va_nil)))))) (vss_nil))
    (vss_one (vs_ret (ve_callTy call_tuple_of cs_tuple (by rfl) T.z_tuple (by decide +kernel) (va_cons (ve_var 2) (va_nil))))))))))
theorem ok__law_due (T : TX K mg) : FnOk P w K mg base (L2.CX P w) 1 T.f__law_due T.d__law_due ["parents"] (spM K mg 1 m__law_due) :=
  fn_fr T.F__law_due sc__law_due (fun cdv A outer s H E hr =>
    vss_cons (vs_set (i := 1) (by exact id) sc__law_due.nd (by rfl) (by first | exact Or.inl rfl | exact Or.inr rfl) (ve_callB call_len_seq cs_len (by rfl) T.z_len (by decide +kernel) (va_cons (ve_var 0) (va_nil))))
    (vss_cons (vs_if (PW.pt (vw_or (vt_cmp op_lt os_lt (ve_var 1) (ve_int) (nomark _)) (vw_or1 (vt_cmp op_gt os_gt (ve_var 1) (ve_int) (nomark _))))) (vss_one (vs_ret (ve_tup (va_cons (ve_str) (va_cons (ve_var 1) (va_nil)))))) (vss_nil))
    (vss_cons (vs_for (passes_of rfl) rfl (vi_range1 (by rfl) T.z_range (va_cons (ve_var 1) (va_nil))) (vg_name (i := 2) (by exact id) sc__law_due.nd (by rfl) (by first | exact Or.inl rfl | exact Or.inr rfl)) (vss_one (vs_if (PW.pt (vw_or (vt_cmp op_lt os_lt (ve_ix (ve_var 0) (ve_var 2) (fun _ _ => rfl)) (ve_un un_neg us_neg (ve_int)) (nomark _)) (vw_or (vt_cmp op_ge os_ge (ve_ix (ve_var 0) (ve_var 2) (fun _ _ => rfl)) (ve_var 1) (nomark _)) (vw_or1 (vt_cmp (op_eqD hr.units) os_eq (ve_ix (ve_var 0) (ve_var 2) (fun _ _ => rfl)) (ve_var 2) (nomark _)))))) (vss_one (vs_ret (ve_tup (va_cons (ve_str) (va_cons (ve_var 2) (va_nil)))))) (vss_nil))))
    (vss_cons (vs_for (passes_of rfl) rfl (vi_range1 (by rfl) T.z_range (va_cons (ve_var 1) (va_nil))) (vg_name (i := 2) (by exact id) sc__law_due.nd (by rfl) (by first | exact Or.inl rfl | exact Or.inr rfl)) (vss_cons (vs_set (i := 3) (by exact id) sc__law_due.nd (by rfl) (by first | exact Or.inl rfl | exact Or.inr rfl) (ve_var 2))
    (vss_cons (vs_for (passes_of rfl) rfl (vi_range1 (by rfl) T.z_range (va_cons (ve_var 1) (va_nil))) (vg_name (i := 4) (by exact id) sc__law_due.nd (by rfl) (by first | exact Or.inl rfl | exact Or.inr rfl)) (vss_one (vs_if (vt_cmp op_ge os_ge (ve_var 3) (ve_int) (nomark _)) (vss_one (vs_set (i := 3) (by exact id) sc__law_due.nd (by rfl) (by first | exact Or.inl rfl | exact Or.inr rfl) (ve_ix (ve_var 0) (ve_var 3) (fun _ _ => rfl)))) (vss_nil))))
    (vss_one (vs_if (vt_cmp op_ge os_ge (ve_var 3) (ve_int) (nomark _)) (vss_one (vs_ret (ve_tup (va_cons (ve_str) (va_cons (ve_var 2) (va_nil)))))) (vss_nil))))))
    (vss_one (vs_ret (ve_tup (va_cons (ve_str) (va_cons (ve_var 0) (va_nil))))))))))
theorem ok__law_told (T : TX K mg) : FnOk P w K mg base (L2.CX P w) 5 T.f__law_told T.d__law_told ["parents"] (spM K mg 1 m__law_told) :=
  fn_fr T.F__law_told sc__law_told (fun cdv A outer s H E hr =>
    vss_cons (vs_try rfl rfl (takes_of rfl rfl rfl rfl) T.tb (fun Wt pnt xet tkt pot => vss_one (vs_set (i := 1) (by exact id) sc__law_told.nd (by rfl) (by first | exact Or.inl rfl | exact Or.inr rfl) (ve_call (ok_made_house T) (fun _ h => mFr_len h) (hr.mono (by decide)) (by rfl) T.g_made_house T.F_made_house.kp T.b_made_house (tkt) (va_cons (ve_var 0) (va_nil))))) (HdsX.as ⟨rfl, by decide, .inl T.gC_BadSize⟩ sc__law_told.nd (by rfl) (by rfl) (fun a oe cls d pn hz hf => su_tup T.k_BadSize (by rfl) (by first | exact Or.inl rfl | exact Or.inr (Or.inl rfl) | exact Or.inr (Or.inr rfl)) (by decide) (by decide) a oe cls d pn hz hf (by rfl) (by rfl) (by rfl)) (HdsX.as ⟨rfl, by decide, .inl T.gC_BadParent⟩ sc__law_told.nd (by rfl) (by rfl) (fun a oe cls d pn hz hf => su_tup T.k_BadParent (by rfl) (by first | exact Or.inl rfl | exact Or.inr (Or.inl rfl) | exact Or.inr (Or.inr rfl)) (by decide) (by decide) a oe cls d pn hz hf (by rfl) (by rfl) (by rfl)) (HdsX.as ⟨rfl, by decide, .inl T.gC_Round⟩ sc__law_told.nd (by rfl) (by rfl) (fun a oe cls d pn hz hf => su_tup T.k_Round (by rfl) (by first | exact Or.inl rfl | exact Or.inr (Or.inl rfl) | exact Or.inr (Or.inr rfl)) (by decide) (by decide) a oe cls d pn hz hf (by rfl) (by rfl) (by rfl)) (HdsX.pl ⟨rfl, by decide, .inl T.gC_Refused⟩ (fun a oe cls d pn _ _ => vss_one (vs_ret (ve_tup (va_cons (ve_str) (va_cons (ve_int) (va_nil)))))) (HdsX.nil))))) (HdsV.cons (hd_what T.gC_BadSize (by decide)) (HdsV.cons (hd_what T.gC_BadParent (by decide)) (HdsV.cons (hd_what T.gC_Round (by decide)) (HdsV.cons (hd_pl T.gC_Refused) (HdsV.nil))))))
    (vss_one (vs_ret (ve_tup (va_cons (ve_str) (va_cons (ve_var 1) (va_nil)))))))
theorem ok__law_right (T : TX K mg) : FnOk P w K mg base (L2.CX P w) 6 T.f__law_right T.d__law_right ["parents"] (spM K mg 1 m__law_right) :=
  fn_fr T.F__law_right sc__law_right (fun cdv A outer s H E hr =>
    vss_cons (vs_par (i := 1) (j := 2) (by simp) rfl sc__law_right.nd (by rfl) (by rfl) (by decide) (by rfl) (by rfl) (va2_fr (ve_call (ok__law_due T) (fun _ h => mFr_len h) (hr.mono (by decide)) (by rfl) T.g__law_due T.F__law_due.kp T.b__law_due (takes_of rfl rfl rfl rfl) (va_cons (ve_var 0) (va_nil))) (va2_fr (ve_call (ok_is_house T) (fun _ h => mFr_len h) (hr.mono (by decide)) (by rfl) T.g_is_house T.F_is_house.kp T.b_is_house (takes_of rfl rfl rfl rfl) (va_cons (ve_var 0) (va_nil))) (va2_nil))) (a2len_fr (a2len_fr a2len_nil)) (by rfl))
    (vss_one (vs_ret (ve_and (ve_cmp (op_eqD hr.units) os_eq (ve_call (ok__law_told T) (fun _ h => mFr_len h) (hr.mono (by decide)) (by rfl) T.g__law_told T.F__law_told.kp T.b__law_told (takes_of rfl rfl rfl rfl) (va_cons (ve_var 0) (va_nil))) (ve_var 1) (nomark _)) (ve_and (ve_isi (T := "bool") (by rfl) T.z_isinstance (by rfl) T.z_bool PyProof.Rows.boot_bool (ve_var 2)) (ve_one (ve_cmp (op_eqD hr.units) os_eq (ve_var 2) (ve_cmp (op_eqD hr.units) os_eq (ve_ix (ve_var 1) (ve_int) (fun _ _ => rfl)) (ve_str) (nomark _)) (nomark _))))))))
theorem ok_law (T : TX K mg) : FnOk P w K mg base (L2.CX P w) 7 T.f_law T.d_law ["script"] (spM K mg 1 m_law) :=
  fn_fr T.F_law sc_law (fun cdv A outer s H E hr =>
    vss_cons (vs_own (i := 1) (by exact id) sc_law.nd (by rfl) (by first | exact Or.inl rfl | exact Or.inr rfl) (vn_call (ok__law_pool T) (fun _ h => mFr_len h) (hr.mono (by decide)) (by rfl) T.g__law_pool T.F__law_pool.kp T.b__law_pool (takes_of rfl rfl rfl rfl) (va_cons (ve_var 0) (va_cons (ve_int) (va_nil)))))
    (vss_cons (vs_set (i := 2) (by exact id) sc_law.nd (by rfl) (by first | exact Or.inl rfl | exact Or.inr rfl) (ve_callO (j := 1) (ok__law_one T) (fun _ _ h => mOw_len h) (hr.mono (by decide)) (by rfl) T.g__law_one T.F__law_one.kp T.b__law_one (takes_of rfl rfl rfl rfl) (by rfl) (by first | exact Or.inl rfl | exact Or.inr (Or.inl rfl) | exact Or.inr (Or.inr rfl)) (va_cons (ve_n (vn_lst (va_cons (ve_int) (va_cons (ve_int) (va_cons (ve_int) (va_cons (ve_int) (va_cons (ve_int) (va_cons (ve_int) (va_cons (ve_int) (va_cons (ve_op op_addA os_add (ve_int) (ve_callO (j := 1) (ok__law_take T) (fun _ _ h => mOw_len h) (hr.mono (by decide)) (by rfl) T.g__law_take T.F__law_take.kp T.b__law_take (takes_of rfl rfl rfl rfl) (by rfl) (by first | exact Or.inl rfl | exact Or.inr (Or.inl rfl) | exact Or.inr (Or.inr rfl)) (va_cons (ve_int) (va_nil)))) (va_nil))))))))))) (va_nil))))
    (vss_cons (vs_set (i := 3) (by exact id) sc_law.nd (by rfl) (by first | exact Or.inl rfl | exact Or.inr rfl) (ve_callO (j := 1) (ok__law_house T) (fun _ _ h => mOw_len h) (hr.mono (by decide)) (by rfl) T.g__law_house T.F__law_house.kp T.b__law_house (takes_of rfl rfl rfl rfl) (by rfl) (by first | exact Or.inl rfl | exact Or.inr (Or.inl rfl) | exact Or.inr (Or.inr rfl)) (va_cons (ve_var 2) (va_nil))))
    (vss_cons (vs_set (i := 4) (by exact id) sc_law.nd (by rfl) (by first | exact Or.inl rfl | exact Or.inr rfl) (ve_callO (j := 1) (ok__law_bent T) (fun _ _ h => mOw_len h) (hr.mono (by decide)) (by rfl) T.g__law_bent T.F__law_bent.kp T.b__law_bent (takes_of rfl rfl rfl rfl) (by rfl) (by first | exact Or.inl rfl | exact Or.inr (Or.inl rfl) | exact Or.inr (Or.inr rfl)) (va_cons (ve_var 3) (va_nil))))
    (vss_cons (vs_set (i := 5) (by exact id) sc_law.nd (by rfl) (by first | exact Or.inl rfl | exact Or.inr rfl) (ve_op op_mulA os_mul (ve_tup (va_cons (ve_un un_neg us_neg (ve_int)) (va_nil))) (ve_op op_addA os_add (ve_int) (ve_callO (j := 1) (ok__law_take T) (fun _ _ h => mOw_len h) (hr.mono (by decide)) (by rfl) T.g__law_take T.F__law_take.kp T.b__law_take (takes_of rfl rfl rfl rfl) (by rfl) (by first | exact Or.inl rfl | exact Or.inr (Or.inl rfl) | exact Or.inr (Or.inr rfl)) (va_cons (ve_int) (va_nil))))))
    (vss_cons (vs_for (passes_of rfl) rfl (vi_seq (ve_n (vn_lst (va_cons (ve_var 3) (va_cons (ve_var 4) (va_cons (ve_callO (j := 1) (ok__law_bent T) (fun _ _ h => mOw_len h) (hr.mono (by decide)) (by rfl) T.g__law_bent T.F__law_bent.kp T.b__law_bent (takes_of rfl rfl rfl rfl) (by rfl) (by first | exact Or.inl rfl | exact Or.inr (Or.inl rfl) | exact Or.inr (Or.inr rfl)) (va_cons (ve_var 3) (va_nil))) (va_cons (ve_tup (va_nil)) (va_cons (ve_var 5) (va_nil))))))))) (vg_name (i := 6) (by exact id) sc_law.nd (by rfl) (by first | exact Or.inl rfl | exact Or.inr rfl)) (vss_one (vs_if (vt_not (vt_truth (ve_call (ok__law_right T) (fun _ h => mFr_len h) (hr.mono (by decide)) (by rfl) T.g__law_right T.F__law_right.kp T.b__law_right (takes_of rfl rfl rfl rfl) (va_cons (ve_var 6) (va_nil))))) (vss_one (vs_ret (ve_bl))) (vss_nil))))
    (vss_cons (vs_par (i := 7) (j := 8) (by simp) rfl sc_law.nd (by rfl) (by rfl) (by decide) (by rfl) (by rfl) (va2_fr (ve_callO (j := 1) (ok__law_take T) (fun _ _ h => mOw_len h) (hr.mono (by decide)) (by rfl) T.g__law_take T.F__law_take.kp T.b__law_take (takes_of rfl rfl rfl rfl) (by rfl) (by first | exact Or.inl rfl | exact Or.inr (Or.inl rfl) | exact Or.inr (Or.inr rfl)) (va_cons (ve_var 2) (va_nil))) (va2_fr (ve_callO (j := 1) (ok__law_one T) (fun _ _ h => mOw_len h) (hr.mono (by decide)) (by rfl) T.g__law_one T.F__law_one.kp T.b__law_one (takes_of rfl rfl rfl rfl) (by rfl) (by first | exact Or.inl rfl | exact Or.inr (Or.inl rfl) | exact Or.inr (Or.inr rfl)) (va_cons (ve_n (vn_lst (va_cons (ve_str) (va_cons (ve_str) (va_cons (ve_str) (va_cons (ve_tup (va_nil)) (va_cons (ve_tup (va_cons (ve_un un_neg us_neg (ve_int)) (va_nil))) (va_cons (ve_tup (va_cons (ve_tup (va_cons (ve_un un_neg us_neg (ve_int)) (va_nil))) (va_nil))) (va_nil))))))))) (va_nil))) (va2_nil))) (a2len_fr (a2len_fr a2len_nil)) (by rfl))
    (vss_cons (vs_set (i := 9) (by exact id) sc_law.nd (by rfl) (by first | exact Or.inl rfl | exact Or.inr rfl) (ve_n (vn_lst (va_cons (ve_int) (va_cons (ve_un un_neg us_neg (ve_int)) (va_cons (ve_int) (va_cons (ve_op op_pow os_pow (ve_int) (ve_int)) (va_cons (ve_str) (va_cons (ve_str) (va_cons (ve_tup (va_cons (ve_tup (va_cons (ve_un un_neg us_neg (ve_int)) (va_nil))) (va_nil))) (va_cons (ve_tup (va_cons (ve_str) (va_nil))) (va_cons (ve_tup (va_cons (ve_var 3) (va_nil))) (va_cons (ve_op op_addA os_add (ve_op op_addA os_add (ve_slice (ve_var 3) (vo_none) (vo_some (ve_var 7))) (ve_tup (va_cons (ve_var 8) (va_nil)))) (ve_slice (ve_var 3) (vo_some (ve_op op_addA os_add (ve_var 7) (ve_int))) (vo_none))) (va_nil))))))))))))))
    (vss_cons (vs_for (passes_of rfl) rfl (vi_seq (ve_var 9)) (vg_name (i := 10) (by exact id) sc_law.nd (by rfl) (by first | exact Or.inl rfl | exact Or.inr rfl)) (vss_one (vs_if (vt_cmp op_isnot_bl os_isnot (ve_call (ok_is_house T) (fun _ h => mFr_len h) (hr.mono (by decide)) (by rfl) T.g_is_house T.F_is_house.kp T.b_is_house (takes_of rfl rfl rfl rfl) (va_cons (ve_var 10) (va_nil))) (ve_bl) (nomark _)) (vss_one (vs_ret (ve_bl))) (vss_nil))))
    (vss_one (vs_ret (ve_bl))))))))))))
end
end Law
/-! ## end -/
namespace Law
open PySem PySem.Spec L2 VS
theorem tb_one {mg : Str → Option Value} {K : PySem.W.Frag} {c d : Str} {C D' C2 D2 : Addr} {b : Bool} (h1 : mg c = some (.ref C)) (h2 : mg d = some (.ref D')) (h3 : mg c = some (.ref C2)) (h4 : mg d = some (.ref D2)) (h : PySem.W.exmOne K (.ref C) (.ref D') = some b) : PySem.W.exmOne K (.ref C2) (.ref D2) = some b := by
  rw [h1] at h3
  rw [h2] at h4
  cases h3
  cases h4
  exact h
def mkT {K : PySem.W.Frag} {h : Heap} {mg : Str → Option Value} (X : K.In h) (G : h.Ns mainGlobals mg)
    {f_is_number : Addr} {od_is_number an_is_number : Option Addr} {sl_is_number : Array (Option Value)} {oc_is_number kV_is_number dc_is_number pm_is_number cd_is_number ct_is_number : Value}
    {f_is_number_row : Addr} {od_is_number_row an_is_number_row : Option Addr} {sl_is_number_row : Array (Option Value)} {oc_is_number_row kV_is_number_row dc_is_number_row pm_is_number_row cd_is_number_row ct_is_number_row : Value}
    {f_check_size : Addr} {od_check_size an_check_size : Option Addr} {sl_check_size : Array (Option Value)} {oc_check_size kV_check_size dc_check_size pm_check_size cd_check_size ct_check_size : Value}
    {f__comes_to_door : Addr} {od__comes_to_door an__comes_to_door : Option Addr} {sl__comes_to_door : Array (Option Value)} {oc__comes_to_door kV__comes_to_door dc__comes_to_door pm__comes_to_door cd__comes_to_door ct__comes_to_door : Value}
    {f_made_house : Addr} {od_made_house an_made_house : Option Addr} {sl_made_house : Array (Option Value)} {oc_made_house kV_made_house dc_made_house pm_made_house cd_made_house ct_made_house : Value}
    {f_is_house : Addr} {od_is_house an_is_house : Option Addr} {sl_is_house : Array (Option Value)} {oc_is_house kV_is_house dc_is_house pm_is_house cd_is_house ct_is_house : Value}
    {f__law_pool : Addr} {od__law_pool an__law_pool : Option Addr} {sl__law_pool : Array (Option Value)} {oc__law_pool kV__law_pool dc__law_pool pm__law_pool cd__law_pool ct__law_pool : Value}
    {f__law_take : Addr} {od__law_take an__law_take : Option Addr} {sl__law_take : Array (Option Value)} {oc__law_take kV__law_take dc__law_take pm__law_take cd__law_take ct__law_take : Value}
    {f__law_one : Addr} {od__law_one an__law_one : Option Addr} {sl__law_one : Array (Option Value)} {oc__law_one kV__law_one dc__law_one pm__law_one cd__law_one ct__law_one : Value}
    {f__law_shuffled : Addr} {od__law_shuffled an__law_shuffled : Option Addr} {sl__law_shuffled : Array (Option Value)} {oc__law_shuffled kV__law_shuffled dc__law_shuffled pm__law_shuffled cd__law_shuffled ct__law_shuffled : Value}
    {f__law_house : Addr} {od__law_house an__law_house : Option Addr} {sl__law_house : Array (Option Value)} {oc__law_house kV__law_house dc__law_house pm__law_house cd__law_house ct__law_house : Value}
    {f__law_bent : Addr} {od__law_bent an__law_bent : Option Addr} {sl__law_bent : Array (Option Value)} {oc__law_bent kV__law_bent dc__law_bent pm__law_bent cd__law_bent ct__law_bent : Value}
    {f__law_due : Addr} {od__law_due an__law_due : Option Addr} {sl__law_due : Array (Option Value)} {oc__law_due kV__law_due dc__law_due pm__law_due cd__law_due ct__law_due : Value}
    {f__law_told : Addr} {od__law_told an__law_told : Option Addr} {sl__law_told : Array (Option Value)} {oc__law_told kV__law_told dc__law_told pm__law_told cd__law_told ct__law_told : Value}
    {f__law_right : Addr} {od__law_right an__law_right : Option Addr} {sl__law_right : Array (Option Value)} {oc__law_right kV__law_right dc__law_right pm__law_right cd__law_right ct__law_right : Value}
    {f_law : Addr} {od_law an_law : Option Addr} {sl_law : Array (Option Value)} {oc_law kV_law dc_law pm_law cd_law ct_law : Value}
    {t_DOOR : Tok}
    {t_MOST_PLACES : Tok}
    {fI : Addr} {odI anI : Option Addr} {slI : Array (Option Value)} {ocI kVI dcI pmI cdI ctI : Value}
    {C_Refused : Addr} {nm_Refused qn_Refused : Str} {N_Refused : Addr} {bs_Refused : List Value} {sn_Refused : List Str} {sb_Refused : List Value} {ab_Refused : Bool} {col_Refused : Option Bool} {dd_Refused : Option Addr} {u0_Refused u1_Refused u2_Refused u3_Refused u5_Refused : Option Value}
    {C_BadSize : Addr} {nm_BadSize qn_BadSize : Str} {N_BadSize : Addr} {bs_BadSize : List Value} {sn_BadSize : List Str} {sb_BadSize : List Value} {ab_BadSize : Bool} {col_BadSize : Option Bool} {dd_BadSize : Option Addr} {u0_BadSize u1_BadSize u2_BadSize u3_BadSize u5_BadSize : Option Value}
    {C_BadParent : Addr} {nm_BadParent qn_BadParent : Str} {N_BadParent : Addr} {bs_BadParent : List Value} {sn_BadParent : List Str} {sb_BadParent : List Value} {ab_BadParent : Bool} {col_BadParent : Option Bool} {dd_BadParent : Option Addr} {u0_BadParent u1_BadParent u2_BadParent u3_BadParent u5_BadParent : Option Value}
    {C_Round : Addr} {nm_Round qn_Round : Str} {N_Round : Addr} {bs_Round : List Value} {sn_Round : List Str} {sb_Round : List Value} {ab_Round : Bool} {col_Round : Option Bool} {dd_Round : Option Addr} {u0_Round u1_Round u2_Round u3_Round u5_Round : Option Value}
    (a_is_number : PySem.W.nsIn K mainGlobals "is_number" = some (some (.ref f_is_number))) (l_is_number : K.lookup f_is_number = some ⟨oc_is_number, od_is_number, .func (PySem.W.fnOf "is_number" "is_number" (defArgs s_is_number) (defBody s_is_number) (defScope s_is_number) .none kV_is_number dc_is_number pm_is_number an_is_number cd_is_number ct_is_number), sl_is_number⟩) (q_is_number : PySem.W.codeIn K cd_is_number "is_number" = true) (r_is_number : PySem.W.keepIn K (.ref f_is_number) = true)
    (a_is_number_row : PySem.W.nsIn K mainGlobals "is_number_row" = some (some (.ref f_is_number_row))) (l_is_number_row : K.lookup f_is_number_row = some ⟨oc_is_number_row, od_is_number_row, .func (PySem.W.fnOf "is_number_row" "is_number_row" (defArgs s_is_number_row) (defBody s_is_number_row) (defScope s_is_number_row) .none kV_is_number_row dc_is_number_row pm_is_number_row an_is_number_row cd_is_number_row ct_is_number_row), sl_is_number_row⟩) (q_is_number_row : PySem.W.codeIn K cd_is_number_row "is_number_row" = true) (r_is_number_row : PySem.W.keepIn K (.ref f_is_number_row) = true)
    (a_check_size : PySem.W.nsIn K mainGlobals "check_size" = some (some (.ref f_check_size))) (l_check_size : K.lookup f_check_size = some ⟨oc_check_size, od_check_size, .func (PySem.W.fnOf "check_size" "check_size" (defArgs s_check_size) (defBody s_check_size) (defScope s_check_size) .none kV_check_size dc_check_size pm_check_size an_check_size cd_check_size ct_check_size), sl_check_size⟩) (q_check_size : PySem.W.codeIn K cd_check_size "check_size" = true) (r_check_size : PySem.W.keepIn K (.ref f_check_size) = true)
    (a__comes_to_door : PySem.W.nsIn K mainGlobals "_comes_to_door" = some (some (.ref f__comes_to_door))) (l__comes_to_door : K.lookup f__comes_to_door = some ⟨oc__comes_to_door, od__comes_to_door, .func (PySem.W.fnOf "_comes_to_door" "_comes_to_door" (defArgs s__comes_to_door) (defBody s__comes_to_door) (defScope s__comes_to_door) .none kV__comes_to_door dc__comes_to_door pm__comes_to_door an__comes_to_door cd__comes_to_door ct__comes_to_door), sl__comes_to_door⟩) (q__comes_to_door : PySem.W.codeIn K cd__comes_to_door "_comes_to_door" = true) (r__comes_to_door : PySem.W.keepIn K (.ref f__comes_to_door) = true)
    (a_made_house : PySem.W.nsIn K mainGlobals "made_house" = some (some (.ref f_made_house))) (l_made_house : K.lookup f_made_house = some ⟨oc_made_house, od_made_house, .func (PySem.W.fnOf "made_house" "made_house" (defArgs s_made_house) (defBody s_made_house) (defScope s_made_house) .none kV_made_house dc_made_house pm_made_house an_made_house cd_made_house ct_made_house), sl_made_house⟩) (q_made_house : PySem.W.codeIn K cd_made_house "made_house" = true) (r_made_house : PySem.W.keepIn K (.ref f_made_house) = true)
    (a_is_house : PySem.W.nsIn K mainGlobals "is_house" = some (some (.ref f_is_house))) (l_is_house : K.lookup f_is_house = some ⟨oc_is_house, od_is_house, .func (PySem.W.fnOf "is_house" "is_house" (defArgs s_is_house) (defBody s_is_house) (defScope s_is_house) .none kV_is_house dc_is_house pm_is_house an_is_house cd_is_house ct_is_house), sl_is_house⟩) (q_is_house : PySem.W.codeIn K cd_is_house "is_house" = true) (r_is_house : PySem.W.keepIn K (.ref f_is_house) = true)
    (a__law_pool : PySem.W.nsIn K mainGlobals "_law_pool" = some (some (.ref f__law_pool))) (l__law_pool : K.lookup f__law_pool = some ⟨oc__law_pool, od__law_pool, .func (PySem.W.fnOf "_law_pool" "_law_pool" (defArgs s__law_pool) (defBody s__law_pool) (defScope s__law_pool) .none kV__law_pool dc__law_pool pm__law_pool an__law_pool cd__law_pool ct__law_pool), sl__law_pool⟩) (q__law_pool : PySem.W.codeIn K cd__law_pool "_law_pool" = true) (r__law_pool : PySem.W.keepIn K (.ref f__law_pool) = true)
    (a__law_take : PySem.W.nsIn K mainGlobals "_law_take" = some (some (.ref f__law_take))) (l__law_take : K.lookup f__law_take = some ⟨oc__law_take, od__law_take, .func (PySem.W.fnOf "_law_take" "_law_take" (defArgs s__law_take) (defBody s__law_take) (defScope s__law_take) .none kV__law_take dc__law_take pm__law_take an__law_take cd__law_take ct__law_take), sl__law_take⟩) (q__law_take : PySem.W.codeIn K cd__law_take "_law_take" = true) (r__law_take : PySem.W.keepIn K (.ref f__law_take) = true)
    (a__law_one : PySem.W.nsIn K mainGlobals "_law_one" = some (some (.ref f__law_one))) (l__law_one : K.lookup f__law_one = some ⟨oc__law_one, od__law_one, .func (PySem.W.fnOf "_law_one" "_law_one" (defArgs s__law_one) (defBody s__law_one) (defScope s__law_one) .none kV__law_one dc__law_one pm__law_one an__law_one cd__law_one ct__law_one), sl__law_one⟩) (q__law_one : PySem.W.codeIn K cd__law_one "_law_one" = true) (r__law_one : PySem.W.keepIn K (.ref f__law_one) = true)
    (a__law_shuffled : PySem.W.nsIn K mainGlobals "_law_shuffled" = some (some (.ref f__law_shuffled))) (l__law_shuffled : K.lookup f__law_shuffled = some ⟨oc__law_shuffled, od__law_shuffled, .func (PySem.W.fnOf "_law_shuffled" "_law_shuffled" (defArgs s__law_shuffled) (defBody s__law_shuffled) (defScope s__law_shuffled) .none kV__law_shuffled dc__law_shuffled pm__law_shuffled an__law_shuffled cd__law_shuffled ct__law_shuffled), sl__law_shuffled⟩) (q__law_shuffled : PySem.W.codeIn K cd__law_shuffled "_law_shuffled" = true) (r__law_shuffled : PySem.W.keepIn K (.ref f__law_shuffled) = true)
    (a__law_house : PySem.W.nsIn K mainGlobals "_law_house" = some (some (.ref f__law_house))) (l__law_house : K.lookup f__law_house = some ⟨oc__law_house, od__law_house, .func (PySem.W.fnOf "_law_house" "_law_house" (defArgs s__law_house) (defBody s__law_house) (defScope s__law_house) .none kV__law_house dc__law_house pm__law_house an__law_house cd__law_house ct__law_house), sl__law_house⟩) (q__law_house : PySem.W.codeIn K cd__law_house "_law_house" = true) (r__law_house : PySem.W.keepIn K (.ref f__law_house) = true)
    (a__law_bent : PySem.W.nsIn K mainGlobals "_law_bent" = some (some (.ref f__law_bent))) (l__law_bent : K.lookup f__law_bent = some ⟨oc__law_bent, od__law_bent, .func (PySem.W.fnOf "_law_bent" "_law_bent" (defArgs s__law_bent) (defBody s__law_bent) (defScope s__law_bent) .none kV__law_bent dc__law_bent pm__law_bent an__law_bent cd__law_bent ct__law_bent), sl__law_bent⟩) (q__law_bent : PySem.W.codeIn K cd__law_bent "_law_bent" = true) (r__law_bent : PySem.W.keepIn K (.ref f__law_bent) = true)
    (a__law_due : PySem.W.nsIn K mainGlobals "_law_due" = some (some (.ref f__law_due))) (l__law_due : K.lookup f__law_due = some ⟨oc__law_due, od__law_due, .func (PySem.W.fnOf "_law_due" "_law_due" (defArgs s__law_due) (defBody s__law_due) (defScope s__law_due) .none kV__law_due dc__law_due pm__law_due an__law_due cd__law_due ct__law_due), sl__law_due⟩) (q__law_due : PySem.W.codeIn K cd__law_due "_law_due" = true) (r__law_due : PySem.W.keepIn K (.ref f__law_due) = true)
    (a__law_told : PySem.W.nsIn K mainGlobals "_law_told" = some (some (.ref f__law_told))) (l__law_told : K.lookup f__law_told = some ⟨oc__law_told, od__law_told, .func (PySem.W.fnOf "_law_told" "_law_told" (defArgs s__law_told) (defBody s__law_told) (defScope s__law_told) .none kV__law_told dc__law_told pm__law_told an__law_told cd__law_told ct__law_told), sl__law_told⟩) (q__law_told : PySem.W.codeIn K cd__law_told "_law_told" = true) (r__law_told : PySem.W.keepIn K (.ref f__law_told) = true)
    (a__law_right : PySem.W.nsIn K mainGlobals "_law_right" = some (some (.ref f__law_right))) (l__law_right : K.lookup f__law_right = some ⟨oc__law_right, od__law_right, .func (PySem.W.fnOf "_law_right" "_law_right" (defArgs s__law_right) (defBody s__law_right) (defScope s__law_right) .none kV__law_right dc__law_right pm__law_right an__law_right cd__law_right ct__law_right), sl__law_right⟩) (q__law_right : PySem.W.codeIn K cd__law_right "_law_right" = true) (r__law_right : PySem.W.keepIn K (.ref f__law_right) = true)
    (a_law : PySem.W.nsIn K mainGlobals "law" = some (some (.ref f_law))) (l_law : K.lookup f_law = some ⟨oc_law, od_law, .func (PySem.W.fnOf "law" "law" (defArgs s_law) (defBody s_law) (defScope s_law) .none kV_law dc_law pm_law an_law cd_law ct_law), sl_law⟩) (q_law : PySem.W.codeIn K cd_law "law" = true) (r_law : PySem.W.keepIn K (.ref f_law) = true)
    (z_all : PySem.W.nsIn K mainGlobals "all" = some none)
    (z_bool : PySem.W.nsIn K mainGlobals "bool" = some none)
    (z_enumerate : PySem.W.nsIn K mainGlobals "enumerate" = some none)
    (z_int : PySem.W.nsIn K mainGlobals "int" = some none)
    (z_isinstance : PySem.W.nsIn K mainGlobals "isinstance" = some none)
    (z_len : PySem.W.nsIn K mainGlobals "len" = some none)
    (z_max : PySem.W.nsIn K mainGlobals "max" = some none)
    (z_range : PySem.W.nsIn K mainGlobals "range" = some none)
    (z_tuple : PySem.W.nsIn K mainGlobals "tuple" = some none)
    (c_DOOR : PySem.W.nsIn K mainGlobals "DOOR" = some (some (.int (-1) t_DOOR)))
    (c_MOST_PLACES : PySem.W.nsIn K mainGlobals "MOST_PLACES" = some (some (.int (16) t_MOST_PLACES)))
    (e_Refused : PySem.W.nsIn K mainGlobals "Refused" = some (some (.ref C_Refused)))
    (ob_Refused : K.lookup C_Refused = some (excClassObj nm_Refused qn_Refused C_Refused N_Refused bs_Refused [.type "ValueError", .type "Exception", .type "BaseException", .type "object"] true sn_Refused sb_Refused ab_Refused col_Refused dd_Refused u0_Refused u1_Refused u2_Refused u3_Refused u5_Refused "ValueError.__new__"))
    (e_BadSize : PySem.W.nsIn K mainGlobals "BadSize" = some (some (.ref C_BadSize)))
    (ob_BadSize : K.lookup C_BadSize = some (excClassObj nm_BadSize qn_BadSize C_BadSize N_BadSize bs_BadSize [.ref C_Refused, .type "ValueError", .type "Exception", .type "BaseException", .type "object"] true sn_BadSize sb_BadSize ab_BadSize col_BadSize dd_BadSize u0_BadSize u1_BadSize u2_BadSize u3_BadSize u5_BadSize "ValueError.__new__"))
    (e_BadParent : PySem.W.nsIn K mainGlobals "BadParent" = some (some (.ref C_BadParent)))
    (ob_BadParent : K.lookup C_BadParent = some (excClassObj nm_BadParent qn_BadParent C_BadParent N_BadParent bs_BadParent [.ref C_Refused, .type "ValueError", .type "Exception", .type "BaseException", .type "object"] true sn_BadParent sb_BadParent ab_BadParent col_BadParent dd_BadParent u0_BadParent u1_BadParent u2_BadParent u3_BadParent u5_BadParent "ValueError.__new__"))
    (e_Round : PySem.W.nsIn K mainGlobals "Round" = some (some (.ref C_Round)))
    (ob_Round : K.lookup C_Round = some (excClassObj nm_Round qn_Round C_Round N_Round bs_Round [.ref C_Refused, .type "ValueError", .type "Exception", .type "BaseException", .type "object"] true sn_Round sb_Round ab_Round col_Round dd_Round u0_Round u1_Round u2_Round u3_Round u5_Round "ValueError.__new__"))
    (sa_Refused : PySem.W.findIn K (.ref C_Refused) "__setattr__" = some (some (.builtin "object.__setattr__")))
    (eb_Refused : PySem.W.subIn K (.ref C_Refused) (.type "BaseException") = some true)
    (ty_Refused : PySem.W.typeIn K (.ref C_Refused) = some (.type "type"))
    (kp_Refused : PySem.W.keepIn K (.ref C_Refused) = true)
    (ic_Refused : PySem.W.findIn K (.ref C_Refused) "__init__" = some (some (.ref fI)))
    (nw_Refused : PySem.W.findIn K (.ref C_Refused) "what" = some none)
    (ga_Refused : PySem.W.findIn K (.ref C_Refused) "__getattribute__" = some (some (.builtin "BaseException.__getattribute__")))
    (gg_Refused : PySem.W.findIn K (.ref C_Refused) "__getattr__" = some none)
    (hd_Refused : PySem.W.hasDictIn K C_Refused = true)
    (sa_BadSize : PySem.W.findIn K (.ref C_BadSize) "__setattr__" = some (some (.builtin "object.__setattr__")))
    (eb_BadSize : PySem.W.subIn K (.ref C_BadSize) (.type "BaseException") = some true)
    (ty_BadSize : PySem.W.typeIn K (.ref C_BadSize) = some (.type "type"))
    (kp_BadSize : PySem.W.keepIn K (.ref C_BadSize) = true)
    (ic_BadSize : PySem.W.findIn K (.ref C_BadSize) "__init__" = some (some (.ref fI)))
    (nw_BadSize : PySem.W.findIn K (.ref C_BadSize) "what" = some none)
    (ga_BadSize : PySem.W.findIn K (.ref C_BadSize) "__getattribute__" = some (some (.builtin "BaseException.__getattribute__")))
    (gg_BadSize : PySem.W.findIn K (.ref C_BadSize) "__getattr__" = some none)
    (hd_BadSize : PySem.W.hasDictIn K C_BadSize = true)
    (sa_BadParent : PySem.W.findIn K (.ref C_BadParent) "__setattr__" = some (some (.builtin "object.__setattr__")))
    (eb_BadParent : PySem.W.subIn K (.ref C_BadParent) (.type "BaseException") = some true)
    (ty_BadParent : PySem.W.typeIn K (.ref C_BadParent) = some (.type "type"))
    (kp_BadParent : PySem.W.keepIn K (.ref C_BadParent) = true)
    (ic_BadParent : PySem.W.findIn K (.ref C_BadParent) "__init__" = some (some (.ref fI)))
    (nw_BadParent : PySem.W.findIn K (.ref C_BadParent) "what" = some none)
    (ga_BadParent : PySem.W.findIn K (.ref C_BadParent) "__getattribute__" = some (some (.builtin "BaseException.__getattribute__")))
    (gg_BadParent : PySem.W.findIn K (.ref C_BadParent) "__getattr__" = some none)
    (hd_BadParent : PySem.W.hasDictIn K C_BadParent = true)
    (sa_Round : PySem.W.findIn K (.ref C_Round) "__setattr__" = some (some (.builtin "object.__setattr__")))
    (eb_Round : PySem.W.subIn K (.ref C_Round) (.type "BaseException") = some true)
    (ty_Round : PySem.W.typeIn K (.ref C_Round) = some (.type "type"))
    (kp_Round : PySem.W.keepIn K (.ref C_Round) = true)
    (ic_Round : PySem.W.findIn K (.ref C_Round) "__init__" = some (some (.ref fI)))
    (nw_Round : PySem.W.findIn K (.ref C_Round) "what" = some none)
    (ga_Round : PySem.W.findIn K (.ref C_Round) "__getattribute__" = some (some (.builtin "BaseException.__getattribute__")))
    (gg_Round : PySem.W.findIn K (.ref C_Round) "__getattr__" = some none)
    (hd_Round : PySem.W.hasDictIn K C_Round = true)
    (lI : K.lookup fI = some ⟨ocI, odI, .func (PySem.W.fnOf "__init__" "Refused.__init__" (defArgs s_init) (defBody s_init) (defScope s_init) .none kVI dcI pmI anI cdI ctI), slI⟩) (qI : PySem.W.codeIn K cdI "Refused.__init__" = true) (rI : PySem.W.keepIn K (.ref fI) = true) (tI : PySem.W.typeIn K (.ref fI) = some (.type "function"))
    (t_BadSize_Refused : PySem.W.subIn K (.ref C_BadSize) (.ref C_Refused) = some true)
    (t_BadSize_BadSize : PySem.W.subIn K (.ref C_BadSize) (.ref C_BadSize) = some true)
    (t_BadSize_BadParent : PySem.W.subIn K (.ref C_BadSize) (.ref C_BadParent) = some false)
    (t_BadSize_Round : PySem.W.subIn K (.ref C_BadSize) (.ref C_Round) = some false)
    (t_BadParent_Refused : PySem.W.subIn K (.ref C_BadParent) (.ref C_Refused) = some true)
    (t_BadParent_BadSize : PySem.W.subIn K (.ref C_BadParent) (.ref C_BadSize) = some false)
    (t_BadParent_BadParent : PySem.W.subIn K (.ref C_BadParent) (.ref C_BadParent) = some true)
    (t_BadParent_Round : PySem.W.subIn K (.ref C_BadParent) (.ref C_Round) = some false)
    (t_Round_Refused : PySem.W.subIn K (.ref C_Round) (.ref C_Refused) = some true)
    (t_Round_BadSize : PySem.W.subIn K (.ref C_Round) (.ref C_BadSize) = some false)
    (t_Round_BadParent : PySem.W.subIn K (.ref C_Round) (.ref C_BadParent) = some false)
    (t_Round_Round : PySem.W.subIn K (.ref C_Round) (.ref C_Round) = some true) : TX K mg :=
  { f_is_number := f_is_number, d_is_number := _, F_is_number := fun_mk (st := s_is_number) l_is_number q_is_number r_is_number, g_is_number := PySem.W.mg_of X G a_is_number, b_is_number := (fun_mk (st := s_is_number) l_is_number q_is_number r_is_number).binds (ps := ["thing"]) (fun _ _ _ _ _ _ us hl => match us, hl with | [_], _ => rfl),
    f_is_number_row := f_is_number_row, d_is_number_row := _, F_is_number_row := fun_mk (st := s_is_number_row) l_is_number_row q_is_number_row r_is_number_row, g_is_number_row := PySem.W.mg_of X G a_is_number_row, b_is_number_row := (fun_mk (st := s_is_number_row) l_is_number_row q_is_number_row r_is_number_row).binds (ps := ["thing"]) (fun _ _ _ _ _ _ us hl => match us, hl with | [_], _ => rfl),
    f_check_size := f_check_size, d_check_size := _, F_check_size := fun_mk (st := s_check_size) l_check_size q_check_size r_check_size, g_check_size := PySem.W.mg_of X G a_check_size, b_check_size := (fun_mk (st := s_check_size) l_check_size q_check_size r_check_size).binds (ps := ["n"]) (fun _ _ _ _ _ _ us hl => match us, hl with | [_], _ => rfl),
    f__comes_to_door := f__comes_to_door, d__comes_to_door := _, F__comes_to_door := fun_mk (st := s__comes_to_door) l__comes_to_door q__comes_to_door r__comes_to_door, g__comes_to_door := PySem.W.mg_of X G a__comes_to_door, b__comes_to_door := (fun_mk (st := s__comes_to_door) l__comes_to_door q__comes_to_door r__comes_to_door).binds (ps := ["parents", "x"]) (fun _ _ _ _ _ _ us hl => match us, hl with | [_, _], _ => rfl),
    f_made_house := f_made_house, d_made_house := _, F_made_house := fun_mk (st := s_made_house) l_made_house q_made_house r_made_house, g_made_house := PySem.W.mg_of X G a_made_house, b_made_house := (fun_mk (st := s_made_house) l_made_house q_made_house r_made_house).binds (ps := ["parents"]) (fun _ _ _ _ _ _ us hl => match us, hl with | [_], _ => rfl),
    f_is_house := f_is_house, d_is_house := _, F_is_house := fun_mk (st := s_is_house) l_is_house q_is_house r_is_house, g_is_house := PySem.W.mg_of X G a_is_house, b_is_house := (fun_mk (st := s_is_house) l_is_house q_is_house r_is_house).binds (ps := ["thing"]) (fun _ _ _ _ _ _ us hl => match us, hl with | [_], _ => rfl),
    f__law_pool := f__law_pool, d__law_pool := _, F__law_pool := fun_mk (st := s__law_pool) l__law_pool q__law_pool r__law_pool, g__law_pool := PySem.W.mg_of X G a__law_pool, b__law_pool := (fun_mk (st := s__law_pool) l__law_pool q__law_pool r__law_pool).binds (ps := ["script", "k"]) (fun _ _ _ _ _ _ us hl => match us, hl with | [_, _], _ => rfl),
    f__law_take := f__law_take, d__law_take := _, F__law_take := fun_mk (st := s__law_take) l__law_take q__law_take r__law_take, g__law_take := PySem.W.mg_of X G a__law_take, b__law_take := (fun_mk (st := s__law_take) l__law_take q__law_take r__law_take).binds (ps := ["source", "top"]) (fun _ _ _ _ _ _ us hl => match us, hl with | [_, _], _ => rfl),
    f__law_one := f__law_one, d__law_one := _, F__law_one := fun_mk (st := s__law_one) l__law_one q__law_one r__law_one, g__law_one := PySem.W.mg_of X G a__law_one, b__law_one := (fun_mk (st := s__law_one) l__law_one q__law_one r__law_one).binds (ps := ["source", "things"]) (fun _ _ _ _ _ _ us hl => match us, hl with | [_, _], _ => rfl),
    f__law_shuffled := f__law_shuffled, d__law_shuffled := _, F__law_shuffled := fun_mk (st := s__law_shuffled) l__law_shuffled q__law_shuffled r__law_shuffled, g__law_shuffled := PySem.W.mg_of X G a__law_shuffled, b__law_shuffled := (fun_mk (st := s__law_shuffled) l__law_shuffled q__law_shuffled r__law_shuffled).binds (ps := ["source", "count"]) (fun _ _ _ _ _ _ us hl => match us, hl with | [_, _], _ => rfl),
    f__law_house := f__law_house, d__law_house := _, F__law_house := fun_mk (st := s__law_house) l__law_house q__law_house r__law_house, g__law_house := PySem.W.mg_of X G a__law_house, b__law_house := (fun_mk (st := s__law_house) l__law_house q__law_house r__law_house).binds (ps := ["source", "n"]) (fun _ _ _ _ _ _ us hl => match us, hl with | [_, _], _ => rfl),
    f__law_bent := f__law_bent, d__law_bent := _, F__law_bent := fun_mk (st := s__law_bent) l__law_bent q__law_bent r__law_bent, g__law_bent := PySem.W.mg_of X G a__law_bent, b__law_bent := (fun_mk (st := s__law_bent) l__law_bent q__law_bent r__law_bent).binds (ps := ["source", "house"]) (fun _ _ _ _ _ _ us hl => match us, hl with | [_, _], _ => rfl),
    f__law_due := f__law_due, d__law_due := _, F__law_due := fun_mk (st := s__law_due) l__law_due q__law_due r__law_due, g__law_due := PySem.W.mg_of X G a__law_due, b__law_due := (fun_mk (st := s__law_due) l__law_due q__law_due r__law_due).binds (ps := ["parents"]) (fun _ _ _ _ _ _ us hl => match us, hl with | [_], _ => rfl),
    f__law_told := f__law_told, d__law_told := _, F__law_told := fun_mk (st := s__law_told) l__law_told q__law_told r__law_told, g__law_told := PySem.W.mg_of X G a__law_told, b__law_told := (fun_mk (st := s__law_told) l__law_told q__law_told r__law_told).binds (ps := ["parents"]) (fun _ _ _ _ _ _ us hl => match us, hl with | [_], _ => rfl),
    f__law_right := f__law_right, d__law_right := _, F__law_right := fun_mk (st := s__law_right) l__law_right q__law_right r__law_right, g__law_right := PySem.W.mg_of X G a__law_right, b__law_right := (fun_mk (st := s__law_right) l__law_right q__law_right r__law_right).binds (ps := ["parents"]) (fun _ _ _ _ _ _ us hl => match us, hl with | [_], _ => rfl),
    f_law := f_law, d_law := _, F_law := fun_mk (st := s_law) l_law q_law r_law, g_law := PySem.W.mg_of X G a_law, b_law := (fun_mk (st := s_law) l_law q_law r_law).binds (ps := ["script"]) (fun _ _ _ _ _ _ us hl => match us, hl with | [_], _ => rfl),
    z_all := PySem.W.mg_none_of X G z_all,
    z_bool := PySem.W.mg_none_of X G z_bool,
    z_enumerate := PySem.W.mg_none_of X G z_enumerate,
    z_int := PySem.W.mg_none_of X G z_int,
    z_isinstance := PySem.W.mg_none_of X G z_isinstance,
    z_len := PySem.W.mg_none_of X G z_len,
    z_max := PySem.W.mg_none_of X G z_max,
    z_range := PySem.W.mg_none_of X G z_range,
    z_tuple := PySem.W.mg_none_of X G z_tuple,
    t_DOOR := t_DOOR, c_DOOR := PySem.W.mg_of X G c_DOOR,
    t_MOST_PLACES := t_MOST_PLACES, c_MOST_PLACES := PySem.W.mg_of X G c_MOST_PLACES,
    fI := fI, dI := _, FI := fun_mk (st := s_init) lI qI rI, bI := (fun_mk (st := s_init) lI qI rI).binds (ps := ["self", "what"]) (fun _ _ _ _ _ _ us hl => match us, hl with | [_, _], _ => rfl), tI := tI,
    C_Refused := C_Refused, gC_Refused := PySem.W.mg_of X G e_Refused, x_Refused := { T := ⟨⟨_, _, _, _, _, _, _, _, _, _, _, _, _, _, _, ob_Refused, by rfl⟩, sa_Refused, eb_Refused, ty_Refused, kp_Refused⟩, iC := ic_Refused, no := nw_Refused }, k_Refused := { xf := ⟨ga_Refused, gg_Refused, eb_Refused, hd_Refused⟩, no := nw_Refused },
    C_BadSize := C_BadSize, gC_BadSize := PySem.W.mg_of X G e_BadSize, x_BadSize := { T := ⟨⟨_, _, _, _, _, _, _, _, _, _, _, _, _, _, _, ob_BadSize, by rfl⟩, sa_BadSize, eb_BadSize, ty_BadSize, kp_BadSize⟩, iC := ic_BadSize, no := nw_BadSize }, k_BadSize := { xf := ⟨ga_BadSize, gg_BadSize, eb_BadSize, hd_BadSize⟩, no := nw_BadSize },
    C_BadParent := C_BadParent, gC_BadParent := PySem.W.mg_of X G e_BadParent, x_BadParent := { T := ⟨⟨_, _, _, _, _, _, _, _, _, _, _, _, _, _, _, ob_BadParent, by rfl⟩, sa_BadParent, eb_BadParent, ty_BadParent, kp_BadParent⟩, iC := ic_BadParent, no := nw_BadParent }, k_BadParent := { xf := ⟨ga_BadParent, gg_BadParent, eb_BadParent, hd_BadParent⟩, no := nw_BadParent },
    C_Round := C_Round, gC_Round := PySem.W.mg_of X G e_Round, x_Round := { T := ⟨⟨_, _, _, _, _, _, _, _, _, _, _, _, _, _, _, ob_Round, by rfl⟩, sa_Round, eb_Round, ty_Round, kp_Round⟩, iC := ic_Round, no := nw_Round }, k_Round := { xf := ⟨ga_Round, gg_Round, eb_Round, hd_Round⟩, no := nw_Round },
    tb := fun c d b hm C D' hc hd => by
      simp only [tbl, List.mem_cons, List.not_mem_nil, or_false, Prod.mk.injEq] at hm
      rcases hm with ⟨⟨rfl, rfl⟩, rfl⟩ | ⟨⟨rfl, rfl⟩, rfl⟩ | ⟨⟨rfl, rfl⟩, rfl⟩ | ⟨⟨rfl, rfl⟩, rfl⟩ | ⟨⟨rfl, rfl⟩, rfl⟩ | ⟨⟨rfl, rfl⟩, rfl⟩ | ⟨⟨rfl, rfl⟩, rfl⟩ | ⟨⟨rfl, rfl⟩, rfl⟩ | ⟨⟨rfl, rfl⟩, rfl⟩ | ⟨⟨rfl, rfl⟩, rfl⟩ | ⟨⟨rfl, rfl⟩, rfl⟩ | ⟨⟨rfl, rfl⟩, rfl⟩
      · exact tb_one (PySem.W.mg_of X G e_BadSize) (PySem.W.mg_of X G e_Refused) hc hd (PySem.W.exm_ref eb_Refused hd_Refused ty_Refused t_BadSize_Refused)
      · exact tb_one (PySem.W.mg_of X G e_BadSize) (PySem.W.mg_of X G e_BadSize) hc hd (PySem.W.exm_ref eb_BadSize hd_BadSize ty_BadSize t_BadSize_BadSize)
      · exact tb_one (PySem.W.mg_of X G e_BadSize) (PySem.W.mg_of X G e_BadParent) hc hd (PySem.W.exm_ref eb_BadParent hd_BadParent ty_BadParent t_BadSize_BadParent)
      · exact tb_one (PySem.W.mg_of X G e_BadSize) (PySem.W.mg_of X G e_Round) hc hd (PySem.W.exm_ref eb_Round hd_Round ty_Round t_BadSize_Round)
      · exact tb_one (PySem.W.mg_of X G e_BadParent) (PySem.W.mg_of X G e_Refused) hc hd (PySem.W.exm_ref eb_Refused hd_Refused ty_Refused t_BadParent_Refused)
      · exact tb_one (PySem.W.mg_of X G e_BadParent) (PySem.W.mg_of X G e_BadSize) hc hd (PySem.W.exm_ref eb_BadSize hd_BadSize ty_BadSize t_BadParent_BadSize)
      · exact tb_one (PySem.W.mg_of X G e_BadParent) (PySem.W.mg_of X G e_BadParent) hc hd (PySem.W.exm_ref eb_BadParent hd_BadParent ty_BadParent t_BadParent_BadParent)
      · exact tb_one (PySem.W.mg_of X G e_BadParent) (PySem.W.mg_of X G e_Round) hc hd (PySem.W.exm_ref eb_Round hd_Round ty_Round t_BadParent_Round)
      · exact tb_one (PySem.W.mg_of X G e_Round) (PySem.W.mg_of X G e_Refused) hc hd (PySem.W.exm_ref eb_Refused hd_Refused ty_Refused t_Round_Refused)
      · exact tb_one (PySem.W.mg_of X G e_Round) (PySem.W.mg_of X G e_BadSize) hc hd (PySem.W.exm_ref eb_BadSize hd_BadSize ty_BadSize t_Round_BadSize)
      · exact tb_one (PySem.W.mg_of X G e_Round) (PySem.W.mg_of X G e_BadParent) hc hd (PySem.W.exm_ref eb_BadParent hd_BadParent ty_BadParent t_Round_BadParent)
      · exact tb_one (PySem.W.mg_of X G e_Round) (PySem.W.mg_of X G e_Round) hc hd (PySem.W.exm_ref eb_Round hd_Round ty_Round t_Round_Round) }
theorem all_mk {l : PySem.W.OpenLaw} {w : World} {K : PySem.W.Frag} {h : Heap} {mg : Str → Option Value} {fa : Addr} (X : K.In h) (G : h.Ns mainGlobals mg) (hfa : mg "law" = some (.ref fa))
    {f_is_number : Addr} {od_is_number an_is_number : Option Addr} {sl_is_number : Array (Option Value)} {oc_is_number kV_is_number dc_is_number pm_is_number cd_is_number ct_is_number : Value}
    {f_is_number_row : Addr} {od_is_number_row an_is_number_row : Option Addr} {sl_is_number_row : Array (Option Value)} {oc_is_number_row kV_is_number_row dc_is_number_row pm_is_number_row cd_is_number_row ct_is_number_row : Value}
    {f_check_size : Addr} {od_check_size an_check_size : Option Addr} {sl_check_size : Array (Option Value)} {oc_check_size kV_check_size dc_check_size pm_check_size cd_check_size ct_check_size : Value}
    {f__comes_to_door : Addr} {od__comes_to_door an__comes_to_door : Option Addr} {sl__comes_to_door : Array (Option Value)} {oc__comes_to_door kV__comes_to_door dc__comes_to_door pm__comes_to_door cd__comes_to_door ct__comes_to_door : Value}
    {f_made_house : Addr} {od_made_house an_made_house : Option Addr} {sl_made_house : Array (Option Value)} {oc_made_house kV_made_house dc_made_house pm_made_house cd_made_house ct_made_house : Value}
    {f_is_house : Addr} {od_is_house an_is_house : Option Addr} {sl_is_house : Array (Option Value)} {oc_is_house kV_is_house dc_is_house pm_is_house cd_is_house ct_is_house : Value}
    {f__law_pool : Addr} {od__law_pool an__law_pool : Option Addr} {sl__law_pool : Array (Option Value)} {oc__law_pool kV__law_pool dc__law_pool pm__law_pool cd__law_pool ct__law_pool : Value}
    {f__law_take : Addr} {od__law_take an__law_take : Option Addr} {sl__law_take : Array (Option Value)} {oc__law_take kV__law_take dc__law_take pm__law_take cd__law_take ct__law_take : Value}
    {f__law_one : Addr} {od__law_one an__law_one : Option Addr} {sl__law_one : Array (Option Value)} {oc__law_one kV__law_one dc__law_one pm__law_one cd__law_one ct__law_one : Value}
    {f__law_shuffled : Addr} {od__law_shuffled an__law_shuffled : Option Addr} {sl__law_shuffled : Array (Option Value)} {oc__law_shuffled kV__law_shuffled dc__law_shuffled pm__law_shuffled cd__law_shuffled ct__law_shuffled : Value}
    {f__law_house : Addr} {od__law_house an__law_house : Option Addr} {sl__law_house : Array (Option Value)} {oc__law_house kV__law_house dc__law_house pm__law_house cd__law_house ct__law_house : Value}
    {f__law_bent : Addr} {od__law_bent an__law_bent : Option Addr} {sl__law_bent : Array (Option Value)} {oc__law_bent kV__law_bent dc__law_bent pm__law_bent cd__law_bent ct__law_bent : Value}
    {f__law_due : Addr} {od__law_due an__law_due : Option Addr} {sl__law_due : Array (Option Value)} {oc__law_due kV__law_due dc__law_due pm__law_due cd__law_due ct__law_due : Value}
    {f__law_told : Addr} {od__law_told an__law_told : Option Addr} {sl__law_told : Array (Option Value)} {oc__law_told kV__law_told dc__law_told pm__law_told cd__law_told ct__law_told : Value}
    {f__law_right : Addr} {od__law_right an__law_right : Option Addr} {sl__law_right : Array (Option Value)} {oc__law_right kV__law_right dc__law_right pm__law_right cd__law_right ct__law_right : Value}
    {f_law : Addr} {od_law an_law : Option Addr} {sl_law : Array (Option Value)} {oc_law kV_law dc_law pm_law cd_law ct_law : Value}
    {t_DOOR : Tok}
    {t_MOST_PLACES : Tok}
    {fI : Addr} {odI anI : Option Addr} {slI : Array (Option Value)} {ocI kVI dcI pmI cdI ctI : Value}
    {C_Refused : Addr} {nm_Refused qn_Refused : Str} {N_Refused : Addr} {bs_Refused : List Value} {sn_Refused : List Str} {sb_Refused : List Value} {ab_Refused : Bool} {col_Refused : Option Bool} {dd_Refused : Option Addr} {u0_Refused u1_Refused u2_Refused u3_Refused u5_Refused : Option Value}
    {C_BadSize : Addr} {nm_BadSize qn_BadSize : Str} {N_BadSize : Addr} {bs_BadSize : List Value} {sn_BadSize : List Str} {sb_BadSize : List Value} {ab_BadSize : Bool} {col_BadSize : Option Bool} {dd_BadSize : Option Addr} {u0_BadSize u1_BadSize u2_BadSize u3_BadSize u5_BadSize : Option Value}
    {C_BadParent : Addr} {nm_BadParent qn_BadParent : Str} {N_BadParent : Addr} {bs_BadParent : List Value} {sn_BadParent : List Str} {sb_BadParent : List Value} {ab_BadParent : Bool} {col_BadParent : Option Bool} {dd_BadParent : Option Addr} {u0_BadParent u1_BadParent u2_BadParent u3_BadParent u5_BadParent : Option Value}
    {C_Round : Addr} {nm_Round qn_Round : Str} {N_Round : Addr} {bs_Round : List Value} {sn_Round : List Str} {sb_Round : List Value} {ab_Round : Bool} {col_Round : Option Bool} {dd_Round : Option Addr} {u0_Round u1_Round u2_Round u3_Round u5_Round : Option Value}
    (a_is_number : PySem.W.nsIn K mainGlobals "is_number" = some (some (.ref f_is_number))) (l_is_number : K.lookup f_is_number = some ⟨oc_is_number, od_is_number, .func (PySem.W.fnOf "is_number" "is_number" (defArgs s_is_number) (defBody s_is_number) (defScope s_is_number) .none kV_is_number dc_is_number pm_is_number an_is_number cd_is_number ct_is_number), sl_is_number⟩) (q_is_number : PySem.W.codeIn K cd_is_number "is_number" = true) (r_is_number : PySem.W.keepIn K (.ref f_is_number) = true)
    (a_is_number_row : PySem.W.nsIn K mainGlobals "is_number_row" = some (some (.ref f_is_number_row))) (l_is_number_row : K.lookup f_is_number_row = some ⟨oc_is_number_row, od_is_number_row, .func (PySem.W.fnOf "is_number_row" "is_number_row" (defArgs s_is_number_row) (defBody s_is_number_row) (defScope s_is_number_row) .none kV_is_number_row dc_is_number_row pm_is_number_row an_is_number_row cd_is_number_row ct_is_number_row), sl_is_number_row⟩) (q_is_number_row : PySem.W.codeIn K cd_is_number_row "is_number_row" = true) (r_is_number_row : PySem.W.keepIn K (.ref f_is_number_row) = true)
    (a_check_size : PySem.W.nsIn K mainGlobals "check_size" = some (some (.ref f_check_size))) (l_check_size : K.lookup f_check_size = some ⟨oc_check_size, od_check_size, .func (PySem.W.fnOf "check_size" "check_size" (defArgs s_check_size) (defBody s_check_size) (defScope s_check_size) .none kV_check_size dc_check_size pm_check_size an_check_size cd_check_size ct_check_size), sl_check_size⟩) (q_check_size : PySem.W.codeIn K cd_check_size "check_size" = true) (r_check_size : PySem.W.keepIn K (.ref f_check_size) = true)
    (a__comes_to_door : PySem.W.nsIn K mainGlobals "_comes_to_door" = some (some (.ref f__comes_to_door))) (l__comes_to_door : K.lookup f__comes_to_door = some ⟨oc__comes_to_door, od__comes_to_door, .func (PySem.W.fnOf "_comes_to_door" "_comes_to_door" (defArgs s__comes_to_door) (defBody s__comes_to_door) (defScope s__comes_to_door) .none kV__comes_to_door dc__comes_to_door pm__comes_to_door an__comes_to_door cd__comes_to_door ct__comes_to_door), sl__comes_to_door⟩) (q__comes_to_door : PySem.W.codeIn K cd__comes_to_door "_comes_to_door" = true) (r__comes_to_door : PySem.W.keepIn K (.ref f__comes_to_door) = true)
    (a_made_house : PySem.W.nsIn K mainGlobals "made_house" = some (some (.ref f_made_house))) (l_made_house : K.lookup f_made_house = some ⟨oc_made_house, od_made_house, .func (PySem.W.fnOf "made_house" "made_house" (defArgs s_made_house) (defBody s_made_house) (defScope s_made_house) .none kV_made_house dc_made_house pm_made_house an_made_house cd_made_house ct_made_house), sl_made_house⟩) (q_made_house : PySem.W.codeIn K cd_made_house "made_house" = true) (r_made_house : PySem.W.keepIn K (.ref f_made_house) = true)
    (a_is_house : PySem.W.nsIn K mainGlobals "is_house" = some (some (.ref f_is_house))) (l_is_house : K.lookup f_is_house = some ⟨oc_is_house, od_is_house, .func (PySem.W.fnOf "is_house" "is_house" (defArgs s_is_house) (defBody s_is_house) (defScope s_is_house) .none kV_is_house dc_is_house pm_is_house an_is_house cd_is_house ct_is_house), sl_is_house⟩) (q_is_house : PySem.W.codeIn K cd_is_house "is_house" = true) (r_is_house : PySem.W.keepIn K (.ref f_is_house) = true)
    (a__law_pool : PySem.W.nsIn K mainGlobals "_law_pool" = some (some (.ref f__law_pool))) (l__law_pool : K.lookup f__law_pool = some ⟨oc__law_pool, od__law_pool, .func (PySem.W.fnOf "_law_pool" "_law_pool" (defArgs s__law_pool) (defBody s__law_pool) (defScope s__law_pool) .none kV__law_pool dc__law_pool pm__law_pool an__law_pool cd__law_pool ct__law_pool), sl__law_pool⟩) (q__law_pool : PySem.W.codeIn K cd__law_pool "_law_pool" = true) (r__law_pool : PySem.W.keepIn K (.ref f__law_pool) = true)
    (a__law_take : PySem.W.nsIn K mainGlobals "_law_take" = some (some (.ref f__law_take))) (l__law_take : K.lookup f__law_take = some ⟨oc__law_take, od__law_take, .func (PySem.W.fnOf "_law_take" "_law_take" (defArgs s__law_take) (defBody s__law_take) (defScope s__law_take) .none kV__law_take dc__law_take pm__law_take an__law_take cd__law_take ct__law_take), sl__law_take⟩) (q__law_take : PySem.W.codeIn K cd__law_take "_law_take" = true) (r__law_take : PySem.W.keepIn K (.ref f__law_take) = true)
    (a__law_one : PySem.W.nsIn K mainGlobals "_law_one" = some (some (.ref f__law_one))) (l__law_one : K.lookup f__law_one = some ⟨oc__law_one, od__law_one, .func (PySem.W.fnOf "_law_one" "_law_one" (defArgs s__law_one) (defBody s__law_one) (defScope s__law_one) .none kV__law_one dc__law_one pm__law_one an__law_one cd__law_one ct__law_one), sl__law_one⟩) (q__law_one : PySem.W.codeIn K cd__law_one "_law_one" = true) (r__law_one : PySem.W.keepIn K (.ref f__law_one) = true)
    (a__law_shuffled : PySem.W.nsIn K mainGlobals "_law_shuffled" = some (some (.ref f__law_shuffled))) (l__law_shuffled : K.lookup f__law_shuffled = some ⟨oc__law_shuffled, od__law_shuffled, .func (PySem.W.fnOf "_law_shuffled" "_law_shuffled" (defArgs s__law_shuffled) (defBody s__law_shuffled) (defScope s__law_shuffled) .none kV__law_shuffled dc__law_shuffled pm__law_shuffled an__law_shuffled cd__law_shuffled ct__law_shuffled), sl__law_shuffled⟩) (q__law_shuffled : PySem.W.codeIn K cd__law_shuffled "_law_shuffled" = true) (r__law_shuffled : PySem.W.keepIn K (.ref f__law_shuffled) = true)
    (a__law_house : PySem.W.nsIn K mainGlobals "_law_house" = some (some (.ref f__law_house))) (l__law_house : K.lookup f__law_house = some ⟨oc__law_house, od__law_house, .func (PySem.W.fnOf "_law_house" "_law_house" (defArgs s__law_house) (defBody s__law_house) (defScope s__law_house) .none kV__law_house dc__law_house pm__law_house an__law_house cd__law_house ct__law_house), sl__law_house⟩) (q__law_house : PySem.W.codeIn K cd__law_house "_law_house" = true) (r__law_house : PySem.W.keepIn K (.ref f__law_house) = true)
    (a__law_bent : PySem.W.nsIn K mainGlobals "_law_bent" = some (some (.ref f__law_bent))) (l__law_bent : K.lookup f__law_bent = some ⟨oc__law_bent, od__law_bent, .func (PySem.W.fnOf "_law_bent" "_law_bent" (defArgs s__law_bent) (defBody s__law_bent) (defScope s__law_bent) .none kV__law_bent dc__law_bent pm__law_bent an__law_bent cd__law_bent ct__law_bent), sl__law_bent⟩) (q__law_bent : PySem.W.codeIn K cd__law_bent "_law_bent" = true) (r__law_bent : PySem.W.keepIn K (.ref f__law_bent) = true)
    (a__law_due : PySem.W.nsIn K mainGlobals "_law_due" = some (some (.ref f__law_due))) (l__law_due : K.lookup f__law_due = some ⟨oc__law_due, od__law_due, .func (PySem.W.fnOf "_law_due" "_law_due" (defArgs s__law_due) (defBody s__law_due) (defScope s__law_due) .none kV__law_due dc__law_due pm__law_due an__law_due cd__law_due ct__law_due), sl__law_due⟩) (q__law_due : PySem.W.codeIn K cd__law_due "_law_due" = true) (r__law_due : PySem.W.keepIn K (.ref f__law_due) = true)
    (a__law_told : PySem.W.nsIn K mainGlobals "_law_told" = some (some (.ref f__law_told))) (l__law_told : K.lookup f__law_told = some ⟨oc__law_told, od__law_told, .func (PySem.W.fnOf "_law_told" "_law_told" (defArgs s__law_told) (defBody s__law_told) (defScope s__law_told) .none kV__law_told dc__law_told pm__law_told an__law_told cd__law_told ct__law_told), sl__law_told⟩) (q__law_told : PySem.W.codeIn K cd__law_told "_law_told" = true) (r__law_told : PySem.W.keepIn K (.ref f__law_told) = true)
    (a__law_right : PySem.W.nsIn K mainGlobals "_law_right" = some (some (.ref f__law_right))) (l__law_right : K.lookup f__law_right = some ⟨oc__law_right, od__law_right, .func (PySem.W.fnOf "_law_right" "_law_right" (defArgs s__law_right) (defBody s__law_right) (defScope s__law_right) .none kV__law_right dc__law_right pm__law_right an__law_right cd__law_right ct__law_right), sl__law_right⟩) (q__law_right : PySem.W.codeIn K cd__law_right "_law_right" = true) (r__law_right : PySem.W.keepIn K (.ref f__law_right) = true)
    (a_law : PySem.W.nsIn K mainGlobals "law" = some (some (.ref f_law))) (l_law : K.lookup f_law = some ⟨oc_law, od_law, .func (PySem.W.fnOf "law" "law" (defArgs s_law) (defBody s_law) (defScope s_law) .none kV_law dc_law pm_law an_law cd_law ct_law), sl_law⟩) (q_law : PySem.W.codeIn K cd_law "law" = true) (r_law : PySem.W.keepIn K (.ref f_law) = true)
    (z_all : PySem.W.nsIn K mainGlobals "all" = some none)
    (z_bool : PySem.W.nsIn K mainGlobals "bool" = some none)
    (z_enumerate : PySem.W.nsIn K mainGlobals "enumerate" = some none)
    (z_int : PySem.W.nsIn K mainGlobals "int" = some none)
    (z_isinstance : PySem.W.nsIn K mainGlobals "isinstance" = some none)
    (z_len : PySem.W.nsIn K mainGlobals "len" = some none)
    (z_max : PySem.W.nsIn K mainGlobals "max" = some none)
    (z_range : PySem.W.nsIn K mainGlobals "range" = some none)
    (z_tuple : PySem.W.nsIn K mainGlobals "tuple" = some none)
    (c_DOOR : PySem.W.nsIn K mainGlobals "DOOR" = some (some (.int (-1) t_DOOR)))
    (c_MOST_PLACES : PySem.W.nsIn K mainGlobals "MOST_PLACES" = some (some (.int (16) t_MOST_PLACES)))
    (e_Refused : PySem.W.nsIn K mainGlobals "Refused" = some (some (.ref C_Refused)))
    (ob_Refused : K.lookup C_Refused = some (excClassObj nm_Refused qn_Refused C_Refused N_Refused bs_Refused [.type "ValueError", .type "Exception", .type "BaseException", .type "object"] true sn_Refused sb_Refused ab_Refused col_Refused dd_Refused u0_Refused u1_Refused u2_Refused u3_Refused u5_Refused "ValueError.__new__"))
    (e_BadSize : PySem.W.nsIn K mainGlobals "BadSize" = some (some (.ref C_BadSize)))
    (ob_BadSize : K.lookup C_BadSize = some (excClassObj nm_BadSize qn_BadSize C_BadSize N_BadSize bs_BadSize [.ref C_Refused, .type "ValueError", .type "Exception", .type "BaseException", .type "object"] true sn_BadSize sb_BadSize ab_BadSize col_BadSize dd_BadSize u0_BadSize u1_BadSize u2_BadSize u3_BadSize u5_BadSize "ValueError.__new__"))
    (e_BadParent : PySem.W.nsIn K mainGlobals "BadParent" = some (some (.ref C_BadParent)))
    (ob_BadParent : K.lookup C_BadParent = some (excClassObj nm_BadParent qn_BadParent C_BadParent N_BadParent bs_BadParent [.ref C_Refused, .type "ValueError", .type "Exception", .type "BaseException", .type "object"] true sn_BadParent sb_BadParent ab_BadParent col_BadParent dd_BadParent u0_BadParent u1_BadParent u2_BadParent u3_BadParent u5_BadParent "ValueError.__new__"))
    (e_Round : PySem.W.nsIn K mainGlobals "Round" = some (some (.ref C_Round)))
    (ob_Round : K.lookup C_Round = some (excClassObj nm_Round qn_Round C_Round N_Round bs_Round [.ref C_Refused, .type "ValueError", .type "Exception", .type "BaseException", .type "object"] true sn_Round sb_Round ab_Round col_Round dd_Round u0_Round u1_Round u2_Round u3_Round u5_Round "ValueError.__new__"))
    (sa_Refused : PySem.W.findIn K (.ref C_Refused) "__setattr__" = some (some (.builtin "object.__setattr__")))
    (eb_Refused : PySem.W.subIn K (.ref C_Refused) (.type "BaseException") = some true)
    (ty_Refused : PySem.W.typeIn K (.ref C_Refused) = some (.type "type"))
    (kp_Refused : PySem.W.keepIn K (.ref C_Refused) = true)
    (ic_Refused : PySem.W.findIn K (.ref C_Refused) "__init__" = some (some (.ref fI)))
    (nw_Refused : PySem.W.findIn K (.ref C_Refused) "what" = some none)
    (ga_Refused : PySem.W.findIn K (.ref C_Refused) "__getattribute__" = some (some (.builtin "BaseException.__getattribute__")))
    (gg_Refused : PySem.W.findIn K (.ref C_Refused) "__getattr__" = some none)
    (hd_Refused : PySem.W.hasDictIn K C_Refused = true)
    (sa_BadSize : PySem.W.findIn K (.ref C_BadSize) "__setattr__" = some (some (.builtin "object.__setattr__")))
    (eb_BadSize : PySem.W.subIn K (.ref C_BadSize) (.type "BaseException") = some true)
    (ty_BadSize : PySem.W.typeIn K (.ref C_BadSize) = some (.type "type"))
    (kp_BadSize : PySem.W.keepIn K (.ref C_BadSize) = true)
    (ic_BadSize : PySem.W.findIn K (.ref C_BadSize) "__init__" = some (some (.ref fI)))
    (nw_BadSize : PySem.W.findIn K (.ref C_BadSize) "what" = some none)
    (ga_BadSize : PySem.W.findIn K (.ref C_BadSize) "__getattribute__" = some (some (.builtin "BaseException.__getattribute__")))
    (gg_BadSize : PySem.W.findIn K (.ref C_BadSize) "__getattr__" = some none)
    (hd_BadSize : PySem.W.hasDictIn K C_BadSize = true)
    (sa_BadParent : PySem.W.findIn K (.ref C_BadParent) "__setattr__" = some (some (.builtin "object.__setattr__")))
    (eb_BadParent : PySem.W.subIn K (.ref C_BadParent) (.type "BaseException") = some true)
    (ty_BadParent : PySem.W.typeIn K (.ref C_BadParent) = some (.type "type"))
    (kp_BadParent : PySem.W.keepIn K (.ref C_BadParent) = true)
    (ic_BadParent : PySem.W.findIn K (.ref C_BadParent) "__init__" = some (some (.ref fI)))
    (nw_BadParent : PySem.W.findIn K (.ref C_BadParent) "what" = some none)
    (ga_BadParent : PySem.W.findIn K (.ref C_BadParent) "__getattribute__" = some (some (.builtin "BaseException.__getattribute__")))
    (gg_BadParent : PySem.W.findIn K (.ref C_BadParent) "__getattr__" = some none)
    (hd_BadParent : PySem.W.hasDictIn K C_BadParent = true)
    (sa_Round : PySem.W.findIn K (.ref C_Round) "__setattr__" = some (some (.builtin "object.__setattr__")))
    (eb_Round : PySem.W.subIn K (.ref C_Round) (.type "BaseException") = some true)
    (ty_Round : PySem.W.typeIn K (.ref C_Round) = some (.type "type"))
    (kp_Round : PySem.W.keepIn K (.ref C_Round) = true)
    (ic_Round : PySem.W.findIn K (.ref C_Round) "__init__" = some (some (.ref fI)))
    (nw_Round : PySem.W.findIn K (.ref C_Round) "what" = some none)
    (ga_Round : PySem.W.findIn K (.ref C_Round) "__getattribute__" = some (some (.builtin "BaseException.__getattribute__")))
    (gg_Round : PySem.W.findIn K (.ref C_Round) "__getattr__" = some none)
    (hd_Round : PySem.W.hasDictIn K C_Round = true)
    (lI : K.lookup fI = some ⟨ocI, odI, .func (PySem.W.fnOf "__init__" "Refused.__init__" (defArgs s_init) (defBody s_init) (defScope s_init) .none kVI dcI pmI anI cdI ctI), slI⟩) (qI : PySem.W.codeIn K cdI "Refused.__init__" = true) (rI : PySem.W.keepIn K (.ref fI) = true) (tI : PySem.W.typeIn K (.ref fI) = some (.type "function"))
    (t_BadSize_Refused : PySem.W.subIn K (.ref C_BadSize) (.ref C_Refused) = some true)
    (t_BadSize_BadSize : PySem.W.subIn K (.ref C_BadSize) (.ref C_BadSize) = some true)
    (t_BadSize_BadParent : PySem.W.subIn K (.ref C_BadSize) (.ref C_BadParent) = some false)
    (t_BadSize_Round : PySem.W.subIn K (.ref C_BadSize) (.ref C_Round) = some false)
    (t_BadParent_Refused : PySem.W.subIn K (.ref C_BadParent) (.ref C_Refused) = some true)
    (t_BadParent_BadSize : PySem.W.subIn K (.ref C_BadParent) (.ref C_BadSize) = some false)
    (t_BadParent_BadParent : PySem.W.subIn K (.ref C_BadParent) (.ref C_BadParent) = some true)
    (t_BadParent_Round : PySem.W.subIn K (.ref C_BadParent) (.ref C_Round) = some false)
    (t_Round_Refused : PySem.W.subIn K (.ref C_Round) (.ref C_Refused) = some true)
    (t_Round_BadSize : PySem.W.subIn K (.ref C_Round) (.ref C_BadSize) = some false)
    (t_Round_BadParent : PySem.W.subIn K (.ref C_Round) (.ref C_BadParent) = some false)
    (t_Round_Round : PySem.W.subIn K (.ref C_Round) (.ref C_Round) = some true) :
    ∃ fd : FuncData, (∀ (s : Shared) (v : Value), BindsTo s fd ⟨[v], []⟩ [("script", v)]) ∧ ∀ base : Heap, K.In base → base.Ns mainGlobals mg → FnOk l.prog w K mg base (L2.CX l.prog w) 7 fa fd ["script"] (spEnd K) := by
  have e := hfa.symm.trans (PySem.W.mg_of X G a_law)
  cases e
  exact ⟨PySem.W.fnOf "law" "law" (defArgs s_law) (defBody s_law) (defScope s_law) .none kV_law dc_law pm_law an_law cd_law ct_law, fun s v => .of_eq rfl, fun base _ _ => (ok_law (mkT X G a_is_number l_is_number q_is_number r_is_number a_is_number_row l_is_number_row q_is_number_row r_is_number_row a_check_size l_check_size q_check_size r_check_size a__comes_to_door l__comes_to_door q__comes_to_door r__comes_to_door a_made_house l_made_house q_made_house r_made_house a_is_house l_is_house q_is_house r_is_house a__law_pool l__law_pool q__law_pool r__law_pool a__law_take l__law_take q__law_take r__law_take a__law_one l__law_one q__law_one r__law_one a__law_shuffled l__law_shuffled q__law_shuffled r__law_shuffled a__law_house l__law_house q__law_house r__law_house a__law_bent l__law_bent q__law_bent r__law_bent a__law_due l__law_due q__law_due r__law_due a__law_told l__law_told q__law_told r__law_told a__law_right l__law_right q__law_right r__law_right a_law l_law q_law r_law z_all z_bool z_enumerate z_int z_isinstance z_len z_max z_range z_tuple c_DOOR c_MOST_PLACES e_Refused ob_Refused e_BadSize ob_BadSize e_BadParent ob_BadParent e_Round ob_Round sa_Refused eb_Refused ty_Refused kp_Refused ic_Refused nw_Refused ga_Refused gg_Refused hd_Refused sa_BadSize eb_BadSize ty_BadSize kp_BadSize ic_BadSize nw_BadSize ga_BadSize gg_BadSize hd_BadSize sa_BadParent eb_BadParent ty_BadParent kp_BadParent ic_BadParent nw_BadParent ga_BadParent gg_BadParent hd_BadParent sa_Round eb_Round ty_Round kp_Round ic_Round nw_Round ga_Round gg_Round hd_Round lI qI rI tI t_BadSize_Refused t_BadSize_BadSize t_BadSize_BadParent t_BadSize_Round t_BadParent_Refused t_BadParent_BadSize t_BadParent_BadParent t_BadParent_Round t_Round_Refused t_Round_BadSize t_Round_BadParent t_Round_Round)).imp fun vs H Q E h => end_of math h⟩
end Law
open PySem PySem.W PyProof.Rows
set_option maxHeartbeats 0 in
theorem PySem.Challenge.cw_nearlords_k08_houses_and_their_errors_holds : PySem.Challenge.rw_nearlords_k08_houses_and_their_errors.Holds := by
  w_on; o_law; k_head; (case hw => w_witness2)
  k_fill
  refine L2.walk_of (l := PySem.Challenge.rw_nearlords_k08_houses_and_their_errors) (n := 63) (k := 7) (x := "script") (CX := fun w => L2.CX PySem.Challenge.rw_nearlords_k08_houses_and_their_errors.prog w) (sp := fun w => VS.spEnd _) rfl (by decide) rfl ⟨rfl, by decide, by decide⟩ (fun w h Y => PySem.W.kIn_of Y) ?F (fun _ _ a ns hl _ hS => ⟨a, ns, rfl, hS, hl, fun _ => rfl⟩) (fun _ _ _ _ _ h => VS.cx_no h)
  case F =>
    intro w mg fa h KX G hmg
    refine' Law.all_mk KX G hmg ?a_is_number ?l_is_number ?q_is_number ?r_is_number ?a_is_number_row ?l_is_number_row ?q_is_number_row ?r_is_number_row ?a_check_size ?l_check_size ?q_check_size ?r_check_size ?a__comes_to_door ?l__comes_to_door ?q__comes_to_door ?r__comes_to_door ?a_made_house ?l_made_house ?q_made_house ?r_made_house ?a_is_house ?l_is_house ?q_is_house ?r_is_house ?a__law_pool ?l__law_pool ?q__law_pool ?r__law_pool ?a__law_take ?l__law_take ?q__law_take ?r__law_take ?a__law_one ?l__law_one ?q__law_one ?r__law_one ?a__law_shuffled ?l__law_shuffled ?q__law_shuffled ?r__law_shuffled ?a__law_house ?l__law_house ?q__law_house ?r__law_house ?a__law_bent ?l__law_bent ?q__law_bent ?r__law_bent ?a__law_due ?l__law_due ?q__law_due ?r__law_due ?a__law_told ?l__law_told ?q__law_told ?r__law_told ?a__law_right ?l__law_right ?q__law_right ?r__law_right ?a_law ?l_law ?q_law ?r_law ?z_all ?z_bool ?z_enumerate ?z_int ?z_isinstance ?z_len ?z_max ?z_range ?z_tuple ?c_DOOR ?c_MOST_PLACES ?e_Refused ?ob_Refused ?e_BadSize ?ob_BadSize ?e_BadParent ?ob_BadParent ?e_Round ?ob_Round ?sa_Refused ?eb_Refused ?ty_Refused ?kp_Refused ?ic_Refused ?nw_Refused ?ga_Refused ?gg_Refused ?hd_Refused ?sa_BadSize ?eb_BadSize ?ty_BadSize ?kp_BadSize ?ic_BadSize ?nw_BadSize ?ga_BadSize ?gg_BadSize ?hd_BadSize ?sa_BadParent ?eb_BadParent ?ty_BadParent ?kp_BadParent ?ic_BadParent ?nw_BadParent ?ga_BadParent ?gg_BadParent ?hd_BadParent ?sa_Round ?eb_Round ?ty_Round ?kp_Round ?ic_Round ?nw_Round ?ga_Round ?gg_Round ?hd_Round ?lI ?qI ?rI ?tI ?t_BadSize_Refused ?t_BadSize_BadSize ?t_BadSize_BadParent ?t_BadSize_Round ?t_BadParent_Refused ?t_BadParent_BadSize ?t_BadParent_BadParent ?t_BadParent_Round ?t_Round_Refused ?t_Round_BadSize ?t_Round_BadParent ?t_Round_Round
    (case a_is_number => k_is); (case l_is_number => k_is); (case q_is_number => k_is); (case r_is_number => k_is); (case a_is_number_row => k_is); (case l_is_number_row => k_is); (case q_is_number_row => k_is); (case r_is_number_row => k_is); (case a_check_size => k_is); (case l_check_size => k_is); (case q_check_size => k_is); (case r_check_size => k_is); (case a__comes_to_door => k_is); (case l__comes_to_door => k_is); (case q__comes_to_door => k_is); (case r__comes_to_door => k_is); (case a_made_house => k_is); (case l_made_house => k_is); (case q_made_house => k_is); (case r_made_house => k_is); (case a_is_house => k_is); (case l_is_house => k_is); (case q_is_house => k_is); (case r_is_house => k_is); (case a__law_pool => k_is); (case l__law_pool => k_is); (case q__law_pool => k_is); (case r__law_pool => k_is); (case a__law_take => k_is); (case l__law_take => k_is); (case q__law_take => k_is); (case r__law_take => k_is); (case a__law_one => k_is); (case l__law_one => k_is); (case q__law_one => k_is); (case r__law_one => k_is); (case a__law_shuffled => k_is); (case l__law_shuffled => k_is); (case q__law_shuffled => k_is); (case r__law_shuffled => k_is); (case a__law_house => k_is); (case l__law_house => k_is); (case q__law_house => k_is); (case r__law_house => k_is); (case a__law_bent => k_is); (case l__law_bent => k_is); (case q__law_bent => k_is); (case r__law_bent => k_is); (case a__law_due => k_is); (case l__law_due => k_is); (case q__law_due => k_is); (case r__law_due => k_is); (case a__law_told => k_is); (case l__law_told => k_is); (case q__law_told => k_is); (case r__law_told => k_is); (case a__law_right => k_is); (case l__law_right => k_is); (case q__law_right => k_is); (case r__law_right => k_is); (case a_law => k_is); (case l_law => k_is); (case q_law => k_is); (case r_law => k_is); (case z_all => k_is); (case z_bool => k_is); (case z_enumerate => k_is); (case z_int => k_is); (case z_isinstance => k_is); (case z_len => k_is); (case z_max => k_is); (case z_range => k_is); (case z_tuple => k_is); (case c_DOOR => k_is); (case c_MOST_PLACES => k_is); (case e_Refused => k_is); (case ob_Refused => k_is); (case e_BadSize => k_is); (case ob_BadSize => k_is); (case e_BadParent => k_is); (case ob_BadParent => k_is); (case e_Round => k_is); (case ob_Round => k_is); (case sa_Refused => k_is); (case eb_Refused => k_is); (case ty_Refused => k_is); (case kp_Refused => k_is); (case ic_Refused => k_is); (case nw_Refused => k_is); (case ga_Refused => k_is); (case gg_Refused => k_is); (case hd_Refused => k_is); (case sa_BadSize => k_is); (case eb_BadSize => k_is); (case ty_BadSize => k_is); (case kp_BadSize => k_is); (case ic_BadSize => k_is); (case nw_BadSize => k_is); (case ga_BadSize => k_is); (case gg_BadSize => k_is); (case hd_BadSize => k_is); (case sa_BadParent => k_is); (case eb_BadParent => k_is); (case ty_BadParent => k_is); (case kp_BadParent => k_is); (case ic_BadParent => k_is); (case nw_BadParent => k_is); (case ga_BadParent => k_is); (case gg_BadParent => k_is); (case hd_BadParent => k_is); (case sa_Round => k_is); (case eb_Round => k_is); (case ty_Round => k_is); (case kp_Round => k_is); (case ic_Round => k_is); (case nw_Round => k_is); (case ga_Round => k_is); (case gg_Round => k_is); (case hd_Round => k_is); (case lI => k_is); (case qI => k_is); (case rI => k_is); (case tI => k_is); (case t_BadSize_Refused => k_is); (case t_BadSize_BadSize => k_is); (case t_BadSize_BadParent => k_is); (case t_BadSize_Round => k_is); (case t_BadParent_Refused => k_is); (case t_BadParent_BadSize => k_is); (case t_BadParent_BadParent => k_is); (case t_BadParent_Round => k_is); (case t_Round_Refused => k_is); (case t_Round_BadSize => k_is); (case t_Round_BadParent => k_is); (case t_Round_Round => k_is)

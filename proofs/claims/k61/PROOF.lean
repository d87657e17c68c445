import PyProof.Rows.All
import Wide.All
import OpenK.AllK
import Wide.FinOn
import HandS.Base
import HandS.Call
import HandS.List
import HandS.Comp
import HandS.Ends
import HandS.Iter
import HandS.Text
import HandS.Words
import HandS.IsInst
import HandS.Conv
import HandS.Zip
import HandS.Property
import HandS.Star
import HandS.Sort
import HandS.Dict
import HandS.Flow
import HandS.WrittenGet
import KE.KUnpackStar
import KE.GoesNew
import HandS.Codes
import PyProof.P3Eq
import HandS.SetFor
import HandS.Strs
import PyProof.ReprReads
import HandS.RevRange
import PyProof.EnumMake
import KE.GoesMore
import HandS.Style
import HandS.TupAny
import HandS.EndBits
import HandS.WideBits
import HandS.More
import PyProof.Rows.EqBoolInt
import HandS.TryOnly
import HandS.Deep
import HandS.Small
import KE.KDictDisplayH
import HandS.DictComp
import HandS.CallLocal
import HandS.ListItems
import PyProof.FString5
import HandS.HeadHook3
import HandS.ForMost
import PySem.Challenge.RW_rankedrules_k61_things_of_any_sort_judge
set_option Elab.async false
set_option linter.all false
set_option maxRecDepth 100000
set_option maxHeartbeats 4000000
set_option autoImplicit false
/-! A data layer over HandS's readings: what a slot holds is said as plain data (D), never as addresses. -/
namespace Dw
open PySem PySem.Spec PyProof.Rows L2

/-- a list of the written part -/
def SqK (K : PySem.W.Frag) (a : Addr) (xs : List V) : Prop :=
  ∃ (o : Obj) (its : Array Value) (n : Nat), K.lookup a = some o ∧ o.cls = .type "list" ∧ o.dict = none ∧ o.data = .seq its n ∧ its.size ≤ sizeLine ∧ Vals xs its.toList
/-- plain data -/
inductive D where
  | non | bl (b : Bool) | int (i : Int) | str (x : Str)
  | tup (ds : List D) | lst (ds : List D)
  | obj (C : Addr) (ns : List Str) (ds : List D)
  | raw (v : V)
  | purse
  | rng (lo hi : Int)
  | dct (ks : List Key) (ds : List D)
  | scr (K : PySem.W.Frag) (vs : List V)
  | tupN (ds : List D)

/-- a world: the abstract heap, the addresses that may change (U), the purses among them (P) -/
structure Wd where
  H : Hp
  U : Addr → Prop
  P : Addr → Prop

/-- a tuple to be read, as it is -/
def TupAt (H : Hp) (a : Addr) (vs : List V) : Prop := Rd H a (.tup vs)
/-- .. one that is known to have no dict of its own -/
def TupN (H : Hp) (a : Addr) (vs : List V) : Prop := ∃ o : Obj, H a = some (.frz o (.tup vs)) ∧ o.cls = .type "tuple" ∧ o.dict = none
theorem TupAt.mk {H : Hp} {a : Addr} {vs : List V} (h : H a = some (.tup vs)) : TupAt H a vs := .inl h
theorem TupAt.sq {K : PySem.W.Frag} {H : Hp} {a : Addr} {vs : List V} (h : TupAt H a vs) : SqT K H a vs := .inl h
theorem TupN.at {H : Hp} {a : Addr} {vs : List V} (h : TupN H a vs) : TupAt H a vs := let ⟨o, e, _⟩ := h; .inr ⟨o, e⟩
theorem TupAt.imp {H H' : Hp} {a : Addr} {vs : List V} (s : ∀ u, H a = some u → H' a = some u) (h : TupAt H a vs) : TupAt H' a vs := h.elim (fun h => .inl (s _ h)) fun ⟨o, h⟩ => .inr ⟨o, s _ h⟩
theorem TupN.imp {H H' : Hp} {a : Addr} {vs : List V} (s : ∀ u, H a = some u → H' a = some u) (h : TupN H a vs) : TupN H' a vs := let ⟨o, e, c⟩ := h; ⟨o, s _ e, c⟩
theorem TupAt.same {H H' : Hp} {a : Addr} {vs : List V} (h : TupAt H a vs) (s : Same H H') : TupAt H' a vs := h.imp (s a)
theorem TupN.same {H H' : Hp} {a : Addr} {vs : List V} (h : TupN H a vs) (s : Same H H') : TupN H' a vs := h.imp (s a)
theorem TupAt.some {H : Hp} {a : Addr} {vs : List V} (h : TupAt H a vs) : ∃ u, H a = some u := h.elim (fun h => ⟨_, h⟩) fun ⟨_, h⟩ => ⟨_, h⟩
theorem TupAt.keep {H H' : Hp} {U U' : Addr → Prop} {a : Addr} {vs : List V} (h : TupAt H a vs) (n : ¬ U a) (k : ∀ u, H a = Option.some u → ¬ U a → H' a = Option.some u ∧ ¬ U' a) : TupAt H' a vs ∧ ¬ U' a := let ⟨u, e⟩ := h.some; ⟨h.imp fun u e => (k u e n).1, (k u e n).2⟩
mutual
def Rep (W : Wd) : D → V → Prop
  | .non, v => v = .non
  | .bl b, v => v = .bl b
  | .int i, v => v = .int i
  | .str x, v => v = .str x
  | .raw u, v => v = u
  | .tup ds, v => ∃ a vs, v = .ref a ∧ TupAt W.H a vs ∧ ¬ W.U a ∧ RepL W ds vs
  | .tupN ds, v => ∃ a vs, v = .ref a ∧ TupN W.H a vs ∧ ¬ W.U a ∧ RepL W ds vs
  | .lst ds, v => ∃ a vs, v = .ref a ∧ W.H a = some (.lst vs) ∧ ¬ W.U a ∧ RepL W ds vs
  | .obj C ns ds, v => ∃ a dx vs, v = .ref a ∧ W.H a = some (.ins C dx (ns.zip vs)) ∧ ¬ W.U a ∧ ns.length = vs.length ∧ RepL W ds vs
  | .purse, v => ∃ a, v = .ref a ∧ W.P a
  | .rng lo hi, v => ∃ a, v = .ref a ∧ W.H a = some (.rng lo hi) ∧ ¬ W.U a
  | .dct ks ds, v => ∃ a vs, v = .ref a ∧ W.H a = some (.dK (ks.zip vs)) ∧ ¬ W.U a ∧ ks.length = vs.length ∧ RepL W ds vs
  | .scr K vs, v => ∃ a, v = .ref a ∧ ((∃ u, W.H a = some u ∧ ¬ W.U a ∧ (u = .lst vs ∨ ∃ o, u = .frz o (.lst vs))) ∨ SqK K a vs)
def RepL (W : Wd) : List D → List V → Prop
  | [], vs => vs = []
  | d :: ds, vs => ∃ v r, vs = v :: r ∧ Rep W d v ∧ RepL W ds r
end

def PurseAt (H : Hp) (a : Addr) : Prop := ∃ (x : Int × Int) (y : Int), 0 ≤ x.1 ∧ 0 ≤ y ∧ y < 2147483647 ∧ H a = some (.lst [.int x.1, .int y, .int x.2])

/-- F: what this def may not touch -/
structure WOk (F : Addr → Prop) (W : Wd) : Prop where
  dom : ∀ a, W.U a → W.H a ≠ none
  fu : ∀ a, F a → W.U a
  pu : ∀ a, W.P a → W.U a ∧ ¬ F a ∧ PurseAt W.H a

structure Stp (F : Addr → Prop) (W W' : Wd) : Prop where
  keep : ∀ a u, W.H a = some u → ¬ W.U a → W'.H a = some u ∧ ¬ W'.U a
  pur : W'.P = W.P
  fr : ∀ a, F a → W'.H a = W.H a

theorem Stp.refl {F : Addr → Prop} (W : Wd) : Stp F W W := ⟨fun _ _ h n => ⟨h, n⟩, rfl, fun _ _ => rfl⟩
theorem Stp.trans {F : Addr → Prop} {W W1 W2 : Wd} (a : Stp F W W1) (b : Stp F W1 W2) : Stp F W W2 :=
  ⟨fun c u h n => let ⟨h1, n1⟩ := a.keep c u h n; b.keep c u h1 n1, b.pur.trans a.pur, fun c h => (b.fr c h).trans (a.fr c h)⟩

mutual
theorem Rep.mono {W W' : Wd} (k : ∀ a u, W.H a = some u → ¬ W.U a → W'.H a = some u ∧ ¬ W'.U a) (p : ∀ a, W.P a → W'.P a) : ∀ (d : D) (v : V), Rep W d v → Rep W' d v
  | .non, _, h => h
  | .bl _, _, h => h
  | .int _, _, h => h
  | .str _, _, h => h
  | .raw _, _, h => h
  | .tup ds, _, ⟨a, vs, e, h, n, r⟩ => let ⟨h', n'⟩ := h.keep n (k a); ⟨a, vs, e, h', n', RepL.mono k p ds vs r⟩
  | .tupN ds, _, ⟨a, vs, e, h, n, r⟩ => let ⟨_, n'⟩ := h.at.keep n (k a); ⟨a, vs, e, h.imp fun u e => (k a u e n).1, n', RepL.mono k p ds vs r⟩
  | .lst ds, _, ⟨a, vs, e, h, n, r⟩ => let ⟨h', n'⟩ := k _ _ h n; ⟨a, vs, e, h', n', RepL.mono k p ds vs r⟩
  | .obj C ns ds, _, ⟨a, dx, vs, e, h, n, l, r⟩ => let ⟨h', n'⟩ := k _ _ h n; ⟨a, dx, vs, e, h', n', l, RepL.mono k p ds vs r⟩
  | .purse, _, ⟨a, e, h⟩ => ⟨a, e, p a h⟩
  | .rng lo hi, _, ⟨a, e, h, n⟩ => let ⟨h', n'⟩ := k _ _ h n; ⟨a, e, h', n'⟩
  | .dct ks ds, _, ⟨a, vs, e, h, n, l, r⟩ => let ⟨h', n'⟩ := k _ _ h n; ⟨a, vs, e, h', n', l, RepL.mono k p ds vs r⟩
  | .scr K vs, _, ⟨a, e, .inl ⟨u, h, n, q⟩⟩ => let ⟨h', n'⟩ := k _ _ h n; ⟨a, e, .inl ⟨u, h', n', q⟩⟩
  | .scr K vs, _, ⟨a, e, .inr q⟩ => ⟨a, e, .inr q⟩
theorem RepL.mono {W W' : Wd} (k : ∀ a u, W.H a = some u → ¬ W.U a → W'.H a = some u ∧ ¬ W'.U a) (p : ∀ a, W.P a → W'.P a) : ∀ (ds : List D) (vs : List V), RepL W ds vs → RepL W' ds vs
  | [], _, h => h
  | d :: ds, _, ⟨v, r, e, h1, h2⟩ => ⟨v, r, e, Rep.mono k p d v h1, RepL.mono k p ds r h2⟩
end
theorem Rep.stp {F : Addr → Prop} {W W' : Wd} {d : D} {v : V} (s : Stp F W W') (h : Rep W d v) : Rep W' d v := Rep.mono s.keep (fun a h => by rw [s.pur]; exact h) d v h
theorem RepL.stp {F : Addr → Prop} {W W' : Wd} {d : List D} {v : List V} (s : Stp F W W') (h : RepL W d v) : RepL W' d v := RepL.mono s.keep (fun a h => by rw [s.pur]; exact h) d v h
/-- the world with another heap -/
abbrev Wd.at (W : Wd) (H : Hp) : Wd := ⟨H, W.U, W.P⟩
theorem Rep.same {W : Wd} {H : Hp} {d : D} {v : V} (s : Same W.H H) (h : Rep W d v) : Rep (W.at H) d v := Rep.mono (W' := W.at H) (fun a u e n => ⟨s a u e, n⟩) (fun _ h => h) d v h
theorem RepL.same {W : Wd} {H : Hp} {d : List D} {v : List V} (s : Same W.H H) (h : RepL W d v) : RepL (W.at H) d v := RepL.mono (W' := W.at H) (fun a u e n => ⟨s a u e, n⟩) (fun _ h => h) d v h
theorem Stp.of_same {F : Addr → Prop} {W : Wd} {H : Hp} (ok : WOk F W) (s : Same W.H H) : Stp F W (W.at H) :=
  ⟨fun a u e n => ⟨s a u e, n⟩, rfl, fun a h => by
    cases q : W.H a with
    | none => exact absurd q (ok.dom a (ok.fu a h))
    | some u => exact s a u q⟩
theorem WOk.same {F : Addr → Prop} {W : Wd} {H : Hp} (ok : WOk F W) (s : Same W.H H) : WOk F (W.at H) :=
  ⟨fun a h z => ok.dom a h (s.free z), ok.fu, fun a h => let ⟨u, f, x, y, h1, h2, h3, e⟩ := ok.pu a h; ⟨u, f, x, y, h1, h2, h3, s _ _ e⟩⟩
theorem WOk.new {F : Addr → Prop} {W : Wd} (ok : WOk F W) {a : Addr} (h : W.H a = none) : ¬ W.U a := fun u => ok.dom a u h

theorem RepL.length {W : Wd} : ∀ {ds : List D} {vs : List V}, RepL W ds vs → ds.length = vs.length
  | [], _, h => by rw [show _ = [] from h]; rfl
  | _ :: ds, _, ⟨_, r, e, _, h⟩ => by rw [e, List.length_cons, List.length_cons, RepL.length (ds := ds) h]
theorem RepL.get {W : Wd} : ∀ {ds : List D} {vs : List V} {i : Nat} {d : D}, RepL W ds vs → ds[i]? = some d → ∃ v, vs[i]? = some v ∧ Rep W d v
  | [], _, _, _, _, e => by simp at e
  | d :: ds, _, 0, d', ⟨v, r, e, h1, h2⟩, q => by
    have : d = d' := by simpa using q
    subst this
    exact ⟨v, by rw [e]; rfl, h1⟩
  | d :: ds, _, i + 1, d', ⟨v, r, e, h1, h2⟩, q => by
    obtain ⟨v', a, b⟩ := RepL.get (i := i) (d := d') h2 (by simpa using q)
    exact ⟨v', by rw [e]; simpa using a, b⟩
theorem RepL.getV {W : Wd} : ∀ {ds : List D} {vs : List V} {i : Nat} {v : V}, RepL W ds vs → vs[i]? = some v → ∃ d, ds[i]? = some d ∧ Rep W d v
  | [], vs, i, v, h, e => by rw [show vs = [] from h] at e; simp at e
  | d :: ds, _, 0, v', ⟨v, r, e, h1, h2⟩, q => by
    rw [e] at q
    have : v = v' := by simpa using q
    subst this
    exact ⟨d, rfl, h1⟩
  | d :: ds, _, i + 1, v', ⟨v, r, e, h1, h2⟩, q => by
    rw [e] at q
    obtain ⟨d', a, b⟩ := RepL.getV (i := i) (v := v') h2 (by simpa using q)
    exact ⟨d', by simpa using a, b⟩
theorem RepL.append {W : Wd} : ∀ {ds es : List D} {vs us : List V}, RepL W ds vs → RepL W es us → RepL W (ds ++ es) (vs ++ us)
  | [], _, _, _, h, h' => by rw [show _ = [] from h]; exact h'
  | d :: ds, es, _, us, ⟨v, r, e, h1, h2⟩, h' => ⟨v, r ++ us, by rw [e]; rfl, h1, RepL.append h2 h'⟩
theorem RepL.take {W : Wd} : ∀ {ds : List D} {vs : List V} (n : Nat), RepL W ds vs → RepL W (ds.take n) (vs.take n)
  | _, _, 0, _ => by rw [List.take_zero, List.take_zero]; rfl
  | [], _, n + 1, h => by rw [show _ = [] from h]; rfl
  | d :: ds, _, n + 1, ⟨v, r, e, h1, h2⟩ => ⟨v, r.take n, by rw [e]; rfl, h1, RepL.take n h2⟩
theorem RepL.drop {W : Wd} : ∀ {ds : List D} {vs : List V} (n : Nat), RepL W ds vs → RepL W (ds.drop n) (vs.drop n)
  | _, _, 0, h => h
  | [], _, n + 1, h => by rw [show _ = [] from h]; rfl
  | d :: ds, _, n + 1, ⟨v, r, e, h1, h2⟩ => by rw [e]; exact RepL.drop n h2
theorem RepL.set {W : Wd} {d : D} {v : V} (h : Rep W d v) : ∀ {ds : List D} {vs : List V} (n : Nat), RepL W ds vs → RepL W (ds.set n d) (vs.set n v)
  | [], _, n, h' => by rw [show _ = [] from h']; rfl
  | _ :: ds, _, 0, ⟨u, r, e, h1, h2⟩ => by rw [e]; exact ⟨v, r, rfl, h, h2⟩
  | c :: ds, _, n + 1, ⟨u, r, e, h1, h2⟩ => by rw [e]; exact ⟨u, r.set n v, rfl, h1, RepL.set h n h2⟩
theorem RepL.eraseIdx {W : Wd} : ∀ {ds : List D} {vs : List V} (n : Nat), RepL W ds vs → RepL W (ds.eraseIdx n) (vs.eraseIdx n)
  | [], _, n, h' => by rw [show _ = [] from h']; rfl
  | _ :: ds, _, 0, ⟨u, r, e, h1, h2⟩ => by rw [e]; exact h2
  | c :: ds, _, n + 1, ⟨u, r, e, h1, h2⟩ => by rw [e]; exact ⟨u, r.eraseIdx n, rfl, h1, RepL.eraseIdx n h2⟩
theorem RepL.one {W : Wd} {d : D} {v : V} (h : Rep W d v) : RepL W [d] [v] := ⟨v, [], rfl, h, rfl⟩
theorem RepL.ints {W : Wd} : ∀ {ns : List Int} {vs : List V}, RepL W (ns.map D.int) vs ↔ vs = ns.map V.int
  | [], vs => Iff.rfl
  | n :: ns, vs => by
    constructor
    · rintro ⟨v, r, e, h1, h2⟩
      rw [e, show v = .int n from h1, RepL.ints.mp h2]; rfl
    · intro e
      exact ⟨.int n, ns.map V.int, e, rfl, RepL.ints.mpr rfl⟩
theorem RepL.strs {W : Wd} : ∀ {ns : List Str} {vs : List V}, RepL W (ns.map D.str) vs ↔ vs = ns.map V.str
  | [], vs => Iff.rfl
  | n :: ns, vs => by
    constructor
    · rintro ⟨v, r, e, h1, h2⟩
      rw [e, show v = .str n from h1, RepL.strs.mp h2]; rfl
    · intro e
      exact ⟨.str n, ns.map V.str, e, rfl, RepL.strs.mpr rfl⟩
theorem RepL.bls {W : Wd} : ∀ {ns : List Bool} {vs : List V}, RepL W (ns.map D.bl) vs ↔ vs = ns.map V.bl
  | [], vs => Iff.rfl
  | n :: ns, vs => by
    constructor
    · rintro ⟨v, r, e, h1, h2⟩
      rw [e, show v = .bl n from h1, RepL.bls.mp h2]; rfl
    · intro e
      exact ⟨.bl n, ns.map V.bl, e, rfl, RepL.bls.mpr rfl⟩

mutual
/-- what is known less of -/
def weakD : D → D
  | .tupN ds => .tup (weakDs ds) | .tup ds => .tup (weakDs ds) | .lst ds => .lst (weakDs ds)
  | d => d
def weakDs : List D → List D
  | [] => []
  | d :: ds => weakD d :: weakDs ds
end
mutual
theorem Rep.weak {W : Wd} : ∀ (d : D) (v : V), Rep W d v → Rep W (weakD d) v
  | .tupN ds, _, ⟨a, vs, e, h, n, r⟩ => ⟨a, vs, e, h.at, n, RepL.weak ds vs r⟩
  | .tup ds, _, ⟨a, vs, e, h, n, r⟩ => ⟨a, vs, e, h, n, RepL.weak ds vs r⟩
  | .lst ds, _, ⟨a, vs, e, h, n, r⟩ => ⟨a, vs, e, h, n, RepL.weak ds vs r⟩
  | .non, _, h => h
  | .bl _, _, h => h
  | .int _, _, h => h
  | .str _, _, h => h
  | .raw _, _, h => h
  | .obj _ _ _, _, h => h
  | .purse, _, h => h
  | .rng _ _, _, h => h
  | .dct _ _, _, h => h
  | .scr _ _, _, h => h
theorem RepL.weak {W : Wd} : ∀ (ds : List D) (vs : List V), RepL W ds vs → RepL W (weakDs ds) vs
  | [], _, h => h
  | d :: ds, _, ⟨v, r, e, h1, h2⟩ => ⟨v, r, e, Rep.weak d v h1, RepL.weak ds r h2⟩
end
/-! ### the slots -/
inductive Sl where
  | unset | val (d : D) | own (ds : List D)
abbrev Gam := List Sl

structure SR (F : Addr → Prop) (Γ : Gam) (σ : L2.St) (W : Wd) : Prop where
  ok : WOk F W
  len : Γ.length = σ.length
  val : ∀ (i : Nat) (d : D), Γ[i]? = some (Sl.val d) → ∃ v, σ[i]? = some (some v) ∧ Rep W d v
  own : ∀ (i : Nat) (ds : List D), Γ[i]? = some (Sl.own ds) → ∃ a vs, σ[i]? = some (some (V.ref a)) ∧ W.U a ∧ ¬ F a ∧ ¬ W.P a ∧ W.H a = some (.lst vs) ∧ RepL W ds vs
  apart : ∀ (i j : Nat) (a : Addr) (ds es : List D), Γ[i]? = some (Sl.own ds) → Γ[j]? = some (Sl.own es) → σ[i]? = some (some (V.ref a)) → σ[j]? = some (some (V.ref a)) → i = j

theorem SR.same {F : Addr → Prop} {Γ : Gam} {σ : L2.St} {W : Wd} {H : Hp} (s : Same W.H H) (h : SR F Γ σ W) : SR F Γ σ (W.at H) :=
  ⟨h.ok.same s, h.len, fun i d e => let ⟨v, a, b⟩ := h.val i d e; ⟨v, a, b.same s⟩,
   fun i ds e => let ⟨a, vs, e1, u, f, p, q, r⟩ := h.own i ds e; ⟨a, vs, e1, u, f, p, s _ _ q, r.same s⟩, h.apart⟩
/-- forgetting -/
theorem SR.weak {F : Addr → Prop} {Γ Γ' : Gam} {σ σ' : L2.St} {W : Wd} (h : SR F Γ σ W) (l : Γ'.length = σ'.length) (k : ∀ (i : Nat) (s : Sl), Γ'[i]? = some s → s = Sl.unset ∨ (Γ[i]? = some s ∧ σ'[i]? = σ[i]?)) : SR F Γ' σ' W := by
  have kv : ∀ (i : Nat) (d : D), Γ'[i]? = some (Sl.val d) → Γ[i]? = some (Sl.val d) ∧ σ'[i]? = σ[i]? := fun i d e => by
    rcases k i _ e with z | z
    · cases z
    · exact z
  have ko : ∀ (i : Nat) (d : List D), Γ'[i]? = some (Sl.own d) → Γ[i]? = some (Sl.own d) ∧ σ'[i]? = σ[i]? := fun i d e => by
    rcases k i _ e with z | z
    · cases z
    · exact z
  refine ⟨h.ok, l, fun i d e => ?_, fun i ds e => ?_, fun i j a ds es e1 e2 e3 e4 => ?_⟩
  · obtain ⟨z, q⟩ := kv i d e
    rw [q]; exact h.val i d z
  · obtain ⟨z, q⟩ := ko i ds e
    rw [q]; exact h.own i ds z
  · obtain ⟨z1, q1⟩ := ko i ds e1
    obtain ⟨z2, q2⟩ := ko j es e2
    rw [q1] at e3; rw [q2] at e4
    exact h.apart i j a ds es z1 z2 e3 e4
/-- a value is stored -/
theorem SR.set {F : Addr → Prop} {Γ : Gam} {σ : L2.St} {W : Wd} {i : Nat} {d : D} {v : V} (h : SR F Γ σ W) (r : Rep W d v) : SR F (Γ.set i (.val d)) (σ.set i (some v)) W := by
  refine ⟨h.ok, by simp [h.len], fun j e q => ?_, fun j ds q => ?_, fun j k a ds es q1 q2 q3 q4 => ?_⟩
  · by_cases hj : i = j
    · subst hj
      have hl : i < Γ.length := by
        have := (List.getElem?_eq_some_iff.mp q).1
        simpa using this
      rw [List.getElem?_set_self hl] at q
      cases q
      exact ⟨v, by rw [List.getElem?_set_self (by rw [← h.len]; exact hl)], r⟩
    · rw [List.getElem?_set_ne hj] at q ⊢
      exact h.val j e q
  · by_cases hj : i = j
    · subst hj
      have hl : i < Γ.length := by
        have := (List.getElem?_eq_some_iff.mp q).1
        simpa using this
      rw [List.getElem?_set_self hl] at q
      cases q
    · rw [List.getElem?_set_ne hj] at q ⊢
      exact h.own j ds q
  · have n : ∀ (j : Nat) (ds : List D), (Γ.set i (.val d))[j]? = some (Sl.own ds) → i ≠ j := fun j ds q e => by
      subst e
      have hl : i < Γ.length := by
        have := (List.getElem?_eq_some_iff.mp q).1
        simpa using this
      rw [List.getElem?_set_self hl] at q
      cases q
    have n1 := n j ds q1
    have n2 := n k es q2
    rw [List.getElem?_set_ne n1] at q1 q3
    rw [List.getElem?_set_ne n2] at q2 q4
    exact h.apart j k a ds es q1 q2 q3 q4
/-- what the callee may not touch: the frame and the own lists -/
def ownA (Γ : Gam) (σ : L2.St) (a : Addr) : Prop := ∃ (i : Nat) (ds : List D), Γ[i]? = some (Sl.own ds) ∧ σ[i]? = some (some (V.ref a))
/-- behind a call -/
theorem SR.call {F : Addr → Prop} {Γ : Gam} {σ : L2.St} {W W' : Wd} (h : SR F Γ σ W) (s : Stp (fun a => F a ∨ ownA Γ σ a) W W') (ok : WOk (fun a => F a ∨ ownA Γ σ a) W') : SR F Γ σ W' := by
  refine ⟨⟨ok.dom, fun a z => ok.fu a (.inl z), fun a z => let ⟨u, f, p⟩ := ok.pu a z; ⟨u, fun w => f (.inl w), p⟩⟩, h.len, fun i d e => ?_, fun i ds e => ?_, h.apart⟩
  · obtain ⟨v, a, b⟩ := h.val i d e
    exact ⟨v, a, b.stp s⟩
  · obtain ⟨a, vs, e1, u, f, p, q, r⟩ := h.own i ds e
    have o : ownA Γ σ a := ⟨i, ds, e, e1⟩
    exact ⟨a, vs, e1, ok.fu a (.inr o), f, fun z => (ok.pu a z).2.1 (.inr o), (s.fr a (.inr o)).trans q, r.stp s⟩
theorem SR.callOk {F : Addr → Prop} {Γ : Gam} {σ : L2.St} {W : Wd} (h : SR F Γ σ W) : WOk (fun a => F a ∨ ownA Γ σ a) W := by
  refine ⟨h.ok.dom, fun a z => ?_, fun a z => ?_⟩
  · rcases z with z | ⟨i, ds, e, q⟩
    · exact h.ok.fu a z
    · obtain ⟨b, vs, e1, u, _⟩ := h.own i ds e
      rw [q] at e1; cases e1
      exact u
  · obtain ⟨u, f, p⟩ := h.ok.pu a z
    refine ⟨u, fun w => ?_, p⟩
    rcases w with w | ⟨i, ds, e, q⟩
    · exact f w
    · obtain ⟨b, vs, e1, _, _, np, _⟩ := h.own i ds e
      rw [q] at e1; cases e1
      exact np z
theorem Stp.sub {F G : Addr → Prop} {W W' : Wd} (s : Stp G W W') (k : ∀ a, F a → G a) : Stp F W W' := ⟨s.keep, s.pur, fun a h => s.fr a (k a h)⟩
end Dw

/-! The judgements over data: Ev (pure), EvB (a list that is read), EvN (a new list), Dl (with draws), Ds (statements). -/
namespace Dw
open PySem PySem.Spec PyProof.Rows L2

def Ev (t : TE) (Γ : Gam) (d : D) : Prop := ∀ (F : Addr → Prop) (σ : L2.St) (W : Wd) (Q : VK), SR F Γ σ W → (∀ v H, Same W.H H → Rep (W.at H) d v → Q v H) → t σ W.H Q
def EvB (t : TE) (Γ : Gam) (ds : List D) : Prop := ∀ (F : Addr → Prop) (σ : L2.St) (W : Wd) (Q : VK), SR F Γ σ W → (∀ a vs H, Same W.H H → H a = some (.lst vs) → RepL (W.at H) ds vs → Q (.ref a) H) → t σ W.H Q
/-- the world where a is one's own, too -/
abbrev Wd.plus (W : Wd) (H : Hp) (a : Addr) : Wd := ⟨H, fun b => W.U b ∨ b = a, W.P⟩
theorem RepL.minus {W : Wd} {H : Hp} {a : Addr} {ds : List D} {vs : List V} (h : RepL (W.plus H a) ds vs) : RepL (W.at H) ds vs := RepL.mono (W := W.plus H a) (W' := W.at H) (fun b u e n => ⟨e, fun z => n (Or.inl z)⟩) (fun _ h => h) ds vs h
theorem RepL.plus {W : Wd} {H : Hp} {a : Addr} {ds : List D} {vs : List V} (n : W.H a = none) (s : Same W.H H) (h : RepL W ds vs) : RepL (W.plus H a) ds vs := RepL.mono (W := W) (W' := W.plus H a) (fun b u e nu => ⟨s b u e, fun z => z.elim nu fun z => by rw [z, n] at e; cases e⟩) (fun _ h => h) ds vs h
def EvN (t : TE) (Γ : Gam) (ds : List D) : Prop := ∀ (F : Addr → Prop) (σ : L2.St) (W : Wd) (Q : VK), SR F Γ σ W → (∀ a vs H, Same W.H H → W.H a = none → H a = some (.lst vs) → RepL (W.plus H a) ds vs → Q (.ref a) H) → t σ W.H Q
def EvT (t : TT) (Γ : Gam) (b : Bool) : Prop := ∀ (F : Addr → Prop) (σ : L2.St) (W : Wd) (Q : Bool → Hp → Prop), SR F Γ σ W → (∀ H, Same W.H H → Q b H) → t σ W.H Q
def EvA (t : TA) (Γ : Gam) (ds : List D) : Prop := ∀ (F : Addr → Prop) (σ : L2.St) (W : Wd) (Q : List V → Hp → Prop), SR F Γ σ W → (∀ vs H, Same W.H H → RepL (W.at H) ds vs → Q vs H) → t σ W.H Q

def Dl (t : TE) (Γ : Gam) (Q : D → Gam → Prop) : Prop := ∀ (F : Addr → Prop) (σ : L2.St) (W : Wd) (R : VK), SR F Γ σ W → (∀ v W' d Γ', Stp F W W' → SR F Γ' σ W' → Rep W' d v → Q d Γ' → R v W'.H) → t σ W.H R
def DlT (t : TT) (Γ : Gam) (Q : Bool → Gam → Prop) : Prop := ∀ (F : Addr → Prop) (σ : L2.St) (W : Wd) (R : Bool → Hp → Prop), SR F Γ σ W → (∀ b W' Γ', Stp F W W' → SR F Γ' σ W' → Q b Γ' → R b W'.H) → t σ W.H R
def DlA (t : TA) (Γ : Gam) (Q : List D → Gam → Prop) : Prop := ∀ (F : Addr → Prop) (σ : L2.St) (W : Wd) (R : List V → Hp → Prop), SR F Γ σ W → (∀ vs W' ds Γ', Stp F W W' → SR F Γ' σ W' → RepL W' ds vs → Q ds Γ' → R vs W'.H) → t σ W.H R

structure DE where
  nx : Gam → Prop
  rt : D → Prop
  bk : Gam → Prop := fun _ => False
  ct : Gam → Prop := fun _ => False
structure Lift (F : Addr → Prop) (W0 : Wd) (De : DE) (Dr : Ends) : Prop where
  nx : ∀ σ W Γ, Stp F W0 W → SR F Γ σ W → De.nx Γ → Dr.nx σ W.H
  rt : ∀ v W d, Stp F W0 W → WOk F W → Rep W d v → De.rt d → Dr.rt v W.H
  bk : ∀ σ W Γ, Stp F W0 W → SR F Γ σ W → De.bk Γ → Dr.bk σ W.H
  ct : ∀ σ W Γ, Stp F W0 W → SR F Γ σ W → De.ct Γ → Dr.ct σ W.H
theorem Lift.after {F : Addr → Prop} {W0 W1 : Wd} {De : DE} {Dr : Ends} (l : Lift F W0 De Dr) (s : Stp F W0 W1) : Lift F W1 De Dr :=
  ⟨fun σ W Γ a => l.nx σ W Γ (s.trans a), fun v W d a => l.rt v W d (s.trans a), fun σ W Γ a => l.bk σ W Γ (s.trans a), fun σ W Γ a => l.ct σ W Γ (s.trans a)⟩
def Ds (t : TS) (Γ : Gam) (De : DE) : Prop := ∀ (F : Addr → Prop) (σ : L2.St) (W : Wd) (Dr : Ends), SR F Γ σ W → Lift F W De Dr → t Dr σ W.H

/-! ### from the pure to the others -/
section
variable {t : TE} {Γ : Gam} {d : D} {ds : List D}
theorem Same.up {W : Wd} {H H' : Hp} (a : Same W.H H) (b : Same (W.at H).H H') : Same W.H H' := Same.trans a b
theorem EvN.b (h : EvN t Γ ds) : EvB t Γ ds := fun F σ W Q r k => h F σ W Q r fun a vs H s _ e l => k a vs H s e l.minus
theorem EvN.ev (h : EvN t Γ ds) : Ev t Γ (.lst ds) := fun F σ W Q r k => h F σ W Q r fun a vs H s n e l => k _ H s ⟨a, vs, rfl, e, r.ok.new n, l.minus⟩
theorem Ev.b (h : Ev t Γ (.lst ds)) : EvB t Γ ds := fun F σ W Q r k => h F σ W Q r fun v H s ⟨a, vs, e, q, _, l⟩ => by subst e; exact k a vs H s q l
theorem Ev.dl {Q : D → Gam → Prop} (h : Ev t Γ d) (q : Q d Γ) : Dl t Γ Q := fun F σ W R r k => h F σ W R r fun v H s l => k v (W.at H) d Γ (Stp.of_same r.ok s) (r.same s) l q
theorem Dl.imp {Q Q' : D → Gam → Prop} (h : Dl t Γ Q) (k : ∀ d Γ', Q d Γ' → Q' d Γ') : Dl t Γ Q' := fun F σ W R r z => h F σ W R r fun v W' d Γ' s r' l q => z v W' d Γ' s r' l (k d Γ' q)
theorem EvT.dl {t : TT} {b : Bool} {Q : Bool → Gam → Prop} (h : EvT t Γ b) (q : Q b Γ) : DlT t Γ Q := fun F σ W R r k => h F σ W R r fun H s => k b (W.at H) Γ (Stp.of_same r.ok s) (r.same s) q
theorem EvA.dl {t : TA} {Q : List D → Gam → Prop} (h : EvA t Γ ds) (q : Q ds Γ) : DlA t Γ Q := fun F σ W R r k => h F σ W R r fun vs H s l => k vs (W.at H) ds Γ (Stp.of_same r.ok s) (r.same s) l q
end

/-! ### names, constants -/
section
variable {Γ : Gam} {i : Nat} {d : D} {ds : List D}
theorem ev_var (h : Γ[i]? = some (.val d)) : Ev (tVar i) Γ d := fun F σ W Q r k => let ⟨v, e, l⟩ := r.val i d h; ⟨v, e, k v W.H (Same.refl _) l⟩
theorem evb_own (h : Γ[i]? = some (.own ds)) : EvB (tVar i) Γ ds := fun F σ W Q r k => let ⟨a, vs, e, _, _, _, q, l⟩ := r.own i ds h; ⟨.ref a, e, k a vs W.H (Same.refl _) q l⟩
theorem ev_int {z : Int} : Ev (tC (.int z)) Γ (.int z) := fun F σ W Q r k => k _ W.H (Same.refl _) rfl
theorem ev_bl {z : Bool} : Ev (tC (.bl z)) Γ (.bl z) := fun F σ W Q r k => k _ W.H (Same.refl _) rfl
theorem ev_str {z : Str} : Ev (tC (.str z)) Γ (.str z) := fun F σ W Q r k => k _ W.H (Same.refl _) rfl
theorem ev_non : Ev (tC .non) Γ .non := fun F σ W Q r k => k _ W.H (Same.refl _) rfl
theorem ev_raw {z : V} : Ev (tC z) Γ (.raw z) := fun F σ W Q r k => k _ W.H (Same.refl _) rfl
end

/-! ### arguments -/
section
variable {Γ : Gam} {t : TE} {tr : TA} {d : D} {ds : List D}
theorem eva_nil : EvA tNil Γ [] := fun F σ W Q r k => k [] W.H (Same.refl _) rfl
theorem eva_cons (h : Ev t Γ d) (hr : EvA tr Γ ds) : EvA (tCons t tr) Γ (d :: ds) := fun F σ W Q r k =>
  h F σ W _ r fun v H s l => hr F σ (W.at H) _ (r.same s) fun vs H' s' l' => k (v :: vs) H' (Same.trans s s') ⟨v, vs, rfl, Rep.same (W := W.at H) s' l, l'⟩
theorem dla_nil {Q : List D → Gam → Prop} (q : Q [] Γ) : DlA tNil Γ Q := eva_nil.dl q
theorem dla_cons {Q : List D → Gam → Prop} (h : Dl t Γ fun d Γ1 => DlA tr Γ1 fun ds Γ2 => Q (d :: ds) Γ2) : DlA (tCons t tr) Γ Q := fun F σ W R r k =>
  h F σ W _ r fun v W1 d Γ1 s1 r1 l1 h1 => h1 F σ W1 _ r1 fun vs W2 ds Γ2 s2 r2 l2 q => k (v :: vs) W2 (d :: ds) Γ2 (s1.trans s2) r2 ⟨v, vs, rfl, l1.stp s2, l2⟩ q
end

/-! ### operators -/
/-- what a two-place operator gives on data -/
def DR2 (r : R2) (x y d : D) : Prop := ∀ (W : Wd) (u v : V) (Q : VK), (∀ a, W.U a → W.H a ≠ none) → Rep W x u → Rep W y v → (∀ z H, Same W.H H → Rep (W.at H) d z → Q z H) → r u v W.H Q
def DR1 (r : V → Hp → VK → Prop) (x d : D) : Prop := ∀ (W : Wd) (u : V) (Q : VK), (∀ a, W.U a → W.H a ≠ none) → Rep W x u → (∀ z H, Same W.H H → Rep (W.at H) d z → Q z H) → r u W.H Q
def DRL (r : List V → Hp → VK → Prop) (xs : List D) (d : D) : Prop := ∀ (W : Wd) (us : List V) (Q : VK), (∀ a, W.U a → W.H a ≠ none) → RepL W xs us → (∀ z H, Same W.H H → Rep (W.at H) d z → Q z H) → r us W.H Q
section
variable {Γ : Gam} {ta tb : TE} {r : R2} {x y d : D}
theorem ev_op (ha : Ev ta Γ x) (hb : Ev tb Γ y) (hr : DR2 r x y d) : Ev (tOp r ta tb) Γ d := fun F σ W Q g k =>
  ha F σ W _ g fun u H s l => hb F σ (W.at H) _ (g.same s) fun v H' s' l' => hr (W.at H') u v Q ((g.same s).same s').ok.dom (Rep.same (W := W.at H) s' l) l' fun z H'' s'' q => k z H'' (Same.trans s (Same.trans s' s'')) q
theorem dl_op {Q : D → Gam → Prop} (h : Dl ta Γ fun x Γ1 => Dl tb Γ1 fun y Γ2 => ∃ d, DR2 r x y d ∧ Q d Γ2) : Dl (tOp r ta tb) Γ Q := fun F σ W R g k =>
  h F σ W _ g fun u W1 x Γ1 s1 g1 l1 h1 => h1 F σ W1 _ g1 fun v W2 y Γ2 s2 g2 l2 ⟨d, hr, q⟩ => hr W2 u v R g2.ok.dom (l1.stp s2) l2 fun z H s3 l3 =>
    k z (W2.at H) d Γ2 ((s1.trans s2).trans (Stp.of_same g2.ok s3)) (g2.same s3) l3 q
theorem ev_un {r : V → Hp → VK → Prop} (ha : Ev ta Γ x) (hr : DR1 r x d) : Ev (tUn r ta) Γ d := fun F σ W Q g k =>
  ha F σ W _ g fun u H s l => hr (W.at H) u Q (g.same s).ok.dom l fun z H' s' q => k z H' (Same.trans s s') q
theorem dl_un {r : V → Hp → VK → Prop} {Q : D → Gam → Prop} (h : Dl ta Γ fun x Γ1 => ∃ d, DR1 r x d ∧ Q d Γ1) : Dl (tUn r ta) Γ Q := fun F σ W R g k =>
  h F σ W _ g fun u W1 x Γ1 s1 g1 l1 ⟨d, hr, q⟩ => hr W1 u R g1.ok.dom l1 fun z H s3 l3 => k z (W1.at H) d Γ1 (s1.trans (Stp.of_same g1.ok s3)) (g1.same s3) l3 q
theorem ev_cb {r : List V → Hp → VK → Prop} {t : TA} {xs : List D} (ha : EvA t Γ xs) (hr : DRL r xs d) : Ev (tCB r t) Γ d := fun F σ W Q g k =>
  ha F σ W _ g fun us H s l => hr (W.at H) us Q (g.same s).ok.dom l fun z H' s' q => k z H' (Same.trans s s') q
theorem dl_cb {r : List V → Hp → VK → Prop} {t : TA} {Q : D → Gam → Prop} (h : DlA t Γ fun xs Γ1 => ∃ d, DRL r xs d ∧ Q d Γ1) : Dl (tCB r t) Γ Q := fun F σ W R g k =>
  h F σ W _ g fun us W1 xs Γ1 s1 g1 l1 ⟨d, hr, q⟩ => hr W1 us R g1.ok.dom l1 fun z H s3 l3 => k z (W1.at H) d Γ1 (s1.trans (Stp.of_same g1.ok s3)) (g1.same s3) l3 q
end
/-- no new object -/
theorem dr2_flat {r : R2} {x y d : D} (h : ∀ (W : Wd) (u v : V) (Q : VK), Rep W x u → Rep W y v → (∀ z, Rep W d z → Q z W.H) → r u v W.H Q) : DR2 r x y d :=
  fun W u v Q _ a b k => h W u v Q a b fun z q => k z W.H (Same.refl _) q
theorem same_upd {H : Hp} {p : Addr} {o : HO} (h : H p = none) : Same H (upd H p o) := fun b x e => by
  rw [upd_ne (ne_of_none e h)]
  exact e
theorem rep_new_lst {W : Wd} {p : Addr} {ds : List D} {vs : List V} (dom : ∀ a, W.U a → W.H a ≠ none) (h : W.H p = none) (l : RepL W ds vs) : Rep (W.at (upd W.H p (.lst vs))) (.lst ds) (.ref p) :=
  ⟨p, vs, rfl, upd_same, fun u => dom p u h, l.same (same_upd h)⟩
theorem rep_new_tup {W : Wd} {p : Addr} {ds : List D} {vs : List V} (dom : ∀ a, W.U a → W.H a ≠ none) (h : W.H p = none) (l : RepL W ds vs) : Rep (W.at (upd W.H p (.tup vs))) (.tup ds) (.ref p) :=
  ⟨p, vs, rfl, .mk upd_same, fun u => dom p u h, l.same (same_upd h)⟩

section
variable {i j : Int} {x y : Str} {ds es : List D} {K : PySem.W.Frag}
theorem dr2_rI0 {g : Int → Int → V} {d : D} (h : ∀ W, Rep W d (g i j)) : DR2 (rI0 g) (.int i) (.int j) d := dr2_flat fun W u v Q a b k => ⟨i, j, a, b, k _ (h W)⟩
theorem dr2_rI {C : Int → Int → Prop} {g : Int → Int → V} {d : D} (hc : C i j) (h : ∀ W, Rep W d (g i j)) : DR2 (rI C g) (.int i) (.int j) d := dr2_flat fun W u v Q a b k => ⟨i, j, a, b, hc, k _ (h W)⟩
theorem dr2_add : DR2 (rI0 fun i j => .int (i + j)) (.int i) (.int j) (.int (i + j)) := dr2_rI0 fun _ => rfl
theorem dr2_sub : DR2 (rI0 fun i j => .int (i - j)) (.int i) (.int j) (.int (i - j)) := dr2_rI0 fun _ => rfl
theorem dr2_mul (h : CMul i j) : DR2 (rI CMul fun i j => .int (i * j)) (.int i) (.int j) (.int (i * j)) := dr2_rI h fun _ => rfl
theorem dr2_mod (h : 0 < j) : DR2 (rI (fun _ j => 0 < j) fun i j => .int (i % j)) (.int i) (.int j) (.int (i % j)) := dr2_rI h fun _ => rfl
theorem dr2_fdiv (h : CDiv i j) : DR2 (rI CDiv fun i j => .int (i / j)) (.int i) (.int j) (.int (i / j)) := dr2_rI h fun _ => rfl
theorem dr2_lt : DR2 (rI0 fun i j => .bl (decide (i < j))) (.int i) (.int j) (.bl (decide (i < j))) := dr2_rI0 fun _ => rfl
theorem dr2_le : DR2 (rI0 fun i j => .bl (decide (i ≤ j))) (.int i) (.int j) (.bl (decide (i ≤ j))) := dr2_rI0 fun _ => rfl
theorem dr2_gt : DR2 (rI0 fun i j => .bl (decide (j < i))) (.int i) (.int j) (.bl (decide (j < i))) := dr2_rI0 fun _ => rfl
theorem dr2_ge : DR2 (rI0 fun i j => .bl (decide (j ≤ i))) (.int i) (.int j) (.bl (decide (j ≤ i))) := dr2_rI0 fun _ => rfl
abbrev rAddStr : R2 := fun x y H Q => ∃ i j, x = .str i ∧ y = .str j ∧ i.length + j.length ≤ sizeLine ∧ Q (.str (i ++ j)) H
theorem dr2_add_str (h : x.length + y.length ≤ sizeLine) : DR2 rAddStr (.str x) (.str y) (.str (x ++ y)) := dr2_flat fun W u v Q a b k => ⟨x, y, a, b, h, k _ rfl⟩
theorem dr2_cat (h : ds.length + es.length ≤ sizeLine) : DR2 rCat (.lst ds) (.lst es) (.lst (ds ++ es)) := fun W u v Q dom ⟨a, vs, e1, h1, n1, l1⟩ ⟨b, ws, e2, h2, n2, l2⟩ k =>
  ⟨a, b, vs, ws, e1, e2, h1, h2, by rw [← l1.length, ← l2.length]; exact h, fun p hp => k _ _ (same_upd hp) (rep_new_lst dom hp (l1.append l2))⟩
theorem dr2_catT (n : ds ≠ []) (h : ds.length + es.length ≤ sizeLine) : DR2 (rCatT K) (.tup ds) (.tup es) (.tup (ds ++ es)) := by
  intro W u v Q dom ⟨a, vs, e1, h1, n1, l1⟩ ⟨b, ws, e2, h2, n2, l2⟩ k
  have nv : vs ≠ [] := fun z => by
    have := l1.length
    rw [z] at this
    exact n (List.length_eq_zero_iff.mp this)
  subst e1
  refine ⟨a, b, vs, ws, rfl, e2, h1.sq, h2.sq, nv, by rw [← l1.length, ← l2.length]; exact h, fun z => ?_, fun _ p hp => k _ _ (same_upd hp) (rep_new_tup dom hp (l1.append l2))⟩
  have e : es = [] := List.length_eq_zero_iff.mp (by rw [l2.length, z]; rfl)
  rw [e, List.append_nil] at k
  exact k _ W.H (Same.refl _) ⟨a, vs, rfl, h1, n1, l1⟩
theorem dr2_eq_int : DR2 rEq (.int i) (.int j) (.bl (decide (i = j))) := dr2_flat fun W u v Q a b k => by
  rw [show u = .int i from a, show v = .int j from b]
  exact ⟨rfl, k _ (congrArg V.bl (by simp))⟩
theorem dr2_eq_str : DR2 rEq (.str x) (.str y) (.bl (decide (x = y))) := dr2_flat fun W u v Q a b k => by
  rw [show u = .str x from a, show v = .str y from b]
  exact ⟨rfl, k _ (congrArg V.bl (by simp))⟩
theorem dr2_ne_int : DR2 rNe (.int i) (.int j) (.bl (!decide (i = j))) := dr2_flat fun W u v Q a b k => by
  rw [show u = .int i from a, show v = .int j from b]
  exact ⟨rfl, k _ (congrArg V.bl (by simp))⟩
theorem dr2_ne_str : DR2 rNe (.str x) (.str y) (.bl (!decide (x = y))) := dr2_flat fun W u v Q a b k => by
  rw [show u = .str x from a, show v = .str y from b]
  exact ⟨rfl, k _ (congrArg V.bl (by simp))⟩
end

/-! ### deep equality -/
mutual
def py : D → PyData
  | .non => .none | .bl b => .bool b | .int i => .int i | .str x => .str x
  | .tup ds => .tuple (pys ds) | .lst ds => .list (pys ds)
  | .tupN ds => .tuple (pys ds)
  | .obj _ _ _ => .none | .raw _ => .none | .purse => .none | .rng _ _ => .none | .dct _ _ => .none | .scr _ _ => .none
def pys : List D → List PyData
  | [] => []
  | d :: ds => py d :: pys ds
end
mutual
def isPy : D → Bool
  | .obj _ _ _ => false | .raw _ => false | .purse => false | .rng _ _ => false | .dct _ _ => false | .scr _ _ => false
  | .tup ds => isPys ds | .lst ds => isPys ds | .tupN ds => isPys ds
  | _ => true
def isPys : List D → Bool
  | [] => true
  | d :: ds => isPy d && isPys ds
end
mutual
theorem dp_of {K : PySem.W.Frag} {W : Wd} : ∀ (d : D) (v : V), isPy d = true → Rep W d v → Dp K W.H v (py d)
  | .non, _, _, h => by rw [show _ = V.non from h]; exact .non
  | .bl b, _, _, h => by rw [show _ = V.bl b from h]; exact .bl b
  | .int b, _, _, h => by rw [show _ = V.int b from h]; exact .int b
  | .str b, _, _, h => by rw [show _ = V.str b from h]; exact .str b
  | .tup ds, _, p, ⟨a, vs, e, h, _, l⟩ => by rw [e]; exact .tup h.sq (dps_of ds vs p l)
  | .tupN ds, _, p, ⟨a, vs, e, h, _, l⟩ => by rw [e]; exact .tup h.at.sq (dps_of ds vs p l)
  | .lst ds, _, p, ⟨a, vs, e, h, _, l⟩ => by rw [e]; exact .lst (.of h) (dps_of ds vs p l)
  | .obj _ _ _, _, p, _ => nomatch p
  | .raw _, _, p, _ => nomatch p
  | .purse, _, p, _ => nomatch p
  | .rng _ _, _, p, _ => nomatch p
  | .dct _ _, _, p, _ => nomatch p
  | .scr _ _, _, p, _ => nomatch p
theorem dps_of {K : PySem.W.Frag} {W : Wd} : ∀ (ds : List D) (vs : List V), isPys ds = true → RepL W ds vs → DpAll K W.H vs (pys ds)
  | [], _, _, h => by rw [show _ = [] from h]; exact .nil
  | d :: ds, _, p, ⟨v, r, e, h1, h2⟩ => by
    have p' : isPy d = true ∧ isPys ds = true := by simpa [isPys] using p
    rw [e]
    exact .cons (dp_of d v p'.1 h1) (dps_of ds r p'.2 h2)
end
section
variable {K : PySem.W.Frag} {x y : D} {ta tb : TE} {Γ : Gam} {ds es : List D}
theorem dr2_eqD (px : isPy x = true) (py' : isPy y = true) (sx : SeqAt.shaped (py x) = true) (sy : SeqAt.shaped (py y) = true) : DR2 (rEqD K) x y (.bl (PyData.eqv (py x) (py y))) :=
  dr2_flat fun W u v Q a b k => ⟨_, _, dp_of x u px a, dp_of y v py' b, sx, sy, k _ rfl⟩
theorem dr2_neD (px : isPy x = true) (py' : isPy y = true) (sx : SeqAt.shaped (py x) = true) (sy : SeqAt.shaped (py y) = true) : DR2 (rNeD K) x y (.bl (!PyData.eqv (py x) (py y))) :=
  dr2_flat fun W u v Q a b k => ⟨_, _, dp_of x u px a, dp_of y v py' b, sx, sy, k _ rfl⟩
end
end Dw

/-! Rules over data: tests, statements, calls, lists that are one's own. -/
namespace Dw
open PySem PySem.Spec PyProof.Rows L2

/-! ### tests -/
section
variable {Γ : Gam} {t ta tb : TE} {c ct' : TT} {a b : Bool} {d d1 d2 : D} {ds : List D} {K : PySem.W.Frag}
abbrev tTru (K : PySem.W.Frag) (ta : TE) : TT := fun σ H Q => ta σ H fun x H' => ∃ k, TruV K x H' k ∧ Q k H'
theorem evt_test (h : Ev t Γ (.bl b)) : EvT (tTest t) Γ b := fun F σ W Q g k => h F σ W _ g fun v H s l => ⟨b, l, k H s⟩
theorem evt_b (h : Ev t Γ (.bl b)) : EvT (tB t) Γ b := fun F σ W Q g k => h F σ W _ g fun v H s l => ⟨b, l, k H s⟩
theorem evt_tru_bl (h : Ev t Γ (.bl b)) : EvT (tTru K t) Γ b := fun F σ W Q g k => h F σ W _ g fun v H s l => ⟨b, by rw [show v = .bl b from l]; rfl, k H s⟩
theorem evt_tru_int {i : Int} (h : Ev t Γ (.int i)) : EvT (tTru K t) Γ (i != 0) := fun F σ W Q g k => h F σ W _ g fun v H s l => ⟨_, by rw [show v = .int i from l]; rfl, k H s⟩
theorem evt_tru_non (h : Ev t Γ .non) : EvT (tTru K t) Γ false := fun F σ W Q g k => h F σ W _ g fun v H s l => ⟨_, by rw [show v = .non from l]; rfl, k H s⟩
theorem evt_tru_lst (h : EvB t Γ ds) : EvT (tTru K t) Γ (!ds.isEmpty) := fun F σ W Q g k => h F σ W _ g fun v vs H s e l => ⟨_, .inl ⟨vs, .of e, by
  have := l.length
  cases ds <;> cases vs <;> simp_all⟩, k H s⟩
theorem evt_and (h : EvT c Γ a) (h' : a = true → EvT ct' Γ b) : EvT (tAnd c ct') Γ (a && b) := fun F σ W Q g k => h F σ W _ g fun H s => by
  cases a with
  | true => exact h' rfl F σ (W.at H) Q (g.same s) fun H' s' => k H' (Same.trans s s')
  | false => exact k H s
theorem evt_or (h : EvT c Γ a) (h' : a = false → EvT ct' Γ b) : EvT (tOr c ct') Γ (a || b) := fun F σ W Q g k => h F σ W _ g fun H s => by
  cases a with
  | false => exact h' rfl F σ (W.at H) Q (g.same s) fun H' s' => k H' (Same.trans s s')
  | true => exact k H s
theorem evt_not (h : EvT c Γ a) : EvT (tNot c) Γ (!a) := fun F σ W Q g k => h F σ W _ g fun H s => k H s
theorem evt_yes : EvT tYes Γ true := fun F σ W Q g k => k W.H (Same.refl _)
theorem dlt_test {Q : Bool → Gam → Prop} (h : Dl t Γ fun d Γ1 => ∃ b, d = .bl b ∧ Q b Γ1) : DlT (tTest t) Γ Q := fun F σ W R g k => h F σ W _ g fun v W1 d Γ1 s g1 l ⟨b, e, q⟩ => ⟨b, by rw [e] at l; exact l, k b W1 Γ1 s g1 q⟩
theorem dlt_b {Q : Bool → Gam → Prop} (h : Dl t Γ fun d Γ1 => ∃ b, d = .bl b ∧ Q b Γ1) : DlT (tB t) Γ Q := fun F σ W R g k => h F σ W _ g fun v W1 d Γ1 s g1 l ⟨b, e, q⟩ => ⟨b, by rw [e] at l; exact l, k b W1 Γ1 s g1 q⟩
theorem dlt_tru_bl {Q : Bool → Gam → Prop} (h : Dl t Γ fun d Γ1 => ∃ b, d = .bl b ∧ Q b Γ1) : DlT (tTru K t) Γ Q := fun F σ W R g k => h F σ W _ g fun v W1 d Γ1 s g1 l ⟨b, e, q⟩ => ⟨b, by rw [e] at l; rw [show v = .bl b from l]; rfl, k b W1 Γ1 s g1 q⟩
theorem dlt_not {Q : Bool → Gam → Prop} (h : DlT c Γ fun b Γ1 => Q (!b) Γ1) : DlT (tNot c) Γ Q := fun F σ W R g k => h F σ W _ g fun b W1 Γ1 s g1 q => k (!b) W1 Γ1 s g1 q
theorem dlt_and {Q : Bool → Gam → Prop} (h : DlT c Γ fun b Γ1 => (b = true → DlT ct' Γ1 Q) ∧ (b = false → Q false Γ1)) : DlT (tAnd c ct') Γ Q := fun F σ W R g k => h F σ W _ g fun b W1 Γ1 s g1 q => by
  cases b with
  | true => exact q.1 rfl F σ W1 R g1 fun b' W2 Γ2 s2 g2 q2 => k b' W2 Γ2 (s.trans s2) g2 q2
  | false => exact k false W1 Γ1 s g1 (q.2 rfl)
theorem dlt_or {Q : Bool → Gam → Prop} (h : DlT c Γ fun b Γ1 => (b = false → DlT ct' Γ1 Q) ∧ (b = true → Q true Γ1)) : DlT (tOr c ct') Γ Q := fun F σ W R g k => h F σ W _ g fun b W1 Γ1 s g1 q => by
  cases b with
  | false => exact q.1 rfl F σ W1 R g1 fun b' W2 Γ2 s2 g2 q2 => k b' W2 Γ2 (s.trans s2) g2 q2
  | true => exact k true W1 Γ1 s g1 (q.2 rfl)
theorem dlt_yes {Q : Bool → Gam → Prop} (h : Q true Γ) : DlT tYes Γ Q := evt_yes.dl h
/-! ### choice, and, or as values -/
theorem ev_if (h : EvT c Γ a) (h1 : a = true → Ev ta Γ d1) (h2 : a = false → Ev tb Γ d2) : Ev (tIf c ta tb) Γ (if a = true then d1 else d2) := fun F σ W Q g k => h F σ W _ g fun H s => by
  cases a with
  | true => exact h1 rfl F σ (W.at H) Q (g.same s) fun v H' s' l => k v H' (Same.trans s s') l
  | false => exact h2 rfl F σ (W.at H) Q (g.same s) fun v H' s' l => k v H' (Same.trans s s') l
theorem dl_if {Q : D → Gam → Prop} (h : DlT c Γ fun b Γ1 => (b = true → Dl ta Γ1 Q) ∧ (b = false → Dl tb Γ1 Q)) : Dl (tIf c ta tb) Γ Q := fun F σ W R g k => h F σ W _ g fun b W1 Γ1 s g1 q => by
  cases b with
  | true => exact q.1 rfl F σ W1 R g1 fun v W2 d Γ2 s2 g2 l q2 => k v W2 d Γ2 (s.trans s2) g2 l q2
  | false => exact q.2 rfl F σ W1 R g1 fun v W2 d Γ2 s2 g2 l q2 => k v W2 d Γ2 (s.trans s2) g2 l q2
theorem ev_andV (h : Ev ta Γ (.bl a)) (h' : a = true → Ev tb Γ (.bl b)) : Ev (tAndV ta tb) Γ (.bl (a && b)) := fun F σ W Q g k => h F σ W _ g fun v H s l => ⟨a, l, by
  cases a with
  | true => exact h' rfl F σ (W.at H) Q (g.same s) fun v H' s' l => k v H' (Same.trans s s') l
  | false => exact k _ H s rfl⟩
theorem ev_orV (h : Ev ta Γ (.bl a)) (h' : a = false → Ev tb Γ (.bl b)) : Ev (tOrV ta tb) Γ (.bl (a || b)) := fun F σ W Q g k => h F σ W _ g fun v H s l => ⟨a, l, by
  cases a with
  | false => exact h' rfl F σ (W.at H) Q (g.same s) fun v H' s' l => k v H' (Same.trans s s') l
  | true => exact k _ H s rfl⟩
theorem ev_notV (h : Ev ta Γ (.bl a)) : Ev (tNotV ta) Γ (.bl (!a)) := fun F σ W Q g k => h F σ W _ g fun v H s l => ⟨a, l, k _ H s rfl⟩
theorem dl_andV {Q : D → Gam → Prop} (h : Dl ta Γ fun d Γ1 => ∃ a, d = .bl a ∧ (a = true → Dl tb Γ1 Q) ∧ (a = false → Q (.bl false) Γ1)) : Dl (tAndV ta tb) Γ Q := fun F σ W R g k => h F σ W _ g fun v W1 d Γ1 s g1 l ⟨a, e, q1, q2⟩ => ⟨a, by rw [e] at l; exact l, by
  cases a with
  | true => exact q1 rfl F σ W1 R g1 fun v W2 d Γ2 s2 g2 l q2 => k v W2 d Γ2 (s.trans s2) g2 l q2
  | false => exact k _ W1 (.bl false) Γ1 s g1 rfl (q2 rfl)⟩
theorem dl_orV {Q : D → Gam → Prop} (h : Dl ta Γ fun d Γ1 => ∃ a, d = .bl a ∧ (a = false → Dl tb Γ1 Q) ∧ (a = true → Q (.bl true) Γ1)) : Dl (tOrV ta tb) Γ Q := fun F σ W R g k => h F σ W _ g fun v W1 d Γ1 s g1 l ⟨a, e, q1, q2⟩ => ⟨a, by rw [e] at l; exact l, by
  cases a with
  | false => exact q1 rfl F σ W1 R g1 fun v W2 d Γ2 s2 g2 l q2 => k v W2 d Γ2 (s.trans s2) g2 l q2
  | true => exact k _ W1 (.bl true) Γ1 s g1 rfl (q2 rfl)⟩
end

/-! ### displays -/
section
variable {Γ : Gam} {t : TA} {ds : List D}
theorem evn_lst (h : EvA t Γ ds) (hz : ds.length ≤ sizeLine) : EvN (tLst t) Γ ds := fun F σ W Q g k => h F σ W _ g fun vs H s l => ⟨by rw [← l.length]; exact hz, fun p hp =>
  k p vs _ (Same.trans s (same_upd hp)) (s.free hp) upd_same (RepL.plus (W := W.at H) hp (same_upd hp) l)⟩
theorem ev_tup (h : EvA t Γ ds) (hz : ds.length ≤ sizeLine) : Ev (tTup t) Γ (.tup ds) := fun F σ W Q g k => h F σ W _ g fun vs H s l => ⟨by rw [← l.length]; exact hz, fun p hp =>
  k _ _ (Same.trans s (same_upd hp)) (rep_new_tup (W := W.at H) (g.same s).ok.dom hp l)⟩
theorem dl_lst {Q : D → Gam → Prop} (h : DlA t Γ fun ds Γ1 => ds.length ≤ sizeLine ∧ Q (.lst ds) Γ1) : Dl (tLst t) Γ Q := fun F σ W R g k => h F σ W _ g fun vs W1 ds Γ1 s g1 l ⟨hz, q⟩ => ⟨by rw [← l.length]; exact hz, fun p hp =>
  k _ (W1.at _) (.lst ds) Γ1 (s.trans (Stp.of_same g1.ok (same_upd hp))) (g1.same (same_upd hp)) (rep_new_lst g1.ok.dom hp l) q⟩
theorem dl_tup {Q : D → Gam → Prop} (h : DlA t Γ fun ds Γ1 => ds.length ≤ sizeLine ∧ Q (.tup ds) Γ1) : Dl (tTup t) Γ Q := fun F σ W R g k => h F σ W _ g fun vs W1 ds Γ1 s g1 l ⟨hz, q⟩ => ⟨by rw [← l.length]; exact hz, fun p hp =>
  k _ (W1.at _) (.tup ds) Γ1 (s.trans (Stp.of_same g1.ok (same_upd hp))) (g1.same (same_upd hp)) (rep_new_tup g1.ok.dom hp l) q⟩
end

/-! ### a list of one's own -/
theorem SR.plus {F : Addr → Prop} {Γ : Gam} {σ : L2.St} {W : Wd} {a : Addr} {H : Hp} (g : SR F Γ σ W) (s : Same W.H H) (n : W.H a = none) (ne : H a ≠ none) :
    Stp F W (W.plus H a) ∧ SR F Γ σ (W.plus H a) ∧ ¬ ownA Γ σ a ∧ ¬ F a ∧ ¬ W.P a := by
  have nu : ¬ W.U a := g.ok.new n
  have kp : ∀ b u, W.H b = some u → ¬ W.U b → H b = some u ∧ ¬ (W.U b ∨ b = a) := fun b u q nb => ⟨s b u q, fun z => z.elim nb fun z => by rw [z, n] at q; cases q⟩
  have st : Stp F W (W.plus H a) := ⟨kp, rfl, fun b h => by
    cases q : W.H b with
    | none => exact absurd q (g.ok.dom b (g.ok.fu b h))
    | some u => exact s b u q⟩
  refine ⟨st, ⟨⟨fun b h z => ?_, fun b h => Or.inl (g.ok.fu b h), fun b h => ?_⟩, g.len, fun j d q => ?_, fun j es q => ?_, g.apart⟩, fun ⟨i, ds, e, q⟩ => ?_, fun z => nu (g.ok.fu a z), fun z => nu (g.ok.pu a z).1⟩
  · have z : H b = none := z
    rcases h with h | h
    · exact g.ok.dom b h (s.free z)
    · rw [h] at z; exact ne z
  · obtain ⟨u, f, x, y, h1, h2, h3, q⟩ := g.ok.pu b h
    exact ⟨Or.inl u, f, x, y, h1, h2, h3, s _ _ q⟩
  · obtain ⟨v, e1, r⟩ := g.val j d q
    exact ⟨v, e1, r.stp st⟩
  · obtain ⟨c, ws, e1, u, f, p, q1, r⟩ := g.own j es q
    exact ⟨c, ws, e1, Or.inl u, f, p, s _ _ q1, r.stp st⟩
  · obtain ⟨c, ws, e1, u, f, p, q1, r⟩ := g.own i ds e
    rw [q] at e1; cases e1
    exact nu u
theorem SR.adopt {F : Addr → Prop} {Γ : Gam} {σ : L2.St} {W : Wd} {i : Nat} {a : Addr} {vs : List V} {ds : List D} (g : SR F Γ σ W) (u : W.U a) (f : ¬ F a) (p : ¬ W.P a) (e : W.H a = some (.lst vs)) (l : RepL W ds vs) (no : ¬ ownA Γ σ a) :
    SR F (Γ.set i (.own ds)) (σ.set i (some (.ref a))) W := by
  have lt : ∀ (k : Nat) (s : Sl), k = i → (Γ.set i (.own ds))[k]? = some s → i < Γ.length := fun k s hk q => by
    rw [hk] at q
    have := (List.getElem?_eq_some_iff.mp q).1
    simpa using this
  refine ⟨g.ok, by simp [g.len], fun j d q => ?_, fun j es q => ?_, fun j k c es fs q1 q2 q3 q4 => ?_⟩
  · by_cases hj : j = i
    · have hl := lt j _ hj q
      rw [hj, List.getElem?_set_self hl] at q; cases q
    · rw [List.getElem?_set_ne (Ne.symm hj)] at q ⊢
      exact g.val j d q
  · by_cases hj : j = i
    · have hl := lt j _ hj q
      rw [hj, List.getElem?_set_self hl] at q; cases q
      exact ⟨a, vs, by rw [hj, List.getElem?_set_self (by rw [← g.len]; exact hl)], u, f, p, e, l⟩
    · rw [List.getElem?_set_ne (Ne.symm hj)] at q ⊢
      exact g.own j es q
  · by_cases hj : j = i
    · have hl := lt j _ hj q1
      rw [hj, List.getElem?_set_self (by rw [← g.len]; exact hl)] at q3
      by_cases hk : k = i
      · rw [hj, hk]
      · rw [List.getElem?_set_ne (Ne.symm hk)] at q2 q4
        cases q3
        exact absurd ⟨k, fs, q2, q4⟩ no
    · rw [List.getElem?_set_ne (Ne.symm hj)] at q1 q3
      by_cases hk : k = i
      · have hl := lt k _ hk q2
        rw [hk, List.getElem?_set_self (by rw [← g.len]; exact hl)] at q4
        cases q4
        exact absurd ⟨j, es, q1, q3⟩ no
      · rw [List.getElem?_set_ne (Ne.symm hk)] at q2 q4
        exact g.apart j k c es fs q1 q2 q3 q4
theorem SR.setOwn {F : Addr → Prop} {Γ : Gam} {σ : L2.St} {W : Wd} {i : Nat} {a : Addr} {vs : List V} {ds : List D} {H : Hp} (g : SR F Γ σ W) (s : Same W.H H) (n : W.H a = none) (e : H a = some (.lst vs)) (l : RepL (W.plus H a) ds vs) :
    Stp F W (W.plus H a) ∧ SR F (Γ.set i (.own ds)) (σ.set i (some (.ref a))) (W.plus H a) := by
  obtain ⟨st, g2, no, f, p⟩ := g.plus s n (by rw [e]; exact fun z => nomatch z)
  exact ⟨st, g2.adopt (Or.inr rfl) f p e l no⟩
end Dw

/-! Rules over data: own lists changed, statements, defs and their calls. -/
namespace Dw
open PySem PySem.Spec PyProof.Rows L2

/-! ### an own list is changed -/
theorem SR.write {F : Addr → Prop} {Γ : Gam} {σ : L2.St} {W : Wd} {i : Nat} {a : Addr} {vs : List V} {ds es : List D} (g : SR F Γ σ W) (hi : Γ[i]? = some (.own ds)) (hs : σ[i]? = some (some (.ref a))) (l : RepL W es vs) :
    Stp F W (W.at (upd W.H a (.lst vs))) ∧ SR F (Γ.set i (.own es)) σ (W.at (upd W.H a (.lst vs))) := by
  obtain ⟨a', us, e1, u, f, p, q, r⟩ := g.own i ds hi
  rw [hs] at e1; cases e1
  have kp : ∀ b o, W.H b = some o → ¬ W.U b → (upd W.H a (.lst vs)) b = some o ∧ ¬ W.U b := fun b o e n => ⟨by rw [upd_ne (fun z : b = a => n (by rw [z]; exact u))]; exact e, n⟩
  have st : Stp F W (W.at (upd W.H a (.lst vs))) := ⟨kp, rfl, fun b h => upd_ne (fun z : b = a => f (by rw [← z]; exact h))⟩
  refine ⟨st, ⟨⟨fun b h z => ?_, g.ok.fu, fun b h => ?_⟩, by simp [g.len], fun j d q' => ?_, fun j fs q' => ?_, fun j k c es' fs q1 q2 q3 q4 => ?_⟩⟩
  · have z : (upd W.H a (.lst vs)) b = none := z
    by_cases hb : b = a
    · rw [hb, upd_same] at z; cases z
    · rw [upd_ne hb] at z; exact g.ok.dom b h z
  · obtain ⟨u', f', x, y, h1, h2, h3, q'⟩ := g.ok.pu b h
    exact ⟨u', f', x, y, h1, h2, h3, (upd_ne (fun z : b = a => p (by rw [← z]; exact h))).trans q'⟩
  · have hj : i ≠ j := fun z => by
      subst z
      have hl : i < Γ.length := (List.getElem?_eq_some_iff.mp hi).1
      rw [List.getElem?_set_self hl] at q'; cases q'
    rw [List.getElem?_set_ne hj] at q'
    obtain ⟨v, e1, r'⟩ := g.val j d q'
    exact ⟨v, e1, r'.stp st⟩
  · by_cases hj : i = j
    · subst hj
      have hl : i < Γ.length := (List.getElem?_eq_some_iff.mp hi).1
      rw [List.getElem?_set_self hl] at q'; cases q'
      exact ⟨a, vs, hs, u, f, p, upd_same, l.stp st⟩
    · rw [List.getElem?_set_ne hj] at q'
      obtain ⟨c, ws, e1, u', f', p', q1, r'⟩ := g.own j fs q'
      have nc : c ≠ a := fun z => hj (g.apart i j a ds fs hi q' hs (z ▸ e1))
      exact ⟨c, ws, e1, u', f', p', (upd_ne nc).trans q1, r'.stp st⟩
  · have get : ∀ (j : Nat) (es' : List D), (Γ.set i (.own es))[j]? = some (Sl.own es') → ∃ fs, Γ[j]? = some (Sl.own fs) := fun j es' q => by
      by_cases hj : i = j
      · subst hj; exact ⟨ds, hi⟩
      · rw [List.getElem?_set_ne hj] at q; exact ⟨es', q⟩
    obtain ⟨x, e1⟩ := get j es' q1
    obtain ⟨y, e2⟩ := get k fs q2
    exact g.apart j k c x y e1 e2 q3 q4
section
variable {K : PySem.W.Frag} {Γ : Gam} {i : Nat} {t : TA} {Q : D → Gam → Prop} {ds : List D}
/-- i's list is at the same place behind a step -/
theorem tyV_lst {K : PySem.W.Frag} {H : Hp} {a : Addr} {vs : List V} (h : H a = some (.lst vs)) : tyV K "list" (.ref a) H := .inl ⟨rfl, _, .inl (.inl h)⟩
theorem dl_append (h0 : ∃ ds, Γ[i]? = some (.own ds)) (h : DlA t Γ fun es Γ1 => ∃ e ds, es = [e] ∧ Γ1[i]? = some (.own ds) ∧ ds.length < sizeLine ∧ Q .non (Γ1.set i (.own (ds ++ [e])))) : Dl (tBM K "list" rAppend (tVar i) t) Γ Q := fun F σ W R g k => by
  obtain ⟨ds0, e0⟩ := h0
  obtain ⟨a, vs0, hs, _, _, _, q0, _⟩ := g.own i ds0 e0
  refine ⟨.ref a, hs, tyV_lst q0, h F σ W _ g fun us W1 es Γ1 s1 g1 l1 ⟨e, ds, e1, e2, hz, q⟩ => ?_⟩
  obtain ⟨a', vs, hs', u, f, p, q1, r1⟩ := g1.own i ds e2
  rw [hs] at hs'; cases hs'
  subst e1
  obtain ⟨v, _, rfl, l1, rfl⟩ := l1
  obtain ⟨st, g2⟩ := g1.write e2 hs (r1.append (RepL.one l1))
  exact ⟨a, vs, v, rfl, rfl, q1, by rw [← r1.length]; exact hz, k .non _ .non _ (s1.trans st) g2 rfl q⟩
theorem dl_popAt (h0 : ∃ ds, Γ[i]? = some (.own ds)) (h : DlA t Γ fun es Γ1 => ∃ (z : Int) (j : Nat) (ds : List D) (d : D), es = [.int z] ∧ Γ1[i]? = some (.own ds) ∧ -(2 ^ 63) ≤ z ∧ z < 2 ^ 63 ∧ seqIndex? z ds.length = some j ∧ ds[j]? = some d ∧ Q d (Γ1.set i (.own (ds.eraseIdx j)))) :
    Dl (tBM K "list" rPopAt (tVar i) t) Γ Q := fun F σ W R g k => by
  obtain ⟨ds0, e0⟩ := h0
  obtain ⟨a, vs0, hs, _, _, _, q0, _⟩ := g.own i ds0 e0
  refine ⟨.ref a, hs, tyV_lst q0, h F σ W _ g fun us W1 es Γ1 s1 g1 l1 ⟨z, j, ds, d, e1, e2, h1, h2, h3, h4, q⟩ => ?_⟩
  obtain ⟨a', vs, hs', u, f, p, q1, r1⟩ := g1.own i ds e2
  rw [hs] at hs'; cases hs'
  subst e1
  obtain ⟨v, _, rfl, l1, rfl⟩ := l1
  obtain ⟨w', hw, rw'⟩ := r1.get h4
  obtain ⟨st, g2⟩ := g1.write e2 hs (r1.eraseIdx j)
  exact ⟨a, vs, z, j, w', rfl, by rw [show v = .int z from l1], q1, h1, h2, by rw [← r1.length]; exact h3, hw, k w' _ d _ (s1.trans st) g2 (rw'.stp st) q⟩
/-- xs[k] = v -/
theorem dl_pop (h0 : Γ[i]? = some (.own ds)) {d : D} (hd : ds[ds.length - 1]? = some d) (q : Q d (Γ.set i (.own ds.dropLast))) : Dl (tBM0 K "list" rPop (tVar i)) Γ Q := fun F σ W R g k => by
  obtain ⟨a, vs, hs, u, f, p, q1, r1⟩ := g.own i ds h0
  obtain ⟨w', hw, rw'⟩ := r1.get hd
  have l2 : RepL W ds.dropLast vs.dropLast := by
    rw [List.dropLast_eq_take, List.dropLast_eq_take, r1.length]
    exact r1.take _
  obtain ⟨st, g2⟩ := g.write h0 hs l2
  exact ⟨.ref a, hs, tyV_lst q1, a, vs, w', rfl, rfl, q1, by rw [← r1.length]; exact hw, k w' _ d _ st g2 (rw'.stp st) q⟩
end

/-! ### statements -/
section
variable {K : PySem.W.Frag} {Γ : Gam} {i j : Nat} {t u : TS} {te : TE} {De : DE} {ds es : List D}
theorem ds_next (h : De.nx Γ) : Ds tNext Γ De := fun F σ W Dr g l => l.nx σ W Γ (Stp.refl W) g h
theorem ds_seq (h : Ds t Γ { De with nx := fun Γ' => Ds u Γ' De }) : Ds (tSeq t u) Γ De := fun F σ W Dr g l => h F σ W { Dr with nx := u Dr } g
  ⟨fun σ1 W1 Γ1 s g1 q => q F σ1 W1 Dr g1 (l.after s), l.rt, l.bk, l.ct⟩
theorem ds_asg (h : Dl te Γ fun d Γ1 => De.nx (Γ1.set i (.val d))) : Ds (tAsg te (gName i)) Γ De := fun F σ W Dr g l => h F σ W _ g fun v W1 d Γ1 s g1 r q => l.nx _ W1 _ s (g1.set r) q
theorem ds_asg_own (h : EvN te Γ ds) (q : De.nx (Γ.set i (.own ds))) : Ds (tAsg te (gName i)) Γ De := fun F σ W Dr g l => h F σ W _ g fun a vs H s n e r =>
  let ⟨st, g2⟩ := g.setOwn (i := i) s n e r
  l.nx _ (W.plus H a) _ st g2 q
theorem ds_if {c : TT} (h : DlT c Γ fun b Γ1 => (b = true → Ds t Γ1 De) ∧ (b = false → Ds u Γ1 De)) : Ds (tIfS c t u) Γ De := fun F σ W Dr g l => h F σ W _ g fun b W1 Γ1 s g1 q => by
  cases b with
  | true => exact q.1 rfl F σ W1 Dr g1 (l.after s)
  | false => exact q.2 rfl F σ W1 Dr g1 (l.after s)
theorem ds_ret (h : Dl te Γ fun d _ => De.rt d) : Ds (tRet te) Γ De := fun F σ W Dr g l => h F σ W _ g fun v W1 d Γ1 s g1 r q => l.rt v W1 d s g1.ok r q
theorem ds_retN (h : De.rt .non) : Ds tRetN Γ De := fun F σ W Dr g l => l.rt .non W .non (Stp.refl W) g.ok rfl h
theorem ds_drop (h : Dl te Γ fun _ Γ1 => De.nx Γ1) : Ds (tDrop te) Γ De := fun F σ W Dr g l => h F σ W _ g fun v W1 d Γ1 s g1 r q => l.nx _ W1 _ s g1 q
/-- an own list is no longer changed -/
theorem SR.freeze {F : Addr → Prop} {σ : L2.St} {W : Wd} {a : Addr} (g : SR F Γ σ W) (hi : Γ[i]? = some (.own ds)) (hs : σ[i]? = some (some (.ref a))) :
    Stp F W ⟨W.H, fun b => W.U b ∧ b ≠ a, W.P⟩ ∧ SR F (Γ.set i (.val (.lst ds))) σ ⟨W.H, fun b => W.U b ∧ b ≠ a, W.P⟩ := by
  obtain ⟨a', us, e1, u, f, p, q, r⟩ := g.own i ds hi
  rw [hs] at e1; cases e1
  have st : Stp F W ⟨W.H, fun b => W.U b ∧ b ≠ a, W.P⟩ := ⟨fun b o e n => ⟨e, fun z => n z.1⟩, rfl, fun _ _ => rfl⟩
  have hl : i < Γ.length := (List.getElem?_eq_some_iff.mp hi).1
  refine ⟨st, ⟨⟨fun b h => g.ok.dom b h.1, fun b h => ⟨g.ok.fu b h, fun z => f (z ▸ h)⟩, fun b h => let ⟨u', f', pp⟩ := g.ok.pu b h; ⟨⟨u', fun z => p (z ▸ h)⟩, f', pp⟩⟩, by simp [g.len], fun j d q' => ?_, fun j fs q' => ?_, fun j k c es' fs q1 q2 q3 q4 => ?_⟩⟩
  · by_cases hj : i = j
    · subst hj
      rw [List.getElem?_set_self hl] at q'; cases q'
      exact ⟨.ref a, hs, a, us, rfl, q, fun z => z.2 rfl, r.stp st⟩
    · rw [List.getElem?_set_ne hj] at q'
      obtain ⟨v, e1, r'⟩ := g.val j d q'
      exact ⟨v, e1, r'.stp st⟩
  · have hj : i ≠ j := fun z => by
      subst z
      rw [List.getElem?_set_self hl] at q'; cases q'
    rw [List.getElem?_set_ne hj] at q'
    obtain ⟨c, ws, e1, u', f', p', q1, r'⟩ := g.own j fs q'
    exact ⟨c, ws, e1, ⟨u', fun z => hj (g.apart i j a ds fs hi q' hs (z ▸ e1))⟩, f', p', q1, r'.stp st⟩
  · have get : ∀ (j : Nat) (es' : List D), (Γ.set i (.val (.lst ds)))[j]? = some (Sl.own es') → Γ[j]? = some (Sl.own es') := fun j es' q => by
      by_cases hj : i = j
      · subst hj; rw [List.getElem?_set_self hl] at q; cases q
      · rw [List.getElem?_set_ne hj] at q; exact q
    exact g.apart j k c es' fs (get j es' q1) (get k fs q2) q3 q4
theorem ds_freeze (i : Nat) (hi : Γ[i]? = some (.own ds)) (h : Ds t (Γ.set i (.val (.lst ds))) De) : Ds t Γ De := fun F σ W Dr g l => by
  obtain ⟨a, vs, hs, _⟩ := g.own i ds hi
  obtain ⟨st, g2⟩ := g.freeze hi hs
  exact h F σ ⟨W.H, fun b => W.U b ∧ b ≠ a, W.P⟩ Dr g2 (l.after st)
theorem ds_ret_own (hi : Γ[i]? = some (.own ds)) (h : De.rt (.lst ds)) : Ds (tRet (tVar i)) Γ De := by
  have hl : i < Γ.length := (List.getElem?_eq_some_iff.mp hi).1
  exact ds_freeze i hi (ds_ret ((ev_var (d := .lst ds) (by rw [List.getElem?_set_self hl])).dl h))
theorem ds_par {ta : TA} (h : DlA ta Γ fun ds Γ1 => ∃ x y, ds = [x, y] ∧ De.nx ((Γ1.set i (.val x)).set j (.val y))) : Ds (tPar i j ta) Γ De := fun F σ W Dr g l => h F σ W _ g fun vs W1 ds Γ1 s g1 r ⟨x, y, e, q⟩ => by
  subst e
  obtain ⟨v, _, rfl, r1, u, _, rfl, r2, rfl⟩ := r
  exact ⟨v, u, rfl, l.nx _ W1 _ s ((g1.set r1).set r2) q⟩
theorem ds_par_oo {t1 t2 : TE} (h1 : EvN t1 Γ ds) (h2 : EvN t2 Γ es) (q : De.nx ((Γ.set i (.own ds)).set j (.own es))) : Ds (tPar i j (tCons t1 (tCons t2 tNil))) Γ De := fun F σ W Dr g l =>
  h1 F σ W _ g fun a vs H s n e r => by
    obtain ⟨st1, g1, no1, f1, p1⟩ := g.plus s n (by rw [e]; exact fun z => nomatch z)
    refine h2 F σ (W.plus H a) _ g1 fun b ws H' s' n' e' r' => ?_
    obtain ⟨st2, g2, no2, f2, p2⟩ := g1.plus s' n' (by rw [e']; exact fun z => nomatch z)
    have nab : b ≠ a := fun z => by
      have n' : H b = none := n'
      rw [z, e] at n'; cases n'
    have ea : H' a = some (.lst vs) := s' a _ e
    have ra : RepL ((W.plus H a).plus H' b) ds vs := r.stp st2
    have g3 := g2.adopt (i := i) (Or.inl (Or.inr rfl)) f1 p1 ea ra no1
    have no3 : ¬ ownA (Γ.set i (.own ds)) (σ.set i (some (.ref a))) b := fun ⟨k, fs, e1, e2⟩ => by
      by_cases hk : k = i
      · rw [hk] at e1 e2
        have hl : i < (Γ.set i (Sl.own ds)).length := (List.getElem?_eq_some_iff.mp e1).1
        rw [List.length_set] at hl
        rw [List.getElem?_set_self (by rw [← g.len]; exact hl)] at e2
        cases e2
        exact nab rfl
      · rw [List.getElem?_set_ne (Ne.symm hk)] at e1 e2
        exact no2 ⟨k, fs, e1, e2⟩
    have g4 := g3.adopt (i := j) (Or.inr rfl) f2 p2 e' r' no3
    exact ⟨.ref a, .ref b, rfl, l.nx _ ((W.plus H a).plus H' b) _ (st1.trans st2) g4 q⟩
end

/-! ### a def's promise over data -/
/-- for each x : α that is ok, called with args x, it returns some d with rel x d -/
structure Spc where
  ty : Type
  args : ty → List D
  ok : ty → Prop
  rel : ty → D → Prop
def toSp (s : Spc) : Sp := fun vs H Q _ => ∃ (x : s.ty) (F : Addr → Prop) (W : Wd), W.H = H ∧ WOk F W ∧ RepL W (s.args x) vs ∧ s.ok x ∧ ∀ d v W', s.rel x d → Stp F W W' → WOk F W' → Rep W' d v → Q v W'.H
/-- the slots at a def's start -/
def Gz0 (n : Nat) (ds : List D) : Gam := ds.map Sl.val ++ List.replicate (n - ds.length) Sl.unset
theorem sr_start {F : Addr → Prop} {W : Wd} {N : List Str} {ds : List D} {vs : List V} (ok : WOk F W) (r : RepL W ds vs) : SR F (Gz0 N.length ds) (L2.start N vs) W := by
  have hl := r.length
  refine ⟨ok, by simp [Gz0, L2.start, hl], fun i d e => ?_, fun i d e => ?_, fun i j a ds' es e => ?_⟩
  · unfold Gz0 at e
    by_cases hi : i < ds.length
    · rw [List.getElem?_append_left (by simpa using hi), List.getElem?_map] at e
      cases q : ds[i]? with
      | none => rw [q] at e; cases e
      | some d' =>
        rw [q] at e; cases e
        obtain ⟨v, e1, r1⟩ := r.get q
        refine ⟨v, ?_, r1⟩
        unfold L2.start
        rw [List.getElem?_append_left (by simp [← hl, hi]), List.getElem?_map, e1]
        rfl
    · rw [List.getElem?_append_right (by simpa using hi)] at e
      have := List.mem_of_getElem? e
      rw [List.mem_replicate] at this
      cases this.2
  all_goals
    exfalso
    unfold Gz0 at e
    by_cases hi : i < ds.length
    · rw [List.getElem?_append_left (by simpa using hi), List.getElem?_map] at e
      cases q : ds[i]? with
      | none => rw [q] at e; cases e
      | some d' => rw [q] at e; cases e
    · rw [List.getElem?_append_right (by simpa using hi)] at e
      have := List.mem_of_getElem? e
      rw [List.mem_replicate] at this
      cases this.2
theorem body_of {s : Spc} {N : List Str} {t : TS} {vs : List V} {H : Hp} {Q : VK} {E : XK} (hs : toSp s vs H Q E) (hb : ∀ x, s.ok x → Ds t (Gz0 N.length (s.args x)) ⟨fun _ => s.rel x .non, s.rel x, fun _ => False, fun _ => False⟩) :
    t { nx := fun _ H' => Q .non H', rt := Q } (L2.start N vs) H := by
  obtain ⟨x, F, W, rfl, ok, r, hx, q⟩ := hs
  exact hb x hx F _ W _ (sr_start ok r) ⟨fun σ W' Γ st g h => q .non .non W' h st g.ok rfl, fun v W' d st ok' r' h => q d v W' h st ok' r', fun _ _ _ _ _ h => h.elim, fun _ _ _ _ _ h => h.elim⟩
theorem spc_len {s : Spc} {n : Nat} (h : ∀ x, (s.args x).length = n) : ∀ vs H Q E, toSp s vs H Q E → vs.length = n := fun vs H Q E ⟨x, F, W, _, _, r, _⟩ => by rw [← r.length]; exact h x
section
variable {P : Program} {w : World} {K : PySem.W.Frag} {mg : Str → Option Value} {base : Heap}
/-- THE RULE for a def that raises nothing -/
theorem fn_ok {x qual : Str} {st : Stmt} {f : Addr} {fd : FuncData} {N ps : List Str} {k : Nat} {s : Spc} (F : Fun K x qual st f fd) (S : FnScope N ps (defScope st)) (len : ∀ x, (s.args x).length = ps.length)
    (hbody : ∀ (cdv : Value) (A : Around) (outer : List Env) (s' : Shared) (H : Hp) (E : XK), Room k (A.deeper (envOfC qual (defScope st) s'.heap.objs.size f cdv)) →
      ∃ t, PSs (cxOf CX0 P w K mg base N qual (defScope st) f cdv A outer s' H E).nox (defBody st) t ∧ ∀ x, s.ok x → Ds t (Gz0 N.length (s.args x)) ⟨fun _ => s.rel x .non, s.rel x, fun _ => False, fun _ => False⟩) :
    FnOk P w K mg base CX0 (k + 1) f fd ps (toSp s) :=
  F.ok S (spc_len len) fun cdv A outer s' H vs Q E hr h => by
    obtain ⟨t, p, hb⟩ := hbody cdv A outer s' H E hr
    exact ⟨t, p, body_of h hb⟩
end
section
variable {Γ : Gam} {s : Spc} {t tk : TA} {E : XK} {Q : D → Gam → Prop} {ds es : List D} {d : D}
theorem dl_call (h : DlA t Γ fun ds Γ1 => ∃ x, ds = s.args x ∧ s.ok x ∧ ∀ d, s.rel x d → Q d Γ1) : Dl (tCall (toSp s) [] E t) Γ Q := fun F σ W R g k => h F σ W _ g fun vs W1 ds Γ1 st g1 r ⟨x, e, ok, q⟩ => by
  subst e
  rw [List.append_nil]
  exact ⟨x, _, W1, rfl, g1.callOk, r, ok, fun d v W' hd st' ok' r' => k v W' d Γ1 (st.trans (st'.sub fun _ z => .inl z)) (g1.call st' ok') r' (q d hd)⟩
theorem pure_call {F : Addr → Prop} {σ : L2.St} {W : Wd} {vs : List V} {x : s.ty} {R : VK} {U : Addr → Prop} (g : SR F Γ σ W) (ul : ∀ a, U a → W.U a) (hU : RepL ⟨W.H, U, fun _ => False⟩ (s.args x) vs) (ok : s.ok x) (k : ∀ d v H, s.rel x d → Same W.H H → Rep ⟨H, U, fun _ => False⟩ d v → R v H) : toSp s vs W.H R E := by
  refine ⟨x, U, ⟨W.H, U, fun _ => False⟩, rfl, ⟨fun a h => g.ok.dom a (ul a h), fun a h => h, fun a h => h.elim⟩, hU, ok, fun d v W' hd st ok' r => ?_⟩
  refine k d v W'.H hd (fun b o e => ?_) (Rep.mono (W := W') (W' := ⟨W'.H, U, fun _ => False⟩) (fun a u e n => ⟨e, fun z => n (ok'.fu a z)⟩) (fun a z => by rw [st.pur] at z; exact z) d v r)
  by_cases hb : U b
  · exact (st.fr b hb).trans e
  · exact (st.keep b o e hb).1
/-- purse-free data, as seen by a def that draws nothing -/
theorem Rep.addP {W : Wd} {H : Hp} {U P : Addr → Prop} {d : D} {v : V} (h : Rep ⟨H, U, fun _ => False⟩ d v) : Rep ⟨H, U, P⟩ d v := Rep.mono (W := ⟨H, U, fun _ => False⟩) (W' := ⟨H, U, P⟩) (fun _ _ e n => ⟨e, n⟩) (fun _ z => z.elim) d v h
mutual
/-- no purse within -/
def noP : D → Bool
  | .purse => false
  | .tup ds => noPs ds | .lst ds => noPs ds | .obj _ _ ds => noPs ds | .dct _ ds => noPs ds | .tupN ds => noPs ds
  | _ => true
def noPs : List D → Bool
  | [] => true
  | d :: ds => noP d && noPs ds
end
mutual
theorem Rep.delP {W : Wd} : ∀ (d : D) (v : V), noP d = true → Rep W d v → Rep ⟨W.H, W.U, fun _ => False⟩ d v
  | .non, _, _, h => h
  | .bl _, _, _, h => h
  | .int _, _, _, h => h
  | .str _, _, _, h => h
  | .raw _, _, _, h => h
  | .tup ds, _, n, ⟨a, vs, e, h, u, r⟩ => ⟨a, vs, e, h, u, RepL.delP ds vs n r⟩
  | .tupN ds, _, n, ⟨a, vs, e, h, u, r⟩ => ⟨a, vs, e, h, u, RepL.delP ds vs n r⟩
  | .lst ds, _, n, ⟨a, vs, e, h, u, r⟩ => ⟨a, vs, e, h, u, RepL.delP ds vs n r⟩
  | .obj C ns ds, _, n, ⟨a, dx, vs, e, h, u, l, r⟩ => ⟨a, dx, vs, e, h, u, l, RepL.delP ds vs n r⟩
  | .purse, _, n, _ => nomatch n
  | .rng _ _, _, _, h => h
  | .dct ks ds, _, n, ⟨a, vs, e, h, u, l, r⟩ => ⟨a, vs, e, h, u, l, RepL.delP ds vs n r⟩
  | .scr _ _, _, _, h => h
theorem RepL.delP {W : Wd} : ∀ (ds : List D) (vs : List V), noPs ds = true → RepL W ds vs → RepL ⟨W.H, W.U, fun _ => False⟩ ds vs
  | [], _, _, h => h
  | d :: ds, _, n, ⟨v, r, e, h1, h2⟩ => by
    have n' : noP d = true ∧ noPs ds = true := by simpa [noPs] using n
    exact ⟨v, r, e, Rep.delP d v n'.1 h1, RepL.delP ds r n'.2 h2⟩
end
theorem noPs_map {α : Type} {f : α → D} (h : ∀ x, noP (f x) = true) : ∀ xs : List α, noPs (xs.map f) = true
  | [] => rfl
  | x :: xs => by
    show (noP (f x) && noPs (xs.map f)) = true
    rw [h, noPs_map h xs]; rfl
/-- a call that draws nothing -/
theorem ev_call {x : s.ty} (h : EvA t Γ (s.args x)) (np : noPs (s.args x) = true) (ok : s.ok x) (hd : ∀ d', s.rel x d' → d' = d) : Ev (tCall (toSp s) [] E t) Γ d := fun F σ W R g k => h F σ W _ g fun vs H st r => by
  rw [List.append_nil]
  exact pure_call (W := W.at H) (g.same st) (fun _ z => z) (RepL.delP _ _ np r) ok fun d' v H' hd' s' r' => by
    rw [hd d' hd'] at r'
    exact k v H' (Same.trans st s') (Rep.addP (W := W) r')
theorem dl_callK {gV : List V → List V → List V} (h : DlA t Γ fun ds Γ1 => DlA tk Γ1 fun es Γ2 => ∃ x, (∀ (W : Wd) vs zs, RepL W ds vs → RepL W es zs → RepL W (s.args x) (gV vs zs)) ∧ s.ok x ∧ ∀ d, s.rel x d → Q d Γ2) : Dl (tCallK (toSp s) gV E t tk) Γ Q := fun F σ W R g k =>
  h F σ W _ g fun vs W1 ds Γ1 st g1 r h1 => h1 F σ W1 _ g1 fun zs W2 es Γ2 st2 g2 r2 ⟨x, hg, ok, q⟩ =>
    ⟨x, _, W2, rfl, g2.callOk, hg W2 vs zs (r.stp st2) r2, ok, fun d v W' hd st' ok' r' => k v W' d Γ2 ((st.trans st2).trans (st'.sub fun _ z => .inl z)) (g2.call st' ok') r' (q d hd)⟩
theorem ev_callK {gV : List V → List V → List V} {x : s.ty} (h : EvA t Γ ds) (h' : EvA tk Γ es) (hg : ∀ (W : Wd) vs zs, RepL W ds vs → RepL W es zs → RepL W (s.args x) (gV vs zs)) (np : noPs (s.args x) = true) (ok : s.ok x) (hd : ∀ d', s.rel x d' → d' = d) :
    Ev (tCallK (toSp s) gV E t tk) Γ d := fun F σ W R g k => h F σ W _ g fun vs H st r => h' F σ (W.at H) _ (g.same st) fun zs H2 st2 r2 => by
  have g2 := (g.same st).same st2
  exact pure_call (W := W.at H2) g2 (fun _ z => z) (RepL.delP _ _ np (hg (W.at H2) vs zs (r.same (W := W.at H) st2) r2)) ok fun d' v H' hd' s' r' => by
    rw [hd d' hd'] at r'
    exact k v H' (Same.trans st (Same.trans st2 s')) (Rep.addP (W := W) r')
end
end Dw

/-! Rules over data: targets, iterators, for, comprehensions. -/
namespace Dw
open PySem PySem.Spec PyProof.Rows L2

/-! ### wiped slots -/
theorem wipe_get (σ : L2.St) (j : Nat) : ∀ vs : List Nat, (wipe σ vs)[j]? = if j ∈ vs then (if j < σ.length then some none else none) else σ[j]?
  | [] => by simp [wipe]
  | v :: vs => by
    unfold wipe
    by_cases hv : v = j
    · subst hv
      rw [if_pos List.mem_cons_self]
      by_cases hl : v < σ.length
      · rw [List.getElem?_set_self (by rw [wipe_length]; exact hl), if_pos hl]
      · rw [if_neg hl]
        exact List.getElem?_eq_none (by rw [List.length_set, wipe_length]; omega)
    · rw [List.getElem?_set_ne hv, wipe_get σ j vs]
      by_cases hm : j ∈ vs
      · rw [if_pos hm, if_pos (List.mem_cons_of_mem _ hm)]
      · rw [if_neg hm, if_neg (by simp only [List.mem_cons, not_or]; exact ⟨fun z => hv z.symm, hm⟩)]
theorem wipe_set {σ : L2.St} {i : Nat} {o : Option V} {vs : List Nat} (h : i ∈ vs) : wipe (σ.set i o) vs = wipe σ vs := by
  refine List.ext_getElem? fun j => ?_
  rw [wipe_get, wipe_get, List.length_set]
  by_cases hm : j ∈ vs
  · rw [if_pos hm, if_pos hm]
  · rw [if_neg hm, if_neg hm, List.getElem?_set_ne (fun z : i = j => hm (by rw [← z]; exact h))]
theorem wipe_wipe {σ : L2.St} {vs : List Nat} : wipe (wipe σ vs) vs = wipe σ vs := by
  refine List.ext_getElem? fun j => ?_
  rw [wipe_get (wipe σ vs), wipe_get σ, wipe_length]
  by_cases hm : j ∈ vs
  · rw [if_pos hm, if_pos hm]
  · rw [if_neg hm, if_neg hm]
def wipeG (Γ : Gam) : List Nat → Gam
  | [] => Γ
  | v :: vs => (wipeG Γ vs).set v .unset
theorem wipeG_length (Γ : Gam) : ∀ vs : List Nat, (wipeG Γ vs).length = Γ.length
  | [] => rfl
  | v :: vs => by unfold wipeG; rw [List.length_set, wipeG_length Γ vs]
theorem wipeG_get {Γ : Gam} {j : Nat} {s : Sl} : ∀ {vs : List Nat}, (wipeG Γ vs)[j]? = some s → s = .unset ∨ (Γ[j]? = some s ∧ j ∉ vs)
  | [], h => .inr ⟨h, by simp⟩
  | v :: vs, h => by
    unfold wipeG at h
    by_cases hv : v = j
    · subst hv
      have hl : v < (wipeG Γ vs).length := by
        have := (List.getElem?_eq_some_iff.mp h).1
        simpa using this
      rw [List.getElem?_set_self hl] at h
      cases h; exact .inl rfl
    · rw [List.getElem?_set_ne hv] at h
      rcases wipeG_get h with h | ⟨h1, h2⟩
      · exact .inl h
      · exact .inr ⟨h1, by simp only [List.mem_cons, not_or]; exact ⟨fun z => hv z.symm, h2⟩⟩
theorem SR.wipe {F : Addr → Prop} {Γ : Gam} {σ : L2.St} {W : Wd} (g : SR F Γ σ W) (vs : List Nat) : SR F (wipeG Γ vs) (wipe σ vs) W :=
  g.weak (by rw [wipeG_length, wipe_length, g.len]) fun i s e => by
    rcases wipeG_get e with h | ⟨h1, h2⟩
    · exact .inl h
    · exact .inr ⟨h1, by rw [wipe_get, if_neg h2]⟩
theorem SR.unwipe {F : Addr → Prop} {Γ : Gam} {σ : L2.St} {W : Wd} {vs : List Nat} (g : SR F Γ (L2.wipe σ vs) W) : SR F Γ σ W :=
  ⟨g.ok, by rw [g.len, wipe_length], fun i d e => let ⟨v, e1, r⟩ := g.val i d e; ⟨v, (wipe_some e1).1, r⟩,
   fun i ds e => let ⟨a, vs', e1, r⟩ := g.own i ds e; ⟨a, vs', (wipe_some e1).1, r⟩, fun i j a ds es e1 e2 e3 e4 => by
    obtain ⟨b, _, q1, _⟩ := g.own i ds e1
    obtain ⟨c, _, q2, _⟩ := g.own j es e2
    have z1 := (wipe_some q1).1
    have z2 := (wipe_some q2).1
    rw [e3] at z1; cases z1
    rw [e4] at z2; cases z2
    exact g.apart i j _ ds es e1 e2 q1 q2⟩

/-! ### targets -/
/-- storing x changes the slots is alone -/
def DG (g : TG) (is : List Nat) (x : D) (Γ Γ' : Gam) : Prop := ∀ (F : Addr → Prop) (σ : L2.St) (W : Wd) (v : V) (R : L2.St → Hp → Prop), SR F Γ σ W → Rep W x v →
  (∀ σ', SR F Γ' σ' W → (∀ vs : List Nat, (∀ i ∈ is, i ∈ vs) → wipe σ' vs = wipe σ vs) → R σ' W.H) → g v σ W.H R
theorem dg_name {i : Nat} {x : D} {Γ : Gam} : DG (gName i) [i] x Γ (Γ.set i (.val x)) := fun F σ W v R g r k => k _ (g.set r) fun vs h => wipe_set (h i List.mem_cons_self)
theorem dg_tup2 {K : PySem.W.Frag} {g1 g2 : TG} {is js : List Nat} {x y : D} {Γ Γ1 Γ2 : Gam} (h1 : DG g1 is x Γ Γ1) (h2 : DG g2 js y Γ1 Γ2) : DG (gTup K 2 (gCons g1 (gCons g2 gNil))) (is ++ js) (.tup [x, y]) Γ Γ2 := fun F σ W v R g r k => by
  obtain ⟨a, vs, e, ha, nu, v1, _, rfl, r1, v2, _, rfl, r2, rfl⟩ := r
  refine ⟨a, [v1, v2], e, ha.sq, rfl, v1, [v2], rfl, h1 F σ W v1 _ g r1 fun σ1 g1 w1 => ⟨v2, [], rfl, h2 F σ1 W v2 _ g1 r2 fun σ2 g2 w2 => ⟨rfl, k σ2 g2 fun vs h => ?_⟩⟩⟩
  rw [w2 vs fun i hi => h i (List.mem_append_right _ hi), w1 vs fun i hi => h i (List.mem_append_left _ hi)]
theorem dg_tup3 {K : PySem.W.Frag} {g1 g2 g3 : TG} {is js ks : List Nat} {x y z : D} {Γ Γ1 Γ2 Γ3 : Gam} (h1 : DG g1 is x Γ Γ1) (h2 : DG g2 js y Γ1 Γ2) (h3 : DG g3 ks z Γ2 Γ3) : DG (gTup K 3 (gCons g1 (gCons g2 (gCons g3 gNil)))) (is ++ (js ++ ks)) (.tup [x, y, z]) Γ Γ3 := fun F σ W v R g r k => by
  obtain ⟨a, vs, e, ha, nu, v1, _, rfl, r1, v2, _, rfl, r2, v3, _, rfl, r3, rfl⟩ := r
  refine ⟨a, [v1, v2, v3], e, ha.sq, rfl, v1, [v2, v3], rfl, h1 F σ W v1 _ g r1 fun σ1 g1 w1 => ⟨v2, [v3], rfl, h2 F σ1 W v2 _ g1 r2 fun σ2 g2 w2 => ⟨v3, [], rfl, h3 F σ2 W v3 _ g2 r3 fun σ3 g3 w3 => ⟨rfl, k σ3 g3 fun vs h => ?_⟩⟩⟩⟩
  rw [w3 vs fun i hi => h i (List.mem_append_right _ (List.mem_append_right _ hi)), w2 vs fun i hi => h i (List.mem_append_right _ (List.mem_append_left _ hi)), w1 vs fun i hi => h i (List.mem_append_left _ hi)]
theorem ds_asg_g {te : TE} {g : TG} {Γ : Gam} {De : DE} (h : Dl te Γ fun d Γ1 => ∃ is Γ2, DG g is d Γ1 Γ2 ∧ De.nx Γ2) : Ds (tAsg te g) Γ De := fun F σ W Dr s l => h F σ W _ s fun v W1 d Γ1 st g1 r ⟨is, Γ2, hg, q⟩ =>
  hg F σ W1 v _ g1 r fun σ' g' _ => l.nx σ' W1 Γ2 st g' q

/-! ### iterators -/
structure ItOk (F : Addr → Prop) (W : Wd) (J : It) (xs : List D) : Prop where
  go : ∀ (W1 : Wd) (i : Nat) (x : D), Stp F W W1 → WOk F W1 → xs[i]? = some x → J.go i W1.H ∧ ∀ v H', J.yld i W1.H v H' → Same W1.H H' ∧ Rep (W1.at H') x v
  stop : ∀ (W1 : Wd), Stp F W W1 → WOk F W1 → J.stop xs.length W1.H
structure ItS (W : Wd) (J : It) (xs : List D) : Prop where
  go : ∀ (W1 : Wd) (i : Nat) (x : D), (∀ a, W1.U a → W1.H a ≠ none) → Same W.H W1.H → (∀ a u, W.H a = some u → ¬ W.U a → ¬ W1.U a) → W1.P = W.P → xs[i]? = some x → J.go i W1.H ∧ ∀ v H', J.yld i W1.H v H' → Same W1.H H' ∧ Rep (W1.at H') x v
  stop : ∀ (H : Hp), Same W.H H → J.stop xs.length H
def Di (wi : TI) (Γ : Gam) (Q : List D → Gam → Prop) : Prop := ∀ (F : Addr → Prop) (σ : L2.St) (W : Wd) (R : It → Hp → Prop), SR F Γ σ W → (∀ J W' xs Γ', Stp F W W' → SR F Γ' σ W' → ItOk F W' J xs → Q xs Γ' → R J W'.H) → wi σ W.H R
def Ei (wi : TI) (Γ : Gam) (xs : List D) : Prop := ∀ (F : Addr → Prop) (σ : L2.St) (W : Wd) (R : It → Hp → Prop), SR F Γ σ W → (∀ J H, Same W.H H → ItS (W.at H) J xs → R J H) → wi σ W.H R
section
variable {K : PySem.W.Frag} {Γ : Gam} {t : TE} {ta : TA} {xs : List D} {Q : List D → Gam → Prop}
theorem di_list (h : Dl t Γ fun d Γ1 => ∃ xs, d = .lst xs ∧ Q xs Γ1) : Di (iList K t) Γ Q := fun F σ W R g k => h F σ W _ g fun v W1 d Γ1 st g1 r ⟨xs, e, q⟩ => by
  subst e
  obtain ⟨a, vs, rfl, ha, nu, l⟩ := r
  refine ⟨a, rfl, ⟨vs, .of ha⟩, k (Itl K a) W1 xs Γ1 st g1 ⟨fun W2 i x s2 ok2 hx => ?_, fun W2 s2 ok2 => ⟨vs, .of (s2.keep a _ ha nu).1, by rw [l.length]; exact Nat.le_refl _⟩⟩ q⟩
  obtain ⟨v, hv, rv⟩ := l.get hx
  exact ⟨⟨vs, v, .of (s2.keep a _ ha nu).1, hv⟩, fun u H' ⟨e, hy⟩ => by
    subst e
    have := hy vs (.of (s2.keep a _ ha nu).1)
    rw [hv] at this; cases this
    exact ⟨Same.refl _, rv.stp s2⟩⟩
theorem ei_list (h : EvB t Γ xs) : Ei (iList K t) Γ xs := fun F σ W R g k => h F σ W _ g fun a vs H st ha l => by
  refine ⟨a, rfl, ⟨vs, .of ha⟩, k (Itl K a) H st ⟨fun W2 i x dm s2 ku pu hx => ?_, fun H2 s2 => ⟨vs, .of (s2 a _ ha), by rw [l.length]; exact Nat.le_refl _⟩⟩⟩
  obtain ⟨v, hv, rv⟩ := l.get hx
  exact ⟨⟨vs, v, .of (s2 a _ ha), hv⟩, fun u H' ⟨e, hy⟩ => by
    subst e
    have := hy vs (.of (s2 a _ ha))
    rw [hv] at this; cases this
    exact ⟨Same.refl _, Rep.mono (W := W.at H) (W' := W2) (fun b u e n => ⟨s2 b u e, ku b u e n⟩) (fun b z => by rw [pu]; exact z) _ _ rv⟩⟩
theorem ei_tup (h : Ev t Γ (.tup xs)) : Ei (iTup K t) Γ xs := fun F σ W R g k => h F σ W _ g fun v H st ⟨a, vs, e, ha, nu, l⟩ => by
  subst e
  refine ⟨a, rfl, ⟨vs, ha.sq⟩, k (Itt K a) H st ⟨fun W2 i x dm s2 ku pu hx => ?_, fun H2 s2 => ⟨vs, (ha.same s2).sq, by rw [l.length]; exact Nat.le_refl _⟩⟩⟩
  obtain ⟨v, hv, rv⟩ := l.get hx
  exact ⟨⟨vs, v, (ha.same s2).sq, hv⟩, fun u H' ⟨e, hy⟩ => by
    subst e
    have := hy vs ((ha.same s2).sq)
    rw [hv] at this; cases this
    exact ⟨Same.refl _, Rep.mono (W := W.at H) (W' := W2) (fun b u e n => ⟨s2 b u e, ku b u e n⟩) (fun b z => by rw [pu]; exact z) _ _ rv⟩⟩
theorem di_tup (h : Dl t Γ fun d Γ1 => ∃ xs, d = .tup xs ∧ Q xs Γ1) : Di (iTup K t) Γ Q := fun F σ W R g k => h F σ W _ g fun v W1 d Γ1 st g1 r ⟨xs, e, q⟩ => by
  subst e
  obtain ⟨a, vs, rfl, ha, nu, l⟩ := r
  refine ⟨a, rfl, ⟨vs, ha.sq⟩, k (Itt K a) W1 xs Γ1 st g1 ⟨fun W2 i x s2 ok2 hx => ?_, fun W2 s2 ok2 => ⟨vs, (ha.keep nu (s2.keep a)).1.sq, by rw [l.length]; exact Nat.le_refl _⟩⟩ q⟩
  obtain ⟨v, hv, rv⟩ := l.get hx
  exact ⟨⟨vs, v, (ha.keep nu (s2.keep a)).1.sq, hv⟩, fun u H' ⟨e, hy⟩ => by
    subst e
    have := hy vs ((ha.keep nu (s2.keep a)).1.sq)
    rw [hv] at this; cases this
    exact ⟨Same.refl _, rv.stp s2⟩⟩
/-- 0, 1, .., n - 1 -/
def rng (n : Nat) : List D := (List.range n).map fun (i : Nat) => D.int i
theorem rng_get {n i : Nat} {x : D} (h : (rng n)[i]? = some x) : i < n ∧ x = .int i := by
  unfold rng at h
  rw [List.getElem?_map] at h
  by_cases hi : i < n
  · rw [List.getElem?_range hi] at h
    cases h; exact ⟨hi, rfl⟩
  · rw [List.getElem?_eq_none (by simpa using hi)] at h; cases h
theorem rng_length (n : Nat) : (rng n).length = n := by simp [rng]
theorem di_range {Q : List D → Gam → Prop} (h : DlA ta Γ fun ds Γ1 => ∃ n : Nat, ds = [.int n] ∧ n < 2 ^ 62 ∧ Q (rng n) Γ1) : Di (iRng1 ta) Γ Q := fun F σ W R g k => h F σ W _ g fun vs W1 ds Γ1 st g1 r ⟨n, e, hn, q⟩ => by
  subst e
  obtain ⟨v, _, rfl, rv, rfl⟩ := r
  refine ⟨n, by rw [show v = V.int n from rv], by omega, by omega, k (Itr 0 (n : Int).toNat) W1 (rng n) Γ1 st g1 ⟨fun W2 i x s2 ok2 hx => ?_, fun W2 s2 ok2 => ?_⟩ q⟩
  · obtain ⟨hi, rfl⟩ := rng_get hx
    refine ⟨by show i < (n : Int).toNat; omega, fun u H' ⟨e, hy⟩ => ?_⟩
    subst e hy
    exact ⟨Same.refl _, by show V.int (0 + (i : Int)) = V.int i; rw [Int.zero_add]⟩
  · show (n : Int).toNat ≤ _
    rw [rng_length]; omega
theorem ei_range {n : Nat} (h : EvA ta Γ [.int n]) (hn : n < 2 ^ 62) : Ei (iRng1 ta) Γ (rng n) := fun F σ W R g k => h F σ W _ g fun vs H st r => by
  obtain ⟨v, _, rfl, rv, rfl⟩ := r
  refine ⟨n, by rw [show v = V.int n from rv], by omega, by omega, k (Itr 0 (n : Int).toNat) H st ⟨fun W2 i x dm s2 ku pu hx => ?_, fun H2 s2 => ?_⟩⟩
  · obtain ⟨hi, rfl⟩ := rng_get hx
    refine ⟨by show i < (n : Int).toNat; omega, fun u H' ⟨e, hy⟩ => ?_⟩
    subst e hy
    exact ⟨Same.refl _, by show V.int (0 + (i : Int)) = V.int i; rw [Int.zero_add]⟩
  · show (n : Int).toNat ≤ _
    rw [rng_length]; omega
/-- the signs of a text -/
def signs (x : Str) : List D := x.cps.toList.map fun c => D.str ⟨#[c]⟩
end

/-! ### for -/
section
variable {Γ : Gam} {wi : TI} {g : TG} {tb : TS} {De : DE}
theorem ds_for (J : List D → Nat → Gam → Prop) (h : Di wi Γ fun xs Γ1 => J xs 0 Γ1 ∧ (∀ i x Γ', xs[i]? = some x → J xs i Γ' → ∃ is Γ2, DG g is x Γ' Γ2 ∧ Ds tb Γ2 ⟨J xs (i + 1), De.rt, De.nx, J xs (i + 1)⟩) ∧ ∀ Γ', J xs xs.length Γ' → De.nx Γ') : Ds (tFor wi g tb) Γ De :=
  fun F σ W Dr s l => h F σ W _ s fun I W1 xs Γ1 st g1 it ⟨h0, hs, hd⟩ => by
    refine ⟨fun i m σ' H' => m = xs.length - i ∧ i ≤ xs.length ∧ ∃ W' Γ', W'.H = H' ∧ Stp F W1 W' ∧ SR F Γ' σ' W' ∧ J xs i Γ', ⟨_, rfl, Nat.zero_le _, W1, Γ1, rfl, .refl _, g1, h0⟩, ?_⟩
    rintro i m σ' H' ⟨rfl, hi, W', Γ', rfl, s', g', j⟩
    by_cases hlt : i < xs.length
    · obtain ⟨x, hx⟩ : ∃ x, xs[i]? = some x := ⟨_, List.getElem?_eq_getElem hlt⟩
      obtain ⟨is, Γ2, hg, hb⟩ := hs i x Γ' hx j
      obtain ⟨go, yl⟩ := it.go W' i x s' g'.ok hx
      refine .inr ⟨go, fun σ2 H2 => ∃ W2 Γ2, W2.H = H2 ∧ Stp F W1 W2 ∧ SR F Γ2 σ2 W2 ∧ J xs (i + 1) Γ2, fun σ2 H2 q => ⟨xs.length - (i + 1), by omega, rfl, hlt, q⟩, fun v H2 y => ?_⟩
      obtain ⟨sm, rv⟩ := yl v H2 y
      have s2 := s'.trans (Stp.of_same g'.ok sm)
      refine hg F σ' (W'.at H2) v _ (g'.same sm) rv fun σ3 g3 _ => hb F σ3 (W'.at H2) _ g3 ⟨fun σ4 W4 Γ4 s4 g4 q => ⟨W4, Γ4, rfl, s2.trans s4, g4, q⟩, fun v W4 d s4 ok4 r4 q => l.rt v W4 d (st.trans (s2.trans s4)) ok4 r4 q, fun σ4 W4 Γ4 s4 g4 q => l.nx σ4 W4 Γ4 (st.trans (s2.trans s4)) g4 q, fun σ4 W4 Γ4 s4 g4 q => ⟨W4, Γ4, rfl, s2.trans s4, g4, q⟩⟩
    · have e : i = xs.length := by omega
      subst e
      exact .inl ⟨it.stop W' s' g'.ok, l.nx σ' W' Γ' (st.trans s') g' (hd Γ' j)⟩
end

/-! ### list comprehensions -/
section
variable {Γ : Gam} {wi : TI} {g : TG} {tt : TT} {te : TE} {vs : List Nat}
/-- pure: over xs.map c, kept where p, f of each -/
theorem evn_lc {α : Type} {xs : List α} {c : α → D} {p : α → Bool} {f : α → D} (h : Ei wi Γ (xs.map c)) (hz : xs.length ≤ 1000000)
    (he : ∀ x ∈ xs, ∃ is Γ2, DG g is (c x) (wipeG Γ vs) Γ2 ∧ (∀ i ∈ is, i ∈ vs) ∧ EvT tt Γ2 (p x) ∧ (p x = true → Ev te Γ2 (f x))) : EvN (tLc wi g tt te vs) Γ ((xs.filter p).map f) := fun F σ W R s k =>
  h F σ W _ s fun I H1 st it => fun Dn hD => by
    have wd : W.H Dn = none := st.free hD
    refine ⟨fun i m H' => m = xs.length - i ∧ i ≤ xs.length ∧ Same H1 H' ∧ ∃ us, H' Dn = some (.lst us) ∧ RepL (W.plus H' Dn) (((xs.take i).filter p).map f) us, ⟨_, rfl, Nat.zero_le _, same_upd hD, [], upd_same, rfl⟩, ?_⟩
    rintro i m H' ⟨rfl, hi, sm, us, hus, rus⟩
    by_cases hlt : i < xs.length
    · have hx : xs[i]? = some xs[i] := List.getElem?_eq_getElem hlt
      have hx' : (xs.map c)[i]? = some (c xs[i]) := by rw [List.getElem?_map, hx]; rfl
      obtain ⟨is, Γ2, hg, his, ht, hel⟩ := he xs[i] (List.getElem_mem hlt)
      obtain ⟨go, yl⟩ := it.go (W.plus H' Dn) i (c xs[i]) (fun b hb z => hb.elim (fun u => s.ok.dom b u ((Same.trans st sm).free z)) (fun e => by rw [e] at z; exact absurd (hus.symm.trans z) (fun q => nomatch q))) sm (fun b u e n z => z.elim n fun z => by rw [z] at e; exact absurd (e.symm.trans hD) (fun q => nomatch q)) rfl hx'
      refine .inr ⟨go, fun H2 => Same H1 H2 ∧ ∃ us, H2 Dn = some (.lst us) ∧ RepL (W.plus H2 Dn) (((xs.take (i + 1)).filter p).map f) us, fun H2 q => ⟨xs.length - (i + 1), by omega, rfl, hlt, q⟩, fun v H2 y => ?_⟩
      obtain ⟨sm2, rv⟩ := yl v H2 y
      have sW : Same W.H H2 := Same.trans st (Same.trans sm sm2)
      -- the world where the list in the making is one's own
      obtain ⟨_, gp, _, _, _⟩ := s.plus sW wd (by rw [sm2 _ _ hus]; exact fun z => nomatch z)
      have gp := gp.wipe vs
      refine hg F _ (W.plus H2 Dn) v _ gp rv fun σ2 g2 w2 => ⟨by rw [w2 vs his, wipe_wipe], ?_⟩
      refine ht F σ2 (W.plus H2 Dn) _ g2 fun H3 s3 => ?_
      have e1 : (xs.take (i + 1)).filter p = (xs.take i).filter p ++ (if p xs[i] = true then [xs[i]] else []) := by
        rw [List.take_add_one, hx, List.filter_append]
        congr 1
        cases hp : p xs[i] <;> simp [hp]
      have mv : ∀ {H3 H4 : Hp} {ds us}, Same H3 H4 → RepL (W.plus H3 Dn) ds us → RepL (W.plus H4 Dn) ds us := fun {H3 H4 ds us} s34 r => RepL.mono (W := W.plus H3 Dn) (W' := W.plus H4 Dn) (fun b u e n => ⟨s34 b u e, n⟩) (fun _ h => h) ds us r
      cases hp : p xs[i] with
      | false =>
        rw [if_neg Bool.false_ne_true]
        refine ⟨Same.trans (Same.trans sm sm2) s3, us, s3 _ _ (sm2 _ _ hus), ?_⟩
        rw [e1, hp, if_neg Bool.false_ne_true, List.append_nil]
        exact mv s3 (mv sm2 rus)
      | true =>
        rw [if_pos rfl]
        refine hel hp F σ2 ((W.plus H2 Dn).at H3) _ (g2.same s3) fun z H4 s4 rz => ?_
        have h4 : H4 Dn = some (.lst us) := s4 _ _ (s3 _ _ (sm2 _ _ hus))
        have un : ∀ {ds us}, RepL (W.plus H4 Dn) ds us → ∀ o, RepL (W.plus (upd H4 Dn o) Dn) ds us := fun {ds us} r o => RepL.mono (W := W.plus H4 Dn) (W' := W.plus (upd H4 Dn o) Dn) (fun b u e n => ⟨by
          show (upd H4 Dn o) b = some u
          rw [upd_ne (fun z : b = Dn => n (Or.inr z))]; exact e, n⟩) (fun _ h => h) ds us r
        refine ⟨us, h4, ?_, fun b u e => ?_, us ++ [z], upd_same, ?_⟩
        · rw [← rus.length, List.length_map]
          refine Nat.lt_of_le_of_lt (Nat.le_trans (List.length_filter_le _ _) (Nat.le_trans (List.length_take_le _ _) ?_)) (show 1000000 < sizeLine by decide)
          omega
        · have nb : b ≠ Dn := fun z => by rw [z, hD] at e; cases e
          rw [upd_ne nb]
          exact s4 _ _ (s3 _ _ (sm2 _ _ (sm _ _ e)))
        · rw [e1, hp, if_pos rfl, List.map_append]
          exact un ((mv s4 (mv s3 (mv sm2 rus))).append (RepL.one rz)) _
    · have e : i = xs.length := by omega
      subst e
      rw [List.take_length] at rus
      exact .inl ⟨by have := it.stop H' sm; rw [List.length_map] at this; exact this, k Dn us H' (Same.trans st sm) wd hus rus⟩
end
end Dw

/-! Rules over data: comprehensions that draw. -/
namespace Dw
open PySem PySem.Spec PyProof.Rows L2

abbrev Fp (F : Addr → Prop) (a : Addr) : Addr → Prop := fun b => F b ∨ b = a
theorem SR.frame {F : Addr → Prop} {Γ : Gam} {σ : L2.St} {W : Wd} {a : Addr} (g : SR F Γ σ W) (u : W.U a) (p : ¬ W.P a) (no : ¬ ownA Γ σ a) : SR (Fp F a) Γ σ W :=
  ⟨⟨g.ok.dom, fun b h => h.elim (g.ok.fu b) fun h => by rw [h]; exact u, fun b h => let ⟨u', f, pp⟩ := g.ok.pu b h; ⟨u', fun z => z.elim f fun z => p (by rw [← z]; exact h), pp⟩⟩, g.len, g.val,
   fun i ds e => let ⟨b, vs, e1, u', f, pp, q, r⟩ := g.own i ds e; ⟨b, vs, e1, u', fun z => z.elim f fun z => no ⟨i, ds, e, by rw [← z]; exact e1⟩, pp, q, r⟩, g.apart⟩
/-- a cell of the frame is changed -/
theorem SR.poke {F : Addr → Prop} {Γ : Gam} {σ : L2.St} {W : Wd} {a : Addr} {o : HO} (g : SR (Fp F a) Γ σ W) (nf : ¬ F a) :
    Stp F W (W.at (upd W.H a o)) ∧ SR (Fp F a) Γ σ (W.at (upd W.H a o)) := by
  have u : W.U a := g.ok.fu a (Or.inr rfl)
  have st : Stp F W (W.at (upd W.H a o)) := ⟨fun b x e n => ⟨by
    show (upd W.H a o) b = some x
    rw [upd_ne (fun z : b = a => n (by rw [z]; exact u))]; exact e, n⟩, rfl, fun b h => upd_ne (fun z : b = a => nf (by rw [← z]; exact h))⟩
  refine ⟨st, ⟨⟨fun b h z => ?_, g.ok.fu, fun b h => ?_⟩, g.len, fun i d e => ?_, fun i ds e => ?_, g.apart⟩⟩
  · have z : (upd W.H a o) b = none := z
    by_cases hb : b = a
    · rw [hb, upd_same] at z; cases z
    · rw [upd_ne hb] at z; exact g.ok.dom b h z
  · obtain ⟨u', f, x, y, h1, h2, h3, q⟩ := g.ok.pu b h
    exact ⟨u', f, x, y, h1, h2, h3, (upd_ne (fun z : b = a => f (Or.inr z))).trans q⟩
  · obtain ⟨v, e1, r⟩ := g.val i d e
    exact ⟨v, e1, r.stp st⟩
  · obtain ⟨b, vs, e1, u', f, pp, q, r⟩ := g.own i ds e
    exact ⟨b, vs, e1, u', f, pp, (upd_ne (fun z : b = a => f (Or.inr z))).trans q, r.stp st⟩
/-- .. and becomes a value -/
theorem SR.land {F : Addr → Prop} {Γ : Gam} {σ : L2.St} {W : Wd} {a : Addr} (g : SR (Fp F a) Γ σ W) (nf : ¬ F a) :
    Stp F W ⟨W.H, fun b => W.U b ∧ b ≠ a, W.P⟩ ∧ SR F Γ σ ⟨W.H, fun b => W.U b ∧ b ≠ a, W.P⟩ := by
  have st : Stp F W ⟨W.H, fun b => W.U b ∧ b ≠ a, W.P⟩ := ⟨fun b x e n => ⟨e, fun z => n z.1⟩, rfl, fun _ _ => rfl⟩
  refine ⟨st, ⟨⟨fun b h => g.ok.dom b h.1, fun b h => ⟨g.ok.fu b (Or.inl h), fun z => nf (by rw [← z]; exact h)⟩, fun b h => ?_⟩, g.len, fun i d e => ?_, fun i ds e => ?_, g.apart⟩⟩
  · obtain ⟨u', f, pp⟩ := g.ok.pu b h
    exact ⟨⟨u', fun z => f (Or.inr z)⟩, fun z => f (Or.inl z), pp⟩
  · obtain ⟨v, e1, r⟩ := g.val i d e
    exact ⟨v, e1, r.stp st⟩
  · obtain ⟨b, vs, e1, u', f, pp, q, r⟩ := g.own i ds e
    exact ⟨b, vs, e1, ⟨u', fun z => f (Or.inr z)⟩, fun z => f (Or.inl z), pp, q, r.stp st⟩
section
variable {Γ : Gam} {wi : TI} {g : TG} {tt : TT} {te : TE} {vs : List Nat} {Q : D → Gam → Prop}
theorem dl_lc (h : Di wi Γ fun xs Γ1 => xs.length ≤ 1000000 ∧ ∃ J : Nat → List D → Gam → Prop, J 0 [] (wipeG Γ1 vs) ∧
      (∀ i x acc Γ', xs[i]? = some x → J i acc Γ' → ∃ is Γ2, DG g is x Γ' Γ2 ∧ (∀ i ∈ is, i ∈ vs) ∧ DlT tt Γ2 fun b Γ3 => (b = true → Dl te Γ3 fun d Γ4 => J (i + 1) (acc ++ [d]) (wipeG Γ4 vs)) ∧ (b = false → J (i + 1) acc (wipeG Γ3 vs))) ∧
      ∀ acc Γ', J xs.length acc Γ' → Q (.lst acc) Γ') : Dl (tLc wi g tt te vs) Γ Q := fun F σ W R s k =>
  h F σ W _ s fun I W1 xs Γ1 st1 g1 it ⟨hz, J, h0, hs, hd⟩ => fun Dn hD => by
    obtain ⟨stp, gp, no, nf, np⟩ := g1.plus (H := upd W1.H Dn (.lst [])) (a := Dn) (same_upd hD) hD (by rw [upd_same]; exact fun z => nomatch z)
    have gf := (gp.frame (Or.inr rfl) np no).wipe vs
    refine ⟨fun i m H' => m = xs.length - i ∧ i ≤ xs.length ∧ ∃ W' Γ' acc us, W'.H = H' ∧ Stp F W1 W' ∧ SR (Fp F Dn) Γ' (wipe σ vs) W' ∧ H' Dn = some (.lst us) ∧ RepL W' acc us ∧ acc.length ≤ i ∧ J i acc Γ',
      ⟨_, rfl, Nat.zero_le _, W1.plus (upd W1.H Dn (.lst [])) Dn, _, [], [], rfl, stp, gf, upd_same, rfl, Nat.le_refl _, h0⟩, ?_⟩
    rintro i m H' ⟨rfl, hi, W', Γ', acc, us, rfl, s', g', hus, rus, hl, j⟩
    by_cases hlt : i < xs.length
    · have hx : xs[i]? = some xs[i] := List.getElem?_eq_getElem hlt
      obtain ⟨is, Γ2, hg, his, ht⟩ := hs i xs[i] acc Γ' hx j
      have ok1 : WOk F W' := ⟨g'.ok.dom, fun b z => g'.ok.fu b (Or.inl z), fun b z => let ⟨u, f, p⟩ := g'.ok.pu b z; ⟨u, fun q => f (Or.inl q), p⟩⟩
      obtain ⟨go, yl⟩ := it.go W' i xs[i] s' ok1 hx
      refine .inr ⟨go, fun H2 => ∃ W2 Γ2 acc us, W2.H = H2 ∧ Stp F W1 W2 ∧ SR (Fp F Dn) Γ2 (wipe σ vs) W2 ∧ H2 Dn = some (.lst us) ∧ RepL W2 acc us ∧ acc.length ≤ i + 1 ∧ J (i + 1) acc Γ2, fun H2 q => ⟨xs.length - (i + 1), by omega, rfl, hlt, q⟩, fun v H2 y => ?_⟩
      obtain ⟨sm, rv⟩ := yl v H2 y
      have g2 := g'.same sm
      have s2 : Stp F W1 (W'.at H2) := s'.trans (Stp.of_same ok1 sm)
      refine hg (Fp F Dn) _ (W'.at H2) v _ g2 rv fun σ2 g3 w2 => ?_
      have ew : wipe σ2 vs = wipe σ vs := by rw [w2 vs his, wipe_wipe]
      refine ⟨ew, ht (Fp F Dn) σ2 (W'.at H2) _ g3 fun b W3 Γ3 s3 g4 q => ?_⟩
      have h3 : W3.H Dn = some (.lst us) := (s3.fr Dn (Or.inr rfl)).trans (sm _ _ hus)
      have r3 : RepL W3 acc us := (RepL.same (W := W') sm rus).stp s3
      cases b with
      | false =>
        rw [if_neg Bool.false_ne_true]
        have g5 := g4.wipe vs
        rw [ew] at g5
        exact ⟨W3, _, acc, us, rfl, s2.trans (s3.sub fun _ z => Or.inl z), g5, h3, r3, by omega, q.2 rfl⟩
      | true =>
        rw [if_pos rfl]
        refine q.1 rfl (Fp F Dn) σ2 W3 _ g4 fun z W4 d Γ4 s4 g5 rz qj => ?_
        have h4 : W4.H Dn = some (.lst us) := (s4.fr Dn (Or.inr rfl)).trans h3
        have r4 : RepL W4 acc us := r3.stp s4
        have g6 := g5.wipe vs
        rw [ew] at g6
        obtain ⟨s5, g7⟩ := g6.poke (o := .lst (us ++ [z])) nf
        refine ⟨us, h4, ?_, W4.at (upd W4.H Dn (.lst (us ++ [z]))), _, acc ++ [d], us ++ [z], rfl, ((s2.trans (s3.sub fun _ z => Or.inl z)).trans (s4.sub fun _ z => Or.inl z)).trans s5, g7, upd_same, (r4.append (RepL.one rz)).stp s5, by rw [List.length_append, List.length_singleton]; omega, qj⟩
        rw [← r4.length]
        exact Nat.lt_of_le_of_lt (show acc.length ≤ 1000000 by omega) (by decide)
    · have e : i = xs.length := by omega
      subst e
      have ok1 : WOk F W' := ⟨g'.ok.dom, fun b z => g'.ok.fu b (Or.inl z), fun b z => let ⟨u, f, p⟩ := g'.ok.pu b z; ⟨u, fun q => f (Or.inl q), p⟩⟩
      obtain ⟨s8, g8⟩ := (SR.unwipe g').land nf
      refine .inl ⟨it.stop W' s' ok1, k (.ref Dn) ⟨W'.H, fun b => W'.U b ∧ b ≠ Dn, W'.P⟩ (.lst acc) Γ' (st1.trans (s'.trans s8)) g8 ⟨Dn, us, rfl, hus, fun z => z.2 rfl, rus.stp s8⟩ (hd acc Γ' j)⟩
end
end Dw

/-! Operators that serve several kinds at once, and what they give on data. -/
namespace Dw
open PySem PySem.Spec PyProof.Rows L2
section
variable {X : Cx} {a b c e : Expr} {ta tb te : TE} {pos : Pos} {i j : Int} {x y : Str} {ds es : List D} {K : PySem.W.Frag} {Γ : Gam} {d : D}
abbrev rOr (r r' : R2) : R2 := fun x y H Q => r x y H Q ∨ r' x y H Q
theorem dr2_l {r r' : R2} {x y d : D} (h : DR2 r x y d) : DR2 (rOr r r') x y d := fun W u v Q dom a b k => .inl (h W u v Q dom a b k)
theorem dr2_r {r r' : R2} {x y d : D} (h : DR2 r' x y d) : DR2 (rOr r r') x y d := fun W u v Q dom a b k => .inr (h W u v Q dom a b k)
/-! ### + and * -/
abbrev rPlus (K : PySem.W.Frag) : R2 := rOr (rI0 fun i j => .int (i + j)) (rOr rAddStr (rOr rCat (rCatT K)))
theorem opPlus : OpR X (binaryOp .Add) (rPlus X.K) := op_add.or (op_add_str.or (op_cat.or op_catT))
theorem plus_int : DR2 (rPlus K) (.int i) (.int j) (.int (i + j)) := dr2_l dr2_add
theorem plus_str (h : x.length + y.length ≤ sizeLine) : DR2 (rPlus K) (.str x) (.str y) (.str (x ++ y)) := dr2_r (dr2_l (dr2_add_str h))
theorem plus_lst (h : ds.length + es.length ≤ sizeLine) : DR2 (rPlus K) (.lst ds) (.lst es) (.lst (ds ++ es)) := dr2_r (dr2_r (dr2_l (dr2_cat h)))
theorem plus_tup (n : ds ≠ []) (h : ds.length + es.length ≤ sizeLine) : DR2 (rPlus K) (.tup ds) (.tup es) (.tup (ds ++ es)) := dr2_r (dr2_r (dr2_r (dr2_catT n h)))
/-- a list on the left that is read -/
theorem evn_plus (ha : EvB ta Γ ds) (hb : EvB tb Γ es) (h : ds.length + es.length ≤ sizeLine) : EvN (tOp (rPlus K) ta tb) Γ (ds ++ es) := fun F σ W Q g k => ha F σ W _ g fun p vs H s e l => hb F σ (W.at H) _ (g.same s) fun q ws H' s' e' l' =>
  .inr (.inr (.inl ⟨p, q, vs, ws, rfl, rfl, s' _ _ e, e', by rw [← l.length, ← l'.length]; exact h, fun n hn =>
    k n (vs ++ ws) _ (Same.trans s (Same.trans s' (same_upd hn))) (s.free (s'.free hn)) upd_same (RepL.plus (W := W.at H') hn (same_upd hn) ((RepL.same (W := W.at H) s' l).append l'))⟩))
abbrev rTimes : R2 := rOr (rI CMul fun i j => .int (i * j)) rRep
theorem opTimes : OpR X (binaryOp .Mult) rTimes := op_mul.or op_rep
theorem times_int (h : CMul i j) : DR2 rTimes (.int i) (.int j) (.int (i * j)) := dr2_l (dr2_mul h)
abbrev rIAdd : TIp := fun x y H Q => (rI0 fun i j => .int (i + j)) x y H Q ∨ rAddStr x y H Q
theorem ipX : PIp X .Add rIAdd := iop_add.or iop_add_str
/-! ### comparisons -/
abbrev rEqX (K : PySem.W.Frag) : R2 := rOr rEq (rEqD K)
abbrev rNeX (K : PySem.W.Frag) : R2 := rOr rNe (rNeD K)
theorem opEq (hu : X.A.units + 64 < cLine) : OpR X (compareOp .Eq) (rEqX X.K) := op_eq.or (op_eqD hu)
theorem opNe (hu : X.A.units + 64 < cLine) : OpR X (compareOp .NotEq) (rNeX X.K) := op_ne.or (op_neD hu)
theorem eq_int' : DR2 (rEqX K) (.int i) (.int j) (.bl (decide (i = j))) := dr2_l dr2_eq_int
theorem eq_str' : DR2 (rEqX K) (.str x) (.str y) (.bl (decide (x = y))) := dr2_l dr2_eq_str
theorem ne_int' : DR2 (rNeX K) (.int i) (.int j) (.bl (!decide (i = j))) := dr2_l dr2_ne_int
theorem ne_str' : DR2 (rNeX K) (.str x) (.str y) (.bl (!decide (x = y))) := dr2_l dr2_ne_str
theorem eq_deep {p q : D} (h1 : isPy p = true) (h2 : isPy q = true) (h3 : SeqAt.shaped (py p) = true) (h4 : SeqAt.shaped (py q) = true) : DR2 (rEqX K) p q (.bl (PyData.eqv (py p) (py q))) := dr2_r (dr2_eqD h1 h2 h3 h4)
theorem ne_deep {p q : D} (h1 : isPy p = true) (h2 : isPy q = true) (h3 : SeqAt.shaped (py p) = true) (h4 : SeqAt.shaped (py q) = true) : DR2 (rNeX K) p q (.bl (!PyData.eqv (py p) (py q))) := dr2_r (dr2_neD h1 h2 h3 h4)
abbrev rLtS : R2 := fun x y H Q => ∃ i j, x = .str i ∧ y = .str j ∧ Q (.bl (decide (i.cps.toList < j.cps.toList))) H
theorem opLt : OpR X (compareOp .Lt) (rOr (rI0 fun i j => .bl (decide (i < j))) rLtS) := op_lt.or op_lt_str
theorem lt_int' : DR2 (rOr (rI0 fun i j => .bl (decide (i < j))) rLtS) (.int i) (.int j) (.bl (decide (i < j))) := dr2_l dr2_lt
theorem lt_str' : DR2 (rOr (rI0 fun i j => .bl (decide (i < j))) rLtS) (.str x) (.str y) (.bl (decide (x.cps.toList < y.cps.toList))) := dr2_r (dr2_flat fun W u v Q a b k => ⟨x, y, a, b, k _ rfl⟩)
theorem opLe : OpR X (compareOp .LtE) (rI0 fun i j => .bl (decide (i ≤ j))) := op_le
theorem opGt : OpR X (compareOp .Gt) (rI0 fun i j => .bl (decide (j < i))) := op_gt
theorem opGe : OpR X (compareOp .GtE) (rI0 fun i j => .bl (decide (j ≤ i))) := op_ge
abbrev rInS : R2 := fun x y H Q => ∃ i j, x = .str i ∧ y = .str j ∧ Q (.bl (!(Builtin.Str.occurrences j i 0 j.length 1).isEmpty)) H
abbrev rNinS : R2 := fun x y H Q => ∃ i j, x = .str i ∧ y = .str j ∧ Q (.bl (!(!(Builtin.Str.occurrences j i 0 j.length 1).isEmpty))) H
theorem opIn : OpR X (compareOp .In) (rOr (rIn X.K false) rInS) := op_in_seq.or op_in_str
theorem opNotIn : OpR X (compareOp .NotIn) (rOr (rIn X.K true) rNinS) := op_notIn_seq.or op_notin_str
theorem in_str' : DR2 (rOr (rIn K false) rInS) (.str x) (.str y) (.bl (!(Builtin.Str.occurrences y x 0 y.length 1).isEmpty)) := dr2_r (dr2_flat fun W u v Q a b k => ⟨x, y, a, b, k _ rfl⟩)
/-- scalars -/
def isSc : D → Bool
  | .non => true | .bl _ => true | .int _ => true | .str _ => true | _ => false
def scV : D → V
  | .non => .non | .bl b => .bl b | .int i => .int i | .str x => .str x | _ => .non
theorem rep_sc {W : Wd} {d : D} {v : V} (h : isSc d = true) (r : Rep W d v) : v = scV d := by
  cases d <;> first | exact r | exact absurd (show false = true from h) Bool.false_ne_true
theorem repL_sc {W : Wd} : ∀ {ds : List D} {vs : List V}, ds.all isSc = true → RepL W ds vs → vs = ds.map scV
  | [], _, _, h => h
  | d :: ds, _, p, ⟨v, r, e, h1, h2⟩ => by
    have p' : isSc d = true ∧ ds.all isSc = true := by simpa using p
    rw [e, rep_sc p'.1 h1, repL_sc p'.2 h2]; rfl
theorem flat_sc {d : D} (h : isSc d = true) : flatV (scV d) = true := by
  cases d <;> first | rfl | exact absurd (show false = true from h) Bool.false_ne_true
theorem flats_sc : ∀ {ds : List D}, ds.all isSc = true → (ds.map scV).all flatV = true
  | [], _ => rfl
  | d :: ds, p => by
    have p' : isSc d = true ∧ ds.all isSc = true := by simpa using p
    rw [List.map_cons, List.all_cons, flat_sc p'.1, flats_sc p'.2]; rfl
theorem ev_in {neg : Bool} {r' : R2} (ha : Ev ta Γ d) (hb : EvB tb Γ ds) (s1 : isSc d = true) (s2 : ds.all isSc = true) : Ev (tOp (rOr (rIn K neg) r') ta tb) Γ (.bl (if neg then !inV (scV d) (ds.map scV) else inV (scV d) (ds.map scV))) := fun F σ W Q g k =>
  ha F σ W _ g fun v H s r => hb F σ (W.at H) _ (g.same s) fun p vs H' s' e l => .inl ⟨p, vs, rfl, .inl (.of e), by rw [rep_sc s1 r]; exact flat_sc s1, by rw [repL_sc s2 l]; exact flats_sc s2, by
    rw [rep_sc s1 r, repL_sc s2 l]
    exact k _ H' (Same.trans s s') rfl⟩
theorem ev_inT {neg : Bool} {r' : R2} (ha : Ev ta Γ d) (hb : Ev tb Γ (.tup ds)) (s1 : isSc d = true) (s2 : ds.all isSc = true) : Ev (tOp (rOr (rIn K neg) r') ta tb) Γ (.bl (if neg then !inV (scV d) (ds.map scV) else inV (scV d) (ds.map scV))) := fun F σ W Q g k =>
  ha F σ W _ g fun v H s r => hb F σ (W.at H) _ (g.same s) fun u H' s' ⟨p, vs, eu, e, nu, l⟩ => .inl ⟨p, vs, eu, .inr e.sq, by rw [rep_sc s1 r]; exact flat_sc s1, by rw [repL_sc s2 l]; exact flats_sc s2, by
    rw [rep_sc s1 r, repL_sc s2 l]
    exact k _ H' (Same.trans s s') rfl⟩
/-! ### len, items, slices -/
abbrev rLen (K : PySem.W.Frag) : List V → Hp → VK → Prop := fun xs H Q => (∃ p ys, xs = [.ref p] ∧ (SqL K H p ys ∨ SqT K H p ys) ∧ Q (.int ys.length) H) ∨ ∃ z, xs = [.str z] ∧ z.length ≤ sizeLine ∧ Q (.int z.length) H
theorem opLen : CallR X (.builtin "len") (rLen X.K) := call_len_seq.or call_len_str
theorem ev_len (h : EvB ta Γ ds) : Ev (tCB (rLen K) (tCons ta tNil)) Γ (.int ds.length) := fun F σ W Q g k => h F σ W _ g fun p vs H s e l => .inl ⟨p, vs, rfl, .inl (.of e), k _ H s (by rw [l.length]; rfl)⟩
theorem ev_lenT (h : Ev ta Γ (.tup ds)) : Ev (tCB (rLen K) (tCons ta tNil)) Γ (.int ds.length) := fun F σ W Q g k => h F σ W _ g fun u H s ⟨p, vs, eu, e, nu, l⟩ => .inl ⟨p, vs, by rw [eu], .inr e.sq, k _ H s (by rw [l.length]; rfl)⟩
theorem ev_lenS (h : Ev ta Γ (.str x)) (hz : x.length ≤ sizeLine) : Ev (tCB (rLen K) (tCons ta tNil)) Γ (.int x.length) := fun F σ W Q g k => h F σ W _ g fun u H s r => .inr ⟨x, by rw [show u = V.str x from r], hz, k _ H s rfl⟩
theorem atI_rep {W : Wd} {vs : List V} (l : RepL W ds vs) (h : atI ds i = some d) : ∃ v, atI vs i = some v ∧ Rep W d v := by
  unfold atI at h ⊢
  rw [← l.length]
  cases q : ixN ds.length i with
  | none => rw [q] at h; cases h
  | some k =>
    rw [q] at h
    obtain ⟨v, e, r⟩ := l.get (i := k) h
    exact ⟨v, e, r⟩
theorem ev_ix (ha : EvB ta Γ ds) (hb : Ev tb Γ (.int i)) (h : atI ds i = some d) : Ev (tOp (rIx K) ta tb) Γ d := fun F σ W Q g k => ha F σ W _ g fun p vs H s e l => hb F σ (W.at H) _ (g.same s) fun u H' s' r => by
  obtain ⟨v, ev, rv⟩ := atI_rep (RepL.same (W := W.at H) s' l) h
  exact .inl ⟨p, vs, i, v, rfl, r, .of (s' _ _ e), ev, k v H' (Same.trans s s') rv⟩
theorem ev_ixT (ha : Ev ta Γ (.tup ds)) (hb : Ev tb Γ (.int i)) (h : atI ds i = some d) : Ev (tOp (rIx K) ta tb) Γ d := fun F σ W Q g k => ha F σ W _ g fun u H s ⟨p, vs, eu, e, nu, l⟩ => hb F σ (W.at H) _ (g.same s) fun u H' s' r => by
  obtain ⟨v, ev, rv⟩ := atI_rep (RepL.same (W := W.at H) s' l) h
  exact .inr (.inl ⟨p, vs, i, v, eu, r, (e.same s').sq, ev, k v H' (Same.trans s s') rv⟩)
theorem dr2_ixS {z : Nat} (hl : x.length ≤ sizeLine) (h : atI x.cps.toList i = some z) : DR2 (rIx K) (.str x) (.int i) (.str ⟨#[z]⟩) := dr2_flat fun W u v Q a b k => .inr (.inr ⟨x, i, z, a, b, hl, h, k _ rfl⟩)
theorem dr2_ixL (h : atI ds i = some d) : DR2 (rIx K) (.lst ds) (.int i) d := dr2_flat fun W u v Q ⟨p, vs, eu, e, nu, l⟩ b k => by
  obtain ⟨w, ev, rw'⟩ := atI_rep l h
  exact .inl ⟨p, vs, i, w, eu, b, .of e, ev, k w rw'⟩
theorem dr2_ixT (h : atI ds i = some d) : DR2 (rIx K) (.tup ds) (.int i) d := dr2_flat fun W u v Q ⟨p, vs, eu, e, nu, l⟩ b k => by
  obtain ⟨w, ev, rw'⟩ := atI_rep l h
  exact .inr (.inl ⟨p, vs, i, w, eu, b, e.sq, ev, k w rw'⟩)
abbrev rSl (K : PySem.W.Frag) : V → Option Int → Option Int → Hp → VK → Prop := fun x lo hi H Q => rSlL K x lo hi H Q ∨ rSlT K x lo hi H Q
/-! ### iterators -/
theorem pi_or {tg iter : Expr} {w1 w2 : TI} (h1 : PI X tg iter w1) (h2 : PI X tg iter w2) : PI X tg iter (fun σ H R => w1 σ H R ∨ w2 σ H R) :=
  ⟨fun pins s σ H R I h => h.elim (h1.run pins s σ H R I) (h2.run pins s σ H R I)⟩
abbrev iAny (K : PySem.W.Frag) (t : TE) : TI := fun σ H R => iList K t σ H R ∨ (fun σ H R => iTup K t σ H R ∨ iStr t σ H R) σ H R
theorem pi_any {tg : Expr} (h : PE X e te) : PI X tg e (iAny X.K te) := pi_or (pi_list h) (pi_or (pi_tup h) (pi_str h))
theorem ei_l {w1 w2 : TI} {xs : List D} (h : Ei w1 Γ xs) : Ei (fun σ H R => w1 σ H R ∨ w2 σ H R) Γ xs := fun F σ W R g k => .inl (h F σ W R g k)
theorem ei_r {w1 w2 : TI} {xs : List D} (h : Ei w2 Γ xs) : Ei (fun σ H R => w1 σ H R ∨ w2 σ H R) Γ xs := fun F σ W R g k => .inr (h F σ W R g k)
theorem di_l {w1 w2 : TI} {Q : List D → Gam → Prop} (h : Di w1 Γ Q) : Di (fun σ H R => w1 σ H R ∨ w2 σ H R) Γ Q := fun F σ W R g k => .inl (h F σ W R g k)
theorem di_r {w1 w2 : TI} {Q : List D → Gam → Prop} (h : Di w2 Γ Q) : Di (fun σ H R => w1 σ H R ∨ w2 σ H R) Γ Q := fun F σ W R g k => .inr (h F σ W R g k)
theorem eia_list {xs : List D} (h : EvB te Γ xs) : Ei (iAny K te) Γ xs := ei_l (ei_list h)
theorem eia_tup {xs : List D} (h : Ev te Γ (.tup xs)) : Ei (iAny K te) Γ xs := ei_r (ei_l (ei_tup h))
theorem dia_list {Q : List D → Gam → Prop} (h : Dl te Γ fun d Γ1 => ∃ xs, d = .lst xs ∧ Q xs Γ1) : Di (iAny K te) Γ Q := di_l (di_list h)
theorem dia_tup {Q : List D → Gam → Prop} (h : Dl te Γ fun d Γ1 => ∃ xs, d = .tup xs ∧ Q xs Γ1) : Di (iAny K te) Γ Q := di_r (di_l (di_tup h))
theorem signs_get {x : Str} {i : Nat} {d : D} (h : (signs x)[i]? = some d) : i < x.cps.size ∧ ∃ c, x.cps[i]? = some c ∧ d = .str ⟨#[c]⟩ := by
  unfold signs at h
  rw [List.getElem?_map, Array.getElem?_toList] at h
  cases q : x.cps[i]? with
  | none => rw [q] at h; cases h
  | some c =>
    rw [q] at h
    have hl := (Array.getElem?_eq_some_iff.mp q).1
    exact ⟨hl, c, rfl, (Option.some.inj h).symm⟩
theorem signs_length (x : Str) : (signs x).length = x.cps.size := by simp [signs]
theorem ei_str (h : Ev te Γ (.str x)) : Ei (iStr te) Γ (signs x) := fun F σ W R g k => h F σ W _ g fun v H s r => ⟨x, r, k (Its x) H s ⟨fun W1 i d dm sm ku pu hx => by
  obtain ⟨hi, c, hc, rfl⟩ := signs_get hx
  refine ⟨hi, fun v H' ⟨e, c', hc', ev⟩ => ?_⟩
  rw [hc] at hc'; cases hc'
  subst e ev
  exact ⟨Same.refl _, rfl⟩, fun H2 s2 => by rw [signs_length]; exact Nat.le_refl _⟩⟩
theorem eia_str (h : Ev te Γ (.str x)) : Ei (iAny K te) Γ (signs x) := ei_r (ei_r (ei_str h))
theorem di_str {Q : List D → Gam → Prop} (h : Dl te Γ fun d Γ1 => ∃ x, d = .str x ∧ Q (signs x) Γ1) : Di (iStr te) Γ Q := fun F σ W R g k => h F σ W _ g fun v W1 d Γ1 st g1 r ⟨x, e, q⟩ => by
  subst e
  refine ⟨x, r, k (Its x) W1 (signs x) Γ1 st g1 ⟨fun W2 i d s2 ok2 hx => ?_, fun W2 s2 ok2 => by rw [signs_length]; exact Nat.le_refl _⟩ q⟩
  obtain ⟨hi, c, hc, rfl⟩ := signs_get hx
  refine ⟨hi, fun v H' ⟨e, c', hc', ev⟩ => ?_⟩
  rw [hc] at hc'; cases hc'
  subst e ev
  exact ⟨Same.refl _, rfl⟩
theorem dia_str {Q : List D → Gam → Prop} (h : Dl te Γ fun d Γ1 => ∃ x, d = .str x ∧ Q (signs x) Γ1) : Di (iAny K te) Γ Q := di_r (di_r (di_str h))
/-! ### builtins over lists -/
theorem ev_all {bs : List Bool} (h : EvB ta Γ (bs.map D.bl)) : Ev (tCB (rAll K) (tCons ta tNil)) Γ (.bl (bs.all id)) := fun F σ W Q g k => h F σ W _ g fun p vs H s e l => ⟨p, bs, rfl, .of (by rw [e, RepL.bls.mp l]), k _ H s rfl⟩
theorem dl_all {Q : D → Gam → Prop} (h : Dl ta Γ fun d Γ1 => ∃ bs : List Bool, d = .lst (bs.map D.bl) ∧ Q (.bl (bs.all id)) Γ1) : Dl (tCB (rAll K) (tCons ta tNil)) Γ Q := fun F σ W R g k => h F σ W _ g fun v W1 d Γ1 st g1 r ⟨bs, e, q⟩ => by
  subst e
  obtain ⟨p, vs, rfl, e, nu, l⟩ := r
  exact ⟨p, bs, rfl, .of (by rw [e, RepL.bls.mp l]), k _ W1 (.bl (bs.all id)) Γ1 st g1 rfl q⟩
theorem ev_any {bs : List Bool} (h : EvB ta Γ (bs.map D.bl)) : Ev (tCB (rAny K) (tCons ta tNil)) Γ (.bl (bs.any id)) := fun F σ W Q g k => h F σ W _ g fun p vs H s e l => ⟨p, bs, rfl, .of (by rw [e, RepL.bls.mp l]), k _ H s rfl⟩
/-- sep.join(xs) -/
abbrev rJoin (K : PySem.W.Frag) : V → List V → Hp → VK → Prop := fun x xs H Q => ∃ a p, ∃ ys : List Str, x = .str a ∧ xs = [.ref p] ∧ (SqL K H p (ys.map V.str) ∨ SqT K H p (ys.map V.str)) ∧
      (ys.map (·.length)).sum + ys.length * a.length ≤ 16777216 ∧ Q (.str (Txt.join a ys)) H
theorem ev_join {ys : List Str} (ha : Ev ta Γ (.str x)) (hb : EvB tb Γ (ys.map D.str)) (hz : (ys.map (·.length)).sum + ys.length * x.length ≤ 16777216) : Ev (tM1 (rJoin K) ta tb) Γ (.str (Txt.join x ys)) := fun F σ W Q g k =>
  ha F σ W _ g fun v H s r => ⟨⟨x, r⟩, hb F σ (W.at H) _ (g.same s) fun p vs H' s' e l => ⟨x, p, ys, r, rfl, .inl (.of (by rw [e, RepL.strs.mp l])), hz, k _ H' (Same.trans s s') rfl⟩⟩
theorem ev_joinT {ys : List Str} (ha : Ev ta Γ (.str x)) (hb : Ev tb Γ (.tup (ys.map D.str))) (hz : (ys.map (·.length)).sum + ys.length * x.length ≤ 16777216) : Ev (tM1 (rJoin K) ta tb) Γ (.str (Txt.join x ys)) := fun F σ W Q g k =>
  ha F σ W _ g fun v H s r => ⟨⟨x, r⟩, hb F σ (W.at H) _ (g.same s) fun u H' s' ⟨p, vs, eu, e, nu, l⟩ => ⟨x, p, ys, r, by rw [eu], .inr (RepL.strs.mp l ▸ e.sq), hz, k _ H' (Same.trans s s') rfl⟩⟩
theorem dl_join {Q : D → Gam → Prop} (ha : Ev ta Γ (.str x)) (hb : Dl tb Γ fun d Γ1 => ∃ ys : List Str, d = .lst (ys.map D.str) ∧ (ys.map (·.length)).sum + ys.length * x.length ≤ 16777216 ∧ Q (.str (Txt.join x ys)) Γ1) : Dl (tM1 (rJoin K) ta tb) Γ Q := fun F σ W R g k =>
  ha F σ W _ g fun v H s r => ⟨⟨x, r⟩, hb F σ (W.at H) _ (g.same s) fun u W2 d Γ1 st g1 rd ⟨ys, e, hz, q⟩ => by
    subst e
    obtain ⟨p, vs, rfl, e, nu, l⟩ := rd
    exact ⟨x, p, ys, r, rfl, .inl (.of (e.trans (by rw [RepL.strs.mp l]))), hz, k _ W2 (.str (Txt.join x ys)) Γ1 ((Stp.of_same g.ok s).trans st) g1 rfl q⟩⟩
/-- list(range(n)) -/
theorem evn_listRg {n : Nat} (h : Ev ta Γ (.int n)) (hn : n ≤ 16777216) : EvN (tLstRg (tRg1 ta)) Γ (rng n) := fun F σ W Q g k => h F σ W _ g fun v H s r => ⟨n, r, RgOk.of_le (by omega) (by omega) (by omega) (by omega), fun q hq => by
  have e : rgV 0 n = (rng n).map scV := by
    unfold rgV rng
    rw [List.map_map]
    refine List.map_congr_left fun i _ => ?_
    show V.int (0 + (i : Int)) = V.int i
    rw [Int.zero_add]
  have l : RepL (W.at H) (rng n) (rgV 0 n) := by
    have := (RepL.ints (W := W.at H) (ns := (List.range n).map fun (i : Nat) => (i : Int)) (vs := rgV 0 n)).mpr (by
      rw [e]; unfold rng; rw [List.map_map, List.map_map]; rfl)
    rw [List.map_map] at this
    exact this
  exact k q _ _ (Same.trans s (same_upd hq)) (s.free hq) upd_same (RepL.plus (W := W.at H) hq (same_upd hq) l)⟩
/-- list(xs), tuple(xs) -/
abbrev rListOf (K : PySem.W.Frag) : List V → Hp → VK → Prop := fun xs H Q => ∃ p ys, xs = [.ref p] ∧ (SqL K H p ys ∨ SqT K H p ys) ∧ ∀ l, H l = none → Q (.ref l) (upd H l (.lst ys))
theorem evn_list (h : EvB ta Γ ds) : EvN (tCB (rListOf K) (tCons ta tNil)) Γ ds := fun F σ W Q g k => h F σ W _ g fun p vs H s e l => ⟨p, vs, rfl, .inl (.of e), fun n hn => k n vs _ (Same.trans s (same_upd hn)) (s.free hn) upd_same (RepL.plus (W := W.at H) hn (same_upd hn) l)⟩
theorem evn_listT (h : Ev ta Γ (.tup ds)) : EvN (tCB (rListOf K) (tCons ta tNil)) Γ ds := fun F σ W Q g k => h F σ W _ g fun u H s ⟨p, vs, eu, e, nu, l⟩ => ⟨p, vs, by rw [eu], .inr e.sq, fun n hn => k n vs _ (Same.trans s (same_upd hn)) (s.free hn) upd_same (RepL.plus (W := W.at H) hn (same_upd hn) l)⟩
abbrev rTupleOf (K : PySem.W.Frag) : List V → Hp → VK → Prop := fun xs H Q => ∃ p ys, xs = [.ref p] ∧ ((SqL K H p ys ∧ ∀ l, H l = none → Q (.ref l) (upd H l (.tup ys))) ∨ (SqT K H p ys ∧ Q (.ref p) H))
theorem ev_tuple (h : EvB ta Γ ds) : Ev (tCB (rTupleOf K) (tCons ta tNil)) Γ (.tup ds) := fun F σ W Q g k => h F σ W _ g fun p vs H s e l => ⟨p, vs, rfl, .inl ⟨.of e, fun n hn => k _ _ (Same.trans s (same_upd hn)) (rep_new_tup (W := W.at H) (g.same s).ok.dom hn l)⟩⟩
/-- sorted(texts) -/
theorem dl_sortedS {Q : D → Gam → Prop} {r' : List V → Hp → VK → Prop} (h : Dl ta Γ fun d Γ1 => ∃ ys : List Str, d = .lst (ys.map D.str) ∧ ys.length < 64 ∧ ∀ zs : List Str, zs.Perm ys → sortedS zs = true → Q (.lst (zs.map D.str)) Γ1) :
    Dl (tCB (fun xs H Q => r' xs H Q ∨ rSortedS K xs H Q) (tCons ta tNil)) Γ Q := fun F σ W R g k => h F σ W _ g fun v W1 d Γ1 st g1 r ⟨ys, e, hz, q⟩ => by
  subst e
  obtain ⟨p, vs, rfl, e, nu, l⟩ := r
  refine .inr ⟨p, ys, rfl, .of (by rw [e, RepL.strs.mp l]), hz, fun zs n hp hs hn => ?_⟩
  exact k _ (W1.at _) (.lst (zs.map D.str)) Γ1 (st.trans (Stp.of_same g1.ok (same_upd hn))) (g1.same (same_upd hn)) (rep_new_lst g1.ok.dom hn (RepL.strs.mpr rfl)) (q zs hp hs)
theorem opSorted {X : Cx} : CallR X (.builtin "sorted") (fun xs H Q => rSorted X.K xs H Q ∨ rSortedS X.K xs H Q) := cr_sorted.or cr_sortedS
end
end Dw

/-! Rules of the machine that the hand layer lacks: f(k = v) by keywords alone, an attribute as a target within a tuple, count of flat things. -/
namespace Dw
open PySem PySem.Spec PyProof.Rows L2
section
variable {X : Cx} {CX : CXT} {k : Nat} {f C : Addr} {fd : FuncData} {ps ks : List Str} {sp : Sp} {E : XK} {x m : Str} {p pos apos kpos : Pos} {e o : Expr} {es : List Expr} {kws : List Keyword} {te ta : TE} {t tk : TA} {nm : Option Str}
variable {g : List Value → List Value → List Value} {gV : List V → List V → List V}
theorem pe_callK0 (F : FnOk X.prog X.w X.K X.mg X.base CX k f fd ps sp) (hr : Room k X.A) (hg : Gl X x) (hm : X.mg x = some (.ref f)) (hk : PySem.W.keepIn X.K (.ref f) = true) (hb : KBinds X.K fd ps ks g gV) (hx : Passes CX X E)
    (hkw : PK X kws tk) (hall : (backToKw pos (keywordEach kws X.env)).all (·.1.isSome) = true := by rfl) (hks : (backToKw pos (keywordEach kws X.env)).filterMap (·.1) = ks := by rfl)
    (hdb : (x == ("__debug__" : Str)) = false := by decide)
    (hpl : ((backTo pos (starEach [] X.env)).any (·.1) || (backToKw pos (keywordEach kws X.env)).any (·.1.isNone)) = false := by rfl) :
    PE X (.Call (.Name x p) [] kws pos) (tCallK sp gV E tNil tk) := by
  refine ⟨fun pins s σ H Q I h => ?_⟩
  refine wpAny_Call_Name_kw (ld_glob I hg hm ?_ hdb)
  refine PySem.W.callWith_KW0 (h₀ := X.base) I.ok.mod.kin hk hall ?_ hpl
  refine thn (hkw.run pos pins s σ H _ I h) fun ws s2 ⟨zs, H2, I2, rz, q2⟩ => ⟨I2.kIn, ?_⟩
  rw [hks]
  exact run_fnk F hr hb hx I2 .nil rz q2
end
section
variable {X : Cx} {o : Expr} {f : Str} {pos : Pos} {ta : TE}
/-- x.f as a target -/
def gFld (K : PySem.W.Frag) (ta : TE) (f : Str) : TG := fun y σ H Q => ta σ H fun x H2 => ∃ a C dx fs, x = .ref a ∧ H2 a = some (.ins C dx fs) ∧ Cls K C ∧ NoAttr K C f ∧ fs.length < 1000 ∧ Q σ (upd H2 a (.ins C dx (putF f y fs)))
theorem pg_fld (ha : PE X o ta)
    (hs : ∀ v, assign (.Attribute o f pos) X.env v = (do
      let ov ← holding [v] (eval o X.env)
      standAt pos
      holding [v, ov] (setAttr ov f v)
      release [v, ov] []) := by intro _; rfl) : PG X (.Attribute o f pos) (gFld X.K ta f) := by
  refine ⟨fun pins s σ H v u Q I r h => ?_⟩
  rw [hs]
  refine wpAny_bind (wpAny_holding (thn (ha.run pins s σ H _ I h) fun ov s1 ⟨x, H2, I2, rx, a, C, dx, fs, ex, ea, c, n, l, q2⟩ => ?_))
  subst ex
  obtain rfl : ov = Value.ref a := rx
  refine wpAny_bind (wpAny_standAt (wpAny_bind (wpAny_holding ?_)))
  exact setattr_ok I2 ea c n l r fun s3 I3 => wpAny_release ⟨σ, _, I3, q2⟩
end
/-- xs.count(y), all flat -/
def rCnt (K : PySem.W.Frag) : V → List V → Hp → VK → Prop := fun x xs H Q => ∃ (p : Addr) (ys : List V) (y : V), x = .ref p ∧ xs = [y] ∧ SqL K H p ys ∧ flatV y = true ∧ ys.all flatV = true ∧ Q (.int (ys.countP fun z => eqV z y : Nat)) H
theorem count_eqU {x : V} : ∀ {xs : List V} {us : List Value}, Vals xs us → xs.all flatV = true → us.countP (eqU x) = xs.countP fun y => eqV y x
  | _, _, .nil, _ => rfl
  | _, _, .cons r t, h => by
    rw [List.all_cons, Bool.and_eq_true] at h
    rw [List.countP_cons, List.countP_cons, eqU_of r h.1, count_eqU t h.2]
theorem mt_countX {X : Cx} : MtR X "list.count" (rCnt X.K) := by
  intro pins s σ H x xs v us Q I rx rxs h
  obtain ⟨p, ys, y, rfl, rfl, hs, fy, fys, q⟩ := h
  cases rx
  obtain ⟨u, rfl, ru⟩ := rxs.one
  obtain ⟨its, rv, ⟨⟨cls, dd, data, sl⟩, n, ho, hc, hdn, hd⟩, hlen⟩ := I.list hs
  simp only at hc hd
  subst hc hd
  refine call_meets PySem.F.slot_list_count ⟨_, ho, rfl⟩ PySem.F.entry_list_count (PySem.F.args_list_count_2 _ _)
    (SeqAt.list_countAt p its.toArray n dd sl u (eqU y)) ⟨ho, fun z hz => mem_eqAt ru fy rv fys z (by simpa using hz), ?_⟩
  have ec : its.toArray.toList.countP (eqU y) = ys.countP fun z => eqV z y := count_eqU rv fys
  refine ⟨.int (ys.countP fun z => eqV z y : Nat), H, I.tok _, ⟨s.toks, ?_⟩, q⟩
  show Value.int ((its.toArray.toList.countP (eqU y) : Nat) : Int) s.toks = _
  rw [ec]
end Dw

/-! The same rules with the written part K named (within a comprehension's block it is the def's). -/
namespace Dw
open PySem PySem.Spec PyProof.Rows L2
section
variable {X : Cx} {K : PySem.W.Frag} {e : Expr} {te ta tb : TE} {pos apos : Pos} {tg o i a : Expr} {t : TA}
theorem ixA (K : PySem.W.Frag) (hK : X.K = K := by rfl) : IxR X (rIx K) := hK ▸ ix_seq
theorem ixD (K : PySem.W.Frag) (w : World) (hK : X.K = K := by rfl) (hw : X.w = w := by rfl) : IxR X (rIxD K w) := by subst hK hw; exact ix_kdict
theorem plusA (K : PySem.W.Frag) (hK : X.K = K := by rfl) : OpR X (binaryOp .Add) (rPlus K) := hK ▸ opPlus
theorem eqA (K : PySem.W.Frag) (hu : X.A.units + 64 < cLine) (hK : X.K = K := by rfl) : OpR X (compareOp .Eq) (rEqX K) := hK ▸ opEq hu
theorem neA (K : PySem.W.Frag) (hu : X.A.units + 64 < cLine) (hK : X.K = K := by rfl) : OpR X (compareOp .NotEq) (rNeX K) := hK ▸ opNe hu
theorem inA (K : PySem.W.Frag) (hK : X.K = K := by rfl) : OpR X (compareOp .In) (rOr (rIn K false) rInS) := hK ▸ opIn
theorem ninA (K : PySem.W.Frag) (hK : X.K = K := by rfl) : OpR X (compareOp .NotIn) (rOr (rIn K true) rNinS) := hK ▸ opNotIn
theorem lenA (K : PySem.W.Frag) (hK : X.K = K := by rfl) : CallR X (.builtin "len") (rLen K) := hK ▸ opLen
theorem allA (K : PySem.W.Frag) (hc : X.calm = true := by rfl) (hK : X.K = K := by rfl) : CallR X (.builtin "all") (rAll K) := hK ▸ cr_all hc
theorem anyA (K : PySem.W.Frag) (hc : X.calm = true := by rfl) (hK : X.K = K := by rfl) : CallR X (.builtin "any") (rAny K) := hK ▸ cr_any hc
theorem sumA (K : PySem.W.Frag) (hc : X.calm = true := by rfl) (hK : X.K = K := by rfl) : CallR X (.builtin "sum") (rSum K) := hK ▸ cr_sum hc
abbrev rSortedX (K : PySem.W.Frag) : List V → Hp → VK → Prop := fun xs H Q => rSorted K xs H Q ∨ rSortedS K xs H Q
theorem sortedA (K : PySem.W.Frag) (hK : X.K = K := by rfl) : CallR X (.builtin "sorted") (rSortedX K) := hK ▸ opSorted
theorem isiA (K : PySem.W.Frag) (hK : X.K = K := by rfl) : CallR X (.builtin "isinstance") (rIsi K) := hK ▸ call_isi
theorem listA (K : PySem.W.Frag) (hK : X.K = K := by rfl) : CallR X (.type "list") (rListOf K) := hK ▸ call_list_of
theorem tupleA (K : PySem.W.Frag) (hK : X.K = K := by rfl) : CallR X (.type "tuple") (rTupleOf K) := hK ▸ call_tuple_of
theorem slA (K : PySem.W.Frag) (hK : X.K = K := by rfl) : SlR X (rSl K) := hK ▸ sl_list.or sl_tup
theorem countA (K : PySem.W.Frag) (hK : X.K = K := by rfl) : MtR X "list.count" (rCnt K) := hK ▸ mt_countX
theorem indexA (K : PySem.W.Frag) (hK : X.K = K := by rfl) : MtR X "list.index" (rIndex K) := hK ▸ mt_index
theorem piA (K : PySem.W.Frag) (h : PE X e te) (hK : X.K = K := by rfl) : PI X tg e (iAny K te) := hK ▸ pi_any h
theorem joinA (K : PySem.W.Frag) (ho : PE X o ta) (he : PE X e te) (hK : X.K = K := by rfl) (hs : starEach [e] X.env = [(false, eval e X.env)] := by rfl) (hbase : attributeBase o "join" X.env (eval o X.env) = eval o X.env := by rfl) (hline : (apos.endLine == pos.line) = true := by rfl) :
    PE X (.Call (.Attribute o "join" apos) [e] [] pos) (tM1 (rJoin K) ta te) := hK ▸ pe_join ho he hs hbase hline
theorem notA (K : PySem.W.Frag) (ha : PE X a ta) (hK : X.K = K := by rfl) : PE X (.UnaryOp .Not a pos) (tNotT K ta) := hK ▸ pe_notT ha
theorem fldA (K : PySem.W.Frag) {f : Str} (he : PE X e ta) (hK : X.K = K := by rfl) (hb : attributeBase e f X.env (eval e X.env) = eval e X.env := by rfl) : PE X (.Attribute e f pos) (tFld K ta f) := hK ▸ pe_fld he hb
theorem truA (K : PySem.W.Frag) (ha : PE X a ta) (hK : X.K = K := by rfl) (he : ∀ whole, isTrue a X.env whole = (do let v ← whole; standAt a.pos; holding [v] (truthy v)) := by intro _; rfl) : PT X a (tTru K ta) := by
  subst hK; exact pt_truth ha he
end
end Dw

/-! Lists of texts as data: their shape, their equality. -/
namespace Dw
open PySem PySem.Spec PyProof.Rows L2
def okS (x : Str) : Prop := PyData.strOk x = true
theorem canLay_strs : ∀ {xs : List Str}, (∀ x ∈ xs, okS x) → PyData.canLayAll0 (pys (xs.map D.str)) = true
  | [], _ => rfl
  | x :: xs, h => by
    show (PyData.strOk x && PyData.canLayAll0 (pys (xs.map D.str))) = true
    rw [show PyData.strOk x = true from h x List.mem_cons_self, canLay_strs fun y hy => h y (List.mem_cons_of_mem _ hy)]; rfl
theorem depth_strs : ∀ xs : List Str, PyData.depthAll (pys (xs.map D.str)) = 0
  | [] => rfl
  | x :: xs => by
    show max 0 (PyData.depthAll (pys (xs.map D.str))) = 0
    rw [depth_strs xs]; rfl
theorem isPys_strs : ∀ xs : List Str, isPys (xs.map D.str) = true
  | [] => rfl
  | x :: xs => by
    show (true && isPys (xs.map D.str)) = true
    rw [isPys_strs xs]; rfl
theorem shaped_lst {xs : List Str} (h : ∀ x ∈ xs, okS x) : SeqAt.shaped (py (.lst (xs.map D.str))) = true := by
  show (PyData.canLayAll0 (pys (xs.map D.str)) && decide (PyData.depthAll (pys (xs.map D.str)) + 1 ≤ 64)) = true
  rw [canLay_strs h, depth_strs]; rfl
theorem shaped_tup {xs : List Str} (h : ∀ x ∈ xs, okS x) : SeqAt.shaped (py (.tup (xs.map D.str))) = true := by
  show (PyData.canLayAll0 (pys (xs.map D.str)) && decide (PyData.depthAll (pys (xs.map D.str)) + 1 ≤ 64)) = true
  rw [canLay_strs h, depth_strs]; rfl
theorem eqv_strs : ∀ xs ys : List Str, PyData.eqvAll (pys (xs.map D.str)) (pys (ys.map D.str)) = decide (xs = ys)
  | [], [] => rfl
  | [], y :: ys => by
    show false = _
    simp
  | x :: xs, [] => by
    show false = _
    simp
  | x :: xs, y :: ys => by
    show ((x == y) && PyData.eqvAll (pys (xs.map D.str)) (pys (ys.map D.str))) = _
    rw [eqv_strs xs ys, Bool.eq_iff_iff]
    simp
section
variable {K : PySem.W.Frag} {xs ys : List Str} {ta tb : TE} {Γ : Gam}
theorem eq_strsL (h1 : ∀ x ∈ xs, okS x) (h2 : ∀ x ∈ ys, okS x) : DR2 (rEqX K) (.lst (xs.map D.str)) (.lst (ys.map D.str)) (.bl (decide (xs = ys))) := by
  have := eq_deep (K := K) (p := .lst (xs.map D.str)) (q := .lst (ys.map D.str)) (isPys_strs xs) (isPys_strs ys) (shaped_lst h1) (shaped_lst h2)
  rw [show PyData.eqv (py (.lst (xs.map D.str))) (py (.lst (ys.map D.str))) = PyData.eqvAll (pys (xs.map D.str)) (pys (ys.map D.str)) from rfl, eqv_strs] at this
  exact this
theorem ne_strsL (h1 : ∀ x ∈ xs, okS x) (h2 : ∀ x ∈ ys, okS x) : DR2 (rNeX K) (.lst (xs.map D.str)) (.lst (ys.map D.str)) (.bl (!decide (xs = ys))) := by
  have := ne_deep (K := K) (p := .lst (xs.map D.str)) (q := .lst (ys.map D.str)) (isPys_strs xs) (isPys_strs ys) (shaped_lst h1) (shaped_lst h2)
  rw [show PyData.eqv (py (.lst (xs.map D.str))) (py (.lst (ys.map D.str))) = PyData.eqvAll (pys (xs.map D.str)) (pys (ys.map D.str)) from rfl, eqv_strs] at this
  exact this
end
/-- a text of one sign -/
def ch (c : Nat) : Str := ⟨#[c]⟩
theorem ch_eq {a b : Nat} : ch a = ch b ↔ a = b := by
  constructor
  · intro h
    have : (#[a] : Array Nat) = #[b] := congrArg Str.cps h
    simpa using this
  · rintro rfl; rfl
theorem okS_ch {c : Nat} (h : c < 1114112) : okS (ch c) := by
  show (#[c] : Array Nat).all (fun x => decide (x < 0x110000)) = true
  simp [h]
/-- a text of its codes -/
def tx (l : List Nat) : Str := ⟨l.toArray⟩
theorem tx_len (l : List Nat) : (tx l).length = l.length := by show l.toArray.size = _; simp
theorem tx_cps (l : List Nat) : (tx l).cps.toList = l := by show l.toArray.toList = l; simp
theorem tx_eq {a b : List Nat} : tx a = tx b ↔ a = b := by
  constructor
  · intro h
    have := congrArg (fun x : Str => x.cps.toList) h
    simpa [tx_cps] using this
  · rintro rfl; rfl
theorem ch_tx (c : Nat) : ch c = tx [c] := rfl
theorem okS_tx {l : List Nat} (h : ∀ c ∈ l, c < 1114112) : okS (tx l) := by
  show l.toArray.all (fun x => decide (x < 0x110000)) = true
  simp
  exact h
theorem of_tx (x : Str) : x = tx x.cps.toList := by
  obtain ⟨⟨l⟩⟩ := x
  rfl
theorem tx_append (a b : List Nat) : tx a ++ tx b = tx (a ++ b) := by
  show (⟨a.toArray ++ b.toArray⟩ : Str) = ⟨(a ++ b).toArray⟩
  simp
theorem signs_tx (l : List Nat) : signs (tx l) = (l.map ch).map D.str := by
  unfold signs
  rw [tx_cps, List.map_map]
  rfl
end Dw

/-! More rules of the machine: () + t, a range that is kept, enumerate of a tuple, first, *rest = a list. -/
namespace Dw
open PySem PySem.Spec PyProof.Rows L2
section
variable {X : Cx}
/-! ### () + t -/
abbrev rCatE (K : PySem.W.Frag) : R2 := fun x y H Q => ∃ a b ys, x = .ref a ∧ y = .ref b ∧ SqT K H a [] ∧ SqT K H b ys ∧ Q (.ref b) H
theorem op_catE : OpR X (binaryOp .Add) (rCatE X.K) := by
  intro pins s σ H x y v u Q I rx ry ⟨a, b, ys, ex, ey, ha, hb, q⟩
  subst ex; subst ey
  cases rx; cases ry
  obtain ⟨i1, v1, t1, _⟩ := I.tuple ha
  obtain ⟨i2, v2, t2, _⟩ := I.tuple hb
  cases v1
  obtain ⟨o1, g1, c1, n1, d1⟩ := t1
  obtain ⟨o2, g2, c2, n2, d2⟩ := t2
  obtain ⟨oc1, od1, da1, sl1⟩ := o1
  obtain ⟨oc2, od2, da2, sl2⟩ := o2
  simp only at c1 d1 c2 d2
  subst c1; subst d1; subst c2; subst d2
  exact concat_meets ⟨_, g1, rfl⟩ ⟨_, g2, rfl⟩ noFill_tuple_add seq_tuple_add PySem.F.slot_tuple_add PySem.F.entry_tuple_add
    (PySem.F.args_tuple_add_2 _ _) (tuple_addW0 a b _ _ n1 n2 od1 od2 sl1 sl2 rfl) ⟨g1, g2, ⟨.ref b, H, I, rfl, q⟩⟩
abbrev rPlusE (K : PySem.W.Frag) : R2 := rOr (rPlus K) (rCatE K)
theorem plusE (K : PySem.W.Frag) (hK : X.K = K := by rfl) : OpR X (binaryOp .Add) (rPlusE K) := hK ▸ opPlus.or op_catE
variable {K : PySem.W.Frag} {ds es : List D} {i j : Int} {x y : Str} {ta tb : TE} {Γ : Gam}
theorem pl_int : DR2 (rPlusE K) (.int i) (.int j) (.int (i + j)) := dr2_l plus_int
theorem pl_str (h : x.length + y.length ≤ sizeLine) : DR2 (rPlusE K) (.str x) (.str y) (.str (x ++ y)) := dr2_l (plus_str h)
theorem pl_lst (h : ds.length + es.length ≤ sizeLine) : DR2 (rPlusE K) (.lst ds) (.lst es) (.lst (ds ++ es)) := dr2_l (plus_lst h)
theorem pl_tup (h : ds.length + es.length ≤ sizeLine) : DR2 (rPlusE K) (.tup ds) (.tup es) (.tup (ds ++ es)) := by
  by_cases n : ds = []
  · subst n
    exact dr2_r (dr2_flat fun W u v Q ⟨a, vs, e1, h1, n1, l1⟩ b k => by
      obtain ⟨c, ws, e2, h2, n2, l2⟩ := id b
      rw [show vs = [] from l1] at h1
      exact ⟨a, c, ws, e1, e2, h1.sq, h2.sq, by rw [← e2]; exact k v b⟩)
  · exact dr2_l (plus_tup n h)
theorem pl_evn (ha : EvB ta Γ ds) (hb : EvB tb Γ es) (h : ds.length + es.length ≤ sizeLine) : EvN (tOp (rPlusE K) ta tb) Γ (ds ++ es) := fun F σ W Q g k => ha F σ W _ g fun p vs H s e l => hb F σ (W.at H) _ (g.same s) fun q ws H' s' e' l' =>
  .inl (.inr (.inr (.inl ⟨p, q, vs, ws, rfl, rfl, s' _ _ e, e', by rw [← l.length, ← l'.length]; exact h, fun n hn =>
    k n (vs ++ ws) _ (Same.trans s (Same.trans s' (same_upd hn))) (s.free (s'.free hn)) upd_same (RepL.plus (W := W.at H') hn (same_upd hn) ((RepL.same (W := W.at H) s' l).append l'))⟩)))

/-! ### range(n), kept -/
def tRgO (ta : TA) : TE := fun σ H Q => ta σ H fun vs H1 => ∃ z : Int, vs = [.int z] ∧ ∀ p, H1 p = none → Q (.ref p) (upd H1 p (.rng 0 z))
theorem pe_range {a : Expr} {ta : TA} {p pos : Pos} (hg : Gl X "range") (hm : X.mg "range" = none) (ha : PA X [a] ta) (hs : starEach [a] X.env = [(false, eval a X.env)] := by rfl) : PE X (.Call (.Name "range" p) [a] [] pos) (tRgO ta) := by
  refine ⟨fun pins s σ H Q I h => ?_⟩
  refine Call_ (ld_blt I hg hm boot_range (callWith_type1 (thn (ha.run pos pins s σ H _ I h) fun us s1 ⟨vs, H1, I1, r1, q1⟩ => ?_) hs rfl))
  obtain ⟨z, ez, q⟩ := q1
  subst ez
  obtain ⟨u, eu, t, et⟩ := vals1 r1
  subst eu; subst et
  exact call_range_1 ⟨.ref s1.heap.objs.size, upd H1 s1.heap.objs.size (.rng 0 z), I1.laid (fun b o e => Heap.get?_push_of_some _ e) (Nat.le_refl _) ⟨_, _, _, Heap.get?_push_size _ rfl⟩, rfl, q _ (I1.hok.fresh (Nat.le_refl _))⟩
def iRgO (te : TE) : TI := fun σ H R => te σ H fun x H1 => ∃ p lo hi, x = .ref p ∧ H1 p = some (.rng lo hi) ∧ (-(2 ^ 62) ≤ lo ∧ lo < 2 ^ 62 ∧ -(2 ^ 62) ≤ hi ∧ hi < 2 ^ 62) ∧ R (Itr lo (hi - lo).toNat) H1
theorem pi_rgO {tg l : Expr} {te : TE} (hl : PE X l te) : PI X tg l (iRgO te) := by
  refine ⟨fun pins s σ H R I h => thn (hl.run pins s σ H _ I h) fun v s1 ⟨x, H1, I1, r1, q1⟩ => ?_⟩
  obtain ⟨p, lo, hi, ex, hp, ⟨b1, b2, b3, b4⟩, q⟩ := q1
  subst ex
  cases r1
  obtain ⟨t, u, w, hr⟩ := I1.hok p _ hp
  have hr' : IsRange s1.heap p lo hi 1 t u w := hr
  refine wpAny_pyIter_range hr' (small_one b1 b2 b3 b4) ?_
  refine ⟨s1.heap.objs.size, [s1.heap.objs.size], _, _, H1, rfl, I1.kept (t' := s1.toks) fun b o e => Heap.get?_push_of_some _ e, turn_range _ lo (hi - lo).toNat, ?_, fun b hb => ?_, q⟩
  · have e1 : lo + ((0 : Nat) : Int) * 1 = lo := by simp
    have e2 : (((hi - lo).toNat : Nat) : Int) - ((0 : Nat) : Int) = Builtin.Range.rangeSize lo hi 1 := by rw [rangeSize_one]; split <;> omega
    show IsRangeIter _ _ (lo + ((0 : Nat) : Int) * 1) (_ - _) 1
    rw [e1, e2]
    exact Heap.get?_push_size _ rfl
  · obtain rfl : b = s1.heap.objs.size := by simpa using hb
    exact I1.fpOk (Nat.le_refl _) (I1.hok.fresh (Nat.le_refl _))
theorem ev_range {t : TA} {n : Nat} (h : EvA t Γ [.int n]) : Ev (tRgO t) Γ (.rng 0 n) := fun F σ W Q g k => h F σ W _ g fun vs H s ⟨v, _, ev, rv, er⟩ => by
  subst ev; subst er
  exact ⟨n, by rw [show v = V.int n from rv], fun p hp => k _ _ (Same.trans s (same_upd hp)) ⟨p, rfl, upd_same, fun u => (g.same s).ok.dom p u hp⟩⟩
theorem ei_rgO {n : Nat} (h : Ev ta Γ (.rng 0 n)) (hn : n < 2 ^ 62) : Ei (iRgO ta) Γ (rng n) := fun F σ W R g k => h F σ W _ g fun v H s ⟨p, ev, hp, nu⟩ =>
  ⟨p, 0, n, ev, hp, by omega, k (Itr 0 ((n : Int) - 0).toNat) H s ⟨fun W2 i x dm s2 ku pu hx => by
    obtain ⟨hi, rfl⟩ := rng_get hx
    refine ⟨by show i < ((n : Int) - 0).toNat; omega, fun u H' ⟨e, hy⟩ => ?_⟩
    subst e hy
    exact ⟨Same.refl _, by show V.int (0 + (i : Int)) = V.int i; rw [Int.zero_add]⟩, fun H2 s2 => by
      show ((n : Int) - 0).toNat ≤ _
      rw [rng_length]; omega⟩⟩
abbrev iAnyR (K : PySem.W.Frag) (t : TE) : TI := fun σ H R => iAny K t σ H R ∨ iRgO t σ H R
theorem piR (K : PySem.W.Frag) {tg e : Expr} {te : TE} (h : PE X e te) (hK : X.K = K := by rfl) : PI X tg e (iAnyR K te) := hK ▸ pi_or (pi_any h) (pi_rgO h)
theorem ej_list {xs : List D} (h : EvB ta Γ xs) : Ei (iAnyR K ta) Γ xs := ei_l (eia_list h)
theorem ej_tup {xs : List D} (h : Ev ta Γ (.tup xs)) : Ei (iAnyR K ta) Γ xs := ei_l (eia_tup h)
theorem ej_str (h : Ev ta Γ (.str x)) : Ei (iAnyR K ta) Γ (signs x) := ei_l (eia_str h)
theorem ej_rng {n : Nat} (h : Ev ta Γ (.rng 0 n)) (hn : n < 2 ^ 62) : Ei (iAnyR K ta) Γ (rng n) := ei_r (ei_rgO h hn)
theorem dj_list {Q : List D → Gam → Prop} (h : Dl ta Γ fun d Γ1 => ∃ xs, d = .lst xs ∧ Q xs Γ1) : Di (iAnyR K ta) Γ Q := di_l (dia_list h)
theorem dj_tup {Q : List D → Gam → Prop} (h : Dl ta Γ fun d Γ1 => ∃ xs, d = .tup xs ∧ Q xs Γ1) : Di (iAnyR K ta) Γ Q := di_l (dia_tup h)
theorem dj_str {Q : List D → Gam → Prop} (h : Dl ta Γ fun d Γ1 => ∃ x, d = .str x ∧ Q (signs x) Γ1) : Di (iAnyR K ta) Γ Q := di_l (dia_str h)

/-! ### first, *rest = xs -/
theorem unpack_star1 {prog : Program} {w : World} {A : Around} {E : Value → Shared → Prop} {s : Shared} {l : Addr} {b : Value} {its : List Value} {Q : List Value → Shared → Prop} (hl : s.heap.IsList l (b :: its).toArray) (hh : A.handled = none)
    (hz : its.length ≤ 16000) (h : ∀ (h1 : Heap) (tk : Nat), (∀ c o, s.heap.get? c = some o → h1.get? c = some o) → Q [b, .ref h1.objs.size] { s with heap := h1.push { cls := .type "list", data := .seq its.toArray }, toks := tk }) :
    wpAny (model prog w) A (unpackItems (.ref l) 2 (some 1)) Q E s := by
  have lt : l < s.heap.objs.size := by obtain ⟨o, ho, _⟩ := hl; exact Heap.lt_size ho
  have ne : l ≠ s.heap.objs.size := Nat.ne_of_lt lt
  unfold unpackItems notIterableAtAll
  refine wpAny_bind (wpAny_bind (wpAny_specialOf hl.typeIs slot_list_iter.lookup (wpAny_pure ?_)))
  simp only [Bool.false_eq_true, if_false]
  refine wpAny_bind (wpAny_holding (wpAny_pyIter_list hl ?_))
  refine wpAny_bind (wpAny_holding (PySem.W.kun_draw ne 1 0 _ _ ⟨_, Heap.get?_push_size _ rfl, rfl, rfl⟩ (hl.push _) (by simp) fun ha hit hs => ?_))
  have hla : ha.IsList l (b :: its).toArray := (hl.push _).extBut hs.extBut ne
  rw [Nat.zero_add] at hit
  obtain ⟨oi, hoi, _⟩ := id hit
  obtain ⟨ol, hol, _⟩ := id hla
  rw [if_neg (show ¬ (((b :: its).toArray.toList.drop 0).take 1).length < 1 by simp)]
  refine wpAny_bind (wpAny_holding (PySem.W.kun_collect (s := { s with heap := ha }) (T := "list_iterator") (.inr (.inr (.inl rfl))) (Walks.list (A := A.in1) hh s.heap.objs.size l ne _) (fun j u st => st.1.typeIs) (k := 1) (by simp) ⟨hit, hla⟩
    (Heap.lt_size hoi) (Heap.lt_size hol) (fun hb tk kp => ?_) (by rw [sizeLine_eq]; simp; omega)))
  show wpAny _ _ (if its.length < 0 then _ else _) _ _ _
  rw [if_neg (Nat.not_lt_zero _)]
  show wpAny _ _ (newList (its.take (its.length - 0)) >>= fun d => pure ([b] ++ [d] ++ its.drop (its.length - 0))) _ _ _
  rw [Nat.sub_zero, List.take_length, List.drop_length]
  have k2 : ∀ c o, s.heap.get? c = some o → hb.get? c = some o := fun c o e => kp c o (Nat.ne_of_lt (Heap.lt_size e)) (hs.extBut c o (Nat.ne_of_lt (Heap.lt_size e)) (Heap.get?_push_of_some _ e))
  unfold newList
  refine wpAny_bind (wpAny_newObj_type (wpAny_pure ?_) (by show its.toArray.size ≤ sizeLine; rw [sizeLine_eq, List.size_toArray]; omega))
  exact h hb tk k2
def gStar1 (K : PySem.W.Frag) (g1 g2 : TG) : TG := fun v σ H Q => ∃ a z zs, v = .ref a ∧ SqL K H a (z :: zs) ∧ zs.length ≤ 16000 ∧ ∀ p, H p = none → g1 z σ (upd H p (.lst zs)) fun σ1 H1 => g2 (.ref p) σ1 H1 Q
theorem pg_star1 (hc : X.calm = true) {e1 e2 : Expr} {g1 g2 : TG} {k : Nat} {pos sp : Pos} (h1 : PG X e1 g1) (h2 : PG X e2 g2) (hlen : (assignEach [e1, .Starred e2 sp] X.env).length = 2 := by rfl)
    (hst : (assignEach [e1, .Starred e2 sp] X.env).findIdx? (·.1) = some 1 := by rfl) (hm : (assignEach [e1, .Starred e2 sp] X.env).map (·.2) = [assign e1 X.env, assign e2 X.env] := by rfl) :
    PG X (.Tuple [e1, .Starred e2 sp] k pos) (gStar1 X.K g1 g2) := by
  refine ⟨fun pins s σ H v u Q I r hw => ?_⟩
  obtain ⟨a, z, zs, ev, hq, hl, hw⟩ := hw
  subst ev
  cases r
  obtain ⟨its, rv, pl, hz⟩ := I.list hq
  cases rv with
  | cons rz rr =>
    rename_i b l
    rw [assign_Tuple]
    refine wpAny_bind (wpAny_standAt ?_)
    unfold unpack
    rw [hlen, hst, hm]
    refine wpAny_bind (wpAny_holding (unpack_star1 pl.isList (I.ok.hd hc) (by rw [← rr.length]; exact hl) fun ha tk kp => ?_))
    have I1 : Inv X pins σ H { s with heap := ha, toks := tk } := I.kept kp
    have I2 := I1.laid (t' := tk) (o := .lst zs) (h' := ha.push { cls := .type "list", data := .seq l.toArray }) (fun c o e => Heap.get?_push_of_some _ e) (Nat.le_refl _)
      ⟨by have hz' : zs.length + 1 ≤ sizeLine := hz
          omega, l, 0, rr, Heap.get?_push_size _ rfl⟩
    refine assignInOrder_cons (thn (h1.run pins _ σ _ z b _ I2 rz (hw _ (I1.hok.fresh (Nat.le_refl _)))) fun _ s3 ⟨σ3, H3, I3, q3⟩ => ?_)
    exact assignInOrder_cons (thn (h2.run pins s3 σ3 H3 (.ref ha.objs.size) _ Q I3 rfl q3) fun _ s4 ⟨σ4, H4, I4, q4⟩ => assignInOrder_nil ⟨σ4, H4, I4, q4⟩)
theorem ds_asg_star {te : TE} {De : DE} {a b : Nat} (h : Dl te Γ fun d Γ1 => ∃ d0 ds, d = .lst (d0 :: ds) ∧ ds.length ≤ 16000 ∧ De.nx ((Γ1.set a (.val d0)).set b (.val (.lst ds)))) : Ds (tAsg te (gStar1 K (gName a) (gName b))) Γ De := fun F σ W Dr s l => h F σ W _ s fun v W1 d Γ1 st g1 r ⟨d0, ds, e, hz, q⟩ => by
  subst e
  obtain ⟨p, vs, rfl, hp, nu, z, zs, rfl, r0, r1⟩ := r
  refine ⟨p, z, zs, rfl, .of hp, by rw [← r1.length]; exact hz, fun n hn => ?_⟩
  have sm : Same W1.H (upd W1.H n (.lst zs)) := same_upd hn
  exact l.nx _ (W1.at _) _ (st.trans (Stp.of_same g1.ok sm)) (((g1.same sm).set (r0.same sm)).set (rep_new_lst g1.ok.dom hn r1)) q
end
end Dw

/-! enumerate of a tuple. -/
namespace Dw
open PySem PySem.Spec PyProof.Rows L2
theorem meets_enum_tup (l : Addr) (items : Array Value) (n : Nat) (dd : Option Addr) (sl : Array (Option Value)) :
    Meets (Builtin.«enumerate.__new__» ⟨[.type "enumerate", .ref l], []⟩) (fun _ R s => s.heap.get? l = some { cls := .type "tuple", dict := dd, data := .seq items n, slots := sl } ∧
      R (.ok (.ret (.ref (s.heap.push { cls := .type "tuple_iterator", data := .fields #[.ref l, .int 0 0] }).objs.size)))
        { s with heap := (s.heap.push { cls := .type "tuple_iterator", data := .fields #[.ref l, .int 0 0] }).push { cls := .type "enumerate", data := .fields #[.none, .bool false, .ref s.heap.objs.size, rawInt 0, .none, .none] } }) :=
  .of_wp fun prog w A R s h => by
    obtain ⟨hp, g, d, tk, os⟩ := s
    obtain ⟨hl, h⟩ := h
    have hL : hp.IsTuple l items := ⟨_, hl, rfl, n, rfl⟩
    have hsub := sub_enumerate
    wp_walk using wpAny_loadPart' hl
    refine wpAny_stack_any fun st => wpAny_pure ?_
    split
    · rename_i c _ _ _ _ _
      cases (c == Value.type "enumerate") <;> (wp_walk using wpAny_loadPart' hl, wpAny_pyIter_tuple hL; exact ⟨_, rfl, h⟩)
    · wp_walk using wpAny_loadPart' hl, wpAny_pyIter_tuple hL
      exact ⟨_, rfl, h⟩
end Dw

/-! for i, x in enumerate(a tuple). -/
namespace Dw
open PySem PySem.Spec PyProof.Rows L2
theorem call_enum_tup {prog : Program} {w : World} {A : Around} {E : Value → Shared → Prop} {s : Shared} {l : Addr} {items : Array Value} {Q : Value → Shared → Prop} (hL : IsTup s.heap l items)
    (h : ∀ h' : Heap, IsEnum h' (s.heap.objs.size + 1) s.heap.objs.size 0 .none → h'.IsTupleIter s.heap.objs.size l 0 →
      (∀ b o, s.heap.get? b = some o → h'.get? b = some o) → Q (.ref (s.heap.objs.size + 1)) { s with heap := h' }) :
    wpAny (model prog w) A (call (.type "enumerate") [.ref l]) Q E s := by
  obtain ⟨⟨c, dct, dt, sl⟩, hl, hc, n, hd⟩ := hL
  simp only at hc hd
  subst hc; subst hd
  have z1 : (s.heap.push { cls := .type "tuple_iterator", data := .fields #[.ref l, .int 0 0] }).objs.size = s.heap.objs.size + 1 := Heap.size_push ..
  refine callType_new F.called_enumerate (by decide) (F.typeCall_enumerate_1 _) (F.newCall_enumerate_1 _)
    (fun obj => F.args_object_init_2 obj _) F.entry_enumerate_new (meets_enum_tup l items n dct sl) ⟨hl, ?_⟩
  show _ ∧ _
  rw [z1]
  have g0 : ∀ b o, s.heap.get? b = some o → ((s.heap.push { cls := .type "tuple_iterator", data := .fields #[.ref l, .int 0 0] }).push { cls := .type "enumerate", data := .fields #[.none, .bool false, .ref s.heap.objs.size, rawInt 0, .none, .none] }).get? b = some o :=
    fun b o e => Heap.get?_push_of_some _ (Heap.get?_push_of_some _ e)
  have g1 := Heap.get?_push_size (s.heap.push { cls := .type "tuple_iterator", data := .fields #[.ref l, .int 0 0] })
    (o := { cls := .type "enumerate", data := .fields #[.none, .bool false, .ref s.heap.objs.size, rawInt 0, .none, .none] }) rfl
  rw [z1] at g1
  refine ⟨⟨_, g1, rfl⟩, h _ g1 ⟨_, Heap.get?_push_of_some _ (Heap.get?_push_size _ rfl), rfl, rfl⟩ g0⟩
/-- the tuple at a, each item in a new pair -/
def IteT (K : PySem.W.Frag) (a : Addr) : It :=
  ⟨fun i H => ∃ xs x, SqT K H a xs ∧ xs[i]? = some x, fun i H v H' => ∃ T x, v = .ref T ∧ H T = none ∧ H' = upd H T (.tup [.int (i : Nat), x]) ∧ ∀ xs, SqT K H a xs → xs[i]? = some x, fun i H => ∃ xs : List V, SqT K H a xs ∧ xs.length = i⟩
/-- several records of ours have turned -/
theorem inv_turned {X : Cx} {pins : List (Addr × Obj)} {σ : L2.St} {H : Hp} {s : Shared} {h' : Heap} {t' : Nat} {ch : List Addr} (I : Inv X pins σ H s) (k : ∀ b o, b ∉ ch → s.heap.get? b = some o → h'.get? b = some o) (hf : ∀ b ∈ ch, FpOk X pins H b) :
    Inv X pins σ H { s with heap := h', toks := t' } := by
  have nit : ∀ b u, H b = some u → b ∉ ch := fun b u e z => by
    have q := (hf b z).1
    rw [q] at e; cases e
  refine I.step (g' := s.gens) (d' := s.drawn) (ch := ch) (fun b hb => ?_) (fun b o _ _ hc e _ => k b o hc e) (fun b o _ _ hc e _ => ⟨o.slots, k b o hc e⟩) (fun _ _ _ _ n => n) (fun b o hc e => ⟨o, k b o hc e⟩) (fun _ _ e => e) (fun _ _ _ e => e)
    (fun b ps e => ⟨#[], by rw [e]; simp⟩) (fun m hm => ?_) (fun b u e => ?_) I.bare
  · obtain ⟨f0, f1, f2, f3, f4, f5⟩ := hf b hb
    exact ⟨f3, f1, f4, f5⟩
  · obtain ⟨o, es, ep, ho, r⟩ := hm
    exact ⟨o, es, ep, k _ o (fun z => (hf _ z).2.1 rfl) ho, r⟩
  · refine (I.hok b u e).stay (fun c v hc q => k c v ?_ q) (fun _ q => q) fun _ _ q => q
    rcases hc with z | z
    · rw [z]; exact nit b u e
    · exact nit c _ z
theorem turn_enumT {P : Program} {w : World} {K : PySem.W.Frag} {elts : List Expr} {kk : Nat} {tpos : Pos} (a e it : Addr) (nai : a ≠ it) (nae : a ≠ e) (nei : e ≠ it) :
    Turn P w K (.Tuple elts kk tpos) (IteT K a) [e, it] e (fun i h => (∃ old, IsEnum h e it ((0 : Int) + (i : Int)) old) ∧ h.IsTupleIter it a i) where
  mem := by simp
  obj := fun i h ⟨⟨old, he⟩, ⟨o, ho, hc, hd⟩⟩ b hb => by
    rcases (show b = e ∨ b = it by simpa using hb) with z | z
    · subst z; exact ⟨_, he, fun v q => nomatch q⟩
    · subst z; exact ⟨o, ho, fun v q => by rw [hd] at q; cases q⟩
  keep := fun i h h' ⟨⟨old, he⟩, hi⟩ k => ⟨⟨old, k e (by simp) _ he⟩, hi.at fun o q => k it (by simp) o q⟩
  item := by
    intro X hP hw hK hc i pins s σ H E I hf st hg
    subst hP; subst hw; subst hK
    obtain ⟨xs, x, hq, hx⟩ := hg
    obtain ⟨its, rv, p, hz⟩ := I.tuple hq
    obtain ⟨u, hu, ru⟩ := rv.get hx
    have G := GoesN.enumFrom (prog := X.prog) (w := X.w) (A := X.A) (elts := elts) (x1 := kk) (pos := tpos) 0 (Draws.tuple (A := X.A.in1) (I.ok.hd hc) it a nai its.toArray) e nei (by simp [nei, Ne.symm nae]) (by simp)
    have hi : i < its.toArray.size := by
      have := (List.getElem?_eq_some_iff.mp hu).1
      simpa using this
    refine thn (G.goes i s (fun v s2 => ∃ T t y, v = Value.ref T ∧ s.heap.objs.size ≤ T ∧ its.toArray[i]? = some y ∧ s2.heap.IsTuple T #[.int ((0 : Int) + (i : Int)) t, y] ∧
        (∃ old, IsEnum s2.heap e it ((0 : Int) + ((i + 1 : Nat) : Int)) old) ∧ s2.heap.IsTupleIter it a (i + 1) ∧ (∀ b o, b ∉ [e, it] → s.heap.get? b = some o → s2.heap.get? b = some o) ∧ ∃ h' tk, s2 = { s with heap := h', toks := tk }) E hi ⟨st.1, st.2, p⟩
      fun v h' tk ⟨T, t, y, ev, hT, hy, htu⟩ ⟨ho, hit, _⟩ kp _ => ⟨T, t, y, ev, hT, hy, htu, ho, hit, kp, h', tk, rfl⟩) fun r s1 ⟨v, er, hv⟩ => ⟨v, er, thn hv fun _ s2 ⟨T, t, y, ev, hT, hy, htu, ho, hit, kp, h', tk, es⟩ => ?_⟩
    subst es; subst ev
    have ey : y = u := by
      rw [List.getElem?_toArray, hu] at hy
      exact (Option.some.inj hy).symm
    subst ey
    have new : ObjOk X.prog X.w (upd H T (.tup [.int (i : Nat), x])) h' T (.tup [.int (i : Nat), x]) :=
      ⟨by show 2 ≤ sizeLine; decide, [.int ((0 : Int) + (i : Int)) t, y], .cons ⟨t, by rw [Int.zero_add]⟩ (.cons ru .nil), htu⟩
    have I1 : Inv X pins σ (upd H T (.tup [.int (i : Nat), x])) { s with heap := h', toks := tk } := I.turnedNew (ch := [e, it]) kp hf hT new
    refine ⟨.ref T, _, I1, rfl, ⟨T, x, rfl, I.hok.fresh hT, rfl, fun ys hy => by rw [I.tuple_inj hy hq]; exact hx⟩, ⟨ho, hit⟩, fun b hb => ?_⟩
    have lt : b ≠ T := by
      rcases (show b = e ∨ b = it by simpa using hb) with z | z
      · obtain ⟨old, he⟩ := st.1
        rw [z]; exact Nat.ne_of_lt (Nat.lt_of_lt_of_le (Heap.lt_size he) hT)
      · obtain ⟨o, q, _⟩ := st.2
        rw [z]; exact Nat.ne_of_lt (Nat.lt_of_lt_of_le (Heap.lt_size q) hT)
    rw [upd_ne lt]
    exact (hf b hb).1
  done := by
    intro X hP hw hK hc i pins s σ H E I hf st hg
    subst hP; subst hw; subst hK
    obtain ⟨xs, hq, hx⟩ := hg
    obtain ⟨its, rv, p, hz⟩ := I.tuple hq
    have hl := rv.length
    have G := GoesN.enumFrom (prog := X.prog) (w := X.w) (A := X.A) (elts := elts) (x1 := kk) (pos := tpos) 0 (Draws.tuple (A := X.A.in1) (I.ok.hd hc) it a nai its.toArray) e nei (by simp [nei, Ne.symm nae]) (by simp)
    have en : its.toArray.size = i := by rw [List.size_toArray]; omega
    rw [en] at G
    exact G.stops s _ E ⟨st.1, st.2, p⟩ fun h' tk kp _ => inv_turned I kp hf
  self := fun A i s Q E ⟨⟨_, he⟩, _⟩ h => wpAny_pyIter_enum he h
def iEnumT (K : PySem.W.Frag) (ta : TA) : TI := fun σ H R => ta σ H fun vs H1 => ∃ a xs, vs = [.ref a] ∧ SqT K H1 a xs ∧ R (IteT K a) H1
theorem pi_enumT {X : Cx} {e : Expr} {ta : TA} {p pos tpos : Pos} {elts : List Expr} {kk : Nat} (hg : Gl X "enumerate") (hm : X.mg "enumerate" = none) (ha : PA X [e] ta) (hs : starEach [e] X.env = [(false, eval e X.env)] := by rfl) :
    PI X (.Tuple elts kk tpos) (.Call (.Name "enumerate" p) [e] [] pos) (iEnumT X.K ta) := by
  refine ⟨fun pins s σ H R I h => ?_⟩
  refine Call_ (ld_blt I hg hm boot_enumerate (callWith_type1 (thn (ha.run pos pins s σ H _ I h) fun us s1 ⟨vs, H1, I1, r1, q1⟩ => ?_) hs rfl))
  obtain ⟨a, xs, ex, hq, q⟩ := q1
  subst ex
  obtain ⟨u, eu, ru⟩ := vals1 r1
  subst eu
  cases ru
  obtain ⟨its, rv, tp, hz⟩ := I1.tuple hq
  have lta : a < s1.heap.objs.size := by obtain ⟨o, ho, _⟩ := tp; exact Heap.lt_size ho
  refine call_enum_tup tp fun h' he hit hk => wpAny_pyIter_enum he ?_
  refine ⟨s1.heap.objs.size + 1, [s1.heap.objs.size + 1, s1.heap.objs.size], _, _, H1, rfl, I1.kept (t' := s1.toks) hk, turn_enumT a (s1.heap.objs.size + 1) s1.heap.objs.size (Nat.ne_of_lt lta) (Nat.ne_of_lt (Nat.lt_succ_of_lt lta)) (Nat.succ_ne_self _), ⟨⟨.none, he⟩, hit⟩, fun b hb => ?_, q⟩
  have hle : s1.heap.objs.size ≤ b := by
    rcases (show b = s1.heap.objs.size + 1 ∨ b = s1.heap.objs.size by simpa using hb) with z | z
    · rw [z]; exact Nat.le_succ _
    · rw [z]; exact Nat.le_refl _
  exact I1.fpOk hle (I1.hok.fresh hle)
theorem enumTA (K : PySem.W.Frag) {X : Cx} {e : Expr} {ta : TA} {p pos tpos : Pos} {elts : List Expr} {kk : Nat} (hg : Gl X "enumerate") (hm : X.mg "enumerate" = none) (ha : PA X [e] ta) (hK : X.K = K := by rfl) (hs : starEach [e] X.env = [(false, eval e X.env)] := by rfl) :
    PI X (.Tuple elts kk tpos) (.Call (.Name "enumerate" p) [e] [] pos) (fun σ H R => iEnum K ta σ H R ∨ iEnumT K ta σ H R) := hK ▸ pi_or (pi_enum hg hm ha hs) (pi_enumT hg hm ha hs)
theorem zipA (K : PySem.W.Frag) {X : Cx} {e e2 : Expr} {ta : TA} {p pos tpos : Pos} {elts : List Expr} {kk : Nat} (hg : Gl X "zip") (hm : X.mg "zip" = none) (ha : PA X [e, e2] ta) (hK : X.K = K := by rfl)
    (hs : starEach [e, e2] X.env = (false, eval e X.env) :: starEach [e2] X.env := by rfl) (hpl : (backTo pos (starEach [e2] X.env)).any (·.1) = false := by rfl) :
    PI X (.Tuple elts kk tpos) (.Call (.Name "zip" p) [e, e2] [] pos) (RZ.iZipA K ta) := hK ▸ RZ.pi_zipA hg hm ha hs hpl
/-! ### over data -/
/-- the pairs (0, x), (1, y), .. -/
def enumD (xs : List D) : List D := xs.mapIdx fun i x => .tup [.int (i : Nat), x]
theorem enumD_get {xs : List D} {i : Nat} {d : D} (h : (enumD xs)[i]? = some d) : ∃ x, xs[i]? = some x ∧ d = .tup [.int (i : Nat), x] := by
  unfold enumD at h
  rw [List.getElem?_mapIdx] at h
  cases q : xs[i]? with
  | none => rw [q] at h; cases h
  | some x => rw [q] at h; exact ⟨x, rfl, (Option.some.inj h).symm⟩
theorem enumD_length (xs : List D) : (enumD xs).length = xs.length := by simp [enumD]
section
variable {K : PySem.W.Frag} {Γ : Gam} {ta : TE} {xs ys : List D}
theorem di_enumT {Q : List D → Gam → Prop} {r : TI} (h : Dl ta Γ fun d Γ1 => ∃ xs, d = .tup xs ∧ Q (enumD xs) Γ1) : Di (fun σ H R => r σ H R ∨ iEnumT K (tCons ta tNil) σ H R) Γ Q := fun F σ W R g k => .inr (h F σ W _ g fun v W1 d Γ1 st g1 rd ⟨xs, e, q⟩ => by
  subst e
  obtain ⟨a, vs, rfl, ha, nu, l⟩ := rd
  refine ⟨a, vs, rfl, ha.sq, k (IteT K a) W1 (enumD xs) Γ1 st g1 ⟨fun W2 i x s2 ok2 hx => ?_, fun W2 s2 ok2 => ⟨vs, (ha.keep nu (s2.keep a)).1.sq, by rw [enumD_length, l.length]⟩⟩ q⟩
  obtain ⟨y, hy, rfl⟩ := enumD_get hx
  obtain ⟨v, hv, rv⟩ := l.get hy
  have h2 := (ha.keep nu (s2.keep a)).1
  refine ⟨⟨vs, v, h2.sq, hv⟩, fun u H' ⟨T, z, eu, hT, eH, hz⟩ => ?_⟩
  subst eu; subst eH
  have := hz vs h2.sq
  rw [hv] at this; cases this
  exact ⟨same_upd hT, rep_new_tup ok2.dom hT ⟨_, _, rfl, rfl, v, _, rfl, rv.stp s2, rfl⟩⟩)
theorem ei_enumT {r : TI} (h : Ev ta Γ (.tup xs)) : Ei (fun σ H R => r σ H R ∨ iEnumT K (tCons ta tNil) σ H R) Γ (enumD xs) := fun F σ W R g k => .inr (h F σ W _ g fun v H s ⟨a, vs, ev, ha, nu, l⟩ => by
  subst ev
  refine ⟨a, vs, rfl, ha.sq, k (IteT K a) H s ⟨fun W2 i x dm s2 ku pu hx => ?_, fun H2 s2 => ⟨vs, (ha.same s2).sq, by rw [enumD_length, l.length]⟩⟩⟩
  obtain ⟨y, hy, rfl⟩ := enumD_get hx
  obtain ⟨v, hv, rv⟩ := l.get hy
  have h2 : TupAt W2.H a vs := ha.same s2
  refine ⟨⟨vs, v, h2.sq, hv⟩, fun u H' ⟨T, z, eu, hT, eH, hz⟩ => ?_⟩
  subst eu; subst eH
  have := hz vs h2.sq
  rw [hv] at this; cases this
  exact ⟨same_upd hT, rep_new_tup dm hT ⟨_, _, rfl, rfl, v, _, rfl, Rep.mono (W := W.at H) (W' := W2) (fun b u e n => ⟨s2 b u e, ku b u e n⟩) (fun b z => by rw [pu]; exact z) _ _ rv, rfl⟩⟩)
end
end Dw

/-! zip, slices, fields, isinstance, over data. -/
namespace Dw
open PySem PySem.Spec PyProof.Rows L2
def zipD (xs ys : List D) : List D := (xs.zip ys).map fun p => .tup [p.1, p.2]
theorem zipD_get {xs ys : List D} {i : Nat} {d : D} (h : (zipD xs ys)[i]? = some d) : ∃ x y, xs[i]? = some x ∧ ys[i]? = some y ∧ d = .tup [x, y] := by
  unfold zipD at h
  rw [List.getElem?_map] at h
  cases q : (xs.zip ys)[i]? with
  | none => rw [q] at h; cases h
  | some p =>
    rw [q] at h
    rw [List.getElem?_zip_eq_some] at q
    exact ⟨p.1, p.2, q.1, q.2, (Option.some.inj h).symm⟩
theorem zipD_length (xs ys : List D) : (zipD xs ys).length = min xs.length ys.length := by simp [zipD]
section
variable {K : PySem.W.Frag} {Γ : Gam} {ta tb te : TE} {xs ys ds : List D} {d : D}
theorem ei_zipT (h1 : Ev ta Γ (.tup xs)) (h2 : Ev tb Γ (.tup ys)) : Ei (RZ.iZipA K (tCons ta (tCons tb tNil))) Γ (zipD xs ys) := fun F σ W R g k => h1 F σ W _ g fun v H s ⟨a, vs, ev, ha, nu, l⟩ => h2 F σ (W.at H) _ (g.same s) fun u H' s' ⟨b, ws, eu, hb, nu', l'⟩ => by
  subst ev; subst eu
  have ha' := ha.same s'
  refine ⟨a, b, vs, ws, rfl, .inr ⟨ha'.sq, hb.sq, k (RZ.ItzT K a b) H' (Same.trans s s') ⟨fun W2 i x dm s2 ku pu hx => ?_, fun H2 s2 => ?_⟩⟩⟩
  · obtain ⟨x, y, hx1, hy, rfl⟩ := zipD_get hx
    obtain ⟨v, hv, rv⟩ := (RepL.same (W := W.at H) s' l).get hx1
    obtain ⟨u, hu, ru⟩ := l'.get hy
    have a2 := ha'.same s2
    have b2 := hb.same s2
    refine ⟨⟨vs, ws, v, u, a2.sq, b2.sq, hv, hu⟩, fun z H3 ⟨T, p, q, ez, hT, eH, hp, hq⟩ => ?_⟩
    subst ez; subst eH
    have e1 := hp vs a2.sq
    have e2 := hq ws b2.sq
    rw [hv] at e1; cases e1
    rw [hu] at e2; cases e2
    have mv : ∀ {d v}, Rep (W.at H') d v → Rep W2 d v := fun {d v} r => Rep.mono (W := W.at H') (W' := W2) (fun b u e n => ⟨s2 b u e, ku b u e n⟩) (fun b z => by rw [pu]; exact z) d v r
    exact ⟨same_upd hT, rep_new_tup dm hT ⟨_, _, rfl, mv rv, _, _, rfl, mv ru, rfl⟩⟩
  · refine ⟨vs, ws, (ha'.same s2).sq, (hb.same s2).sq, ?_⟩
    rw [zipD_length, ← l.length, ← l'.length]
    omega
theorem ei_zipL (h1 : EvB ta Γ xs) (h2 : EvB tb Γ ys) : Ei (RZ.iZipA K (tCons ta (tCons tb tNil))) Γ (zipD xs ys) := fun F σ W R g k => h1 F σ W _ g fun a vs H s ha l => h2 F σ (W.at H) _ (g.same s) fun b ws H' s' hb l' => by
  have ha' := s' _ _ ha
  refine ⟨a, b, vs, ws, rfl, .inl ⟨.of ha', .of hb, k (Itz K a b) H' (Same.trans s s') ⟨fun W2 i x dm s2 ku pu hx => ?_, fun H2 s2 => ?_⟩⟩⟩
  · obtain ⟨x, y, hx1, hy, rfl⟩ := zipD_get hx
    obtain ⟨v, hv, rv⟩ := (RepL.same (W := W.at H) s' l).get hx1
    obtain ⟨u, hu, ru⟩ := l'.get hy
    have a2 := s2 _ _ ha'
    have b2 := s2 _ _ hb
    refine ⟨⟨vs, ws, v, u, .of a2, .of b2, hv, hu⟩, fun z H3 ⟨T, p, q, ez, hT, eH, hp, hq⟩ => ?_⟩
    subst ez; subst eH
    have e1 := hp vs (.of a2)
    have e2 := hq ws (.of b2)
    rw [hv] at e1; cases e1
    rw [hu] at e2; cases e2
    have mv : ∀ {d v}, Rep (W.at H') d v → Rep W2 d v := fun {d v} r => Rep.mono (W := W.at H') (W' := W2) (fun b u e n => ⟨s2 b u e, ku b u e n⟩) (fun b z => by rw [pu]; exact z) d v r
    exact ⟨same_upd hT, rep_new_tup dm hT ⟨_, _, rfl, mv rv, _, _, rfl, mv ru, rfl⟩⟩
  · refine ⟨vs, ws, .of (s2 _ _ ha'), .of (s2 _ _ hb), ?_⟩
    rw [zipD_length, ← l.length, ← l'.length]
    omega
/-! ### slices -/
def Eo (t : TO) (Γ : Gam) (o : Option Int) : Prop := ∀ (F : Addr → Prop) (σ : L2.St) (W : Wd) (Q : Option Int → Hp → Prop), SR F Γ σ W → (∀ H, Same W.H H → Q o H) → t σ W.H Q
theorem eo_none : Eo tNoPart Γ none := fun F σ W Q g k => k W.H (Same.refl _)
theorem eo_some {i : Int} (h : Ev te Γ (.int i)) : Eo (tPart te) Γ (some i) := fun F σ W Q g k => h F σ W _ g fun v H s r => ⟨i, r, k H s⟩
/-- xs[lo:hi] -/
def cutD (xs : List D) (lo hi : Option Int) : List D := (xs.drop (HT.sIx xs.length 0 lo)).take (HT.sIx xs.length xs.length hi - HT.sIx xs.length 0 lo)
theorem repL_cut {W : Wd} {vs : List V} {lo hi : Option Int} (l : RepL W ds vs) : RepL W (cutD ds lo hi) (cutV vs lo hi) := by
  unfold cutD cutV
  rw [l.length]
  exact (l.drop _).take _
theorem evn_slice {tl th : TO} {lo hi : Option Int} (h : EvB te Γ ds) (h1 : Eo tl Γ lo) (h2 : Eo th Γ hi) : EvN (tSl (rSl K) te tl th) Γ (cutD ds lo hi) := fun F σ W Q g k => h F σ W _ g fun a vs H s e l => h1 F σ (W.at H) _ (g.same s) fun H1 s1 => h2 F σ ((W.at H).at H1) _ ((g.same s).same s1) fun H2 s2 => by
  have sm : Same H H2 := Same.trans s1 s2
  exact .inl ⟨a, vs, rfl, .of (sm _ _ e), fun p hp => k p _ _ (Same.trans s (Same.trans sm (same_upd hp))) (s.free (sm.free hp)) upd_same (RepL.plus (W := W.at H2) hp (same_upd hp) (repL_cut (RepL.same (W := W.at H) sm l)))⟩
theorem ev_sliceT {tl th : TO} {lo hi : Option Int} (h : Ev te Γ (.tup ds)) (h1 : Eo tl Γ lo) (h2 : Eo th Γ hi) (hn : ¬ (HT.sIx ds.length 0 lo = 0 ∧ HT.sIx ds.length ds.length hi = ds.length)) : Ev (tSl (rSl K) te tl th) Γ (.tup (cutD ds lo hi)) := fun F σ W Q g k => h F σ W _ g fun v H s ⟨a, vs, ev, e, nu, l⟩ => h1 F σ (W.at H) _ (g.same s) fun H1 s1 => h2 F σ ((W.at H).at H1) _ ((g.same s).same s1) fun H2 s2 => by
  have sm : Same H H2 := Same.trans s1 s2
  subst ev
  exact .inr ⟨a, vs, rfl, (e.same sm).sq, by rw [← l.length]; exact hn, fun p hp => k _ _ (Same.trans s (Same.trans sm (same_upd hp))) (rep_new_tup (W := W.at H2) (((g.same s).same s1).same s2).ok.dom hp (repL_cut (RepL.same (W := W.at H) sm l)))⟩
/-! ### fields -/
theorem ev_fld {C : Addr} {ns : List Str} {f : Str} (cl : Cls K C) (na : NoAttr K C f) (h : Ev ta Γ (.obj C ns ds)) (hl : (ns.zip ds).lookup f = some d) : Ev (tFld K ta f) Γ d := fun F σ W Q g k => h F σ W _ g fun v H s ⟨a, dx, vs, ev, e, nu, l, r⟩ => by
  subst ev
  have key : ∀ (ns : List Str) (ds : List D) (vs : List V), RepL (W.at H) ds vs → (ns.zip ds).lookup f = some d → ∃ v, (ns.zip vs).lookup f = some v ∧ Rep (W.at H) d v := by
    intro ns
    induction ns with
    | nil => intro ds vs _ q; simp at q
    | cons n ns ih =>
      intro ds vs r q
      cases ds with
      | nil => simp at q
      | cons e ds =>
        obtain ⟨v, rr, rfl, r1, r2⟩ := r
        rw [List.zip_cons_cons, List.lookup_cons] at q ⊢
        cases hb : f == n with
        | true =>
          rw [hb] at q
          exact ⟨v, rfl, by rw [← Option.some.inj q]; exact r1⟩
        | false =>
          rw [hb] at q
          exact ih ds rr r2 q
  obtain ⟨v, hv, rv⟩ := key ns ds vs r hl
  exact ⟨a, C, dx, _, v, rfl, e, cl, na, hv, k v H s rv⟩
/-! ### isinstance with one class -/
/-- a value's type, as the fragment's deciders take it -/
def tyD : D → Value
  | .non => .type "NoneType" | .bl _ => .type "bool" | .int _ => .type "int" | .str _ => .type "str" | .tup _ => .type "tuple" | .tupN _ => .type "tuple" | .lst _ => .type "list" | .dct _ _ => .type "dict" | .obj C _ _ => .ref C | _ => .none
structure InsOk (K : PySem.W.Frag) (C : Addr) : Prop where
  cl : Cls K C
  ha : PySem.W.findIn K (.ref C) "__class__" = some (some (.builtin "object.__class__"))
  hn : PySem.W.specialIn K (.builtin "object.__class__") "__get__" = some (some (.builtin "getset_descriptor.__get__"))
  ht : PySem.W.takesIn K (.builtin "object.__class__") = some true
  hm : PySem.W.mroIn K C (.type "object") = some true
def hasTy : D → Bool
  | .raw _ => false | .purse => false | .rng _ _ => false | .obj _ _ _ => false | .scr _ _ => false | .tupN _ => false | _ => true
theorem ty_of {W : Wd} {v : V} (r : Rep W d v) (h : hasTy d = true ∨ ∃ C ns ds, d = .obj C ns ds ∧ InsOk K C) : TyX K W.H v (tyD d) := by
  cases d with
  | non => rw [show v = V.non from r]; exact .base .non
  | bl b => rw [show v = V.bl b from r]; exact .base (.bl b)
  | int b => rw [show v = V.int b from r]; exact .base (.int b)
  | str b => rw [show v = V.str b from r]; exact .base (.str b)
  | tup ds =>
    obtain ⟨a, vs, ev, e, _⟩ := r
    rw [ev]
    exact e.elim (fun e => .base (.tup e)) fun ⟨o, e⟩ => .fTuple e
  | tupN ds => obtain ⟨a, vs, ev, ⟨o, e, _⟩, _⟩ := r; rw [ev]; exact .fTuple e
  | lst ds => obtain ⟨a, vs, ev, e, _⟩ := r; rw [ev]; exact .base (.lst e)
  | dct ks ds => obtain ⟨a, vs, ev, e, _⟩ := r; rw [ev]; exact .base (.dK e)
  | obj C ns ds =>
    obtain ⟨a, dx, vs, ev, e, _⟩ := r
    rcases h with h | ⟨C', ns', ds', q, o⟩
    · cases h
    · cases q; rw [ev]; exact .base (.ins e o.cl o.ha o.hn o.ht o.hm)
  | raw _ => rcases h with h | ⟨_, _, _, q, _⟩ <;> first | cases h | cases q
  | scr _ _ => rcases h with h | ⟨_, _, _, q, _⟩ <;> first | cases h | cases q
  | purse => rcases h with h | ⟨_, _, _, q, _⟩ <;> first | cases h | cases q
  | rng _ _ => rcases h with h | ⟨_, _, _, q, _⟩ <;> first | cases h | cases q
theorem ev_isi {c : V} {u : Value} {b : Bool} (h : Ev ta Γ d) (hc : Ev tb Γ (.raw c)) (hd : hasTy d = true ∨ ∃ C ns ds, d = .obj C ns ds ∧ InsOk K C) (hv : ClsV c u) (hk : PySem.W.kitOne K (tyD d) u = some b) : Ev (tCB (rIsi K) (tCons ta (tCons tb tNil))) Γ (.bl b) := fun F σ W Q g k =>
  h F σ W _ g fun v H s r => hc F σ (W.at H) _ (g.same s) fun w H' s' rc => ⟨v, c, tyD d, u, b, by rw [show w = c from rc], hv, ty_of (Rep.same (W := W.at H) s' r) hd, hk, k _ H' (Same.trans s s') rfl⟩
end
end Dw
namespace Dw
open PySem PySem.Spec PyProof.Rows L2
theorem tupA (K : PySem.W.Frag) (n : Nat) {X : Cx} {pos : Pos} {es : List Expr} {k : Nat} {t : TGs} (hc : X.calm = true) (h : PGs X es t) (hK : X.K = K := by rfl)
    (hn : (assignEach es X.env).length = n := by rfl) (hst : (assignEach es X.env).findIdx? (·.1) = none := by rfl) : PG X (.Tuple es k pos) (gTup K n t) := hK ▸ pg_tup hc h hn hst
theorem star1A (K : PySem.W.Frag) {X : Cx} (hc : X.calm = true) {e1 e2 : Expr} {g1 g2 : TG} {k : Nat} {pos sp : Pos} (h1 : PG X e1 g1) (h2 : PG X e2 g2) (hK : X.K = K := by rfl) (hlen : (assignEach [e1, .Starred e2 sp] X.env).length = 2 := by rfl)
    (hst : (assignEach [e1, .Starred e2 sp] X.env).findIdx? (·.1) = some 1 := by rfl) (hm : (assignEach [e1, .Starred e2 sp] X.env).map (·.2) = [assign e1 X.env, assign e2 X.env] := by rfl) :
    PG X (.Tuple [e1, .Starred e2 sp] k pos) (gStar1 K g1 g2) := hK ▸ pg_star1 hc h1 h2 hlen hst hm
/-- a purse is drawn from -/
theorem purse_step {F : Addr → Prop} {W : Wd} {a : Addr} {x y c : Int} (ok : WOk F W) (hp : W.P a) (hx : 0 ≤ x) (hy : 0 ≤ y) (hy2 : y < 2147483647) :
    Stp F W (W.at (upd W.H a (.lst [.int x, .int y, .int c]))) ∧ WOk F (W.at (upd W.H a (.lst [.int x, .int y, .int c]))) := by
  obtain ⟨u, f, _⟩ := ok.pu a hp
  have up : ∀ b, b ≠ a → (upd W.H a (.lst [.int x, .int y, .int c])) b = W.H b := fun b hb => upd_ne hb
  refine ⟨⟨fun b o e n => ⟨?_, n⟩, rfl, fun b h => up b fun z => f (by rw [← z]; exact h)⟩, ⟨fun b h z => ?_, ok.fu, fun b h => ?_⟩⟩
  · show (upd W.H a _) b = _
    rw [up b fun z => n (by rw [z]; exact u)]
    exact e
  · have z : (upd W.H a (.lst [.int x, .int y, .int c])) b = none := z
    by_cases hb : b = a
    · rw [hb, upd_same] at z; cases z
    · rw [up b hb] at z; exact ok.dom b h z
  · obtain ⟨u', f', x', y', h1, h2, h3, e⟩ := ok.pu b h
    refine ⟨u', f', ?_⟩
    by_cases hb : b = a
    · rw [hb]; exact ⟨(x, c), y, hx, hy, hy2, upd_same⟩
    · exact ⟨x', y', h1, h2, h3, (up b hb).trans e⟩
end Dw

/-! Joined texts as codes; a written dict that is asked at once. -/
namespace Dw
open PySem PySem.Spec PyProof.Rows L2
theorem joinL_nil : ∀ ls : List (List Nat), TL.joinL [] ls = ls.flatten
  | [] => rfl
  | [p] => by simp [TL.joinL]
  | p :: q :: r => by
    show p ++ ([] ++ TL.joinL [] (q :: r)) = _
    rw [List.nil_append, joinL_nil (q :: r)]; rfl
theorem join_tx (a : List Nat) (ys : List (List Nat)) : Txt.join (tx a) (ys.map tx) = tx (TL.joinL a ys) := SX.join_S a ys
theorem flat_chs (l : List Nat) : (l.map fun c => [c]).flatten = l := by
  induction l with
  | nil => rfl
  | cons c l ih => rw [List.map_cons, List.flatten_cons, ih]; rfl
theorem join_chs (l : List Nat) : Txt.join (Str.ofString "") (l.map ch) = tx l := by
  have e : l.map ch = (l.map fun c => [c]).map tx := by rw [List.map_map]; rfl
  have e0 : Str.ofString "" = tx [] := by decide +kernel
  rw [e, e0, join_tx, joinL_nil, flat_chs]
theorem chs_len (l : List Nat) : ((l.map ch).map (·.length)).sum = l.length := by
  induction l with
  | nil => rfl
  | cons c l ih =>
    rw [List.map_cons, List.map_cons, List.sum_cons, ih, List.length_cons]
    show 1 + l.length = _
    omega
section
variable {Γ : Gam} {K : PySem.W.Frag} {ty : TE} {x y : Str}
def dispP (kvs : List (Str × Str)) : List (TE × TE) := kvs.map fun p => (tC (.str p.1), tC (.str p.2))
theorem tPairs_disp (σ : L2.St) (H : Hp) : ∀ (kvs : List (Str × Str)) (Q : List (V × V) → Hp → Prop), Q (kvs.map fun p => (V.str p.1, V.str p.2)) H → tPairs (dispP kvs) σ H Q
  | [], Q, h => h
  | (a, b) :: kvs, Q, h => tPairs_disp σ H kvs (fun ps H3 => Q ((V.str a, V.str b) :: ps) H3) h
theorem ev_dget {trs : List (TE × TE)} (kvs : List (Str × Str)) (ht : trs = dispP kvs) (hl : kvs.length ≤ 15) (h : Ev ty Γ (.str x))
    (hv : valV (mergeK [] (kvs.map fun p => ((Sum.inr p.1 : Key), V.str p.2))) (Sum.inr x) = some (.str y)) : Ev (tDGet (tDisp trs) ty) Γ (.str y) := fun F σ W Q g k => by
  subst ht
  refine fun p hp => tPairs_disp σ _ kvs _ ⟨upd_same, kvs.map fun p => ((Sum.inr p.1 : Key), V.str p.2), by rw [List.map_map]; rfl, by rw [List.length_map]; exact hl, ?_⟩
  rw [upd_upd]
  have sm : Same W.H (upd W.H p (.dK (mergeK [] (kvs.map fun p => ((Sum.inr p.1 : Key), V.str p.2))))) := same_upd hp
  refine h F σ (W.at _) _ (g.same sm) fun v H2 s2 r => ⟨p, .str y, rfl, ?_, k _ H2 (Same.trans sm s2) rfl⟩
  rw [show v = V.str x from r, ← hv]
  exact DGet.k (k := Sum.inr x) (s2 _ _ upd_same)
end
end Dw

/-! Chains of comparisons, dicts of the module, properties, texts cut, objects made. -/
namespace Dw
open PySem PySem.Spec PyProof.Rows L2
section
variable {Γ : Gam} {K : PySem.W.Frag} {w : World} {ta tb tc te tv : TE} {t : TA} {x y z d : D} {ds : List D} {a b : Str} {C ad : Addr} {E : XK} {s : Spc}
theorem ev_chain {r r' : R2} {p q : Bool} (ha : Ev ta Γ x) (hb : Ev tb Γ y) (hc : p = true → Ev tc Γ z) (h1 : DR2 r x y (.bl p)) (h2 : p = true → DR2 r' y z (.bl q)) : Ev (tChain r r' ta tb tc) Γ (.bl (p && q)) := fun F σ W Q g k =>
  ha F σ W _ g fun u H s ru => hb F σ (W.at H) _ (g.same s) fun v H1 s1 rv => by
    refine h1 (W.at H1) u v _ ((g.same s).same s1).ok.dom (ru.same (W := W.at H) s1) rv fun o H2 s2 ro => ⟨p, ro, ?_⟩
    have s02 : Same W.H H2 := Same.trans s (Same.trans s1 s2)
    cases p with
    | false => exact ite2 (fun h => nomatch h) fun _ => k _ H2 s02 rfl
    | true =>
      refine ite2 (fun _ => ?_) fun h => absurd rfl h
      refine hc rfl F σ (W.at H2) _ (g.same s02) fun e H3 s3 re => ?_
      exact h2 rfl (W.at H3) v e _ ((g.same s02).same (W := W.at H2) s3).ok.dom ((rv.same (W := W.at H1) s2).same (W := W.at H2) s3) re fun o' H4 s4 ro' => k _ H4 (Same.trans s02 (Same.trans s3 s4)) ro'
theorem evt_chain {r r' : R2} {p q : Bool} (ha : Ev ta Γ x) (hb : Ev tb Γ y) (hc : p = true → Ev tc Γ z) (h1 : DR2 r x y (.bl p)) (h2 : p = true → DR2 r' y z (.bl q)) : EvT (tTest (tChain r r' ta tb tc)) Γ (p && q) := evt_test (ev_chain ha hb hc h1 h2)
theorem ev_ixD {p : Addr} (h : Ev tb Γ (.str b)) (hk : KDct K w p b (.str a)) : Ev (tOp (rIxD K w) (tC (.ref p)) tb) Γ (.str a) :=
  ev_op ev_raw h (dr2_flat fun W u v Q r1 r2 k => ⟨p, b, .str a, r1, r2, hk, k _ rfl⟩)
theorem dr2_rep2 (h : ds.length * 2 ≤ sizeLine) : DR2 rTimes (.lst ds) (.int 2) (.lst (ds ++ ds)) := dr2_r fun W u v Q dom ⟨l, vs, eu, hl, nu, rl⟩ rv k =>
  ⟨l, 2, vs, eu, rv, hl, by decide, by decide, by rw [← rl.length]; exact h, fun p hp => by
    have e : (List.replicate (2 : Int).toNat vs).flatten = vs ++ vs := by
      show (List.replicate 2 vs).flatten = _
      simp [List.replicate]
    rw [e]
    exact k _ _ (same_upd hp) (rep_new_lst dom hp (rl.append rl))⟩
/-- a property of an object -/
theorem ev_prop {x : s.ty} {ns : List Str} (h : Ev ta Γ (.obj C ns ds)) (ha : s.args x = [.obj C ns ds]) (np : noPs (s.args x) = true) (ok : s.ok x) (hd : ∀ d', s.rel x d' → d' = d) : Ev (tProp C (toSp s) [] E ta) Γ d := fun F σ W R g k => h F σ W _ g fun v H st r => by
  obtain ⟨a, dx, vs, ev, e, nu, l, rl⟩ := r
  refine ⟨a, dx, _, ev, e, ?_⟩
  have rr : RepL (W.at H) (s.args x) [v] := by rw [ha]; exact RepL.one ⟨a, dx, vs, ev, e, nu, l, rl⟩
  rw [← ev]
  exact pure_call (W := W.at H) (g.same st) (fun _ z => z) (RepL.delP _ _ np rr) ok fun d' v H' hd' s' r' => by
    rw [hd d' hd'] at r'
    exact k v H' (Same.trans st s') (Rep.addP (W := W) r')
theorem evn_split (ha : Ev ta Γ (.str a)) (hb : Ev tb Γ (.str b)) (hn : (b.length == 0) = false) (hz : a.length + 2 ≤ sizeLine) :
    EvN (tM1 (fun x xs H Q => ∃ a b, x = .str a ∧ xs = [.str b] ∧ (b.length == 0) = false ∧ a.length + 2 ≤ sizeLine ∧ rNewStrs (Txt.split a b) H Q) ta tb) Γ ((Txt.split a b).map D.str) := fun F σ W Q g k =>
  ha F σ W _ g fun v H s r => ⟨⟨a, r⟩, hb F σ (W.at H) _ (g.same s) fun u H1 s1 r1 => ⟨a, b, r, by rw [show u = V.str b from r1], hn, hz, fun p hp =>
    k p _ _ (Same.trans (Same.trans s s1) (same_upd hp)) ((Same.trans s s1).free hp) upd_same (RepL.strs.mpr rfl)⟩⟩
theorem ev_partition (ha : Ev ta Γ (.str a)) (hb : Ev tb Γ (.str b)) (hn : (b.length == 0) = false) (hz : a.length ≤ sizeLine) :
    Ev (tM1 (fun x xs H Q => ∃ a b, x = .str a ∧ xs = [.str b] ∧ (b.length == 0) = false ∧ a.length ≤ sizeLine ∧
      ∀ p, H p = none → Q (.ref p) (upd H p (.tup [.str (Txt.partition a b).1, .str (Txt.partition a b).2.1, .str (Txt.partition a b).2.2]))) ta tb) Γ (.tup [.str (Txt.partition a b).1, .str (Txt.partition a b).2.1, .str (Txt.partition a b).2.2]) := fun F σ W Q g k =>
  ha F σ W _ g fun v H s r => ⟨⟨a, r⟩, hb F σ (W.at H) _ (g.same s) fun u H1 s1 r1 => ⟨a, b, r, by rw [show u = V.str b from r1], hn, hz, fun p hp =>
    k _ _ (Same.trans (Same.trans s s1) (same_upd hp)) (rep_new_tup (W := W.at H1) ((g.same s).same (W := W.at H) s1).ok.dom hp ⟨_, _, rfl, rfl, _, _, rfl, rfl, _, _, rfl, rfl, rfl⟩)⟩⟩
end
end Dw

/-! Objects made: the promise of an __init__, its rules, the call of the class. -/
namespace Dw
open PySem PySem.Spec PyProof.Rows L2
abbrev rIsNone : R2 := fun x y H Q => y = .non ∧ Q (.bl (decide (x = .non))) H
theorem dr2_isN {d : D} {b : Bool} (h : ∀ (W : Wd) v, Rep W d v → decide (v = V.non) = b) : DR2 rIsNone d .non (.bl b) := dr2_flat fun W u v Q r1 r2 k => ⟨r2, by rw [h W u r1]; exact k _ rfl⟩
/-- an __init__'s promise: the object gets ns and ds, where rel x (.tup ds) -/
def toIn (C : Addr) (ns : List Str) (s : Spc) : Sp := fun vs H Q _ => ∃ (x : s.ty) (F : Addr → Prop) (W : Wd) (a dx : Addr) (us : List V), vs = .ref a :: us ∧ W.H = H ∧ WOk F W ∧ W.U a ∧ ¬ F a ∧ ¬ W.P a ∧ W.H a = some (.ins C dx []) ∧ RepL W (s.args x) us ∧ s.ok x ∧
  ∀ ds zs W', s.rel x (.tup ds) → Stp F W W' → WOk F W' → W'.U a → W'.H a = some (.ins C dx (ns.zip zs)) → ns.length = zs.length → RepL W' ds zs → Q .non W'.H
section
variable {Γ : Gam} {K : PySem.W.Frag} {te tv ta : TE} {t u : TS} {x y d : D} {C : Addr} {s : Spc}
/-- a statement of an __init__ whose object stands at a, with the fields ns so far -/
def DI (C a : Addr) (t : TS) (Γ : Gam) (ns : List Str) (ds : List D) (R : Gam → List Str → List D → Prop) : Prop := ∀ (F : Addr → Prop) (σ : L2.St) (W : Wd) (Dr : Ends) (dx : Addr) (us : List V), SR (Fp F a) Γ σ W → ¬ F a → W.H a = some (.ins C dx (ns.zip us)) → ns.length = us.length → RepL W ds us →
  (∀ σ' Γ' ns' ds' us' W', Stp F W W' → SR (Fp F a) Γ' σ' W' → W'.H a = some (.ins C dx (ns'.zip us')) → ns'.length = us'.length → RepL W' ds' us' → R Γ' ns' ds' → Dr.nx σ' W'.H) → t Dr σ W.H
theorem di_seq {a : Addr} {ns : List Str} {ds : List D} {R : Gam → List Str → List D → Prop} (h : DI C a t Γ ns ds fun Γ' ns' ds' => DI C a u Γ' ns' ds' R) : DI C a (tSeq t u) Γ ns ds R := fun F σ W Dr dx us g nf e l r k =>
  h F σ W { Dr with nx := u Dr } dx us g nf e l r fun σ' Γ' ns' ds' us' W' st g' e' l' r' hR => hR F σ' W' Dr dx us' g' nf e' l' r' fun σ2 Γ2 ns2 ds2 us2 W2 st2 => k σ2 Γ2 ns2 ds2 us2 W2 (st.trans st2)
theorem di_of {a : Addr} {ns : List Str} {ds : List D} {R : Gam → List Str → List D → Prop} (h : Ds t Γ ⟨fun Γ' => R Γ' ns ds, fun _ => False, fun _ => False, fun _ => False⟩) : DI C a t Γ ns ds R := fun F σ W Dr dx us g nf e l r k =>
  h (Fp F a) σ W Dr g ⟨fun σ' W' Γ' st g' hR => k σ' Γ' ns ds us W' (st.sub fun _ z => .inl z) g' ((st.fr a (.inr rfl)).trans e) l (r.stp st) hR, fun _ _ _ _ _ _ h => h.elim, fun _ _ _ _ _ h => h.elim, fun _ _ _ _ _ h => h.elim⟩
theorem putF_new {f : Str} {v : V} : ∀ {ns : List Str} {us : List V}, f ∉ ns → ns.length = us.length → putF f v (ns.zip us) = (ns ++ [f]).zip (us ++ [v])
  | [], [], _, _ => rfl
  | n :: ns, u :: us, h, l => by
    show (if n = f then _ else (n, u) :: putF f v (ns.zip us)) = _
    rw [if_neg (fun z => h (by rw [z]; exact List.mem_cons_self)), putF_new (fun z => h (List.mem_cons_of_mem _ z)) (Nat.succ.inj l)]
    rfl
theorem zip_len {ns : List Str} {us : List V} (l : ns.length = us.length) : (ns.zip us).length = ns.length := by rw [List.length_zip, ← l]; omega
theorem di_fld {a : Addr} {ns : List Str} {ds : List D} {f : Str} {R : Gam → List Str → List D → Prop} (cl : Cls K C) (na : NoAttr K C f) (hn : f ∉ ns) (hz : ns.length < 1000) (ha : Ev ta Γ (.raw (.ref a))) (hv : Ev tv Γ d) (h : R Γ (ns ++ [f]) (ds ++ [d])) :
    DI C a (sFld K ta tv f) Γ ns ds R := fun F σ W Dr dx us g nf e l r k => hv _ σ W _ g fun v H s rv => ha _ σ (W.at H) _ (g.same s) fun z H1 s1 rz => by
  have g1 := (g.same s).same (W := W.at H) s1
  have s01 := Same.trans s s1
  refine ⟨a, C, dx, ns.zip us, rz, s01 _ _ e, cl, na, by rw [zip_len l]; exact hz, ?_⟩
  rw [putF_new hn l]
  obtain ⟨st, g2⟩ := g1.poke (o := .ins C dx ((ns ++ [f]).zip (us ++ [v]))) nf
  have st1 : Stp F W (W.at H1) := (Stp.of_same g.ok s01).sub fun _ z => .inl z
  exact k σ Γ (ns ++ [f]) (ds ++ [d]) (us ++ [v]) _ (st1.trans st) g2 upd_same (by rw [List.length_append, List.length_append, l]; rfl) (((r.same s01).append (RepL.one (rv.same (W := W.at H) s1))).stp st) h
theorem di_fld2 {a : Addr} {ns : List Str} {ds : List D} {f f2 : Str} {R : Gam → List Str → List D → Prop} (cl : Cls K C) (na : NoAttr K C f) (na2 : NoAttr K C f2) (hn : f ∉ ns) (hn2 : f2 ∉ ns ++ [f]) (hz : ns.length < 900) (ha : Ev ta Γ (.raw (.ref a))) (hv : Ev tv Γ (.tup [x, y]))
    (h : R Γ ((ns ++ [f]) ++ [f2]) ((ds ++ [x]) ++ [y])) :
    DI C a (tAsg tv (gTup K 2 (gCons (gFld K ta f) (gCons (gFld K ta f2) gNil)))) Γ ns ds R := fun F σ W Dr dx us g nf e l r k => hv _ σ W _ g fun v H s rv => by
  obtain ⟨p, vs, ev, hp, nu, v1, _, rfl, r1, v2, _, rfl, r2, rfl⟩ := rv
  refine ⟨p, [v1, v2], ev, hp.sq, rfl, v1, [v2], rfl, ha _ σ (W.at H) _ (g.same s) fun z H1 s1 rz => ?_⟩
  have g1 := (g.same s).same (W := W.at H) s1
  have s01 := Same.trans s s1
  refine ⟨a, C, dx, ns.zip us, rz, s01 _ _ e, cl, na, by rw [zip_len l]; omega, ?_⟩
  rw [putF_new hn l]
  obtain ⟨st, g2⟩ := g1.poke (o := .ins C dx ((ns ++ [f]).zip (us ++ [v1]))) nf
  have st1 : Stp F W (W.at H1) := (Stp.of_same g.ok s01).sub fun _ z => .inl z
  have l1 : (ns ++ [f]).length = (us ++ [v1]).length := by rw [List.length_append, List.length_append, l]; rfl
  have rr1 := ((r.same s01).append (RepL.one (r1.same (W := W.at H) s1))).stp st
  have r2' := (r2.same (W := W.at H) s1).stp st
  refine ⟨v2, [], rfl, ha _ σ _ _ g2 fun z' H2 s2 rz' => ?_⟩
  refine ⟨a, C, dx, (ns ++ [f]).zip (us ++ [v1]), rz', s2 _ _ upd_same, cl, na2, by rw [zip_len l1, List.length_append]; show ns.length + 1 < 1000; omega, rfl, ?_⟩
  rw [putF_new hn2 l1]
  obtain ⟨st2, g3⟩ := (g2.same s2).poke (o := .ins C dx (((ns ++ [f]) ++ [f2]).zip ((us ++ [v1]) ++ [v2]))) nf
  have sto : Stp F (W.at (upd H1 a (.ins C dx ((ns ++ [f]).zip (us ++ [v1]))))) (W.at H2) := (Stp.of_same g2.ok s2).sub fun _ z => .inl z
  exact k σ Γ _ ((ds ++ [x]) ++ [y]) ((us ++ [v1]) ++ [v2]) _ (st1.trans (st.trans (sto.trans st2))) g3 upd_same (by simp [l]) (((rr1.stp sto).append (RepL.one (r2'.stp sto))).stp st2) h
section
variable {P : Program} {w : World} {mg : Str → Option Value} {base : Heap}
theorem in_ok {x qual : Str} {st : Stmt} {f : Addr} {fd : FuncData} {N ps : List Str} {k : Nat} {ns : List Str} (F : Fun K x qual st f fd) (S : FnScope N ps (defScope st)) (len : ∀ x, (s.args x).length + 1 = ps.length)
    (hbody : ∀ (cdv : Value) (A : Around) (outer : List Env) (s' : Shared) (H : Hp) (E : XK), Room k (A.deeper (envOfC qual (defScope st) s'.heap.objs.size f cdv)) →
      ∃ t, PSs (cxOf CX0 P w K mg base N qual (defScope st) f cdv A outer s' H E).nox (defBody st) t ∧ ∀ x, s.ok x → ∀ a, DI C a t (Gz0 N.length (.raw (.ref a) :: s.args x)) [] [] fun _ ns' ds' => ns' = ns ∧ s.rel x (.tup ds')) :
    FnOk P w K mg base CX0 (k + 1) f fd ps (toIn C ns s) :=
  F.ok S (fun vs H Q E ⟨x, F, W, a, dx, us, e, _, _, _, _, _, _, r, _⟩ => by rw [e, List.length_cons, ← r.length]; exact len x) fun cdv A outer s' H vs Q E hr h => by
    obtain ⟨t, p, hb⟩ := hbody cdv A outer s' H E hr
    refine ⟨t, p, ?_⟩
    obtain ⟨x, F, W, a, dx, us, rfl, rfl, ok, hu, nf, np, ha, r, hx, q⟩ := h
    have ok' : WOk (Fp F a) W := ⟨ok.dom, fun b z => z.elim (ok.fu b) fun z => by rw [z]; exact hu, fun b z => let ⟨u, f, pp⟩ := ok.pu b z; ⟨u, fun y => y.elim f fun y => np (by rw [← y]; exact z), pp⟩⟩
    refine hb x hx a F _ W _ dx [] (sr_start ok' (ds := .raw (.ref a) :: s.args x) ⟨_, us, rfl, rfl, r⟩) nf ha rfl rfl fun σ' Γ' ns' ds' us' W' st g' e' l' r' hR => ?_
    obtain ⟨rfl, hrel⟩ := hR
    exact q ds' us' W' hrel st ⟨g'.ok.dom, fun b z => g'.ok.fu b (.inl z), fun b z => let ⟨u, f, pp⟩ := g'.ok.pu b z; ⟨u, fun y => f (.inl y), pp⟩⟩ (g'.ok.fu a (.inr rfl)) e' l' r'
end
/-- C(..) -/
theorem dl_make {ns : List Str} {t : TA} {E : XK} {Q : D → Gam → Prop} (h : DlA t Γ fun ds Γ1 => ∃ x, ds = s.args x ∧ s.ok x ∧ ∀ es, s.rel x (.tup es) → Q (.obj C ns es) Γ1) : Dl (tMake C (toIn C ns s) [] E t) Γ Q := fun F σ W R g k => h F σ W _ g fun vs W1 ds Γ1 st g1 r ⟨x, e, ok, q⟩ => by
  subst e
  intro b dx hb hdx ne
  rw [List.append_nil]
  have sm : Same W1.H (upd (upd W1.H dx (.own b)) b (.ins C dx [])) := Same.trans (same_upd hdx) (same_upd ((upd_ne (Ne.symm ne)).trans hb))
  obtain ⟨stp, gp, no, nf, np⟩ := g1.plus (H := upd (upd W1.H dx (.own b)) b (.ins C dx [])) (a := b) sm hb (by rw [upd_same]; exact fun z => nomatch z)
  refine ⟨x, _, W1.plus _ b, b, dx, vs, rfl, rfl, gp.callOk, .inr rfl, fun z => z.elim nf no, np, upd_same, r.stp stp, ok, fun ds zs W' hd st' ok' hu hH hl rr => ⟨rfl, ?_⟩⟩
  have g2 := gp.call st' ok'
  have np' : ¬ W'.P b := by rw [st'.pur]; exact np
  obtain ⟨st3, g3⟩ := (g2.frame hu np' no).land nf
  exact k (.ref b) ⟨W'.H, fun c => W'.U c ∧ c ≠ b, W'.P⟩ (.obj C ns ds) Γ1 (st.trans (stp.trans ((st'.sub fun _ z => .inl z).trans st3))) g3 ⟨b, dx, zs, rfl, hH, fun z => z.2 rfl, hl, rr.stp st3⟩ (q ds hd)
end
end Dw

/-! all() over a pure comprehension; one sign within a text; comparisons with their answers. -/
namespace Dw
open PySem PySem.Spec PyProof.Rows L2
section
variable {Γ : Gam} {K : PySem.W.Frag} {wi : TI} {g : TG} {tt : TT} {te : TE} {vs : List Nat}
theorem ev_all_lc {α : Type} {xs : List α} {c : α → D} {b : α → Bool} (h : Ei wi Γ (xs.map c)) (hz : xs.length ≤ 1000000)
    (he : ∀ x ∈ xs, ∃ is Γ2, DG g is (c x) (wipeG Γ vs) Γ2 ∧ (∀ i ∈ is, i ∈ vs) ∧ EvT tt Γ2 true ∧ Ev te Γ2 (.bl (b x))) : Ev (tCB (rAll K) (tCons (tLc wi g tt te vs) tNil)) Γ (.bl (xs.all b)) := by
  have e := evn_lc (p := fun _ => true) (f := fun x => D.bl (b x)) h hz fun x hx => by
    obtain ⟨is, Γ2, h1, h2, h3, h4⟩ := he x hx
    exact ⟨is, Γ2, h1, h2, h3, fun _ => h4⟩
  rw [List.filter_eq_self.mpr (fun _ _ => rfl)] at e
  have e2 : xs.map (fun x => D.bl (b x)) = (xs.map b).map D.bl := by rw [List.map_map]; rfl
  rw [e2] at e
  have r := ev_all (K := K) e.b
  rw [List.all_map] at r
  exact r
/-- a pure comprehension without a test -/
theorem evn_lc1 {α : Type} {xs : List α} {c f : α → D} (h : Ei wi Γ (xs.map c)) (hz : xs.length ≤ 1000000)
    (he : ∀ x ∈ xs, ∃ is Γ2, DG g is (c x) (wipeG Γ vs) Γ2 ∧ (∀ i ∈ is, i ∈ vs) ∧ EvT tt Γ2 true ∧ Ev te Γ2 (f x)) : EvN (tLc wi g tt te vs) Γ (xs.map f) := by
  have e := evn_lc (p := fun _ => true) (f := f) h hz fun x hx => by
    obtain ⟨is, Γ2, h1, h2, h3, h4⟩ := he x hx
    exact ⟨is, Γ2, h1, h2, h3, fun _ => h4⟩
  rw [List.filter_eq_self.mpr (fun _ _ => rfl)] at e
  exact e
end
theorem in_code {K : PySem.W.Frag} {l : List Nat} {c : Nat} : DR2 (rOr (rIn K false) rInS) (.str (ch c)) (.str (tx l)) (.bl (decide (c ∈ l))) := by
  have e := in_str' (K := K) (x := ch c) (y := tx l)
  rw [show (Builtin.Str.occurrences (tx l) (ch c) 0 (tx l).length 1).isEmpty = !decide (c ∈ l) from by rw [← Bool.not_not (Builtin.Str.occurrences (tx l) (ch c) 0 (tx l).length 1).isEmpty]; exact congrArg _ (SX.in_one l c), Bool.not_not] at e
  exact e
theorem nin_code {K : PySem.W.Frag} {l : List Nat} {c : Nat} : DR2 (rOr (rIn K true) rNinS) (.str (ch c)) (.str (tx l)) (.bl (!decide (c ∈ l))) := by
  refine dr2_r (dr2_flat fun W u v Q a b k => ⟨ch c, tx l, a, b, ?_⟩)
  rw [show (Builtin.Str.occurrences (tx l) (ch c) 0 (tx l).length 1).isEmpty = !decide (c ∈ l) from by rw [← Bool.not_not (Builtin.Str.occurrences (tx l) (ch c) 0 (tx l).length 1).isEmpty]; exact congrArg _ (SX.in_one l c), Bool.not_not]
  exact k _ rfl
section
variable {K : PySem.W.Frag} {i j : Int} {b : Bool} {x y : Str}
theorem le_b (h : decide (i ≤ j) = b) : DR2 (rI0 fun i j => .bl (decide (i ≤ j))) (.int i) (.int j) (.bl b) := h ▸ dr2_le
theorem ge_b (h : decide (j ≤ i) = b) : DR2 (rI0 fun i j => .bl (decide (j ≤ i))) (.int i) (.int j) (.bl b) := h ▸ dr2_ge
theorem gt_b (h : decide (j < i) = b) : DR2 (rI0 fun i j => .bl (decide (j < i))) (.int i) (.int j) (.bl b) := h ▸ dr2_gt
theorem lt_b (h : decide (i < j) = b) : DR2 (rOr (rI0 fun i j => .bl (decide (i < j))) rLtS) (.int i) (.int j) (.bl b) := h ▸ lt_int'
theorem lt_tx {l m : List Nat} : DR2 (rOr (rI0 fun i j => .bl (decide (i < j))) rLtS) (.str (tx l)) (.str (tx m)) (.bl (decide (l < m))) := by
  have e := lt_str' (x := tx l) (y := tx m)
  rw [tx_cps, tx_cps] at e
  exact e
theorem eq_ib (h : decide (i = j) = b) : DR2 (rEqX K) (.int i) (.int j) (.bl b) := h ▸ eq_int'
theorem eq_sb (h : decide (x = y) = b) : DR2 (rEqX K) (.str x) (.str y) (.bl b) := h ▸ eq_str'
theorem ne_sb (h : (!decide (x = y)) = b) : DR2 (rNeX K) (.str x) (.str y) (.bl b) := h ▸ ne_str'
end
/-- a and b, both true -/
theorem small {n : Nat} (h : n ≤ 100000) : n ≤ sizeLine := Nat.le_trans h (by decide)
end Dw

/-! Methods of lists with K named: within blocks X.K speaks of the block. -/
namespace Dw
open PySem PySem.Spec PyProof.Rows L2
variable {X : Cx} {o e : Expr} {es : List Expr} {to : TE} {t : TA} {name : Str} {apos cpos : Pos} {T id : String} {r : V → List V → Hp → VK → Prop}
theorem bmA (K : PySem.W.Frag) (pa : PlainAttrs T) (slot : Slot T name id) (hty : typeOf (.builtin id) = pure (.type "method_descriptor")) (hm : MtR X id r) (ho : PE X o to) (ha : PA X (e :: es) t) (hK : X.K = K := by rfl)
    (hbase : attributeBase o name X.env (eval o X.env) = eval o X.env := by rfl)
    (hfew : ((backTo cpos (starEach (e :: es) X.env)).all (fun x => !x.1) && (backToKw cpos (keywordEach [] X.env)).all (fun x => x.1.isSome)
      && decide ((e :: es).length + ([] : List Keyword).length + (if ([] : List Keyword).isEmpty then 0 else 1) < 30)) = true := by rfl)
    (hline : (apos.endLine == cpos.line) = true := by rfl) (hs : starEach (e :: es) X.env = (false, eval e X.env) :: starEach es X.env := by rfl) (hplain : (backTo cpos (starEach es X.env)).any (·.1) = false := by rfl) :
    PE X (.Call (.Attribute o name apos) (e :: es) [] cpos) (tBM K T r to t) := hK ▸ pe_bm pa slot hty hm ho ha hbase hfew hline hs hplain
theorem bm0A (K : PySem.W.Frag) (pa : PlainAttrs T) (slot : Slot T name id) (hty : typeOf (.builtin id) = pure (.type "method_descriptor")) (hm : MtR X id r) (ho : PE X o to) (hK : X.K = K := by rfl)
    (hbase : attributeBase o name X.env (eval o X.env) = eval o X.env := by rfl) (hline : (apos.endLine == cpos.line) = true := by rfl) : PE X (.Call (.Attribute o name apos) [] [] cpos) (tBM0 K T r to) := hK ▸ pe_bm0 pa slot hty hm ho hbase hline
end Dw

/-! The script (a list that the head gives), and a purse that is made and at once given on. -/
namespace Dw
open PySem PySem.Spec PyProof.Rows L2
section
variable {Γ : Gam} {K : PySem.W.Frag} {ta tb : TE} {vs : List V} {d : D} {i : Int}
theorem scr_sq {W : Wd} {v : V} (r : Rep W (.scr K vs) v) : ∃ a, v = .ref a ∧ SqL K W.H a vs := by
  obtain ⟨a, e, q⟩ := r
  refine ⟨a, e, ?_⟩
  rcases q with ⟨u, h, n, q⟩ | q
  · rcases q with rfl | ⟨o, rfl⟩
    · exact .inl (.inl h)
    · exact .inl (.inr ⟨o, h⟩)
  · exact .inr q
theorem rep_scr {H : Hp} {a : Addr} (h : SqL K H a vs) : Rep ⟨H, fun _ => False, fun _ => False⟩ (.scr K vs) (.ref a) := by
  refine ⟨a, rfl, ?_⟩
  rcases h with (h | ⟨o, h⟩) | q
  · exact .inl ⟨_, h, fun z => z, .inl rfl⟩
  · exact .inl ⟨_, h, fun z => z, .inr ⟨o, rfl⟩⟩
  · exact .inr q
theorem ev_lenX (h : Ev ta Γ (.scr K vs)) : Ev (tCB (rLen K) (tCons ta tNil)) Γ (.int vs.length) := fun F σ W Q g k => h F σ W _ g fun v H s r => by
  obtain ⟨a, e, q⟩ := scr_sq r
  exact .inl ⟨a, vs, by rw [e], .inl q, k _ H s rfl⟩
theorem ev_ixX {z : Int} (h : Ev ta Γ (.scr K vs)) (hb : Ev tb Γ (.int i)) (hz : atI vs i = some (.int z)) : Ev (tOp (rIx K) ta tb) Γ (.int z) := fun F σ W Q g k => h F σ W _ g fun v H s r => hb F σ (W.at H) _ (g.same s) fun u H' s' r' => by
  obtain ⟨a, e, q⟩ := scr_sq (r.same (W := W.at H) s')
  exact .inl ⟨a, vs, i, .int z, e, r', q, hz, k _ H' (Same.trans s s') rfl⟩
end
end Dw
namespace Dw
open PySem PySem.Spec PyProof.Rows L2
section
variable {Γ : Gam} {K : PySem.W.Frag} {ta tb te : TE} {ns : List Int} {d : D} {i : Int} {s : Spc} {E : XK}
def intD (ns : List Int) : List D := ns.map D.int
def cutI (ns : List Int) (lo hi : Option Int) : List Int := (ns.drop (HT.sIx ns.length 0 lo)).take (HT.sIx ns.length ns.length hi - HT.sIx ns.length 0 lo)
theorem evn_sliceX {tl th : TO} {lo hi : Option Int} (h : Ev te Γ (.scr K (ns.map V.int))) (h1 : Eo tl Γ lo) (h2 : Eo th Γ hi) : EvN (tSl (rSl K) te tl th) Γ (intD (cutI ns lo hi)) := fun F σ W Q g k => h F σ W _ g fun v H s r => h1 F σ (W.at H) _ (g.same s) fun H1 s1 => h2 F σ ((W.at H).at H1) _ ((g.same s).same s1) fun H2 s2 => by
  have sm : Same H H2 := Same.trans s1 s2
  obtain ⟨a, e, q⟩ := scr_sq (r.same (W := W.at H) sm)
  refine .inl ⟨a, _, e, q, fun p hp => k p _ _ (Same.trans s (Same.trans sm (same_upd hp))) (s.free (sm.free hp)) upd_same (RepL.ints.mpr ?_)⟩
  unfold cutI L2.cutV
  simp [List.map_take, List.map_drop]
theorem ev_int1 (h : Ev ta Γ (.int i)) : Ev (tCB (fun xs H Q => (∃ i, xs = [.int i] ∧ Q (.int i) H) ∨ ∃ k, xs = [.bl k] ∧ Q (.int (if k then 1 else 0)) H) (tCons ta tNil)) Γ (.int i) :=
  ev_cb (eva_cons h eva_nil) fun W us Q dom r k => by
    obtain ⟨v, _, rfl, rv, rfl⟩ := r
    exact .inl ⟨i, by rw [show v = V.int i from rv], k _ _ (Same.refl _) rfl⟩
theorem ev_abs (h : Ev ta Γ (.int i)) : Ev (tCB (fun xs H Q => ∃ i, xs = [.int i] ∧ Q (.int (if i < 0 then -i else i)) H) (tCons ta tNil)) Γ (.int (if i < 0 then -i else i)) :=
  ev_cb (eva_cons h eva_nil) fun W us Q dom r k => by
    obtain ⟨v, _, rfl, rv, rfl⟩ := r
    exact ⟨i, by rw [show v = V.int i from rv], k _ _ (Same.refl _) rfl⟩
theorem ev_max2 {j : Int} (h : Ev ta Γ (.int i)) (h' : Ev tb Γ (.int j)) : Ev (tCB (fun xs H Q => ∃ i j, xs = [.int i, .int j] ∧ Q (.int (if j > i then j else i)) H) (tCons ta (tCons tb tNil))) Γ (.int (if j > i then j else i)) :=
  ev_cb (eva_cons h (eva_cons h' eva_nil)) fun W us Q dom r k => by
    obtain ⟨v, _, rfl, rv, v', _, rfl, rv', rfl⟩ := r
    exact ⟨i, j, by rw [show v = V.int i from rv, show v' = V.int j from rv'], k _ _ (Same.refl _) rfl⟩
theorem ev_min2 {j : Int} (h : Ev ta Γ (.int i)) (h' : Ev tb Γ (.int j)) : Ev (tCB (fun xs H Q => ∃ i j, xs = [.int i, .int j] ∧ Q (.int (if j < i then j else i)) H) (tCons ta (tCons tb tNil))) Γ (.int (if j < i then j else i)) :=
  ev_cb (eva_cons h (eva_cons h' eva_nil)) fun W us Q dom r k => by
    obtain ⟨v, _, rfl, rv, v', _, rfl, rv', rfl⟩ := r
    exact ⟨i, j, by rw [show v = V.int i from rv, show v' = V.int j from rv'], k _ _ (Same.refl _) rfl⟩
/-- a def that makes a purse from the script -/
def toPurse (K : PySem.W.Frag) : Sp := fun vs H Q _ => ∃ (F : Addr → Prop) (W : Wd) (ns : List Int) (spot : Nat), W.H = H ∧ WOk F W ∧ RepL W [.scr K (ns.map V.int), .int spot] vs ∧ ns.length ≤ 63 ∧ spot ≤ 1000 ∧ (∀ z ∈ ns, Builtin.Int.intBits z ≤ 1048576) ∧
  ∀ (a : Addr) (x y c : Int) (W' : Wd) (H' : Hp), Stp F W W' → WOk F W' → Same W'.H H' → W'.H a = none → H' a = some (.lst [.int x, .int y, .int c]) → 0 ≤ x → 0 ≤ y → y < 2147483647 → Q (.ref a) H'
/-- one statement, where its ends are known -/
theorem ds_run {t : TS} {F : Addr → Prop} {σ : L2.St} {W : Wd} {Dr : Ends} {Γ' : Gam → Prop} (h : Ds t Γ ⟨Γ', fun _ => False, fun _ => False, fun _ => False⟩) (g : SR F Γ σ W) (k : ∀ σ' W' Γ2, Stp F W W' → SR F Γ2 σ' W' → Γ' Γ2 → Dr.nx σ' W'.H) : t Dr σ W.H :=
  h F σ W Dr g ⟨k, fun _ _ _ _ _ _ h => h.elim, fun _ _ _ _ _ h => h.elim, fun _ _ _ _ _ h => h.elim⟩
/-- right(purse(script, spot)) -/
theorem dl_purse {E2 : XK} {Q : D → Gam → Prop} {x : s.ty} {spot : Nat} (ha : s.args x = [.purse]) (ok : s.ok x) (hr : ∀ d, s.rel x d → d = .bl true) (h1 : Ev ta Γ (.scr K (ns.map V.int))) (h2 : Ev tb Γ (.int spot)) (hz : ns.length ≤ 63) (hs : spot ≤ 1000) (hbit : ∀ z ∈ ns, Builtin.Int.intBits z ≤ 1048576) (q : Q (.bl true) Γ) :
    Dl (tCall (toSp s) [] E (tCons (tCall (toPurse K) [] E2 (tCons ta (tCons tb tNil))) tNil)) Γ Q := fun F σ W R g k => by
  show tCons ta (tCons tb tNil) σ W.H (fun vs H1 => toPurse K (vs ++ []) H1 (fun v H2 => toSp s ([v] ++ []) H2 R E) E2)
  refine (eva_cons h1 (eva_cons h2 eva_nil)) F σ W _ g fun vs H s1 r => ?_
  have g1 := g.same s1
  rw [List.append_nil]
  refine ⟨_, W.at H, ns, spot, rfl, g1.callOk, r, hz, hs, hbit, fun a x' y c' W' H' st ok' sm hn ha' h0 h0' h0y => ?_⟩
  have g2 := g1.call st ok'
  have okc := g2.callOk
  have nu : ¬ W'.U a := g2.ok.new hn
  refine ⟨x, _, ⟨H', fun b => W'.U b ∨ b = a, fun b => W'.P b ∨ b = a⟩, rfl, ⟨fun b z => ?_, fun b z => .inl (okc.fu b z), fun b z => ?_⟩, ?_, ok, fun d v W2 hd st2 ok2 r2 => ?_⟩
  · rcases z with z | rfl
    · exact fun e => okc.dom b z (sm.free e)
    · show H' b ≠ none
      rw [ha']; exact fun e => nomatch e
  · rcases z with z | rfl
    · obtain ⟨u, f, p1, p2, e1, e2, e3, e4⟩ := okc.pu b z
      exact ⟨.inl u, f, p1, p2, e1, e2, e3, sm _ _ e4⟩
    · exact ⟨.inr rfl, fun z => nu (okc.fu b z), (x', c'), y, h0, h0', h0y, ha'⟩
  · rw [ha]
    exact RepL.one ⟨a, rfl, .inr rfl⟩
  · have hd' := hr d hd
    subst hd'
    have stc : Stp (fun b => F b ∨ ownA Γ σ b) W' ⟨W2.H, W2.U, W'.P⟩ := ⟨fun b u e n => by
        have nb : b ≠ a := fun z => by rw [z, hn] at e; cases e
        obtain ⟨e2, n2⟩ := st2.keep b u (sm _ _ e) fun z => z.elim n nb
        exact ⟨e2, n2⟩, rfl, fun b z => by
        refine (st2.fr b z).trans ?_
        show H' b = W'.H b
        cases q : W'.H b with
        | none => exact absurd q (okc.dom b (okc.fu b z))
        | some u => exact sm _ _ q⟩
    have okc2 : WOk (fun b => F b ∨ ownA Γ σ b) ⟨W2.H, W2.U, W'.P⟩ := ⟨ok2.dom, ok2.fu, fun b z => by
      have := ok2.pu b (by rw [st2.pur]; exact .inl z)
      exact this⟩
    have st0 : Stp F W ⟨W2.H, W2.U, W'.P⟩ := (Stp.of_same g.ok s1).trans (((st.trans stc)).sub fun _ z => .inl z)
    exact k v ⟨W2.H, W2.U, W'.P⟩ (.bl true) Γ st0 (g2.call stc okc2) r2 q
end
end Dw

/-! sorted(a tuple of ints), xs[::k]. -/
namespace Dw
open PySem PySem.Spec PyProof.Rows L2
section
variable {prog : Program} {w : World} {A : Around} {E : Value → Shared → Prop} {s : Shared}
/-- what sorted's own gathering gives of a tuple -/
theorem collect_T {l : Addr} {vs : List Value} {Q : List Value → Shared → Prop} (hl : s.heap.IsTuple l vs.toArray) (hz : vs.length ≤ sizeLine) (h : Q vs { s with heap := (s.heap.push (seqObj "list" #[] 0)).update s.heap.objs.size (Obj.mapSeq (· ++ vs.toArray)) }) : wpAny (model prog w) A (collect (.ref l)) Q E s := by
  obtain ⟨o, ho, hc, n, hd⟩ := id hl; unfold collect
  refine wpAny_bind (wpAny_runValue (codeAny_builtin entry_proto_collect' ?_))
  show wpAny _ _ (do again (.builtin "list.__iadd__" ⟨[← newList [], .ref l], []⟩)) _ _ s; refine wpAny_bind (wpAny_newList (wpAny_pure ⟨Code.quiet_builtin _ (by decide +kernel), codeAny_builtin entry_list_iadd' ?_⟩)); show wpAny _ _ (Builtin.List.listExtendWith (.ref s.heap.objs.size) (.ref l) (.ref s.heap.objs.size)) _ _ { s with heap := s.heap.push (seqObj "list" #[] 0) }; unfold Builtin.List.listExtendWith
  have ho' : (s.heap.push (seqObj "list" #[] 0)).get? l = some o := Heap.get?_push_of_some _ ho
  refine wpAny_bind (wpAny_typeOf (T := "tuple") ⟨o, ho', hc⟩ ?_)
  have ht : (Value.type "tuple" == Value.type "tuple") = true := by rfl
  rw [if_pos (by rw [ht]; simp)]
  refine wpAny_bind (listItems_at ho' hd ?_); refine wpAny_bind (listItems_at (xs := #[]) (n := 0) (Heap.get?_push_size _ rfl) rfl ?_)
  rw [if_neg (by simp)]
  refine wpAny_bind (listUpdate_at (xs := #[]) (n := 0) (Heap.get?_push_size _ rfl) rfl ?_ (Nat.zero_le _) (by show (#[] ++ vs.toArray).size ≤ sizeLine + 1; simp only [Array.size_append, List.size_toArray, List.length_nil]; omega)); refine wpAny_pure ?_
  show wpAny (model prog w) A (do
      let o ← load s.heap.objs.size
      match o.data with
      | .seq xs _ => pure xs.toList
      | _ => unsupported "internal:collect") Q E { s with heap := (s.heap.push (seqObj "list" #[] 0)).update s.heap.objs.size (Obj.mapSeq (· ++ vs.toArray)) }
  refine wpAny_bind (wpAny_load (get?_update_seq (Heap.get?_push_size _ rfl) _) ?_); show wpAny _ _ (pure ((#[] : Array Value) ++ vs.toArray).toList) Q E _
  rw [show ((#[] : Array Value) ++ vs.toArray).toList = vs by simp]; exact wpAny_pure h
theorem sorted_T {l : Addr} {vs : List Value} {ns : List Int} {Q : Value → Shared → Prop} (hl : s.heap.IsTuple l vs.toArray) (hI : IntsAre vs ns) (h64 : vs.length < 64) (h : ∀ (out : Array Value) (ns' : List Int), IntsAre out.toList ns' → ns'.Perm ns → ns'.Pairwise (· ≤ ·) → Q (.ref (s.heap.objs.size + 1)) { s with heap := sortedAll s.heap vs out }) : wpAny (model prog w) A (call (.builtin "sorted") [.ref l]) Q E s := by
  refine Calls.call_function_entry kind_sorted plain_sorted entry_sorted (args_sorted1 _) ?_; unfold Builtin.«sorted»
  refine wpAny_bind (m := checkCount "sorted" 1 1 _) (wpAny_pure ?_); refine wpAny_bind (collect_T hl (small64 h64) ?_); refine wpAny_bind (wpAny_newList ?_)
  have hsz : ((s.heap.push (seqObj "list" #[] 0)).update s.heap.objs.size (Obj.mapSeq (· ++ vs.toArray))).objs.size = s.heap.objs.size + 1 := by rw [Heap.size_update, size_push']
  have hoL : (((s.heap.push (seqObj "list" #[] 0)).update s.heap.objs.size (Obj.mapSeq (· ++ vs.toArray))).push (seqObj "list" vs.toArray 0)).get? (s.heap.objs.size + 1) = some (seqObj "list" vs.toArray 0) := by rw [← hsz]; exact Heap.get?_push_size _ rfl
  show wpAny _ _ _ _ _ { s with heap := ((s.heap.push (seqObj "list" #[] 0)).update s.heap.objs.size (Obj.mapSeq (· ++ vs.toArray))).push (seqObj "list" vs.toArray 0) }; rw [hsz]
  refine wpAny_bind (wpAny_holding (wpAny_call_entry slot_list_sort ⟨_, hoL, rfl⟩ entry_list_sort (list_sort_tree hoL hI h64 fun out ns' a1 a2 a3 => ⟨_, rfl, ?_⟩) (args_list_sort _))); exact wpAny_pure ⟨_, rfl, h out ns' a1 a2 a3⟩
end
/-- sorted(t), t a tuple of ints -/
def rSortT (K : PySem.W.Frag) : List V → Hp → VK → Prop := fun vs H Q => ∃ (a : Addr) (ns : List Int), vs = [V.ref a] ∧ SqT K H a (ns.map V.int) ∧ ns.length < 64 ∧
  ∀ (ns' : List Int) (p : Addr), ns'.Perm ns → ns'.Pairwise (· ≤ ·) → H p = none → Q (.ref p) (upd H p (.lst (ns'.map V.int)))
theorem cr_sortT {X : Cx} : CallR X (.builtin "sorted") (rSortT X.K) := by
  intro pins s σ H vs us Q I r h
  obtain ⟨a, ns, rfl, hs, h64, q⟩ := h
  obtain ⟨its, rv, hl, _⟩ := I.tuple hs
  rw [Vals.ref1 r]
  have hi := rv.ints
  refine sorted_T hl hi (by rw [hi.length]; exact h64) fun out ns' h1 h2 h3 => ?_
  obtain ⟨ep, he'⟩ := PyProof.Rows.sortedAll_at s.heap its out
  have hlen : (ns'.map V.int).length ≤ sizeLine := by rw [List.length_map, h2.length_eq]; exact small64 h64
  exact ⟨.ref _, upd H (s.heap.objs.size + 1) (.lst (ns'.map V.int)), I.laid (t' := s.toks) (fun _ _ => PyProof.Rows.sortedAll_old) (Nat.le_succ _) ⟨hlen, out.toList, ep, vals_of_ints h1, he'⟩, rfl, q ns' _ h2 h3 (I.hok.fresh (Nat.le_succ _))⟩
theorem sortTA {X : Cx} (K : PySem.W.Frag) (hK : X.K = K := by rfl) : CallR X (.builtin "sorted") (rSortT K) := hK ▸ cr_sortT

/-! ### xs[::k] -/
theorem pick_1 (items : Array Value) : slicePick items none none (some 1) = items := by
  have e : slicePick items none none (some 1) = slicePick items none none none := rfl
  rw [e, slicePick_all]
theorem fm_all {α β : Type} {f : α → Option β} {g : α → β} : ∀ {l : List α}, (∀ x ∈ l, f x = some (g x)) → l.filterMap f = l.map g
  | [], _ => rfl
  | a :: l, h => by rw [List.filterMap_cons, h a List.mem_cons_self, List.map_cons, fm_all fun x hx => h x (List.mem_cons_of_mem _ hx)]
theorem pick_m1 (items : Array Value) : slicePick items none none (some (-1)) = items.toList.reverse.toArray := by
  have e : sliceBounds none none (some (-1)) items.size = ((items.size : Int) - 1, -1, -1) := by simp [sliceBounds]
  unfold slicePick
  rw [e]
  congr 1
  have e2 : sliceRange ((items.size : Int) - 1) (-1) (-1) = (List.range items.size).map fun k => items.size - 1 - k := by
    unfold sliceRange
    rw [if_neg (by decide)]
    dsimp only
    have : ((if (items.size : Int) - 1 > -1 then ((items.size : Int) - 1 - -1 - -1 - 1) / (- -1) else 0 : Int)).toNat = items.size := by
      by_cases h : (items.size : Int) - 1 > -1
      · rw [if_pos h]
        have : ((items.size : Int) - 1 - -1 - -1 - 1) / (- -1) = items.size := by
          rw [show (- -1 : Int) = 1 by decide, Int.ediv_one]; omega
        rw [this]; simp
      · rw [if_neg h]; omega
    rw [this]
    apply List.map_congr_left
    intro k hk
    have := List.mem_range.mp hk
    omega
  rw [e2]
  apply List.ext_getElem?
  intro i
  have e3 : ((List.range items.size).map fun k => items.size - 1 - k).filterMap (items[·]?) = (List.range items.size).filterMap fun k => items[items.size - 1 - k]? := by
    rw [List.filterMap_map]; rfl
  simp only [e3]
  have e4 : (List.range items.size).filterMap (fun k => items[items.size - 1 - k]?) = (List.range items.size).map fun k => (items.toList.reverse)[k]?.getD default := by
    refine fm_all fun k hk => ?_
    have hk := List.mem_range.mp hk
    rw [List.getElem?_reverse (by simpa using hk)]
    have h1 : items.size - 1 - k < items.size := by omega
    rw [Array.getElem?_eq_getElem h1]
    simp only [Function.comp, Array.length_toList]
    rw [List.getElem?_eq_getElem (by simpa using h1)]
    simp
  rw [e4, List.getElem?_map]
  by_cases hi : i < items.size
  · rw [List.getElem?_range hi, Option.map_some, List.getElem?_eq_getElem (by simpa using hi)]; rfl
  · rw [List.getElem?_eq_none (by simpa using hi), List.getElem?_eq_none (by simpa using hi)]; rfl
def tSl3 (K : PySem.W.Frag) (ta tk : TE) : TE := fun σ H Q => ta σ H fun x H1 => tk σ H1 fun y H2 => ∃ a xs k, x = .ref a ∧ y = .int k ∧ SqL K H2 a xs ∧ ((k = 1 ∧ ∀ p, H2 p = none → Q (.ref p) (upd H2 p (.lst xs))) ∨ (k = -1 ∧ ∀ p, H2 p = none → Q (.ref p) (upd H2 p (.lst xs.reverse))))
theorem Vals_reverse {xs : List V} {us : List Value} (r : Vals xs us) : Vals xs.reverse us.reverse := by
  induction r with
  | nil => exact .nil
  | cons h r ih => rw [List.reverse_cons, List.reverse_cons]; exact ih.append (.cons h .nil)
theorem sl3_len {its us : List Value} {n : Nat} (h : its.length = n) (h' : us.length = its.length) : us.length = n := h'.trans h
theorem pe_slice3 {X : Cx} {e e3 : Expr} {ta tk : TE} {p2 pos : Pos} (he : PE X e ta) (hk : PE X e3 tk) : PE X (.Subscript e (.Slice none none (some e3) p2) pos) (tSl3 X.K ta tk) := by
  refine ⟨fun pins s σ H Q I h => ?_⟩
  refine Subscript_ (thn (he.run pins s σ H _ I h) fun v s1 ⟨x, H1, I1, r1, q1⟩ => ?_)
  refine wpAny_Slice ?_
  rw [evalPart_none]
  refine wpAny_pure (wpAny_pure ?_)
  refine thn (hk.run pins s1 σ H1 _ I1 q1) fun vk s3 ⟨y, H3, I3, rk, q3⟩ => ?_
  obtain ⟨a, xs, k, rfl, rfl, hx, q⟩ := q3
  obtain ⟨tk', rfl⟩ := rk
  cases r1
  have I4 : Inv X pins σ H3 { s3 with heap := s3.heap.push { cls := .type "slice", data := .fields #[.none, .none, .int k tk'] } } := I3.kept (t' := s3.toks) fun b ob q => Heap.get?_push_of_some _ q
  generalize hs4 : ({ s3 with heap := s3.heap.push { cls := .type "slice", data := .fields #[.none, .none, .int k tk'] } } : Shared) = s4 at I4 ⊢
  have hsl : s4.heap.IsSliceOf s3.heap.objs.size .none .none (.int k tk') := by rw [← hs4]; exact Heap.IsSliceOf.new ..
  obtain ⟨its, r, ht, hz⟩ := I4.list hx
  have hlen := r.length
  show wpAny (model X.prog X.w) X.A (subscriptTail e (.Slice none none (some e3) p2) (.ref a) (.ref s3.heap.objs.size)) (EP X pins σ Q) X.xe s4
  refine tail_any (ops := [.ref a, .ref s3.heap.objs.size]) ht.isList.typeIs slot_list_getitem.lookup ?_ (by with_unfolding_all rfl)
  refine wpAny_getItem_list_slice ht.isList hsl .none .none (.int k tk') (fun z => ?_) ?_ (by rw [List.size_toArray] <;> omega)
  · rcases q with ⟨rfl, _⟩ | ⟨rfl, _⟩ <;> cases z
  rcases q with ⟨rfl, q⟩ | ⟨rfl, q⟩
  · rw [pick_1]
    refine ⟨.ref s4.heap.objs.size, _, I4.laid (t' := s4.toks) (o := .lst xs) (fun b ob q => Heap.get?_push_of_some _ q) (Nat.le_refl _) ?_, rfl, q _ (I4.hok.fresh (Nat.le_refl _))⟩
    exact ⟨hz, its, 0, r, Heap.get?_push_size _ rfl⟩
  · rw [pick_m1, List.toList_toArray]
    refine ⟨.ref s4.heap.objs.size, _, I4.laid (t' := s4.toks) (o := .lst xs.reverse) (fun b ob q => Heap.get?_push_of_some _ q) (Nat.le_refl _) ?_, rfl, q _ (I4.hok.fresh (Nat.le_refl _))⟩
    exact ⟨by rw [List.length_reverse]; exact hz, its.reverse, 0, Vals_reverse r, Heap.get?_push_size _ rfl⟩
theorem slice3A {X : Cx} {e e3 : Expr} {ta tk : TE} {p2 pos : Pos} (K : PySem.W.Frag) (he : PE X e ta) (hk : PE X e3 tk) (hK : X.K = K := by rfl) : PE X (.Subscript e (.Slice none none (some e3) p2) pos) (tSl3 K ta tk) := hK ▸ pe_slice3 he hk
/-! ### text * int -/
def rMulS : R2 := fun x y H Q => ∃ i j, x = .str i ∧ y = .int j ∧ MulOk i j ∧ Q (.str (Txt.mul i j)) H
theorem op_mulS {X : Cx} : OpR X (binaryOp .Mult) rMulS := by
  intro pins s σ H x y v u Q I rx ry h
  obtain ⟨i, j, rfl, rfl, hz, q⟩ := h
  obtain ⟨t, rfl⟩ := rx
  obtain ⟨t', rfl⟩ := ry
  exact SB.mul hz fun t' tk => ⟨.str (Txt.mul i j), H, I.tok _, ⟨_, rfl⟩, q⟩
end Dw

/-! while, xs[::k], sorted of a tuple, equality of nested data. -/
namespace Dw
open PySem PySem.Spec PyProof.Rows L2
section
variable {K : PySem.W.Frag} {Γ : Gam} {ta tb te tk : TE} {De : DE} {ds es : List D} {d : D}
theorem ds_while {c : TT} {tb : TS} (J : Nat → Gam → Prop) (m0 : Nat) (h0 : J m0 Γ)
    (hs : ∀ m Γ', J m Γ' → DlT c Γ' fun b Γ1 => (b = true → Ds tb Γ1 ⟨fun Γ2 => ∃ m', m' < m ∧ J m' Γ2, De.rt, De.nx, fun Γ2 => ∃ m', m' < m ∧ J m' Γ2⟩) ∧ (b = false → De.nx Γ1)) : Ds (tWhile c tb) Γ De := fun F σ W Dr g l => by
  refine ⟨fun m σ' H' => ∃ W' Γ', W'.H = H' ∧ Stp F W W' ∧ SR F Γ' σ' W' ∧ J m Γ', ⟨m0, W, Γ, rfl, .refl _, g, h0⟩, ?_⟩
  rintro m σ' H' ⟨W', Γ', rfl, s', g', j⟩
  refine hs m Γ' j F σ' W' _ g' fun b W1 Γ1 s1 g1 q => ?_
  cases b with
  | false => rw [if_neg (by decide)]; exact l.nx σ' W1 Γ1 (s'.trans s1) g1 (q.2 rfl)
  | true =>
    rw [if_pos rfl]
    refine ⟨fun σ2 H2 => ∃ m', m' < m ∧ ∃ W2 Γ2, W2.H = H2 ∧ Stp F W W2 ∧ SR F Γ2 σ2 W2 ∧ J m' Γ2, fun σ2 H2 q => q, ?_⟩
    have s2 := s'.trans s1
    exact q.1 rfl F σ' W1 _ g1 ⟨fun σ4 W4 Γ4 s4 g4 ⟨m', hm, q⟩ => ⟨m', hm, W4, Γ4, rfl, s2.trans s4, g4, q⟩, fun v W4 d s4 ok4 r4 q => l.rt v W4 d (s2.trans s4) ok4 r4 q, fun σ4 W4 Γ4 s4 g4 q => l.nx σ4 W4 Γ4 (s2.trans s4) g4 q, fun σ4 W4 Γ4 s4 g4 ⟨m', hm, q⟩ => ⟨m', hm, W4, Γ4, rfl, s2.trans s4, g4, q⟩⟩
theorem repL_rev {W : Wd} : ∀ {ds : List D} {vs : List V}, RepL W ds vs → RepL W ds.reverse vs.reverse
  | [], vs, l => by rw [show vs = [] from l]; rfl
  | d :: ds, _, ⟨v, vs, rfl, h, l⟩ => by
    rw [List.reverse_cons, List.reverse_cons]
    exact (repL_rev l).append (RepL.one h)
theorem evn_slice3 {k : Int} (h : EvB ta Γ ds) (hk : Ev tk Γ (.int k)) (h1 : k = 1 ∨ k = -1) : EvN (tSl3 K ta tk) Γ (if k = 1 then ds else ds.reverse) := fun F σ W Q g q =>
  h F σ W _ g fun a vs H s e l => hk F σ (W.at H) _ (g.same s) fun u H2 s2 r => ⟨a, vs, k, rfl, r, .of (s2 _ _ e), by
    rcases h1 with rfl | rfl
    · exact .inl ⟨rfl, fun p hp => q p vs _ (Same.trans s (Same.trans s2 (same_upd hp))) (s.free (s2.free hp)) upd_same (by
        rw [if_pos rfl]
        exact RepL.plus (W := W.at H2) hp (same_upd hp) (RepL.same (W := W.at H) s2 l))⟩
    · exact .inr ⟨rfl, fun p hp => q p vs.reverse _ (Same.trans s (Same.trans s2 (same_upd hp))) (s.free (s2.free hp)) upd_same (by
        rw [if_neg (by decide)]
        exact RepL.plus (W := W.at H2) hp (same_upd hp) (repL_rev (RepL.same (W := W.at H) s2 l)))⟩⟩
theorem evn_sortT {ns ms : List Int} (h : Ev ta Γ (.tup (ns.map D.int))) (h64 : ns.length < 64) (hu : ∀ ns' : List Int, ns'.Perm ns → ns'.Pairwise (· ≤ ·) → ns' = ms) : EvN (tCB (rSortT K) (tCons ta tNil)) Γ (ms.map D.int) := fun F σ W Q g k =>
  h F σ W _ g fun v H s ⟨a, vs, ev, e, nu, l⟩ => by
    subst ev
    refine ⟨a, ns, rfl, (RepL.ints.mp l ▸ e.sq), h64, fun ns' p hp hs hn => ?_⟩
    have := hu ns' hp hs
    subst this
    exact k p _ _ (Same.trans s (same_upd hn)) (s.free hn) upd_same (RepL.ints.mpr rfl)
end
/-! ### nested data: what may be compared -/
mutual
def dOk : Nat → D → Bool
  | _, .non => true | _, .bl _ => true | _, .int _ => true | _, .str x => PyData.strOk x
  | 0, _ => false
  | k + 1, .tup ds => dOks k ds | k + 1, .lst ds => dOks k ds | k + 1, .tupN ds => dOks k ds
  | _ + 1, .obj _ _ _ => false | _ + 1, .raw _ => false | _ + 1, .purse => false | _ + 1, .rng _ _ => false | _ + 1, .dct _ _ => false | _ + 1, .scr _ _ => false
def dOks : Nat → List D → Bool
  | _, [] => true
  | k, d :: ds => dOk k d && dOks k ds
end
mutual
theorem dOk_py : ∀ (k : Nat) (d : D), dOk k d = true → isPy d = true ∧ PyData.canLay0 (py d) = true ∧ PyData.depth (py d) ≤ k
  | k, .non, _ => ⟨rfl, rfl, Nat.zero_le _⟩
  | k, .bl _, _ => ⟨rfl, rfl, Nat.zero_le _⟩
  | k, .int _, _ => ⟨rfl, rfl, Nat.zero_le _⟩
  | k, .str x, h => ⟨rfl, by cases k <;> exact h, Nat.zero_le _⟩
  | k + 1, .tup ds, h => by
    obtain ⟨h1, h2, h3⟩ := dOks_py k ds h
    exact ⟨h1, h2, Nat.succ_le_succ h3⟩
  | k + 1, .lst ds, h => by
    obtain ⟨h1, h2, h3⟩ := dOks_py k ds h
    exact ⟨h1, h2, Nat.succ_le_succ h3⟩
  | k + 1, .tupN ds, h => by
    obtain ⟨h1, h2, h3⟩ := dOks_py k ds h
    exact ⟨h1, h2, Nat.succ_le_succ h3⟩
  | 0, .tupN _, h => nomatch h
  | 0, .tup _, h => nomatch h
  | 0, .lst _, h => nomatch h
  | 0, .obj _ _ _, h => nomatch h
  | 0, .raw _, h => nomatch h
  | 0, .purse, h => nomatch h
  | 0, .rng _ _, h => nomatch h
  | 0, .dct _ _, h => nomatch h
  | 0, .scr _ _, h => nomatch h
  | _ + 1, .obj _ _ _, h => nomatch h
  | _ + 1, .raw _, h => nomatch h
  | _ + 1, .purse, h => nomatch h
  | _ + 1, .rng _ _, h => nomatch h
  | _ + 1, .dct _ _, h => nomatch h
  | _ + 1, .scr _ _, h => nomatch h
theorem dOks_py : ∀ (k : Nat) (ds : List D), dOks k ds = true → isPys ds = true ∧ PyData.canLayAll0 (pys ds) = true ∧ PyData.depthAll (pys ds) ≤ k
  | k, [], _ => ⟨rfl, rfl, Nat.zero_le _⟩
  | k, d :: ds, h => by
    have h : (dOk k d && dOks k ds) = true := by cases k <;> exact h
    rw [Bool.and_eq_true] at h
    obtain ⟨a1, a2, a3⟩ := dOk_py k d h.1
    obtain ⟨b1, b2, b3⟩ := dOks_py k ds h.2
    exact ⟨by show (isPy d && isPys ds) = true; rw [a1, b1]; rfl, by show (PyData.canLay0 (py d) && PyData.canLayAll0 (pys ds)) = true; rw [a2, b2]; rfl, Nat.max_le.mpr ⟨a3, b3⟩⟩
end
theorem dOk_shaped {k : Nat} {d : D} (h : dOk k d = true) (hk : k ≤ 64) : isPy d = true ∧ SeqAt.shaped (py d) = true := by
  obtain ⟨h1, h2, h3⟩ := dOk_py k d h
  refine ⟨h1, ?_⟩
  show (PyData.canLay0 (py d) && decide (PyData.depth (py d) ≤ 64)) = true
  rw [h2, decide_eq_true (Nat.le_trans h3 hk)]; rfl
theorem dOks_map {α : Type} {k : Nat} {f : α → D} : ∀ {l : List α}, (∀ x ∈ l, dOk k (f x) = true) → dOks k (l.map f) = true
  | [], _ => by cases k <;> rfl
  | x :: l, h => by
    have e : dOks k ((x :: l).map f) = (dOk k (f x) && dOks k (l.map f)) := by cases k <;> rfl
    rw [e, h x List.mem_cons_self, dOks_map fun y hy => h y (List.mem_cons_of_mem _ hy)]; rfl
section
variable {K : PySem.W.Frag} {d : D} {ds es : List D} {k : Nat}
theorem eq_self (h : dOk k d = true) (hk : k ≤ 64) : DR2 (rEqX K) d d (.bl true) := by
  obtain ⟨h1, h2⟩ := dOk_shaped h hk
  have := eq_deep (K := K) h1 h1 h2 h2
  rw [SeqAt.eqv_refl _ (dOk_py k d h).2.1] at this
  exact this
theorem ne_self (h : dOk k d = true) (hk : k ≤ 64) : DR2 (rNeX K) d d (.bl false) := by
  obtain ⟨h1, h2⟩ := dOk_shaped h hk
  have := ne_deep (K := K) h1 h1 h2 h2
  rw [SeqAt.eqv_refl _ (dOk_py k d h).2.1] at this
  exact this
theorem eqv_nil : ∀ ds : List D, PyData.eqvAll (pys ds) (pys []) = ds.isEmpty
  | [] => rfl
  | _ :: _ => rfl
theorem eq_nil (h : dOk k (.lst ds) = true) (hk : k ≤ 64) : DR2 (rEqX K) (.lst ds) (.lst []) (.bl ds.isEmpty) := by
  obtain ⟨h1, h2⟩ := dOk_shaped h hk
  have := eq_deep (K := K) (q := .lst []) h1 rfl h2 rfl
  rw [show PyData.eqv (py (.lst ds)) (py (.lst [])) = PyData.eqvAll (pys ds) (pys []) from rfl, eqv_nil] at this
  exact this
theorem ne_nil (h : dOk k (.lst ds) = true) (hk : k ≤ 64) : DR2 (rNeX K) (.lst ds) (.lst []) (.bl (!ds.isEmpty)) := by
  obtain ⟨h1, h2⟩ := dOk_shaped h hk
  have := ne_deep (K := K) (q := .lst []) h1 rfl h2 rfl
  rw [show PyData.eqv (py (.lst ds)) (py (.lst [])) = PyData.eqvAll (pys ds) (pys []) from rfl, eqv_nil] at this
  exact this
theorem ne_nilT (h : dOk k (.tup ds) = true) (hk : k ≤ 64) : DR2 (rNeX K) (.tup ds) (.tup []) (.bl (!ds.isEmpty)) := by
  obtain ⟨h1, h2⟩ := dOk_shaped h hk
  have := ne_deep (K := K) (q := .tup []) h1 rfl h2 rfl
  rw [show PyData.eqv (py (.tup ds)) (py (.tup [])) = PyData.eqvAll (pys ds) (pys []) from rfl, eqv_nil] at this
  exact this
theorem ne_bl (a b : Bool) : DR2 (rNeX K) (.bl a) (.bl b) (.bl (a != b)) := by
  have := ne_deep (K := K) (p := .bl a) (q := .bl b) rfl rfl rfl rfl
  rw [show PyData.eqv (py (.bl a)) (py (.bl b)) = (a == b) from rfl] at this
  exact this
end
section
variable {K : PySem.W.Frag} {Γ : Gam} {ta tb : TE}
theorem mul_ok {n : Nat} (h : n ≤ 8) : MulOk (Str.ofString ".") (n : Int) ∧ Txt.mul (Str.ofString ".") (n : Int) = tx (List.replicate n 46) := by
  have hn : n = 0 ∨ n = 1 ∨ n = 2 ∨ n = 3 ∨ n = 4 ∨ n = 5 ∨ n = 6 ∨ n = 7 ∨ n = 8 := by omega
  unfold MulOk
  rcases hn with rfl | rfl | rfl | rfl | rfl | rfl | rfl | rfl | rfl <;> exact ⟨by decide +kernel, by decide +kernel⟩
theorem mul_dots {n : Nat} (h : n ≤ 8) : DR2 rMulS (.str (Str.ofString ".")) (.int n) (.str (tx (List.replicate n 46))) := dr2_flat fun W u v Q a b k => ⟨_, _, a, b, (mul_ok h).1, k _ (by rw [(mul_ok h).2]; rfl)⟩
theorem ev_neg {i : Int} (h : Ev ta Γ (.int i)) : Ev (tUn (rU fun i => .int (-i)) ta) Γ (.int (-i)) := ev_un h fun W u Q dom r k => ⟨i, r, k _ _ (Same.refl _) rfl⟩
/-- whole numbers in a list -/
def ordN (o : List Nat) : List D := o.map fun (k : Nat) => D.int k
theorem inV_ord (c : Nat) : ∀ l : List Nat, inV (.int (c : Int)) ((ordN l).map scV) = decide (c ∈ l)
  | [] => rfl
  | b :: l => by
    show ((decide ((b : Int) = (c : Int))) || inV (.int (c : Int)) ((ordN l).map scV)) = _
    rw [inV_ord c l, Bool.eq_iff_iff]
    simp only [Bool.or_eq_true, decide_eq_true_eq, List.mem_cons, Int.natCast_inj]
    constructor
    · rintro (h | h)
      · exact .inl h.symm
      · exact .inr h
    · rintro (h | h)
      · exact .inl h.symm
      · exact .inr h
theorem sc_ord (l : List Nat) : (ordN l).all isSc = true := by
  unfold ordN
  rw [List.all_map, List.all_eq_true]
  exact fun _ _ => rfl
theorem ev_inO {neg : Bool} {r' : R2} {c : Nat} {l : List Nat} (ha : Ev ta Γ (.int c)) (h : EvB tb Γ (ordN l)) : Ev (tOp (rOr (rIn K neg) r') ta tb) Γ (.bl (if neg then !decide (c ∈ l) else decide (c ∈ l))) := by
  have e := ev_in (neg := neg) (K := K) (r' := r') ha h rfl (sc_ord l)
  rw [show scV (.int (c : Int)) = V.int (c : Int) from rfl, inV_ord c l] at e
  exact e
end
end Dw

/-! sorted(set(t)), t a tuple of ints. -/
namespace Dw
open PySem PySem.Spec PyProof.Rows L2
def rSetT (K : PySem.W.Frag) (w : World) : List V → Hp → VK → Prop := fun vs H Q => ∃ (a : Addr) (ns : List Int), vs = [V.ref a] ∧ SqT K H a (ns.map V.int) ∧ ns.length < 64 ∧
  ∀ (p : Addr) (c : Nat), H p = none → c ≤ ns.length → Q (.ref p) (upd H p (SetO w p (fun j => decide (j ∈ ns)) c))
theorem cr_setT {X : Cx} (hc : X.calm = true) : CallR X (.type "set") (rSetT X.K X.w) := by
  intro pins s σ H vs us Q I r h
  obtain ⟨a, ns, rfl, hs, h64, q⟩ := h
  obtain ⟨its, rv, pt, _⟩ := I.tuple hs
  rw [Vals.ref1 r]
  have hi : IntsAre its.toArray.toList ns := ints_of_vals rv
  refine call_set_tupI ns (I.ok.hd hc) (show s.heap.IsTuple a its.toArray from pt) hi (by unfold scanBound; omega) fun h' tk c R1 hcn k => ?_
  exact ⟨.ref _, upd H s.heap.objs.size (SetO X.w s.heap.objs.size (fun j => decide (j ∈ ns)) c), I.laid (t' := tk) k (Nat.le_refl _) (setO_new R1), rfl, q _ c (I.hok.fresh (Nat.le_refl _)) hcn⟩
theorem setTA {X : Cx} (K : PySem.W.Frag) (w : World) (hc : X.calm = true := by rfl) (hK : X.K = K := by rfl) (hw : X.w = w := by rfl) : CallR X (.type "set") (rSetT K w) := hK ▸ hw ▸ cr_setT hc
theorem sortSetA {X : Cx} (w : World) (hc : X.calm = true := by rfl) (hw : X.w = w := by rfl) : CallR X (.builtin "sorted") (rSortedSet w) := hw ▸ cr_sortedSet hc
theorem pw_ext : ∀ {a b : List Int}, a.Pairwise (· < ·) → b.Pairwise (· < ·) → (∀ k, k ∈ a ↔ k ∈ b) → a = b := by
  intro a b ha hb h
  have nd : ∀ {l : List Int}, l.Pairwise (· < ·) → l.Nodup := fun h => h.imp fun {a b} h => by omega
  have np : ∀ (a b : List Int), a.Nodup → b.Nodup → (∀ k, k ∈ a ↔ k ∈ b) → a.Perm b := by
    intro a
    induction a with
    | nil =>
      intro b _ _ h
      cases b with
      | nil => exact .refl _
      | cons x b => exact absurd ((h x).mpr List.mem_cons_self) (by simp)
    | cons x a ih =>
      intro b na nb h
      have hx : x ∈ b := (h x).mp List.mem_cons_self
      have p := List.perm_cons_erase hx
      obtain ⟨n1, n2⟩ := List.nodup_cons.mp na
      refine ((ih (b.erase x) n2 (nb.erase x) fun k => ?_).cons x).trans p.symm
      constructor
      · intro hk
        have hne : k ≠ x := fun e => n1 (by rw [← e]; exact hk)
        exact (List.mem_erase_of_ne hne).mpr ((h k).mp (List.mem_cons_of_mem _ hk))
      · intro hk
        have hk2 := List.mem_of_mem_erase hk
        have hne : k ≠ x := fun e => by
          subst e
          exact nb.not_mem_erase hk
        rcases List.mem_cons.mp ((h k).mpr hk2) with e | e
        · exact absurd e hne
        · exact e
  exact List.Perm.eq_of_pairwise (le := (· ≤ ·)) (fun a b _ _ h h' => Int.le_antisymm h h') (ha.imp fun {a b} h => by omega) (hb.imp fun {a b} h => by omega) (np a b (nd ha) (nd hb) h)
section
variable {K : PySem.W.Frag} {w : World} {Γ : Gam} {ta : TE}
/-- sorted(set(t)) of a rising tuple is that tuple's list -/
theorem evn_sortSet {ns : List Int} (h : Ev ta Γ (.tup (ns.map D.int))) (h64 : ns.length < 64) (hp : ns.Pairwise (· < ·)) : EvN (tCB (rSortedSet w) (tCons (tCB (rSetT K w) (tCons ta tNil)) tNil)) Γ (ns.map D.int) := fun F σ W Q g k =>
  h F σ W _ g fun v H s ⟨a, vs, ev, e, nu, l⟩ => by
    subst ev
    refine ⟨a, ns, rfl, (RepL.ints.mp l ▸ e.sq), h64, fun p c hn hc => ?_⟩
    refine ⟨p, _, c, rfl, upd_same, by omega, fun ns' q h1 h2 h3 hq => ?_⟩
    have e2 : ns' = ns := pw_ext h1 hp fun k => by rw [h2 k, decide_eq_true_eq]
    subst e2
    have s2 : Same H (upd H p (SetO w p (fun j => decide (j ∈ ns')) c)) := same_upd hn
    exact k q _ _ (Same.trans s (Same.trans s2 (same_upd hq))) (s.free (s2.free hq)) upd_same (RepL.ints.mpr rfl)
end
section
variable {K : PySem.W.Frag} {Γ : Gam} {ta : TE} {xs : List D}
theorem ei_enumL {r : TI} (h : EvB ta Γ xs) : Ei (fun σ H R => iEnum K (tCons ta tNil) σ H R ∨ r σ H R) Γ (enumD xs) := fun F σ W R g k => .inl (h F σ W _ g fun a vs H s ha l => by
  refine ⟨a, vs, rfl, .of ha, k (Ite K a) H s ⟨fun W2 i x dm s2 ku pu hx => ?_, fun H2 s2 => ⟨vs, .of (s2 _ _ ha), by rw [enumD_length, l.length]; exact Nat.le_refl _⟩⟩⟩
  obtain ⟨y, hy, rfl⟩ := enumD_get hx
  obtain ⟨v, hv, rv⟩ := l.get hy
  have h2 : W2.H a = some (.lst vs) := s2 _ _ ha
  refine ⟨⟨vs, v, .of h2, hv⟩, fun u H' ⟨T, z, eu, hT, eH, hz⟩ => ?_⟩
  subst eu; subst eH
  have := hz vs (.of h2)
  rw [hv] at this; cases this
  exact ⟨same_upd hT, rep_new_tup dm hT ⟨_, _, rfl, rfl, v, _, rfl, Rep.mono (W := W.at H) (W' := W2) (fun b u e n => ⟨s2 b u e, ku b u e n⟩) (fun b z => by rw [pu]; exact z) _ _ rv, rfl⟩⟩)
end
theorem ds_cont {Γ : Gam} {De : DE} (h : De.ct Γ) : Ds tCont Γ De := fun F σ W Dr g l => l.ct σ W Γ (Stp.refl W) g h
end Dw

/-! repr of data: it asks that no other repr is under way (guards), so the defs that call it have a promise of their own. -/
namespace Dw
open PySem PySem.Spec PyProof.Rows L2
/-- as FnOk, but only where no repr is under way -/
def FnG (P : Program) (w : World) (K : PySem.W.Frag) (mg : Str → Option Value) (base : Heap) (k : Nat) (f : Addr) (fd : FuncData) (ps : List Str) (s : Spc) : Prop :=
  (∀ x, (s.args x).length = ps.length) ∧ ∀ (A : Around) (outer : List Env) (sh : Shared) (H : Hp) (args : Args) (us : List Value) (vs : List V) (Q : VK) (E : XK), Room k A → A.guards = some [] → Env0 P w K mg base A outer sh H → BindsTo sh fd args (ps.zip us) → Vals vs us → toSp s vs H Q E → codeAny (model P w) A (.call (.ref f) args) (CR CX0 outer P w H sh Q E) sh
section
variable {P : Program} {w : World} {K : PySem.W.Frag} {mg : Str → Option Value} {base : Heap}
theorem cells_in {N ps : List Str} {sc : Scope} {n : Nat} (S : FnScope N ps sc) (us : List Value) : ∀ y ∈ ps.zip us, sc.names.lookup y.1 = some .local ∨ (sc.names.lookup y.1 = some .cell ∧ ((cellsFrom n sc.names []).lookup y.1).isSome = true) := by
  rintro ⟨a, b⟩ hy
  exact (S.par a (List.of_mem_zip hy).1).imp id fun q => ⟨q, PySem.W.cellsFrom_some _ _ _ (.inl q)⟩
theorem fnG_ok {x qual : Str} {st : Stmt} {f : Addr} {fd : FuncData} {N ps : List Str} {k : Nat} {s : Spc} (F : Fun K x qual st f fd) (S : FnScope N ps (defScope st)) (len : ∀ x, (s.args x).length = ps.length)
    (hbody : ∀ (cdv : Value) (A : Around) (outer : List Env) (s' : Shared) (H : Hp) (E : XK), Room k (A.deeper (envOfC qual (defScope st) s'.heap.objs.size f cdv)) → (A.deeper (envOfC qual (defScope st) s'.heap.objs.size f cdv)).guards = some [] →
      ∃ t, PSs (cxOf CX0 P w K mg base N qual (defScope st) f cdv A outer s' H E).nox (defBody st) t ∧ ∀ x, s.ok x → Ds t (Gz0 N.length (s.args x)) ⟨fun _ => s.rel x .non, s.rel x, fun _ => False, fun _ => False⟩) : FnG P w K mg base (k + 1) f fd ps s := by
  obtain ⟨oc, od, kV, doc, pm, an, cdv, ct, osl, rfl, lk, hcd⟩ := F.ex
  refine ⟨len, fun A outer sh H args us vs Q E hr hg e0 hb r hsp => ?_⟩
  obtain ⟨t, p, hd⟩ := hbody cdv A outer sh H E (hr.deeper _) hg
  have old : ∀ b o, base.get? b = some o → sh.heap.get? b = some o := fun b o e => (e0.bs b o e).1
  have KX := e0.mod.kin.keeps old
  refine codeAny_call_function hr.depth (KX _ _ lk) rfl S.co S.gen rfl (PySem.W.codeRec_of KX hcd) (hb _ _ _ _ (wpAny_newFunctionEnv_cells S.kind (cells_in S us) ?_))
  rintro env rfl s1 x1
  refine ⟨(e0.mod.nolimit.keeps old).keeps x1.toInCall.keep, codeAny_func (wpAny_mono (p.nox.run [] s1 _ H _ (inv_start S hr.hd e0 (spc_len len _ _ _ _ hsp) r x1) (body_of hsp hd)) (fun fl s' hs => ?_) fun _ _ z => z)⟩
  have done : ∀ {σ' : L2.St} {H' : Hp} {v : V} {u : Value}, Inv (cxOf CX0 P w K mg base N qual (defScope st) f cdv A outer sh H E) [] σ' H' s' → RelV v u → Q v H' → CE outer P w H sh Q u s' := fun {_ H' v _} J rv q => ⟨v, H', J.os, J.bare, J.base, J.hok, rv, q⟩
  match fl, hs with
  | .ret _, ⟨_, _, _, J, rv, q⟩ => exact done J rv q
  | .next, ⟨_, _, J, q⟩ => exact done (v := .non) (u := .none) J rfl q
  | .brk, ⟨_, _, _, q⟩ => exact q.elim
  | .cont, ⟨_, _, _, q⟩ => exact q.elim
section
variable {X : Cx} {k : Nat} {f : Addr} {fd : FuncData} {ps : List Str} {s : Spc} {E : XK} {x : Str} {p pos : Pos} {e : Expr} {es : List Expr} {t : TA}
theorem pe_callG (F : FnG X.prog X.w X.K X.mg X.base k f fd ps s) (hr : Room k X.A) (hG : X.A.guards = some []) (hg : Gl X x) (hm : X.mg x = some (.ref f)) (hk : PySem.W.keepIn X.K (.ref f) = true) (hb : Binds X.K fd ps []) (ha : PA X (e :: es) t)
    (hdb : (x == ("__debug__" : Str)) = false := by decide) (he : starEach (e :: es) X.env = (false, eval e X.env) :: starEach es X.env := by rfl) (hpl : (backTo pos (starEach es X.env)).any (·.1) = false := by rfl) : PE X (.Call (.Name x p) (e :: es) [] pos) (tCall (toSp s) [] E t) := by
  refine ⟨fun pins s1 σ H Q I h => wpAny_Call_Name_kw (ld_glob I hg hm (PySem.W.callWith_K (h₀ := X.base) I.ok.mod.kin hk (thn (ha.run pos pins s1 σ H _ I h) fun us s2 ⟨vs, H1, I1, r, q⟩ => ⟨I1.kIn, ?_⟩) he hpl) hdb)⟩
  have q : toSp s vs H1 Q E := by rw [← List.append_nil vs]; exact q
  have hb := hb s2 us I1.kIn (by rw [List.append_nil, ← r.length]; exact spc_len F.1 _ _ _ _ q)
  rw [List.append_nil] at hb
  refine wpAny_call (codeAny_mono (F.2 X.A X.stack s2 H1 ⟨us, []⟩ us vs Q E hr hG I1.env0 hb r q) fun res s3 hq => ?_)
  match res, hq with
  | .error _, hq => exact (show False from hq).elim
  | .ok (.ret _), hq => exact I1.after hq
  | .ok .next, hq => exact (show False from hq).elim
  | .ok .brk, hq => exact (show False from hq).elim
  | .ok .cont, hq => exact (show False from hq).elim
end
end
/-! ### repr -/
def rRepr (K : PySem.W.Frag) : List V → Hp → VK → Prop := fun xs H Q => ∃ (a : Addr) (d : PyData), xs = [.ref a] ∧ Dp K H (.ref a) d ∧ d.showable = true ∧ d.hasDict = false ∧ d.depth ≤ 64 ∧ d.shown.length ≤ sizeLine ∧ Q (.str d.shown) H
theorem cr_repr {X : Cx} {k : Nat} (hr : Room k X.A) (hG : X.A.guards = some []) : CallR X (.builtin "repr") (rRepr X.K) := by
  intro pins s σ H xs us Q I r h
  obtain ⟨a, d, rfl, hd, h1, h2, h3, h4, q⟩ := h
  obtain ⟨u, rfl, ru⟩ := vals1 r
  cases ru
  obtain ⟨as, r1⟩ := Dp.reads I d _ _ hd rfl
  have := hr.un
  exact repr_of_reads' r1 h1 (PyData.noDict_hsm h2) hG (by omega) (fun _ _ e => e) (fun h' u tk hk => ⟨.str _, H, I.kept (t' := tk) hk, ⟨_, rfl⟩, q⟩) h4
theorem reprA {X : Cx} {k : Nat} (K : PySem.W.Frag) (hr : Room k X.A) (hG : X.A.guards = some []) (hK : X.K = K := by rfl) : CallR X (.builtin "repr") (rRepr K) := hK ▸ cr_repr hr hG
mutual
/-- what can be shown -/
def shOk : D → Bool
  | .non => true | .bl _ => true | .int i => PyData.showable (.int i) | .str x => PyData.showable (.str x)
  | .tup ds => shOks ds | .lst ds => shOks ds | .tupN ds => shOks ds | _ => false
def shOks : List D → Bool
  | [] => true
  | d :: ds => shOk d && shOks ds
end
mutual
theorem shOk_py : ∀ d : D, shOk d = true → PyData.showable (py d) = true ∧ PyData.hasDict (py d) = false
  | .non, _ => ⟨rfl, rfl⟩
  | .bl _, _ => ⟨rfl, rfl⟩
  | .int _, h => ⟨h, rfl⟩
  | .str _, h => ⟨h, rfl⟩
  | .tup ds, h => shOks_py ds h
  | .lst ds, h => shOks_py ds h
  | .tupN ds, h => shOks_py ds h
  | .obj _ _ _, h => nomatch h
  | .raw _, h => nomatch h
  | .purse, h => nomatch h
  | .rng _ _, h => nomatch h
  | .dct _ _, h => nomatch h
  | .scr _ _, h => nomatch h
theorem shOks_py : ∀ ds : List D, shOks ds = true → PyData.showableAll (pys ds) = true ∧ PyData.hasDictAll (pys ds) = false
  | [], _ => ⟨rfl, rfl⟩
  | d :: ds, h => by
    have h : (shOk d && shOks ds) = true := h
    rw [Bool.and_eq_true] at h
    obtain ⟨a1, a2⟩ := shOk_py d h.1
    obtain ⟨b1, b2⟩ := shOks_py ds h.2
    exact ⟨by show (PyData.showable (py d) && PyData.showableAll (pys ds)) = true; rw [a1, b1]; rfl, by show (PyData.hasDict (py d) || PyData.hasDictAll (pys ds)) = false; rw [a2, b2]; rfl⟩
end
section
variable {K : PySem.W.Frag} {Γ : Gam} {ta : TE} {ds : List D} {k : Nat}
theorem ev_reprL (h : Ev ta Γ (.lst ds)) (h1 : dOk k (.lst ds) = true) (hk : k ≤ 64) (h2 : shOk (.lst ds) = true) (h3 : (PyData.shown (py (.lst ds))).length ≤ sizeLine) : Ev (tCB (rRepr K) (tCons ta tNil)) Γ (.str (PyData.shown (py (.lst ds)))) := fun F σ W Q g q =>
  h F σ W _ g fun v H s r => by
    obtain ⟨a, vs, rfl, _⟩ := id r
    obtain ⟨p1, _, p3⟩ := dOk_py k _ h1
    obtain ⟨s1, s2⟩ := shOk_py _ h2
    exact ⟨a, _, rfl, dp_of (W := W.at H) (.lst ds) _ p1 r, s1, s2, Nat.le_trans p3 hk, h3, q _ H s rfl⟩
end
/-! ### the head, where the law's def has such a promise -/
section
variable {P : Program} {w : World} {K : PySem.W.Frag} {mg mb : Str → Option Value} {k : Nat} {fa a : Addr} {fd : FuncData} {x : Str} {s1 : Shared} {vs : List Value} {ns : List Int} {sp : Spc}
/-- what is tracked at the head: the script, unless the module has it -/
def headH (K : PySem.W.Frag) (a : Addr) (vs : List Value) (ns : List Int) : Hp := fun b => if b = a ∧ K.lookup a = none then some (.frz { cls := .type "list", data := .seq vs.toArray } (.lst (ns.map V.int))) else none
theorem headH_none {b : Addr} (h : b ≠ a) : headH K a vs ns b = none := if_neg fun z => h z.1
theorem head_call (KX : K.In s1.heap) (hns : s1.heap.Ns mainGlobals mg) (hb : s1.heap.Ns builtinsNs mb) (hbb : ∀ x : Str, x ≠ "__name__" → mb x = bootBuiltins x) (hlim : s1.heap.NoLimit) (hg : s1.gens = #[]) (ha : s1.heap.get? a = some { cls := .type "list", data := .seq vs.toArray }) (hi : IntsAre vs ns) (hl : ns.length ≤ sizeLine) (hr : Room k callerA)
    (F : ∀ base : Heap, FnG P w K mg base k fa fd [x] sp) (hbind : ∀ (s : Shared) (u : Value), BindsTo s fd ⟨[u], []⟩ [(x, u)]) (hx : ∃ y : sp.ty, sp.args y = [.scr K (ns.map V.int)] ∧ sp.ok y ∧ ∀ d, sp.rel y d → d = .bl true) :
    codeAny (model P w) callerA (.call (.ref fa) ⟨[.ref a], []⟩) (fun r s' => r = .ok (.ret (.bool true)) ∧ OldK s1.heap s'.heap ∧ s'.os = s1.os ∧ AllBare s'.gens) s1 := by
  have rv := vals_ints hi
  have nsK : ∀ {b : Addr} {m : Str → Option Value}, s1.heap.Ns b m → (hidT s1.heap (headH K a vs ns)).Ns b m := by
    rintro b m ⟨o, es, ep, e, d, r⟩
    refine ⟨o, es, ep, hidT_get e (headH_none fun z => ?_), d, r⟩
    rw [z, ha] at e
    cases e
    cases (show Data.seq vs.toArray _ = Data.dict es ep from d)
  have kin : K.In (hidT s1.heap (headH K a vs ns)) := fun b o e => hidT_get (KX b o e) (if_neg fun z => by rw [z.1, z.2] at e; cases e)
  have hS : SqL K (headH K a vs ns) a (ns.map V.int) := by
    cases q : K.lookup a with
    | none => exact .inl (.inr ⟨_, if_pos ⟨rfl, q⟩⟩)
    | some o =>
      have e := KX a o q
      rw [ha] at e; cases e
      exact .inr ⟨_, vs.toArray, _, q, rfl, rfl, rfl, by rw [List.size_toArray, hi.length]; exact hl, by simpa using rv⟩
  have hok : HOk P w (headH K a vs ns) s1.heap := fun b u z => by
    by_cases q : b = a ∧ K.lookup a = none
    · have z' := (if_pos q).symm.trans z
      cases z'
      rw [q.1]
      exact ⟨ha, by rw [List.length_map]; exact hl, vs, _, rv, ha⟩
    · cases (if_neg q).symm.trans z
  have hM : Mod K mg (hidT s1.heap (headH K a vs ns)) := ⟨kin, nsK hns, ⟨mb, nsK hb, hbb⟩, hlim.imp fun mc h => ⟨nsK h.1, h.2⟩⟩
  obtain ⟨y, e1, o1, r1⟩ := hx
  have hsp : toSp sp [.ref a] (headH K a vs ns) (fun v _ => v = .bl true) (fun _ _ _ => False) := ⟨y, fun _ => False, ⟨headH K a vs ns, fun _ => False, fun _ => False⟩, rfl, ⟨fun b h => h.elim, fun b h => h.elim, fun b h => h.elim⟩, by rw [e1]; exact RepL.one (rep_scr hS), o1, fun d v W' h _ _ rp => by
    rw [r1 d h] at rp; exact rp⟩
  refine codeAny_mono ((F _).2 callerA [] s1 _ ⟨[.ref a], []⟩ [.ref a] [.ref a] _ _ hr rfl ⟨rfl, hM, fun b o e => of_hidT e, Nat.le_of_eq (hidT_size _ _), trivial, fun b hb => absurd (show b ∈ ([] : List Addr) from hb) (by simp), hok, .of_eq hg⟩ (hbind s1 (.ref a)) (.cons rfl .nil) hsp) fun r s' h => ?_
  match r, h with
  | .error _, h => exact (show False from h).elim
  | .ok .next, h => exact (show False from h).elim
  | .ok .brk, h => exact (show False from h).elim
  | .ok .cont, h => exact (show False from h).elim
  | .ok (.ret u), ⟨v, H', os, bare, un, hok', r', q⟩ =>
    have q' : v = .bl true := q
    subst q'
    obtain rfl : u = Value.bool true := r'
    refine ⟨rfl, OldK.of_keep fun b o e => ?_, os, bare⟩
    by_cases c : b = a ∧ K.lookup a = none
    · have z : headH K a vs ns b = _ := if_pos c
      have e3 := (hok b _ z).1
      rw [e] at e3; cases e3
      exact (hok' b _ (un.frzs b _ _ z)).1
    · exact un.keep b o e (if_neg c) (by intro z; exact absurd (show b ∈ ([] : List Addr) from z) (by simp)) (by simp)
end
/-- the head's goal from such a promise of the law's def -/
theorem walk_G {l : PySem.W.OpenLaw} {k : Nat} {x : Str} {q : Program} {loose : List Str} {XP : (Str → Option Value) → Heap → Prop} {YP : World → Heap → Prop} {d : DefRec} {K : Params → PySem.W.Frag} {sp : PySem.W.Frag → Spc} (hn : l.most = some 63) (hdf : d.params.defaults = []) (hr : Room k callerA)
    (hY : ∀ (w : World) (h : Heap), YP w h → (K w.params).In h) (hsp : ∀ (K : PySem.W.Frag) (ns : List Int), ns.length ≤ 63 → ∃ y : (sp K).ty, (sp K).args y = [.scr K (ns.map V.int)] ∧ (sp K).ok y ∧ ∀ d, (sp K).rel y d → d = .bl true)
    (F : ∀ (w : World) (mg : Str → Option Value) (fa : Addr) (h : Heap), (K w.params).In h → h.Ns mainGlobals mg → mg d.name = some (.ref fa) → ∃ fd : FuncData, (∀ (s : Shared) (u : Value), BindsTo s fd ⟨[u], []⟩ [(x, u)]) ∧ ∀ base : Heap, FnG l.prog w (K w.params) mg base k fa fd [x] (sp (K w.params))) :
    PySem.W.WalkO q loose XP YP l.row.toRowW d [] (fun f vs => PySem.call f vs) :=
  Att.attach_call hn hdf fun w _ _ mg _ fa _ _ _ _ _ _ ns G Y _ _ _ hmg hobj hints hlen hg =>
    have ⟨_, hb, hF⟩ := F w mg fa _ (hY w _ Y) G.T.g hmg
    head_call (hY w _ Y) G.T.g G.T.b G.T.builtins G.T.nolimit hg hobj hints (Nat.le_trans hlen (by decide)) hr hF hb (hsp _ ns hlen)
end Dw

/-! Bits, sums, xs[k] = v, x |= y, reversed(range(n)). -/
namespace Dw
open PySem PySem.Spec PyProof.Rows L2
section
variable {K : PySem.W.Frag} {Γ : Gam} {ta tb te tk : TE} {De : DE} {ds : List D} {d : D}
abbrev rShl : R2 := rI CPow fun i j => .int (i * 2 ^ j.toNat)
abbrev rOrB : R2 := rI0 fun i j => .int (Builtin.bitOr i j)
abbrev rAndB : R2 := rI0 fun i j => .int (Builtin.bitAnd i j)
theorem dr2_shl1 {k : Nat} (h : k ≤ 1000) : DR2 rShl (.int 1) (.int k) (.int ((2 ^ k : Nat) : Int)) := dr2_rI ⟨by omega, by omega, by decide⟩ fun W => by
  show V.int (1 * 2 ^ (k : Int).toNat) = V.int ((2 ^ k : Nat) : Int)
  rw [Int.one_mul, Int.toNat_natCast, Int.natCast_pow]; rfl
theorem dr2_or {a b : Nat} : DR2 rOrB (.int a) (.int b) (.int ((a ||| b : Nat) : Int)) := dr2_rI0 fun W => by
  show V.int (Builtin.bitOr a b) = V.int ((a ||| b : Nat) : Int)
  rw [Bits.bitOr_pp (by omega) (by omega)]; rfl
theorem dr2_and {a b : Nat} : DR2 rAndB (.int a) (.int b) (.int ((a &&& b : Nat) : Int)) := dr2_rI0 fun W => by
  show V.int (Builtin.bitAnd a b) = V.int ((a &&& b : Nat) : Int)
  rw [bitAnd_pp (by omega) (by omega)]; rfl
theorem ev_sum {ns : List Int} (h : EvB ta Γ (ns.map D.int)) : Ev (tCB (rSum K) (tCons ta tNil)) Γ (.int ns.sum) := fun F σ W Q g k => h F σ W _ g fun p vs H s e l => ⟨p, ns, rfl, .of (by rw [e, RepL.ints.mp l]), k _ H s rfl⟩
theorem repL_rep {W : Wd} {vs : List V} (l : RepL W ds vs) : ∀ n : Nat, RepL W (List.replicate n ds).flatten (List.replicate n vs).flatten
  | 0 => rfl
  | n + 1 => by
    rw [List.replicate_succ, List.replicate_succ, List.flatten_cons, List.flatten_cons]
    exact l.append (repL_rep l n)
/-- xs * n, a new list -/
theorem evn_rep {n : Nat} (h : EvB ta Γ ds) (hn : Ev tb Γ (.int n)) (hz : ds.length * n ≤ sizeLine) (hb : n < 2 ^ 63) : EvN (tOp rTimes ta tb) Γ (List.replicate n ds).flatten := fun F σ W Q g k =>
  h F σ W _ g fun a vs H s e l => hn F σ (W.at H) _ (g.same s) fun u H2 s2 r => .inr ⟨a, n, vs, rfl, r, s2 _ _ e, by omega, by omega, by rw [← l.length, Int.toNat_natCast]; exact hz, fun p hp => by
    rw [Int.toNat_natCast]
    exact k p _ _ (Same.trans s (Same.trans s2 (same_upd hp))) (s.free (s2.free hp)) upd_same (RepL.plus (W := W.at H2) hp (same_upd hp) (repL_rep (RepL.same (W := W.at H) s2 l) n))⟩
/-- xs[k] = v, an own list -/
theorem ds_sub {i : Nat} (h0 : ∃ ds, Γ[i]? = some (.own ds)) (h : Dl te Γ fun d Γ1 => ∃ (ds : List D) (k : Nat), Γ1[i]? = some (.own ds) ∧ Ev tk Γ1 (.int k) ∧ k < ds.length ∧ De.nx (Γ1.set i (.own (ds.set k d)))) : Ds (tAsg te (gSub (tVar i) tk rSetL)) Γ De := fun F σ W Dr g l =>
  h F σ W _ g fun v W1 d Γ1 st g1 r ⟨ds, k, e1, hk, lt, q⟩ => by
    obtain ⟨a, vs, hs, u, f, p, q1, r1⟩ := g1.own i ds e1
    refine ⟨.ref a, hs, hk F σ W1 _ g1 fun w H2 s2 rk => ?_⟩
    have g2 := g1.same s2
    obtain ⟨a', vs', hs', _, _, _, q2, r2⟩ := g2.own i ds e1
    rw [hs] at hs'; cases hs'
    have hl : (k : Int) < (vs'.length : Int) := by rw [← r2.length]; omega
    obtain ⟨st3, g3⟩ := g2.write e1 hs (r2.set (r.same (W := W1) s2) k)
    refine ⟨a, vs', k, k, rfl, rk, q2, ?_, l.nx σ _ _ (st.trans ((Stp.of_same g1.ok s2).trans st3)) g3 q⟩
    unfold ixN
    rw [if_pos (by omega), if_pos hl]; rfl
/-- x |= y -/
theorem ds_orI {i a b : Nat} (h0 : Γ[i]? = some (.val (.int a))) (h : Ev te Γ (.int b)) (q : De.nx (Γ.set i (.val (.int ((a ||| b : Nat) : Int))))) : Ds (tAug i te rOrB) Γ De := fun F σ W Dr g l => by
  obtain ⟨v, e, r⟩ := g.val i _ h0
  refine ⟨v, e, h F σ W _ g fun u H s ru => ⟨a, b, r, ru, ?_⟩⟩
  have e2 : Builtin.bitOr (a : Int) (b : Int) = ((a ||| b : Nat) : Int) := by rw [Bits.bitOr_pp (by omega) (by omega)]; rfl
  show Dr.nx (σ.set i (some (V.int (Builtin.bitOr a b)))) H
  rw [e2]
  exact l.nx _ (W.at H) _ (Stp.of_same g.ok s) ((g.same s).set (d := .int ((a ||| b : Nat) : Int)) rfl) q
theorem di_rev {n : Nat} {Q : List D → Gam → Prop} (h : Ev ta Γ (.int n)) (hn : n < 2 ^ 62) (q : Q (rng n).reverse Γ) : Di (iRevR (tRg1 ta)) Γ Q := fun F σ W R g k => h F σ W _ g fun v H s r => by
  refine ⟨n, r, by omega, by omega, by omega, by omega, ?_⟩
  have hn0 : ((n : Int) - 0).toNat = n := by omega
  refine k (Itc (0 + (((((n : Int) - 0).toNat : Nat) : Int)) - 1) (-1) ((n : Int) - 0).toNat) (W.at H) _ Γ (Stp.of_same g.ok s) (g.same s) ⟨fun W2 i x s2 ok2 hx => ?_, fun W2 s2 ok2 => ?_⟩ q
  · have hi : i < n := by
      have := (List.getElem?_eq_some_iff.mp hx).1
      rw [List.length_reverse, rng_length] at this
      exact this
    rw [List.getElem?_reverse (by rw [rng_length]; exact hi), rng_length] at hx
    obtain ⟨_, rfl⟩ := rng_get hx
    refine ⟨by show i < _; omega, fun u H' ⟨e, hy⟩ => ?_⟩
    subst e hy
    refine ⟨Same.refl _, ?_⟩
    show V.int _ = V.int _
    congr 1
    omega
  · show _ ≤ _
    rw [List.length_reverse, rng_length]; omega
end
end Dw

/-! for i, c in enumerate(a text). -/
namespace Dw
open PySem PySem.Spec PyProof.Rows L2
/-- each sign of x in a new pair -/
def IteS (x : Str) : It :=
  ⟨fun i _ => i < x.cps.size, fun i H v H' => ∃ T c, v = .ref T ∧ H T = none ∧ H' = upd H T (.tup [.int (i : Nat), .str ⟨#[c]⟩]) ∧ x.cps[i]? = some c, fun i _ => x.cps.size ≤ i⟩
theorem turn_enumS {P : Program} {w : World} {K : PySem.W.Frag} {elts : List Expr} {kk : Nat} {tpos : Pos} (x : Str) (t0 : Tok) (e it : Addr) (nei : e ≠ it) :
    Turn P w K (.Tuple elts kk tpos) (IteS x) [e, it] e (fun i h => (∃ old, IsEnum h e it ((0 : Int) + (i : Int)) old) ∧ h.IsStrIter it (strIterType x) x t0 i ∧ i ≤ x.cps.size) where
  mem := by simp
  obj := fun i h ⟨⟨old, he⟩, ⟨o, ho, hc, hd⟩, _⟩ b hb => by
    rcases (show b = e ∨ b = it by simpa using hb) with z | z
    · subst z; exact ⟨_, he, fun v q => nomatch q⟩
    · subst z; exact ⟨o, ho, fun v q => by rw [hd] at q; cases q⟩
  keep := fun i h h' ⟨⟨old, he⟩, ⟨o, ho, r⟩, hl⟩ k => ⟨⟨old, k e (by simp) _ he⟩, ⟨o, k it (by simp) o ho, r⟩, hl⟩
  item := by
    intro X hP hw hK hc i pins s σ H E I hf st hg
    subst hP; subst hw; subst hK
    have G := GoesN.enumFrom (prog := X.prog) (w := X.w) (A := X.A) (elts := elts) (x1 := kk) (pos := tpos) 0 (Draws.text (A := X.A.in1) (I.ok.hd hc) it x t0) e nei (by simp [nei]) (by simp)
    refine thn (G.goes i s (fun v s2 => ∃ T t c u, v = Value.ref T ∧ s.heap.objs.size ≤ T ∧ x.cps[i]? = some c ∧ s2.heap.IsTuple T #[.int ((0 : Int) + (i : Int)) t, .str ⟨#[c]⟩ u] ∧
        (∃ old, IsEnum s2.heap e it ((0 : Int) + ((i + 1 : Nat) : Int)) old) ∧ s2.heap.IsStrIter it (strIterType x) x t0 (i + 1) ∧ (∀ b o, b ∉ [e, it] → s.heap.get? b = some o → s2.heap.get? b = some o) ∧ ∃ h' tk, s2 = { s with heap := h', toks := tk }) E hg ⟨st.1, st.2.1⟩
      fun v h' tk ⟨T, t, y, ev, hT, ⟨c, u, hy, ey⟩, htu⟩ ⟨ho, hit⟩ kp _ => ⟨T, t, c, u, ev, hT, hy, by rw [← ey]; exact htu, ho, hit, kp, h', tk, rfl⟩) fun r s1 ⟨v, er, hv⟩ => ⟨v, er, thn hv fun _ s2 ⟨T, t, c, u, ev, hT, hy, htu, ho, hit, kp, h', tk, es⟩ => ?_⟩
    subst es; subst ev
    have new : ObjOk X.prog X.w (upd H T (.tup [.int (i : Nat), .str ⟨#[c]⟩])) h' T (.tup [.int (i : Nat), .str ⟨#[c]⟩]) :=
      ⟨by show 2 ≤ sizeLine; decide, [.int ((0 : Int) + (i : Int)) t, .str ⟨#[c]⟩ u], .cons ⟨t, by rw [Int.zero_add]⟩ (.cons ⟨u, rfl⟩ .nil), htu⟩
    have I1 : Inv X pins σ (upd H T (.tup [.int (i : Nat), .str ⟨#[c]⟩])) { s with heap := h', toks := tk } := I.turnedNew (ch := [e, it]) kp hf hT new
    refine ⟨.ref T, _, I1, rfl, ⟨T, c, rfl, I.hok.fresh hT, rfl, hy⟩, ⟨ho, hit, hg⟩, fun b hb => ?_⟩
    have lt : b ≠ T := by
      rcases (show b = e ∨ b = it by simpa using hb) with z | z
      · obtain ⟨old, he⟩ := st.1
        rw [z]; exact Nat.ne_of_lt (Nat.lt_of_lt_of_le (Heap.lt_size he) hT)
      · obtain ⟨o, q, _⟩ := st.2.1
        rw [z]; exact Nat.ne_of_lt (Nat.lt_of_lt_of_le (Heap.lt_size q) hT)
    rw [upd_ne lt]
    exact (hf b hb).1
  done := by
    intro X hP hw hK hc i pins s σ H E I hf st hg
    subst hP; subst hw; subst hK
    have G := GoesN.enumFrom (prog := X.prog) (w := X.w) (A := X.A) (elts := elts) (x1 := kk) (pos := tpos) 0 (Draws.text (A := X.A.in1) (I.ok.hd hc) it x t0) e nei (by simp [nei]) (by simp)
    have en : x.cps.size = i := Nat.le_antisymm hg st.2.2
    rw [en] at G
    exact G.stops s _ E ⟨st.1, st.2.1⟩ fun h' tk kp _ => inv_turned I kp hf
  self := fun A i s Q E ⟨⟨_, he⟩, _⟩ h => wpAny_pyIter_enum he h
def iEnumS (ta : TA) : TI := fun σ H R => ta σ H fun vs H1 => ∃ x, vs = [.str x] ∧ R (IteS x) H1
theorem pi_enumS {X : Cx} {e : Expr} {ta : TA} {p pos tpos : Pos} {elts : List Expr} {kk : Nat} (hg : Gl X "enumerate") (hm : X.mg "enumerate" = none) (ha : PA X [e] ta) (hs : starEach [e] X.env = [(false, eval e X.env)] := by rfl) :
    PI X (.Tuple elts kk tpos) (.Call (.Name "enumerate" p) [e] [] pos) (iEnumS ta) := by
  refine ⟨fun pins s σ H R I h => ?_⟩
  refine Call_ (ld_blt I hg hm boot_enumerate (callWith_type1 (thn (ha.run pos pins s σ H _ I h) fun us s1 ⟨vs, H1, I1, r1, q1⟩ => ?_) hs rfl))
  obtain ⟨x, ex, q⟩ := q1
  subst ex
  obtain ⟨u, eu, ru⟩ := vals1 r1
  subst eu
  obtain ⟨t, rfl⟩ := ru
  refine call_enumerate_str fun h' he hit hsz hk => wpAny_pyIter_enum he ?_
  refine ⟨s1.heap.objs.size + 1, [s1.heap.objs.size + 1, s1.heap.objs.size], _, _, H1, rfl, I1.kept (t' := s1.toks) hk, turn_enumS x t (s1.heap.objs.size + 1) s1.heap.objs.size (Nat.succ_ne_self _), ⟨⟨_, he⟩, hit, Nat.zero_le _⟩, fun b hb => ?_, q⟩
  have hle : s1.heap.objs.size ≤ b := by
    rcases (show b = s1.heap.objs.size + 1 ∨ b = s1.heap.objs.size by simpa using hb) with z | z
    · rw [z]; exact Nat.le_succ _
    · rw [z]; exact Nat.le_refl _
  exact I1.fpOk hle (I1.hok.fresh hle)
theorem enumSA {X : Cx} {e : Expr} {ta : TA} {p pos tpos : Pos} {elts : List Expr} {kk : Nat} (hg : Gl X "enumerate") (hm : X.mg "enumerate" = none) (ha : PA X [e] ta) (hs : starEach [e] X.env = [(false, eval e X.env)] := by rfl) :
    PI X (.Tuple elts kk tpos) (.Call (.Name "enumerate" p) [e] [] pos) (iEnumS ta) := pi_enumS hg hm ha hs
section
variable {K : PySem.W.Frag} {Γ : Gam} {ta : TE}
theorem itS {W : Wd} {x : Str} : ∀ (W2 : Wd) (i : Nat) (d : D), (enumD (signs x))[i]? = some d → (∀ a, W2.U a → W2.H a ≠ none) → (IteS x).go i W2.H ∧ ∀ u H', (IteS x).yld i W2.H u H' → Same W2.H H' ∧ Rep (W2.at H') d u := fun W2 i d hx dm => by
  obtain ⟨y, hy, rfl⟩ := enumD_get hx
  obtain ⟨_, c, hc, rfl⟩ := signs_get hy
  refine ⟨(Array.getElem?_eq_some_iff.mp hc).1, fun u H' ⟨T, z, eu, hT, eH, hz⟩ => ?_⟩
  subst eu; subst eH
  rw [hc] at hz; cases hz
  exact ⟨same_upd hT, rep_new_tup dm hT ⟨_, _, rfl, rfl, _, _, rfl, rfl, rfl⟩⟩
theorem enumS_len (x : Str) : (enumD (signs x)).length = x.cps.size := by
  rw [enumD_length]
  unfold signs
  rw [List.length_map, Array.length_toList]
theorem ei_enumS {x : Str} (h : Ev ta Γ (.str x)) : Ei (iEnumS (tCons ta tNil)) Γ (enumD (signs x)) := fun F σ W R g k => h F σ W _ g fun v H s r => by
  refine ⟨x, by rw [show v = V.str x from r], k (IteS x) H s ⟨fun W2 i d dm s2 ku pu hx => itS (W := W) W2 i d hx dm, fun H2 s2 => ?_⟩⟩
  show x.cps.size ≤ _
  rw [enumS_len]; exact Nat.le_refl _
theorem di_enumS {x : Str} {Q : List D → Gam → Prop} (h : Ev ta Γ (.str x)) (q : Q (enumD (signs x)) Γ) : Di (iEnumS (tCons ta tNil)) Γ Q := fun F σ W R g k => h F σ W _ g fun v H s r => by
  refine ⟨x, by rw [show v = V.str x from r], k (IteS x) (W.at H) _ Γ (Stp.of_same g.ok s) (g.same s) ⟨fun W2 i d s2 ok2 hx => itS (W := W) W2 i d hx ok2.dom, fun W2 s2 ok2 => ?_⟩ q⟩
  show x.cps.size ≤ _
  rw [enumS_len]; exact Nat.le_refl _
end
end Dw

/-! *xs in a display, o.m(..). -/
namespace Dw
open PySem PySem.Spec PyProof.Rows L2
section
variable {K : PySem.W.Frag} {Γ : Gam} {ta te : TE} {t : TA} {ds es : List D} {d : D} {C : Addr} {s : Spc} {E : XK}
theorem eva_star (h : Ev te Γ (.tup ds)) (hr : EvA t Γ es) : EvA (StX.tStar K te t) Γ (ds ++ es) := fun F σ W Q g k =>
  h F σ W _ g fun v H s1 ⟨a, vs, ev, e, nu, l⟩ => ⟨a, vs, ev, .inl (e.sq), hr F σ (W.at H) _ (g.same s1) fun ws H2 s2 r2 => k (vs ++ ws) H2 (Same.trans s1 s2) ((RepL.same (W := W.at H) s2 l).append r2)⟩
theorem starA {X : Cx} {e : Expr} {es : List Expr} {p : Pos} (K : PySem.W.Frag) (he : PE X e te) (hr : PA X es t) (hK : X.K = K := by rfl) (hs : starEach (.Starred e p :: es) X.env = (true, eval e X.env) :: starEach es X.env := by rfl) : PA X (.Starred e p :: es) (StX.tStar K te t) := hK ▸ StX.pa_star he hr hs
theorem ev_cast_eva {es' : List D} (h : ds ++ es = es') (e : EvA t Γ (ds ++ es)) : EvA t Γ es' := h ▸ e
theorem zip_none {ns : List Str} {m : Str} (h : m ∉ ns) : ∀ vs : List V, (ns.zip vs).lookup m = none := by
  induction ns with
  | nil => intro vs; rfl
  | cons n ns ih =>
    intro vs
    cases vs with
    | nil => rfl
    | cons v vs =>
      have hn : (m == n) = false := by
        cases q : m == n with
        | false => rfl
        | true => exact absurd (by rw [eq_of_beq q]; exact List.mem_cons_self) h
      show ((n, v) :: ns.zip vs).lookup m = none
      rw [List.lookup_cons, hn]
      exact ih (fun z => h (List.mem_cons_of_mem _ z)) vs
/-- a method of an object, that draws nothing -/
theorem ev_meth {x : s.ty} {ns : List Str} {m : Str} (h : Ev ta Γ (.obj C ns ds)) (h2 : EvA t Γ es) (ha : s.args x = .obj C ns ds :: es) (np : noPs (s.args x) = true) (ok : s.ok x) (hm : m ∉ ns) (hd : ∀ d', s.rel x d' → d' = d) : Ev (tMeth C m (toSp s) [] E ta t) Γ d := fun F σ W R g k =>
  h F σ W _ g fun v H st ⟨a, dx, vs, ev, e, nu, l, rl⟩ => by
    subst ev
    refine ⟨a, dx, _, rfl, e, zip_none hm vs, h2 F σ (W.at H) _ (g.same st) fun us H2 st2 ru => ?_⟩
    have rr : RepL (W.at H2) (s.args x) (V.ref a :: us) := by
      rw [ha]
      exact ⟨V.ref a, us, rfl, Rep.same (W := W.at H) st2 ⟨a, dx, vs, rfl, e, nu, l, rl⟩, ru⟩
    rw [List.append_nil]
    exact pure_call (W := (W.at H).at H2) ((g.same st).same st2) (fun _ z => z) (RepL.delP _ _ np rr) ok fun d' v H' hd' s' r' => by
      rw [hd d' hd'] at r'
      exact k v H' (Same.trans st (Same.trans st2 s')) (Rep.addP (W := W) r')
end
end Dw

/-! a, b, c = x, y, z. -/
namespace Dw
open PySem PySem.Spec PyProof.Rows L2
theorem ds_par3 {Γ : Gam} {De : DE} {i j l : Nat} {ta : TA} (h : DlA ta Γ fun ds Γ1 => ∃ x y z, ds = [x, y, z] ∧ De.nx (((Γ1.set i (.val x)).set j (.val y)).set l (.val z))) : Ds (tPar3 i j l ta) Γ De := fun F σ W Dr g k =>
  h F σ W _ g fun vs W1 ds Γ1 s g1 r ⟨x, y, z, e, q⟩ => by
    subst e
    obtain ⟨u, _, rfl, r1, v, _, rfl, r2, w, _, rfl, r3, rfl⟩ := r
    exact ⟨u, v, w, rfl, k.nx _ W1 _ s (((g1.set r1).set r2).set r3) q⟩
end Dw

/-! enumerate of a list that draws go on beside, not, sign * n. -/
namespace Dw
open PySem PySem.Spec PyProof.Rows L2
section
variable {K : PySem.W.Frag} {Γ : Gam} {ta t : TE}
theorem di_enumL {Q : List D → Gam → Prop} {r : TI} (h : Dl ta Γ fun d Γ1 => ∃ xs, d = .lst xs ∧ Q (enumD xs) Γ1) : Di (fun σ H R => iEnum K (tCons ta tNil) σ H R ∨ r σ H R) Γ Q := fun F σ W R g k => .inl (h F σ W _ g fun v W1 d Γ1 st g1 rd ⟨xs, e, q⟩ => by
  subst e
  obtain ⟨a, vs, rfl, ha, nu, l⟩ := rd
  refine ⟨a, vs, rfl, .of ha, k (Ite K a) W1 (enumD xs) Γ1 st g1 ⟨fun W2 i x s2 ok2 hx => ?_, fun W2 s2 ok2 => ⟨vs, .of (s2.keep a _ ha nu).1, by rw [enumD_length, l.length]; exact Nat.le_refl _⟩⟩ q⟩
  obtain ⟨y, hy, rfl⟩ := enumD_get hx
  obtain ⟨v, hv, rv⟩ := l.get hy
  have h2 := (s2.keep a _ ha nu).1
  refine ⟨⟨vs, v, .of h2, hv⟩, fun u H' ⟨T, z, eu, hT, eH, hz⟩ => ?_⟩
  subst eu; subst eH
  have := hz vs (.of h2)
  rw [hv] at this; cases this
  exact ⟨same_upd hT, rep_new_tup ok2.dom hT ⟨_, _, rfl, rfl, v, _, rfl, rv.stp s2, rfl⟩⟩)
theorem dl_notT {Q : D → Gam → Prop} (h : DlT (tTru K t) Γ fun b Γ1 => Q (.bl (!b)) Γ1) : Dl (tNotT K t) Γ Q := fun F σ W R g k => by
  have e := h F σ W (fun c H => R (.bl (!c)) H) g fun b W1 Γ1 s g1 q => k (.bl (!b)) W1 (.bl (!b)) Γ1 s g1 rfl q
  exact e
theorem mul_okS {s : Str} {c n : Nat} (hc : (s = Str.ofString "+" ∧ c = 43) ∨ (s = Str.ofString "-" ∧ c = 45) ∨ (s = Str.ofString "." ∧ c = 46)) (h : n ≤ 8) : MulOk s (n : Int) ∧ Txt.mul s (n : Int) = tx (List.replicate n c) := by
  have hn : n = 0 ∨ n = 1 ∨ n = 2 ∨ n = 3 ∨ n = 4 ∨ n = 5 ∨ n = 6 ∨ n = 7 ∨ n = 8 := by omega
  unfold MulOk
  rcases hc with ⟨rfl, rfl⟩ | ⟨rfl, rfl⟩ | ⟨rfl, rfl⟩ <;> rcases hn with rfl | rfl | rfl | rfl | rfl | rfl | rfl | rfl | rfl <;> exact ⟨by decide +kernel, by decide +kernel⟩
theorem mul_sign {s : Str} {c n : Nat} (hc : (s = Str.ofString "+" ∧ c = 43) ∨ (s = Str.ofString "-" ∧ c = 45) ∨ (s = Str.ofString "." ∧ c = 46)) (h : n ≤ 8) : DR2 rMulS (.str s) (.int n) (.str (tx (List.replicate n c))) := dr2_flat fun W u v Q a b k => ⟨_, _, a, b, (mul_okS hc h).1, k _ (by rw [(mul_okS hc h).2]; rfl)⟩
/-! equality of lists of whole numbers, deep -/
theorem eqv_ints : ∀ a b : List Nat, PyData.eqvAll (pys (ordN a)) (pys (ordN b)) = decide (a = b)
  | [], [] => rfl
  | [], y :: ys => by
    show false = _
    simp
  | x :: xs, [] => by
    show false = _
    simp
  | x :: xs, y :: ys => by
    show ((((x : Nat) : Int) == ((y : Nat) : Int)) && PyData.eqvAll (pys (ordN xs)) (pys (ordN ys))) = _
    rw [eqv_ints xs ys, Bool.eq_iff_iff]
    simp
    intro _
    omega
theorem eqv_ordT : ∀ a b : List (List Nat), PyData.eqvAll (pys (a.map fun o => D.tup (ordN o))) (pys (b.map fun o => D.tup (ordN o))) = decide (a = b)
  | [], [] => rfl
  | [], y :: ys => by
    show false = _
    simp
  | x :: xs, [] => by
    show false = _
    simp
  | x :: xs, y :: ys => by
    show (PyData.eqvAll (pys (ordN x)) (pys (ordN y)) && PyData.eqvAll (pys (xs.map fun o => D.tup (ordN o))) (pys (ys.map fun o => D.tup (ordN o)))) = _
    rw [eqv_ints, eqv_ordT xs ys, Bool.eq_iff_iff]
    simp
theorem dOk_ordT (a : List (List Nat)) : dOk 2 (.lst (a.map fun o => D.tup (ordN o))) = true := dOks_map fun o _ => dOks_map fun _ _ => rfl
theorem eq_ordT (a b : List (List Nat)) : DR2 (rEqX K) (.lst (a.map fun o => D.tup (ordN o))) (.lst (b.map fun o => D.tup (ordN o))) (.bl (decide (a = b))) := by
  obtain ⟨h1, h2⟩ := dOk_shaped (dOk_ordT a) (by decide)
  obtain ⟨h3, h4⟩ := dOk_shaped (dOk_ordT b) (by decide)
  have := eq_deep (K := K) h1 h3 h2 h4
  rw [show PyData.eqv (py (.lst (a.map fun o => D.tup (ordN o)))) (py (.lst (b.map fun o => D.tup (ordN o)))) = PyData.eqvAll (pys (a.map fun o => D.tup (ordN o))) (pys (b.map fun o => D.tup (ordN o))) from rfl, eqv_ordT] at this
  exact this
theorem ne_strsT {xs ys : List Str} (h1 : ∀ x ∈ xs, okS x) (h2 : ∀ x ∈ ys, okS x) : DR2 (rNeX K) (.tup (xs.map D.str)) (.tup (ys.map D.str)) (.bl (!decide (xs = ys))) := by
  have := ne_deep (K := K) (p := .tup (xs.map D.str)) (q := .tup (ys.map D.str)) (isPys_strs xs) (isPys_strs ys) (shaped_tup h1) (shaped_tup h2)
  rw [show PyData.eqv (py (.tup (xs.map D.str))) (py (.tup (ys.map D.str))) = PyData.eqvAll (pys (xs.map D.str)) (pys (ys.map D.str)) from rfl, eqv_strs] at this
  exact this
end
end Dw

/-! first, *rest = a tuple; t[::-1]; t[a:b] of any bounds; x in a dict of the module; the head with the bits of the script. -/
namespace Dw
open PySem PySem.Spec PyProof.Rows L2
/-! ### first, *rest = t -/
theorem unpack_star1T {prog : Program} {w : World} {A : Around} {E : Value → Shared → Prop} {s : Shared} {l : Addr} {b : Value} {its : List Value} {Q : List Value → Shared → Prop} (hl : IsTup s.heap l (b :: its).toArray) (hh : A.handled = none)
    (hz : its.length ≤ 16000) (h : ∀ (h1 : Heap) (tk : Nat), (∀ c o, s.heap.get? c = some o → h1.get? c = some o) → Q [b, .ref h1.objs.size] { s with heap := h1.push { cls := .type "list", data := .seq its.toArray }, toks := tk }) :
    wpAny (model prog w) A (unpackItems (.ref l) 2 (some 1)) Q E s := by
  have lt : l < s.heap.objs.size := by obtain ⟨o, ho, _⟩ := hl; exact Heap.lt_size ho
  have ne : l ≠ s.heap.objs.size := Nat.ne_of_lt lt
  unfold unpackItems notIterableAtAll
  refine wpAny_bind (wpAny_bind (wpAny_specialOf hl.typeIs slot_tuple_iter.lookup (wpAny_pure ?_)))
  simp only [Bool.false_eq_true, if_false]
  refine wpAny_bind (wpAny_holding (iter_tuple hl ?_))
  refine wpAny_bind (wpAny_holding (draw_tuple ne 1 0 _ _ ⟨_, Heap.get?_push_size _ rfl, rfl, rfl⟩ (hl.push _) (by simp) fun ha hit hs => ?_))
  have hla : IsTup ha l (b :: its).toArray := (hl.push _).extBut hs.extBut ne
  rw [Nat.zero_add] at hit
  obtain ⟨oi, hoi, _⟩ := id hit
  obtain ⟨ol, hol, _⟩ := id hla
  rw [if_neg (show ¬ (((b :: its).toArray.toList.drop 0).take 1).length < 1 by simp)]
  refine wpAny_bind (wpAny_holding (PySem.W.kun_collect (s := { s with heap := ha }) (T := "tuple_iterator") (.inr (.inr (.inr rfl))) (Walks.tuple (A := A.in1) hh s.heap.objs.size l ne _) (fun j u st => st.1.typeIs) (k := 1) (by simp) ⟨hit, hla⟩
    (Heap.lt_size hoi) (Heap.lt_size hol) (fun hb tk kp => ?_) (by rw [sizeLine_eq]; simp; omega)))
  show wpAny _ _ (if its.length < 0 then _ else _) _ _ _
  rw [if_neg (Nat.not_lt_zero _)]
  show wpAny _ _ (newList (its.take (its.length - 0)) >>= fun d => pure ([b] ++ [d] ++ its.drop (its.length - 0))) _ _ _
  rw [Nat.sub_zero, List.take_length, List.drop_length]
  have k2 : ∀ c o, s.heap.get? c = some o → hb.get? c = some o := fun c o e => kp c o (Nat.ne_of_lt (Heap.lt_size e)) (hs.extBut c o (Nat.ne_of_lt (Heap.lt_size e)) (Heap.get?_push_of_some _ e))
  unfold newList
  refine wpAny_bind (wpAny_newObj_type (wpAny_pure ?_) (by show its.toArray.size ≤ sizeLine; rw [sizeLine_eq, List.size_toArray]; omega))
  exact h hb tk k2
/-- from a list or a tuple -/
def gStar1X (K : PySem.W.Frag) (g1 g2 : TG) : TG := fun v σ H Q => ∃ a z zs, v = .ref a ∧ (SqL K H a (z :: zs) ∨ SqT K H a (z :: zs)) ∧ zs.length ≤ 16000 ∧ ∀ p, H p = none → g1 z σ (upd H p (.lst zs)) fun σ1 H1 => g2 (.ref p) σ1 H1 Q
theorem pg_star1X {X : Cx} (hc : X.calm = true) {e1 e2 : Expr} {g1 g2 : TG} {k : Nat} {pos sp : Pos} (h1 : PG X e1 g1) (h2 : PG X e2 g2) (hlen : (assignEach [e1, .Starred e2 sp] X.env).length = 2 := by rfl)
    (hst : (assignEach [e1, .Starred e2 sp] X.env).findIdx? (·.1) = some 1 := by rfl) (hm : (assignEach [e1, .Starred e2 sp] X.env).map (·.2) = [assign e1 X.env, assign e2 X.env] := by rfl) :
    PG X (.Tuple [e1, .Starred e2 sp] k pos) (gStar1X X.K g1 g2) := by
  refine ⟨fun pins s σ H v u Q I r hw => ?_⟩
  obtain ⟨a, z, zs, ev, hq, hl, hw⟩ := hw
  rcases hq with hq | hq
  · exact (pg_star1 hc h1 h2 hlen hst hm).run pins s σ H v u Q I r ⟨a, z, zs, ev, hq, hl, hw⟩
  subst ev
  cases r
  obtain ⟨its, rv, pl, hz⟩ := I.tuple hq
  cases rv with
  | cons rz rr =>
    rename_i b l
    rw [assign_Tuple]
    refine wpAny_bind (wpAny_standAt ?_)
    unfold unpack
    rw [hlen, hst, hm]
    refine wpAny_bind (wpAny_holding (unpack_star1T pl (I.ok.hd hc) (by rw [← rr.length]; exact hl) fun ha tk kp => ?_))
    have I1 : Inv X pins σ H { s with heap := ha, toks := tk } := I.kept kp
    have I2 := I1.laid (t' := tk) (o := .lst zs) (h' := ha.push { cls := .type "list", data := .seq l.toArray }) (fun c o e => Heap.get?_push_of_some _ e) (Nat.le_refl _)
      ⟨by have hz' : zs.length + 1 ≤ sizeLine := hz
          omega, l, 0, rr, Heap.get?_push_size _ rfl⟩
    refine assignInOrder_cons (thn (h1.run pins _ σ _ z b _ I2 rz (hw _ (I1.hok.fresh (Nat.le_refl _)))) fun _ s3 ⟨σ3, H3, I3, q3⟩ => ?_)
    exact assignInOrder_cons (thn (h2.run pins s3 σ3 H3 (.ref ha.objs.size) _ Q I3 rfl q3) fun _ s4 ⟨σ4, H4, I4, q4⟩ => assignInOrder_nil ⟨σ4, H4, I4, q4⟩)
theorem star1XA (K : PySem.W.Frag) {X : Cx} (hc : X.calm = true) {e1 e2 : Expr} {g1 g2 : TG} {k : Nat} {pos sp : Pos} (h1 : PG X e1 g1) (h2 : PG X e2 g2) (hK : X.K = K := by rfl) (hlen : (assignEach [e1, .Starred e2 sp] X.env).length = 2 := by rfl)
    (hst : (assignEach [e1, .Starred e2 sp] X.env).findIdx? (·.1) = some 1 := by rfl) (hm : (assignEach [e1, .Starred e2 sp] X.env).map (·.2) = [assign e1 X.env, assign e2 X.env] := by rfl) :
    PG X (.Tuple [e1, .Starred e2 sp] k pos) (gStar1X K g1 g2) := hK ▸ pg_star1X hc h1 h2 hlen hst hm
section
variable {K : PySem.W.Frag} {Γ : Gam}
theorem ds_starL {te : TE} {De : DE} {a b : Nat} (h : Dl te Γ fun d Γ1 => ∃ d0 ds, (d = .lst (d0 :: ds) ∨ d = .tup (d0 :: ds)) ∧ ds.length ≤ 16000 ∧ De.nx ((Γ1.set a (.val d0)).set b (.val (.lst ds)))) : Ds (tAsg te (gStar1X K (gName a) (gName b))) Γ De := fun F σ W Dr s l => h F σ W _ s fun v W1 d Γ1 st g1 r ⟨d0, ds, e, hz, q⟩ => by
  rcases e with e | e
  · subst e
    obtain ⟨p, vs, rfl, hp, nu, z, zs, rfl, r0, r1⟩ := r
    refine ⟨p, z, zs, rfl, .inl (.of hp), by rw [← r1.length]; exact hz, fun n hn => ?_⟩
    have sm : Same W1.H (upd W1.H n (.lst zs)) := same_upd hn
    exact l.nx _ (W1.at _) _ (st.trans (Stp.of_same g1.ok sm)) (((g1.same sm).set (r0.same sm)).set (rep_new_lst g1.ok.dom hn r1)) q
  · subst e
    obtain ⟨p, vs, rfl, hp, nu, z, zs, rfl, r0, r1⟩ := r
    refine ⟨p, z, zs, rfl, .inr (hp.sq), by rw [← r1.length]; exact hz, fun n hn => ?_⟩
    have sm : Same W1.H (upd W1.H n (.lst zs)) := same_upd hn
    exact l.nx _ (W1.at _) _ (st.trans (Stp.of_same g1.ok sm)) (((g1.same sm).set (r0.same sm)).set (rep_new_lst g1.ok.dom hn r1)) q
end
/-! ### t[a:b] -/
abbrev rSlX (K : PySem.W.Frag) : V → Option Int → Option Int → Hp → VK → Prop := fun x lo hi H Q => rSlL K x lo hi H Q ∨ rSlA K x lo hi H Q
theorem slXA {X : Cx} (K : PySem.W.Frag) (hK : X.K = K := by rfl) : SlR X (rSlX K) := hK ▸ sl_list.or sl_tupA
section
variable {K : PySem.W.Frag} {Γ : Gam} {te : TE} {ds : List D}
theorem evn_sliceY {tl th : TO} {lo hi : Option Int} (h : EvB te Γ ds) (h1 : Eo tl Γ lo) (h2 : Eo th Γ hi) : EvN (tSl (rSlX K) te tl th) Γ (cutD ds lo hi) := fun F σ W Q g k => h F σ W _ g fun a vs H s e l => h1 F σ (W.at H) _ (g.same s) fun H1 s1 => h2 F σ ((W.at H).at H1) _ ((g.same s).same s1) fun H2 s2 => by
  have sm : Same H H2 := Same.trans s1 s2
  exact .inl ⟨a, vs, rfl, .of (sm _ _ e), fun p hp => k p _ _ (Same.trans s (Same.trans sm (same_upd hp))) (s.free (sm.free hp)) upd_same (RepL.plus (W := W.at H2) hp (same_upd hp) (repL_cut (RepL.same (W := W.at H) sm l)))⟩
theorem cut_whole {α : Type} (xs : List α) (n : Nat) (lo hi : Option Int) (hn : n = xs.length) (h : HT.sIx n 0 lo = 0 ∧ HT.sIx n n hi = n) : (xs.drop (HT.sIx n 0 lo)).take (HT.sIx n n hi - HT.sIx n 0 lo) = xs := by
  rw [h.1, h.2, List.drop_zero, Nat.sub_zero, hn, List.take_length]
theorem ev_sliceTY {tl th : TO} {lo hi : Option Int} (h : Ev te Γ (.tup ds)) (h1 : Eo tl Γ lo) (h2 : Eo th Γ hi) : Ev (tSl (rSlX K) te tl th) Γ (.tup (cutD ds lo hi)) := fun F σ W Q g k => h F σ W _ g fun v H s ⟨a, vs, ev, e, nu, l⟩ => h1 F σ (W.at H) _ (g.same s) fun H1 s1 => h2 F σ ((W.at H).at H1) _ ((g.same s).same s1) fun H2 s2 => by
  have sm : Same H H2 := Same.trans s1 s2
  subst ev
  refine .inr ⟨a, vs, rfl, (e.same sm).sq, fun hw => ?_, fun hw p hp => k _ _ (Same.trans s (Same.trans sm (same_upd hp))) (rep_new_tup (W := W.at H2) (((g.same s).same s1).same s2).ok.dom hp (repL_cut (RepL.same (W := W.at H) sm l)))⟩
  have e1 : cutD ds lo hi = ds := cut_whole ds ds.length lo hi rfl (by rw [l.length]; exact hw)
  rw [e1] at k
  exact k _ H2 (Same.trans s sm) ⟨a, vs, rfl, e.same sm, nu, RepL.same (W := W.at H) sm l⟩
end
/-! ### x in a written dict -/
abbrev rInKd (K : PySem.W.Frag) (d : Addr) (neg : Bool) : R2 := fun x y H Q => ∃ (z : Str) (r : Option Value), x = .str z ∧ y = .ref d ∧ PySem.W.nsIn K d z = some r ∧ Q (.bl (if neg then !r.isSome else r.isSome)) H
theorem inKd {X : Cx} (K : PySem.W.Frag) (w : World) {d : Addr} {es : Array DictEntry} {n : Nat} (D : KDict K w d es n) (hK : X.K = K := by rfl) (hw : X.w = w := by rfl) : OpR X (compareOp .In) (rInKd K d false) := by
  subst hK hw; exact op_in_kd D
theorem ninKd {X : Cx} (K : PySem.W.Frag) (w : World) {d : Addr} {es : Array DictEntry} {n : Nat} (D : KDict K w d es n) (hK : X.K = K := by rfl) (hw : X.w = w := by rfl) : OpR X (compareOp .NotIn) (rInKd K d true) := by
  subst hK hw; exact op_notIn_kd D
section
variable {K : PySem.W.Frag} {w : World} {Γ : Gam} {ta tb : TE} {x : Str}
theorem ev_inKd {d : Addr} {neg : Bool} {r : Option Value} (h : Ev ta Γ (.str x)) (hb : Ev tb Γ (.raw (.ref d))) (e : PySem.W.nsIn K d x = some r) : Ev (tOp (rInKd K d neg) ta tb) Γ (.bl (if neg then !r.isSome else r.isSome)) :=
  ev_op h hb (dr2_flat fun W u v Q r1 r2 k => ⟨x, r, r1, r2, e, k _ rfl⟩)
/-- d[x], a number -/
theorem ev_ixKi {p : Addr} {z : Int} (h : Ev tb Γ (.str x)) (hk : KDct K w p x (.int z)) : Ev (tOp (rIxD K w) (tC (.ref p)) tb) Γ (.int z) :=
  ev_op ev_raw h (dr2_flat fun W u v Q r1 r2 k => ⟨p, x, .int z, r1, r2, hk, k _ rfl⟩)
end
/-! ### the head, with the script's bits -/
theorem walk_GB {l : PySem.W.OpenLaw} {k : Nat} {x : Str} {q : Program} {loose : List Str} {XP : (Str → Option Value) → Heap → Prop} {YP : World → Heap → Prop} {d : DefRec} {K : Params → PySem.W.Frag} {sp : PySem.W.Frag → Spc} (hn : l.most = some 63) (hdf : d.params.defaults = []) (hr : Room k callerA)
    (hY : ∀ (w : World) (h : Heap), YP w h → (K w.params).In h) (hsp : ∀ (K : PySem.W.Frag) (ns : List Int), ns.length ≤ 63 → (∀ z ∈ ns, Builtin.Int.intBits z ≤ 1048576) → ∃ y : (sp K).ty, (sp K).args y = [.scr K (ns.map V.int)] ∧ (sp K).ok y ∧ ∀ d, (sp K).rel y d → d = .bl true)
    (F : ∀ (w : World) (mg : Str → Option Value) (fa : Addr) (h : Heap), (K w.params).In h → h.Ns mainGlobals mg → mg d.name = some (.ref fa) → ∃ fd : FuncData, (∀ (s : Shared) (u : Value), BindsTo s fd ⟨[u], []⟩ [(x, u)]) ∧ ∀ base : Heap, FnG l.prog w (K w.params) mg base k fa fd [x] (sp (K w.params))) :
    PySem.W.WalkO q loose XP YP l.row.toRowW d [] (fun f vs => PySem.call f vs) :=
  Att.attach_callB hn hdf fun w _ _ mg _ fa _ _ _ _ _ _ ns G Y _ _ _ hmg hobj hints hlen hbits hg =>
    have ⟨_, hb, hF⟩ := F w mg fa _ (hY w _ Y) G.T.g hmg
    head_call (hY w _ Y) G.T.g G.T.b G.T.builtins G.T.nolimit hg hobj hints (Nat.le_trans hlen (by decide)) hr hF hb (hsp _ ns hlen hbits)
end Dw

/-! xs[::-1] of lists and tuples, *xs in a list, written dicts as values. -/
namespace Dw
open PySem PySem.Spec PyProof.Rows L2 HT
section
variable {prog : Program} {w : World} {A : Around} {E : Value → Shared → Prop} {s : Shared}
theorem adjust_m1 (n : Nat) : Builtin.Slice.sliceAdjust none none (-1) (n : Int) = ((n : Int) - 1, -1) := rfl
theorem places_m1 (n : Nat) : Builtin.Slice.slicePlaces ((n : Int) - 1) (-1) (-1) = n := by
  unfold Builtin.Slice.slicePlaces
  have h1 : ¬ ((-1 : Int) > 0) := by omega
  rw [if_neg h1]
  by_cases h : (n : Int) - 1 > -1
  · rw [if_pos h, show (-(-1) : Int) = 1 by decide, Int.ediv_one]; omega
  · rw [if_neg h]; omega
theorem sliceApplied_m1 {sl : Addr} {tk : Tok} {n : Nat} {Q : Int × Int × Nat → Shared → Prop} (hs : s.heap.IsSliceOf sl .none .none (.int (-1) tk))
    (h : Q ((n : Int) - 1, -1, n) s) : wpAny (model prog w) A (Builtin.Slice.sliceApplied (.ref sl) (pure (n : Int))) Q E s := by
  obtain ⟨os, hos, hcs, hds⟩ := id hs
  unfold Builtin.Slice.sliceApplied Builtin.Slice.sliceFields
  refine wpAny_bind (wpAny_bind (wpAny_field hos hds (x := .none) rfl (wpAny_bind (wpAny_field hos hds (x := .none) rfl (wpAny_bind (wpAny_field hos hds (x := .int (-1) tk) rfl (wpAny_pure ?_)))))))
  refine wpAny_bind (slicePart_int ?_)
  show wpAny _ _ (if ((-1 : Int) == 0) = true then _ else _) _ _ s
  rw [if_neg (by decide)]
  refine wpAny_bind (slicePart_none (wpAny_bind (slicePart_none (wpAny_bind (wpAny_pure ?_)))))
  show wpAny _ _ (match Builtin.Slice.sliceAdjust none none (-1) (n : Int) with | (lo, hi) => pure (lo, (-1 : Int), Builtin.Slice.slicePlaces lo hi (-1))) _ _ s
  rw [adjust_m1 n]
  show wpAny _ _ (pure ((n : Int) - 1, (-1 : Int), Builtin.Slice.slicePlaces ((n : Int) - 1) (-1) (-1))) _ _ s
  rw [places_m1]
  exact wpAny_pure h
theorem pick_rev (xs : Array Value) : ((List.range xs.size).filterMap fun (m : Nat) => xs[((xs.size : Int) - 1 + (m : Int) * (-1)).toNat]?) = xs.toList.reverse := by
  apply List.ext_getElem?
  intro i
  have e4 : ((List.range xs.size).filterMap fun (m : Nat) => xs[((xs.size : Int) - 1 + (m : Int) * (-1)).toNat]?) = (List.range xs.size).map fun k => (xs.toList.reverse)[k]?.getD default := by
    refine fm_all fun k hk => ?_
    have hk := List.mem_range.mp hk
    rw [List.getElem?_reverse (by simpa using hk)]
    have h0 : ((xs.size : Int) - 1 + (k : Int) * (-1)).toNat = xs.size - 1 - k := by omega
    have h1 : xs.size - 1 - k < xs.size := by omega
    rw [h0, Array.getElem?_eq_getElem h1]
    simp only [Array.length_toList]
    rw [List.getElem?_eq_getElem (by simpa using h1)]
    simp
  rw [e4, List.getElem?_map]
  by_cases hi : i < xs.size
  · rw [List.getElem?_range hi, Option.map_some, List.getElem?_eq_getElem (by simpa using hi)]; rfl
  · rw [List.getElem?_eq_none (by simpa using hi), List.getElem?_eq_none (by simpa using hi)]; rfl
theorem getItem_tuple_rev {t sl : Addr} {items : Array Value} {tk : Tok} {Q : Value → Shared → Prop} (ht : IsTup s.heap t items) (hs : s.heap.IsSliceOf sl .none .none (.int (-1) tk))
    (h : Q (.ref s.heap.objs.size) { s with heap := s.heap.push { cls := .type "tuple", data := .seq items.toList.reverse.toArray } })
    (hsz : items.size ≤ sizeLine) : wpAny (model prog w) A (getItem (.ref t) (.ref sl)) Q E s := by
  have htake : sizeOk (.seq items.toList.reverse.toArray) := by
    show items.toList.reverse.toArray.size ≤ sizeLine
    rw [List.size_toArray, List.length_reverse, Array.length_toList]
    exact hsz
  obtain ⟨os, hos, hcs, hds⟩ := id hs
  have hTs : s.TypeIs (.ref sl) "slice" := ⟨os, hos, hcs⟩
  unfold getItem
  try with_reducible refine wpAny_holding ?_
  first | refine wpAny_bind (wpAny_pure ?_) | skip
  refine wpAny_bind (wpAny_sequenceKey ht.typeIs (by decide) ?_)
  refine wpAny_bind (wpAny_callSpecial?_slot (name := Str.ofString "__getitem__") ht.typeIs PyProof.Rows.slot_tuple_getitem
    (wpAny_call_entry PyProof.Rows.slot_tuple_getitem ht.typeIs entry_tuple_getitem ?_ (args_tuple_getitem _ _)))
  show wpAny _ _ (Builtin.Tuple.tupleItemsOf (.ref t) >>= _) _ _ s
  refine wpAny_bind (tupleItemsOf_ ht ?_)
  refine wpAny_bind (wpAny_typeOf hTs ?_)
  rw [if_pos (by decide)]
  refine wpAny_bind (sliceApplied_m1 hs ?_)
  have hno : ¬ ((((items.size : Int) - 1) == 0 && (-1 : Int) == 1 && items.size == items.size) = true) := by
    intro q
    rw [Bool.and_eq_true, Bool.and_eq_true] at q
    have q1 : (-1 : Int) = 1 := eq_of_beq q.1.2
    omega
  show wpAny _ _ (if (((items.size : Int) - 1) == 0 && (-1 : Int) == 1 && items.size == items.size) = true then _ else _) _ _ s
  rw [if_neg hno, pick_rev]
  first
    | exact wpAny_bind (m := Builtin.Tuple.tupleExact _) (wpAny_newObj_type (wpAny_pure ⟨_, rfl, wpAny_pure h⟩) htake)
    | exact wpAny_bind (m := Builtin.Tuple.tupleExact _) (wpAny_newObj_type (wpAny_bind (wpAny_pure (wpAny_pure ⟨_, rfl, wpAny_pure h⟩))) htake)
    | exact wpAny_bind (wpAny_bind (m := Builtin.Tuple.tupleExact _) (wpAny_newObj_type (wpAny_pure (wpAny_pure ⟨_, rfl, wpAny_pure h⟩)) htake))
    | exact wpAny_bind (wpAny_bind (m := Builtin.Tuple.tupleExact _) (wpAny_newObj_type (wpAny_pure ⟨_, rfl, wpAny_pure h⟩) htake))
end
/-- xs[::-1] -/
def tSlR (K : PySem.W.Frag) (ta tk : TE) : TE := fun σ H Q => ta σ H fun x H1 => tk σ H1 fun y H2 => ∃ a xs, x = .ref a ∧ y = .int (-1) ∧ ((SqL K H2 a xs ∧ ∀ p, H2 p = none → Q (.ref p) (upd H2 p (.lst xs.reverse))) ∨ (SqT K H2 a xs ∧ ∀ p, H2 p = none → Q (.ref p) (upd H2 p (.tup xs.reverse))))
theorem pe_sliceR {X : Cx} {e e3 : Expr} {ta tk : TE} {p2 pos : Pos} (he : PE X e ta) (hk : PE X e3 tk) : PE X (.Subscript e (.Slice none none (some e3) p2) pos) (tSlR X.K ta tk) := by
  refine ⟨fun pins s σ H Q I h => ?_⟩
  refine Subscript_ (thn (he.run pins s σ H _ I h) fun v s1 ⟨x, H1, I1, r1, q1⟩ => ?_)
  refine wpAny_Slice ?_
  rw [evalPart_none]
  refine wpAny_pure (wpAny_pure ?_)
  refine thn (hk.run pins s1 σ H1 _ I1 q1) fun vk s3 ⟨y, H3, I3, rk, q3⟩ => ?_
  obtain ⟨a, xs, rfl, rfl, q⟩ := q3
  obtain ⟨tk', rfl⟩ := rk
  cases r1
  have I4 : Inv X pins σ H3 { s3 with heap := s3.heap.push { cls := .type "slice", data := .fields #[.none, .none, .int (-1) tk'] } } := I3.kept (t' := s3.toks) fun b ob q => Heap.get?_push_of_some _ q
  generalize hs4 : ({ s3 with heap := s3.heap.push { cls := .type "slice", data := .fields #[.none, .none, .int (-1) tk'] } } : Shared) = s4 at I4 ⊢
  have hsl : s4.heap.IsSliceOf s3.heap.objs.size .none .none (.int (-1) tk') := by rw [← hs4]; exact Heap.IsSliceOf.new ..
  show wpAny (model X.prog X.w) X.A (subscriptTail e (.Slice none none (some e3) p2) (.ref a) (.ref s3.heap.objs.size)) (EP X pins σ Q) X.xe s4
  rcases q with ⟨hx, q⟩ | ⟨hx, q⟩
  · obtain ⟨its, r, ht, hz⟩ := I4.list hx
    have hlen := r.length
    refine tail_any (ops := [.ref a, .ref s3.heap.objs.size]) ht.isList.typeIs slot_list_getitem.lookup ?_ (by with_unfolding_all rfl)
    refine wpAny_getItem_list_slice ht.isList hsl .none .none (.int (-1) tk') (fun z => by cases z) ?_ (by rw [List.size_toArray] <;> omega)
    rw [pick_m1, List.toList_toArray]
    refine ⟨.ref s4.heap.objs.size, _, I4.laid (t' := s4.toks) (o := .lst xs.reverse) (fun b ob q => Heap.get?_push_of_some _ q) (Nat.le_refl _) ?_, rfl, q _ (I4.hok.fresh (Nat.le_refl _))⟩
    exact ⟨by rw [List.length_reverse]; exact hz, its.reverse, 0, Vals_reverse r, Heap.get?_push_size _ rfl⟩
  · obtain ⟨its, r, ht, hz⟩ := I4.tuple hx
    have hlen := r.length
    refine tail_any (ops := [.ref a, .ref s3.heap.objs.size]) ht.typeIs PyProof.Rows.slot_tuple_getitem.lookup ?_ (by with_unfolding_all rfl)
    refine getItem_tuple_rev ht hsl ?_ (by rw [List.size_toArray] <;> omega)
    rw [List.toList_toArray]
    refine ⟨.ref s4.heap.objs.size, _, I4.laid (t' := s4.toks) (o := .tup xs.reverse) (fun b ob q => Heap.get?_push_of_some _ q) (Nat.le_refl _) ?_, rfl, q _ (I4.hok.fresh (Nat.le_refl _))⟩
    exact ⟨by rw [List.length_reverse]; exact hz, its.reverse, Vals_reverse r, IsTup.new _ _⟩
theorem sliceRA {X : Cx} {e e3 : Expr} {ta tk : TE} {p2 pos : Pos} (K : PySem.W.Frag) (he : PE X e ta) (hk : PE X e3 tk) (hK : X.K = K := by rfl) : PE X (.Subscript e (.Slice none none (some e3) p2) pos) (tSlR K ta tk) := hK ▸ pe_sliceR he hk
section
variable {K : PySem.W.Frag} {Γ : Gam} {ta tk te : TE} {ds es : List D} {t : TA}
theorem ev_revT (h : Ev ta Γ (.tup ds)) (hk : Ev tk Γ (.int (-1))) : Ev (tSlR K ta tk) Γ (.tup ds.reverse) := fun F σ W Q g q =>
  h F σ W _ g fun v H s ⟨a, vs, ev, e, nu, l⟩ => hk F σ (W.at H) _ (g.same s) fun u H2 s2 r => by
    subst ev
    exact ⟨a, vs, rfl, r, .inr ⟨(e.same s2).sq, fun p hp => q _ _ (Same.trans s (Same.trans s2 (same_upd hp))) (rep_new_tup (W := W.at H2) ((g.same s).same (W := W.at H) s2).ok.dom hp (repL_rev (RepL.same (W := W.at H) s2 l)))⟩⟩
theorem evn_revL (h : EvB ta Γ ds) (hk : Ev tk Γ (.int (-1))) : EvN (tSlR K ta tk) Γ ds.reverse := fun F σ W Q g q =>
  h F σ W _ g fun a vs H s e l => hk F σ (W.at H) _ (g.same s) fun u H2 s2 r => ⟨a, vs, rfl, r, .inl ⟨.of (s2 _ _ e), fun p hp => q p vs.reverse _ (Same.trans s (Same.trans s2 (same_upd hp))) (s.free (s2.free hp)) upd_same (RepL.plus (W := W.at H2) hp (same_upd hp) (repL_rev (RepL.same (W := W.at H) s2 l)))⟩⟩
/-- *xs -/
theorem eva_starX (h : Ev te Γ (.tup ds) ∨ EvB te Γ ds) (hr : EvA t Γ es) : EvA (StX.tStar K te t) Γ (ds ++ es) := fun F σ W Q g k => by
  rcases h with h | h
  · exact h F σ W _ g fun v H s ⟨a, vs, ev, e, nu, l⟩ => ⟨a, vs, ev, .inl (e.sq), hr F σ (W.at H) _ (g.same s) fun ws H2 s2 r => k _ H2 (Same.trans s s2) ((RepL.same (W := W.at H) s2 l).append r)⟩
  · exact h F σ W _ g fun a vs H s e l => ⟨a, vs, rfl, .inr (.of e), hr F σ (W.at H) _ (g.same s) fun ws H2 s2 r => k _ H2 (Same.trans s s2) ((RepL.same (W := W.at H) s2 l).append r)⟩
/-! ### {}, {'a': 1} -/
theorem ev_dnew : Ev tDNewK Γ (.dct [] []) := fun F σ W Q g k => fun p hp => k _ _ (same_upd hp) ⟨p, [], rfl, upd_same, fun u => g.ok.dom p u hp, rfl, rfl⟩
theorem ev_disp1 {x : Str} {z : Int} : Ev (tDisp [(tC (.str x), tC (.int z))]) Γ (.dct [Sum.inr x] [.int z]) := fun F σ W Q g k => fun p hp =>
  ⟨upd_same, [(Sum.inr x, .int z)], rfl, by show 1 ≤ 15; omega, by
    rw [upd_upd]
    exact k _ _ (same_upd hp) ⟨p, [.int z], rfl, upd_same, fun u => g.ok.dom p u hp, rfl, .int z, [], rfl, rfl, rfl⟩⟩
end
end Dw

/-! t != (), a, b, c = [], x, y, tuple(xs) with draws, cuts of the script. -/
namespace Dw
open PySem PySem.Spec PyProof.Rows L2 HT
abbrev rNeT0 (K : PySem.W.Frag) : R2 := fun x y H Q => ∃ a b xs, x = .ref a ∧ y = .ref b ∧ SqT K H a xs ∧ SqT K H b [] ∧ Q (.bl (!xs.isEmpty)) H
theorem op_neT0 {X : Cx} (hu : X.A.units + 64 < cLine) : OpR X (compareOp .NotEq) (rNeT0 X.K) := by
  intro pins s σ H x y v u Q I rx ry h
  obtain ⟨a, b, xs, rfl, rfl, ha, hb, q⟩ := h
  cases rx
  cases ry
  obtain ⟨its, r1, ⟨o, ho, hc, n, hd⟩, _⟩ := I.tuple ha
  obtain ⟨its2, r2, ⟨o2, ho2, hc2, n2, hd2⟩, _⟩ := I.tuple hb
  cases r2
  have e : (!((List.range (min its.toArray.size ([] : List Value).toArray.size)).all (fun _ => true) && its.toArray.size == ([] : List Value).toArray.size)) = !xs.isEmpty := by
    have h1 := r1.length
    rw [show (List.range (min its.toArray.size ([] : List Value).toArray.size)).all (fun _ => true) = true from List.all_eq_true.mpr fun _ _ => rfl, Bool.true_and, List.size_toArray, List.size_toArray, ← h1]
    cases xs <;> rfl
  refine PySem.EqBoolInt.of_rcne (SeqAt.RcNeAt.tuples (e := fun _ => true) ⟨o, ho, hc, n, hd⟩ ⟨o2, ho2, hc2, n2, hd2⟩ (by omega) (fun j h1 h2 => absurd h2 (by simp))) ?_
  exact ⟨.bl _, H, I, by rw [e]; rfl, q⟩
theorem neT0A {X : Cx} (K : PySem.W.Frag) (hu : X.A.units + 64 < cLine) (hK : X.K = K := by rfl) : OpR X (compareOp .NotEq) (rNeT0 K) := hK ▸ op_neT0 hu
theorem ne_T0 {K : PySem.W.Frag} {ds : List D} : DR2 (rNeT0 K) (.tup ds) (.tup []) (.bl (!ds.isEmpty)) := dr2_flat fun W u v Q ⟨a, vs, eu, e, nu, l⟩ ⟨b, ws, ev, e2, nu2, l2⟩ k => ⟨a, b, vs, eu, ev, e.sq, by rw [show ws = [] from l2] at e2; exact e2.sq, k _ (by
  have := l.length
  cases ds <;> cases vs <;> first | rfl | (simp at this))⟩
theorem ds_par3_o {Γ : Gam} {De : DE} {i j l : Nat} {t1 : TE} {t2 : TA} {ds : List D} (h1 : EvN t1 Γ ds) (h : DlA t2 Γ fun es Γ1 => ∃ y z, es = [y, z] ∧ De.nx (((Γ1.set i (.own ds)).set j (.val y)).set l (.val z))) : Ds (tPar3 i j l (tCons t1 t2)) Γ De := fun F σ W Dr g k =>
  h1 F σ W _ g fun a vs H s n e r => by
    obtain ⟨st1, g1, no1, f1, p1⟩ := g.plus s n (by rw [e]; exact fun z => nomatch z)
    have g1' : SR (fun b => F b ∨ b = a) Γ σ (W.plus H a) := ⟨⟨g1.ok.dom, fun b z => z.elim (g1.ok.fu b) (fun z => z ▸ .inr rfl), fun b z => let ⟨u, f, p⟩ := g1.ok.pu b z; ⟨u, fun w => w.elim f (fun w => p1 (w ▸ z)), p⟩⟩, g1.len, g1.val, fun i ds e => let ⟨b, vs, e1, u, f, p, q, r⟩ := g1.own i ds e; ⟨b, vs, e1, u, fun w => w.elim f (fun w => no1 ⟨i, ds, e, w ▸ e1⟩), p, q, r⟩, g1.apart⟩
    refine h (fun b => F b ∨ b = a) σ (W.plus H a) _ g1' fun vs2 W1 es Γ1 st g2 r2 ⟨y, z, e2, q⟩ => ?_
    subst e2
    obtain ⟨v, _, rfl, ry, w, _, rfl, rz, rfl⟩ := r2
    have ea : W1.H a = some (.lst vs) := (st.fr a (.inr rfl)).trans e
    have g2' : SR F Γ1 σ W1 := ⟨⟨g2.ok.dom, fun b z => g2.ok.fu b (.inl z), fun b z => let ⟨u, f, p⟩ := g2.ok.pu b z; ⟨u, fun w => f (.inl w), p⟩⟩, g2.len, g2.val, fun i ds e => let ⟨b, vs, e1, u, f, p, q, r⟩ := g2.own i ds e; ⟨b, vs, e1, u, fun w => f (.inl w), p, q, r⟩, g2.apart⟩
    have no2 : ¬ ownA Γ1 σ a := fun ⟨i, ds, e1, e2⟩ => by
      obtain ⟨b, vs, e3, _, f, _⟩ := g2.own i ds e1
      rw [e2] at e3; cases e3
      exact f (.inr rfl)
    have p2 : ¬ W1.P a := fun z => (g2.ok.pu a z).2.1 (.inr rfl)
    have ra : RepL W1 ds vs := r.stp st
    have g3 := g2'.adopt (i := i) (g2.ok.fu a (.inr rfl)) f1 p2 ea ra no2
    exact ⟨.ref a, v, w, rfl, k.nx _ W1 _ (st1.trans (st.sub fun b z => .inl z)) ((g3.set ry).set rz) q⟩
section
variable {K : PySem.W.Frag} {Γ : Gam} {ta te : TE}
theorem dl_tuple {Q : D → Gam → Prop} (h : Dl ta Γ fun d Γ1 => ∃ ds, d = .lst ds ∧ Q (.tup ds) Γ1) : Dl (tCB (rTupleOf K) (tCons ta tNil)) Γ Q := fun F σ W R g k => h F σ W _ g fun v W1 d Γ1 st g1 r ⟨ds, e, q⟩ => by
  subst e
  obtain ⟨p, vs, rfl, e, nu, l⟩ := r
  exact ⟨p, vs, rfl, .inl ⟨.of e, fun n hn => k _ (W1.at _) (.tup ds) Γ1 (st.trans (Stp.of_same g1.ok (same_upd hn))) (g1.same (same_upd hn)) (rep_new_tup g1.ok.dom hn l) q⟩⟩
theorem evn_sliceXY {tl th : TO} {ns : List Int} {lo hi : Option Int} (h : Ev te Γ (.scr K (ns.map V.int))) (h1 : Eo tl Γ lo) (h2 : Eo th Γ hi) : EvN (tSl (rSlX K) te tl th) Γ (intD (cutI ns lo hi)) := fun F σ W Q g k => h F σ W _ g fun v H s r => h1 F σ (W.at H) _ (g.same s) fun H1 s1 => h2 F σ ((W.at H).at H1) _ ((g.same s).same s1) fun H2 s2 => by
  have sm : Same H H2 := Same.trans s1 s2
  obtain ⟨a, e, q⟩ := scr_sq (r.same (W := W.at H) sm)
  refine .inl ⟨a, _, e, q, fun p hp => k p _ _ (Same.trans s (Same.trans sm (same_upd hp))) (s.free (sm.free hp)) upd_same (RepL.ints.mpr ?_)⟩
  unfold cutI L2.cutV
  simp [List.map_take, List.map_drop]
end
theorem cut_take (ds : List D) (j : Nat) : Dw.cutD ds none (some (j : Int)) = ds.take j := by
  unfold Dw.cutD
  rw [sIx_none, sIx_nat, List.drop_zero, Nat.sub_zero]
  by_cases h : j ≤ ds.length
  · rw [Nat.min_eq_left h]
  · rw [Nat.min_eq_right (by omega), List.take_length, List.take_of_length_le (by omega)]
theorem cut_drop (ds : List D) (j : Nat) : Dw.cutD ds (some (j : Int)) none = ds.drop j := by
  unfold Dw.cutD
  rw [sIx_none, sIx_nat]
  by_cases h : j ≤ ds.length
  · rw [Nat.min_eq_left h, List.take_of_length_le (by rw [List.length_drop]; exact Nat.le_refl _)]
  · rw [Nat.min_eq_right (by omega), Nat.sub_self, List.take_zero, List.drop_eq_nil_of_le (by omega)]
theorem cut_mid (ds : List D) (j : Nat) (h : j < ds.length) : Dw.cutD ds (some (j : Int)) (some ((j : Int) + 1)) = (ds.drop j).take 1 := by
  unfold Dw.cutD
  rw [show ((j : Int) + 1) = ((j + 1 : Nat) : Int) by omega, sIx_nat, sIx_nat, Nat.min_eq_left (by omega : j ≤ ds.length), Nat.min_eq_left (by omega : j + 1 ≤ ds.length), Nat.add_sub_cancel_left]
theorem cut_drop1 (ds : List D) (j : Nat) : Dw.cutD ds (some ((j : Int) + 1)) none = ds.drop (j + 1) := by
  rw [show ((j : Int) + 1) = ((j + 1 : Nat) : Int) by omega, cut_drop]
end Dw

/-! tuple(range(n)), x not in a list of signs. -/
namespace Dw
open PySem PySem.Spec PyProof.Rows L2
section
variable {K : PySem.W.Frag} {Γ : Gam} {ta : TE}
theorem ev_tupRg {n : Nat} (h : Ev ta Γ (.int n)) (hn : n ≤ 16777216) : Ev (tTupRg (tRg1 ta)) Γ (.tup (rng n)) := fun F σ W Q g k => h F σ W _ g fun v H s r => ⟨n, r, RgOk.of_le (by omega) (by omega) (by omega) (by omega), fun q hq => by
  have e : rgV 0 n = (rng n).map scV := by
    unfold rgV rng
    rw [List.map_map]
    refine List.map_congr_left fun i _ => ?_
    show V.int (0 + (i : Int)) = V.int i
    rw [Int.zero_add]
  have l : RepL (W.at H) (rng n) (rgV 0 n) := by
    have := (RepL.ints (W := W.at H) (ns := (List.range n).map fun (i : Nat) => (i : Int)) (vs := rgV 0 n)).mpr (by
      rw [e]; unfold rng; rw [List.map_map, List.map_map]; rfl)
    rw [List.map_map] at this
    exact this
  exact k _ _ (Same.trans s (same_upd hq)) (rep_new_tup (W := W.at H) (g.same s).ok.dom hq l)⟩
end
end Dw

/-! cuts of texts, x is not False, t == (). -/
namespace Dw
open PySem PySem.Spec PyProof.Rows L2 HT
section
variable {K : PySem.W.Frag} {Γ : Gam} {ta te : TE} {x : Str}
theorem ev_sliceS {tl th : TO} {lo hi : Option Int} (h : Ev te Γ (.str x)) (hz : x.length ≤ sizeLine) (h1 : Eo tl Γ lo) (h2 : Eo th Γ hi) : Ev (tSl rSlS te tl th) Γ (.str (cutS x lo hi)) := fun F σ W Q g k => h F σ W _ g fun v H s r => h1 F σ (W.at H) _ (g.same s) fun H1 s1 => h2 F σ ((W.at H).at H1) _ ((g.same s).same s1) fun H2 s2 =>
  ⟨x, r, hz, k _ H2 (Same.trans s (Same.trans s1 s2)) rfl⟩
theorem cutS_take (l : List Nat) (j : Nat) : cutS (tx l) none (some (j : Int)) = tx (l.take j) := by
  unfold cutS
  rw [sIx_none, sIx_nat, List.drop_zero, Nat.sub_zero, tx_cps, tx_len]
  by_cases h : j ≤ l.length
  · rw [Nat.min_eq_left h]; rfl
  · rw [Nat.min_eq_right (by omega), List.take_length, List.take_of_length_le (by omega)]; rfl
theorem cutS_drop (l : List Nat) (j : Nat) : cutS (tx l) (some (j : Int)) none = tx (l.drop j) := by
  unfold cutS
  rw [sIx_none, sIx_nat, tx_cps, tx_len]
  by_cases h : j ≤ l.length
  · rw [Nat.min_eq_left h, List.take_of_length_le (by rw [List.length_drop]; exact Nat.le_refl _)]; rfl
  · rw [Nat.min_eq_right (by omega), Nat.sub_self, List.take_zero, List.drop_eq_nil_of_le (by omega)]; rfl
theorem cutS_drop1 (l : List Nat) (j : Nat) : cutS (tx l) (some ((j : Int) + 1)) none = tx (l.drop (j + 1)) := by
  rw [show ((j : Int) + 1) = ((j + 1 : Nat) : Int) by omega, cutS_drop]
theorem not_bl (a b : Bool) : DR2 rNotB (.bl a) (.bl b) (.bl (!decide (a = b))) := dr2_flat fun W u v Q r1 r2 k => ⟨a, b, r1, r2, k _ rfl⟩
theorem eq_nilX {k : Nat} {ds : List D} (h : dOk k (.tup ds) = true) (hk : k ≤ 64) : DR2 (rEqX K) (.tup ds) (.tup []) (.bl ds.isEmpty) := by
  obtain ⟨h1, h2⟩ := dOk_shaped h hk
  have := eq_deep (K := K) (q := .tup []) h1 rfl h2 rfl
  rw [show PyData.eqv (py (.tup ds)) (py (.tup [])) = PyData.eqvAll (pys ds) (pys []) from rfl, eqv_nil] at this
  exact this
end
end Dw

/-! xs != [] of any list. -/
namespace Dw
open PySem PySem.Spec PyProof.Rows L2 HT
abbrev rNeL0 (K : PySem.W.Frag) : R2 := fun x y H Q => ∃ a b xs, x = .ref a ∧ y = .ref b ∧ SqL K H a xs ∧ SqL K H b [] ∧ Q (.bl (!xs.isEmpty)) H
theorem op_neL0 {X : Cx} (hu : X.A.units + 64 < cLine) : OpR X (compareOp .NotEq) (rNeL0 X.K) := by
  intro pins s σ H x y v u Q I rx ry h
  obtain ⟨a, b, xs, rfl, rfl, ha, hb, q⟩ := h
  cases rx
  cases ry
  obtain ⟨its, r1, p1, _⟩ := I.list ha
  obtain ⟨its2, r2, p2, _⟩ := I.list hb
  cases r2
  cases xs with
  | nil =>
    cases r1
    refine PySem.EqBoolInt.of_rcne (SeqAt.RcNeAt.lists (e := fun _ => true) p1.isList p2.isList rfl (by omega) (fun j h1 h2 => absurd h2 (by simp))) ?_
    exact ⟨.bl _, H, I, rfl, q⟩
  | cons x xs =>
    cases r1
    refine PySem.EqBoolInt.of_rcne (SeqAt.RcNeAt.lists_lengths p1.isList p2.isList (by simp) (by omega)) ?_
    exact ⟨.bl _, H, I, rfl, q⟩
theorem neL0A {X : Cx} (K : PySem.W.Frag) (hu : X.A.units + 64 < cLine) (hK : X.K = K := by rfl) : OpR X (compareOp .NotEq) (rNeL0 K) := hK ▸ op_neL0 hu
theorem ne_L0 {K : PySem.W.Frag} {ds : List D} : DR2 (rNeL0 K) (.lst ds) (.lst []) (.bl (!ds.isEmpty)) := dr2_flat fun W u v Q ⟨a, vs, eu, e, nu, l⟩ ⟨b, ws, ev, e2, nu2, l2⟩ k => ⟨a, b, vs, eu, ev, .of e, by rw [show ws = [] from l2] at e2; exact .of e2, k _ (by
  have := l.length
  cases ds <;> cases vs <;> first | rfl | (simp at this))⟩
end Dw

/-! a, b = a list; {i: x, j: y}.get(k, z). -/
namespace Dw
open PySem PySem.Spec PyProof.Rows L2 HT
theorem lstUA (K : PySem.W.Frag) (n : Nat) {X : Cx} {pos : Pos} {es : List Expr} {k : Nat} {t : TGs} (hc : X.calm = true) (h : PGs X es t) (hK : X.K = K := by rfl)
    (hn : (assignEach es X.env).length = n := by rfl) (hst : (assignEach es X.env).findIdx? (·.1) = none := by rfl) : PG X (.Tuple es k pos) (gLst K n t) := hK ▸ pg_lst hc h hn hst
theorem dg_lst2 {K : PySem.W.Frag} {g1 g2 : TG} {is js : List Nat} {x y : D} {Γ Γ1 Γ2 : Gam} (h1 : DG g1 is x Γ Γ1) (h2 : DG g2 js y Γ1 Γ2) : DG (gLst K 2 (gCons g1 (gCons g2 gNil))) (is ++ js) (.lst [x, y]) Γ Γ2 := fun F σ W v R g r k => by
  obtain ⟨a, vs, e, ha, nu, v1, _, rfl, r1, v2, _, rfl, r2, rfl⟩ := r
  refine ⟨a, [v1, v2], e, .of ha, rfl, v1, [v2], rfl, h1 F σ W v1 _ g r1 fun σ1 g1 w1 => ⟨v2, [], rfl, h2 F σ1 W v2 _ g1 r2 fun σ2 g2 w2 => ⟨rfl, k σ2 g2 fun vs h => ?_⟩⟩⟩
  rw [w2 vs fun i hi => h i (List.mem_append_right _ hi), w1 vs fun i hi => h i (List.mem_append_left _ hi)]
section
variable {Γ : Gam} {td ty : TE}
theorem ev_disp_ij {a b : Nat} {i j : Int} {x y : Str} (h1 : Γ[a]? = some (.val (.int i))) (h2 : Γ[b]? = some (.val (.int j))) (hne : i ≠ j) : Ev (tDisp [(tVar a, tC (.str x)), (tVar b, tC (.str y))]) Γ (.dct [Sum.inl i, Sum.inl j] [.str x, .str y]) := fun F σ W Q g k => fun p hp => by
  obtain ⟨v0, e0, r0⟩ := g.val a _ h1
  obtain ⟨v1, e1, r1⟩ := g.val b _ h2
  rw [show v0 = V.int i from r0] at e0
  rw [show v1 = V.int j from r1] at e1
  refine ⟨.int i, e0, .int j, e1, upd_same, [(Sum.inl i, .str x), (Sum.inl j, .str y)], rfl, by show 2 ≤ 15; omega, ?_⟩
  rw [upd_upd]
  have : mergeK [] [((Sum.inl i : Key), V.str x), (Sum.inl j, V.str y)] = [(Sum.inl i, .str x), (Sum.inl j, .str y)] := by
    simp [mergeK, putK, hne]
  rw [this]
  exact k _ _ (same_upd hp) ⟨p, [.str x, .str y], rfl, upd_same, fun u => g.ok.dom p u hp, rfl, .str x, [.str y], rfl, rfl, .str y, [], rfl, rfl, rfl⟩
theorem ev_dget_ij {i j r : Int} {x y z : Str} (h : Ev td Γ (.dct [Sum.inl i, Sum.inl j] [.str x, .str y])) (hk : Ev ty Γ (.int r)) : Ev (tDGet2 td ty (tC (.str z))) Γ (.str (if i = r then x else if j = r then y else z)) := fun F σ W Q g k => h F σ W _ g fun v H s ⟨a, vs, ev, e, nu, hl, rl⟩ => by
  subst ev
  obtain ⟨u, _, rfl, r1, u2, _, rfl, r2, rfl⟩ := rl
  rw [show u = V.str x from r1, show u2 = V.str y from r2] at e
  refine ⟨a, rfl, .inl ⟨_, .inl e⟩, hk F σ (W.at H) _ (g.same s) fun w H2 s2 rw' => ?_⟩
  refine ⟨valV [((Sum.inl i : Key), V.str x), (Sum.inl j, V.str y)] (Sum.inl r), ?_, ?_⟩
  · rw [show w = V.int r from rw']; exact DGet.k (k := Sum.inl r) (s2 _ _ e)
  · refine k _ H2 (Same.trans s s2) ?_
    show _ = V.str _
    by_cases h1 : i = r
    · rw [valV_pos (by rw [h1]), if_pos h1]; rfl
    · rw [valV_neg (fun z => h1 (Sum.inl.inj z)), if_neg h1]
      by_cases h2 : j = r
      · rw [valV_pos (by rw [h2]), if_pos h2]; rfl
      · rw [valV_neg (fun z => h2 (Sum.inl.inj z)), if_neg h2]; rfl
end
end Dw

/-! [b for a in xs for b in a]; a value not in a list; repr of a tuple. -/
namespace Dw
open PySem PySem.Spec PyProof.Rows L2 HT
theorem repL_ord {W : Wd} : ∀ {o : List Nat} {vs : List V}, RepL W (o.map fun k : Nat => D.int k) vs → vs = o.map fun k : Nat => V.int k
  | [], vs, h => h
  | a :: o, vs, h => by
    obtain ⟨v, r, rfl, rv, rr⟩ := h
    rw [show v = V.int a from rv, repL_ord rr]; rfl
theorem ord_repL {W : Wd} : ∀ (o : List Nat), RepL W (o.map fun k : Nat => D.int k) (o.map fun k : Nat => V.int k)
  | [] => rfl
  | a :: o => ⟨_, _, rfl, rfl, ord_repL o⟩
theorem evn_lc2T {K : PySem.W.Frag} {wi : TI} {Γ : Gam} {a b : Nat} {xs : List (List Nat)} (h : Ei wi Γ (xs.map fun o => .tup (o.map fun k : Nat => D.int k))) (ha : a < Γ.length) (hb : b < Γ.length) (hab : b ≠ a) (hz : xs.flatten.length ≤ 1000000) :
    EvN (tLc2 wi (gName a) tYes (iAnyR K (tVar a)) (gName b) tYes (tVar b) [a, b] [b]) Γ (xs.flatten.map fun k : Nat => D.int k) := fun F σ W R s k =>
  h F σ W _ s fun I H1 st it => fun Dn hD => by
    have wd : W.H Dn = none := st.free hD
    have la : a < σ.length := by rw [← s.len]; exact ha
    have lb : b < σ.length := by rw [← s.len]; exact hb
    refine ⟨fun i m H' => m = xs.length - i ∧ i ≤ xs.length ∧ Same H1 H' ∧ H' Dn = some (.lst ((xs.take i).flatten.map fun k : Nat => V.int k)), ⟨_, rfl, Nat.zero_le _, same_upd hD, upd_same⟩, ?_⟩
    rintro i m H' ⟨rfl, hi, sm, hus⟩
    by_cases hlt : i < xs.length
    · have hx : xs[i]? = some xs[i] := List.getElem?_eq_getElem hlt
      have hx' : (xs.map fun o : List Nat => D.tup (o.map fun k : Nat => D.int k))[i]? = some (.tup (xs[i].map fun k : Nat => D.int k)) := by rw [List.getElem?_map, hx]; rfl
      obtain ⟨go, yl⟩ := it.go (W.plus H' Dn) i _ (fun b hb z => hb.elim (fun u => s.ok.dom b u ((Same.trans st sm).free z)) (fun e => by rw [e] at z; exact absurd (hus.symm.trans z) (fun q => nomatch q))) sm (fun b u e n z => z.elim n fun z => by rw [z] at e; exact absurd (e.symm.trans hD) (fun q => nomatch q)) rfl hx'
      refine .inr ⟨go, fun H2 => Same H1 H2 ∧ H2 Dn = some (.lst ((xs.take (i + 1)).flatten.map fun k : Nat => V.int k)), fun H2 q => ⟨xs.length - (i + 1), by omega, rfl, hlt, q⟩, fun v H2 y => ?_⟩
      obtain ⟨sm2, p, vs, rfl, hp, nu, rl⟩ := yl v H2 y
      have hp : TupAt H2 p vs := hp
      have hpD : p ≠ Dn := fun z => nu (Or.inr z)
      obtain rfl := repL_ord rl
      have hD2 : H2 Dn = some (.lst ((xs.take i).flatten.map fun k : Nat => V.int k)) := sm2 _ _ hus
      have sm3 : Same H1 H2 := Same.trans sm sm2
      have fl : (xs.take (i + 1)).flatten = (xs.take i).flatten ++ xs[i] := by rw [List.take_add_one, hx, List.flatten_append]; simp
      have lz : (xs.take i).flatten.length + xs[i].length ≤ 1000000 := by
        have e : xs.flatten = (xs.take (i + 1)).flatten ++ (xs.drop (i + 1)).flatten := by rw [← List.flatten_append, List.take_append_drop]
        rw [e, List.length_append, fl, List.length_append] at hz
        omega
      show wipe ((wipe σ [a, b]).set a (some (.ref p))) [a, b] = wipe σ [a, b] ∧ tYes _ H2 _
      refine ⟨by rw [wipe_set List.mem_cons_self, wipe_wipe], ?_⟩
      simp only [tYes]
      rw [if_pos trivial]
      refine .inl (.inr (.inl ?_))
      refine ⟨.ref p, by rw [List.getElem?_set_self (by rw [wipe_length]; exact la)], p, rfl, ⟨_, hp.sq⟩, ?_⟩
      refine ⟨fun j k H3 => k = xs[i].length - j ∧ j ≤ xs[i].length ∧ Same H1 H3 ∧ TupAt H3 p (xs[i].map fun k : Nat => V.int k) ∧ H3 Dn = some (.lst (((xs.take i).flatten ++ xs[i].take j).map fun k : Nat => V.int k)), ⟨_, rfl, Nat.zero_le _, sm3, hp, by rw [hD2, List.take_zero, List.append_nil]⟩, ?_⟩
      rintro j kk H3 ⟨rfl, hj, s3, hp3, hD3⟩
      by_cases hjl : j < xs[i].length
      · have hy : (xs[i].map fun k : Nat => V.int k)[j]? = some (V.int xs[i][j]) := by rw [List.getElem?_map, List.getElem?_eq_getElem hjl]; rfl
        refine .inr ⟨⟨_, _, hp3.sq, hy⟩, fun H4 => Same H1 H4 ∧ TupAt H4 p (xs[i].map fun k : Nat => V.int k) ∧ H4 Dn = some (.lst (((xs.take i).flatten ++ xs[i].take (j + 1)).map fun k : Nat => V.int k)), fun H4 q => ⟨xs[i].length - (j + 1), by omega, rfl, hjl, q⟩, fun y H4 hyy => ?_⟩
        obtain ⟨rfl, yy⟩ := hyy
        have e := yy _ hp3.sq
        rw [hy] at e
        cases e
        simp only [gName, tYes]
        refine ⟨by rw [wipe_set List.mem_cons_self, wipe_wipe], ?_⟩
        rw [if_pos trivial]
        refine ⟨V.int xs[i][j], by rw [List.getElem?_set_self (by rw [wipe_length, List.length_set, wipe_length]; exact lb)], _, hD3, ?_, ?_⟩
        · rw [List.length_map, List.length_append]
          refine Nat.lt_of_le_of_lt (m := 1000000) ?_ (show 1000000 < sizeLine by decide)
          have := List.length_take_le j xs[i]
          omega
        · refine ⟨fun b' u e => ?_, hp3.imp fun u e => by rw [upd_ne hpD]; exact e, ?_⟩
          · have nb : b' ≠ Dn := fun z => by rw [z, hD] at e; cases e
            rw [upd_ne nb]
            exact s3 _ _ e
          · have e2 : xs[i].take (j + 1) = xs[i].take j ++ [xs[i][j]] := by rw [List.take_add_one, List.getElem?_eq_getElem hjl]; rfl
            rw [upd_same, e2, ← List.append_assoc, List.map_append (l₁ := (xs.take i).flatten ++ xs[i].take j)]; rfl
      · have e : j = xs[i].length := by omega
        subst e
        refine .inl ⟨⟨_, hp3.sq, by rw [List.length_map]; exact Nat.le_refl _⟩, s3, ?_⟩
        rw [hD3, List.take_length, fl]
    · have e : i = xs.length := by omega
      subst e
      rw [List.take_length] at hus
      exact .inl ⟨by have := it.stop H' sm; rw [List.length_map] at this; exact this, k Dn _ H' (Same.trans st sm) wd hus (ord_repL _)⟩
/-! a tuple of whole numbers, not in a list of such -/
theorem notInDA {X : Cx} {k : Nat} (K : PySem.W.Frag) (r : Room k X.A) (hK : X.K = K := by rfl) : OpR X (compareOp .NotIn) (rNotInD K) := hK ▸ op_notInD (by have := r.un; omega)
theorem any_eqv (o : List Nat) : ∀ l : List (List Nat), ((pys (l.map fun p => D.tup (ordN p))).any fun z => PyData.eqv z (py (.tup (ordN o)))) = decide (o ∈ l)
  | [] => by simp [pys]
  | p :: l => by
    show (PyData.eqvAll (pys (ordN p)) (pys (ordN o)) || (pys (l.map fun p => D.tup (ordN p))).any _) = _
    rw [any_eqv o l, eqv_ints, Bool.eq_iff_iff, Bool.or_eq_true, decide_eq_true_eq, decide_eq_true_eq, decide_eq_true_eq, List.mem_cons]
    exact or_congr ⟨Eq.symm, Eq.symm⟩ Iff.rfl
theorem not_inD {K : PySem.W.Frag} (o : List Nat) (l : List (List Nat)) : DR2 (rNotInD K) (.tup (ordN o)) (.lst (l.map fun p => D.tup (ordN p))) (.bl (!decide (o ∈ l))) := dr2_flat fun W u v Q a b k => by
  have t1 : dOk 1 (.tup (ordN o)) = true := dOks_map fun _ _ => rfl
  obtain ⟨h1, h2⟩ := dOk_shaped t1 (by decide)
  obtain ⟨h3, h4⟩ := dOk_shaped (dOk_ordT l) (by decide)
  refine ⟨_, _, dp_of _ u h1 a, dp_of _ v h3 b, h2, h4, k _ ?_⟩
  show V.bl _ = V.bl _
  rw [any_eqv]
theorem ev_reprT {K : PySem.W.Frag} {Γ : Gam} {ta : TE} {ds : List D} {k : Nat} (h : Ev ta Γ (.tup ds)) (h1 : dOk k (.tup ds) = true) (hk : k ≤ 64) (h2 : shOk (.tup ds) = true) (h3 : (PyData.shown (py (.tup ds))).length ≤ sizeLine) : Ev (tCB (rRepr K) (tCons ta tNil)) Γ (.str (PyData.shown (py (.tup ds)))) := fun F σ W Q g q =>
  h F σ W _ g fun v H s r => by
    obtain ⟨a, vs, rfl, _⟩ := id r
    obtain ⟨p1, _, p3⟩ := dOk_py k _ h1
    obtain ⟨s1, s2⟩ := shOk_py _ h2
    exact ⟨a, _, rfl, dp_of (W := W.at H) (.tup ds) _ p1 r, s1, s2, Nat.le_trans p3 hk, h3, q _ H s rfl⟩
theorem strs_len : ∀ xs : List Str, (∀ x ∈ xs, okS x ∧ x.length ≤ 1000) → ((PyData.shownAll (pys (xs.map D.str))).map fun t => t.length + 2).sum ≤ 10004 * xs.length
  | [], _ => Nat.zero_le _
  | x :: xs, h => by
    obtain ⟨a, b⟩ := h x List.mem_cons_self
    have a' : x.cps.all (fun c => decide (c < 1114112)) = true := a
    rw [← Array.all_toList, List.all_eq_true] at a'
    have e := PySem.StrLaws.reprText_len x fun c hc => Nat.lt_of_lt_of_le (of_decide_eq_true (a' c hc)) (by decide)
    have ih := strs_len xs fun y hy => h y (List.mem_cons_of_mem _ hy)
    show (reprText x).length + 2 + ((PyData.shownAll (pys (xs.map D.str))).map fun t => t.length + 2).sum ≤ 10004 * (xs.length + 1)
    omega
end Dw

/-! dicts whose keys are tuples of whole numbers, made and walked by one def. -/
namespace Dw
open PySem PySem.Spec PyProof.Rows L2 HT
/-- {(): y}, or another tuple of whole numbers and texts -/
def tDispT1 (tk tv : TE) : TE := fun σ H Q => ∀ p, H p = none → tk σ (upd H p (.dT [])) fun x H1 => tv σ H1 fun y H2 => ∃ (b : Addr) (k : List Key), x = .ref b ∧ H2 p = some (.dT []) ∧ H2 b = some (.tup (k.map kV)) ∧ Q (.ref p) (upd H2 p (.dT [(k, y)]))
theorem pe_dispT1 {X : Cx} {pos : Pos} {k v : Expr} {tk tv : TE} (hu : X.A.units + 1 < cLine) (hk : PE X k tk) (hv : PE X v tv) : PE X (.Dict [some k] [v] pos) (tDispT1 tk tv) := by
  refine ⟨fun pins s σ H Q I q => ?_⟩
  have hn := I.hok.fresh (Nat.le_refl s.heap.objs.size)
  have I1 := I.laid (a := s.heap.objs.size) (o := .dT []) (h' := s.heap.push { cls := .type "dict", data := .dict #[] }) (t' := s.toks) (fun _ _ e => Heap.get?_push_of_some _ e) (Nat.le_refl _) (dt_empty s.heap I.big)
  rw [arm_eval_Dict, zip_pairTrees [some k] [v] X.env pos rfl rfl, dictDisplay_pairs _ (by intro h; cases h) (by show 1 < 17; decide)]
  refine wpAny_bind (wpAny_standAt (wpAny_bind (wpAny_subDictH (knd := tupleKind (mixKind X.prog X.w)) (Nat.lt_of_succ_lt hu) (by show 1 ≤ 15; decide) ?_)))
  refine pairTrees_cons_walk (thn (hk.run pins _ σ _ _ I1 (q _ hn)) fun u s1 ⟨x, H1, I2, rx, q1⟩ => thn (hv.run pins s1 σ H1 _ I2 q1) fun w2 s2 ⟨y, H2, I3, ry, b, key, ex, e, eb, q2⟩ => pairTrees_nil_walk ?_)
  subst ex
  cases (show u = Value.ref b from rx)
  obtain ⟨z, hd, xs, rel, dd⟩ := dt_of I3.hok e
  have kt := rel.put key eb ry
  cases rel
  refine ⟨[(key, b, w2)], ⟨rfl, rfl, key_of I3.hok eb, trivial⟩, dd, fun h' tk dd' hs => wpAny_pure ⟨.ref s.heap.objs.size, _, ?_, rfl, q2⟩⟩
  obtain ⟨o, es, ep, hq, h2, h3, h4, _, h5⟩ := dd'
  refine d_write I3 (by rw [e]; exact True.intro) hs ⟨o, hq⟩ ⟨(by decide : 1 ≤ sizeLine), hd, _, kt.keeps fun c ys ec => ?_, o, es, ep, hq, h2, h3, h4, h5⟩
  rw [upd_ne (ne_of ec e (fun z => nomatch z))]
  exact ec
theorem evn_sortI {K : PySem.W.Frag} {Γ : Gam} {ta : TE} {ns ms : List Int} {r' : List V → Hp → VK → Prop} (h : EvB ta Γ (ns.map D.int)) (h64 : ns.length < 64) (hu : ∀ ns' : List Int, ns'.Perm ns → ns'.Pairwise (· ≤ ·) → ns' = ms) : EvN (tCB (fun xs H Q => rSorted K xs H Q ∨ r' xs H Q) (tCons ta tNil)) Γ (ms.map D.int) := fun F σ W Q g k =>
  h F σ W _ g fun a vs H s e l => .inl (by
    refine ⟨a, ns, rfl, .of (by rw [e, RepL.ints.mp l]), h64, fun ns' p hp hs hn => ?_⟩
    have := hu ns' hp hs
    subst this
    exact k p _ _ (Same.trans s (same_upd hn)) (s.free hn) upd_same (RepL.ints.mpr rfl))
/-! worlds without a frame and without a purse: U holds the dicts -/
abbrev NoF : Addr → Prop := fun _ => False
def PW (H : Hp) (U : Addr → Prop) : Wd := ⟨H, U, fun _ => False⟩
def NO (Γ : Gam) : Prop := ∀ (i : Nat) (ds : List D), Γ[i]? ≠ some (.own ds)
theorem NO.set {Γ : Gam} (h : NO Γ) (i : Nat) (d : D) : NO (Γ.set i (.val d)) := fun j ds e => by
  by_cases hij : i = j
  · subst hij
    by_cases hl : i < Γ.length
    · rw [List.getElem?_set_self hl] at e; cases e
    · rw [List.getElem?_eq_none (by rw [List.length_set]; omega)] at e; cases e
  · rw [List.getElem?_set_ne hij] at e; exact h j ds e
abbrev SP (Γ : Gam) (σ : L2.St) (H : Hp) (U : Addr → Prop) : Prop := SR NoF Γ σ (PW H U)
theorem sp_mk {Γ : Gam} {σ : L2.St} {H : Hp} {U : Addr → Prop} (dom : ∀ c, U c → H c ≠ none) (len : Γ.length = σ.length) (val : ∀ (i : Nat) (d : D), Γ[i]? = some (.val d) → ∃ v, σ[i]? = some (some v) ∧ Rep (PW H U) d v) (no : NO Γ) : SP Γ σ H U :=
  ⟨⟨dom, fun _ h => h.elim, fun _ h => h.elim⟩, len, val, fun i ds e => absurd e (no i ds), fun i j a ds es e => absurd e (no i ds)⟩
theorem SP.move {Γ : Gam} {σ : L2.St} {H H' : Hp} {U U' : Addr → Prop} (g : SP Γ σ H U) (no : NO Γ) (dom : ∀ c, U' c → H' c ≠ none) (keep : ∀ c u, H c = some u → ¬ U c → H' c = some u ∧ ¬ U' c) : SP Γ σ H' U' :=
  sp_mk dom g.len (fun i d e => let ⟨v, e1, r⟩ := g.val i d e; ⟨v, e1, Rep.mono (W := PW H U) (W' := PW H' U') keep (fun _ h => h) d v r⟩) no
theorem SP.same' {Γ : Gam} {σ : L2.St} {H H' : Hp} {U : Addr → Prop} (g : SP Γ σ H U) (s : Same H H') : SP Γ σ H' U := SR.same (W := PW H U) s g
/-! for over a range; for over a dict with tuple keys -/
theorem for_rng1 {k v n : Nat} {tb : TS} {D : Ends} {σ : L2.St} {H : Hp} (hσ : σ[k]? = some (some (V.int (n : Nat)))) (hn : n < 2 ^ 62) (I : Nat → L2.St → Hp → Prop) (h0 : I 0 σ H)
    (step : ∀ (i : Nat) σ H (E : Ends), i < n → I i σ H → (∀ σ' H', I (i + 1) σ' H' → E.nx σ' H') → tb E (σ.set v (some (.int i))) H) (fin : ∀ σ H, I n σ H → D.nx σ H) : tFor (iRng1 (tCons (tVar k) tNil)) (gName v) tb D σ H := by
  refine ⟨.int n, hσ, n, rfl, by omega, by omega, fun i m σ' H' => m = n - i ∧ i ≤ n ∧ I i σ' H', ⟨_, rfl, Nat.zero_le _, h0⟩, ?_⟩
  rintro i m σ' H' ⟨rfl, hi, hI⟩
  by_cases hlt : i < n
  · refine .inr ⟨by show i < (n : Int).toNat; omega, I (i + 1), fun σ2 H2 h => ⟨n - (i + 1), by omega, rfl, hlt, h⟩, fun x H2 hx => ?_⟩
    obtain ⟨rfl, rfl⟩ := hx
    have e : (0 : Int) + (i : Int) = i := by omega
    show tb _ (σ'.set v (some (.int (0 + (i : Int))))) H2
    rw [e]
    exact step i σ' H2 _ hlt hI fun _ _ h => h
  · have e : i = n := by omega
    subst e
    exact .inl ⟨by show (i : Int).toNat ≤ i; omega, fin _ _ hI⟩
theorem for_keysT {k v : Nat} {a : Addr} {kvs : List (List Key × V)} {tb : TS} {D : Ends} {σ : L2.St} {H : Hp} (hσ : σ[k]? = some (some (V.ref a))) (ha : H a = some (.dT kvs)) (I : Obj → Nat → L2.St → Hp → Prop)
    (h0 : ∀ od, I od 0 σ (upd H a (.frz od (.dT kvs)))) (hI : ∀ od i σ H, I od i σ H → H a = some (.frz od (.dT kvs)))
    (step : ∀ od (i : Nat) σ H (E : Ends) key x q, kvs[i]? = some (key, x) → H q = some (.tup (key.map kV)) → I od i σ H → (∀ σ' H', I od (i + 1) σ' H' → E.nx σ' H') → tb E (σ.set v (some (.ref q))) H)
    (fin : ∀ od σ H, I od kvs.length σ H → D.nx σ (upd H a (.dT kvs))) : tLock (tFor (iKeys (tVar k)) (gName v) tb) D σ H := by
  refine ⟨a, .dT kvs, ha, trivial, fun od => ?_⟩
  refine ⟨V.ref a, hσ, a, od, rfl, .inr ⟨kvs, upd_same, fun i m σ' H' => m = kvs.length - i ∧ i ≤ kvs.length ∧ I od i σ' H', ⟨_, rfl, Nat.zero_le _, h0 od⟩, ?_⟩⟩
  rintro i m σ' H' ⟨rfl, hi, hh⟩
  have hf := hI od i σ' H' hh
  by_cases hlt : i < kvs.length
  · refine .inr ⟨⟨hf, hlt⟩, I od (i + 1), fun σ2 H2 h => ⟨kvs.length - (i + 1), by omega, rfl, hlt, h⟩, fun x H2 hx => ?_⟩
    obtain ⟨rfl, key, y, q, e1, rfl, e2⟩ := hx
    exact step od i σ' H2 _ key y q e1 e2 hh fun _ _ h => h
  · have e : i = kvs.length := by omega
    subst e
    exact .inl ⟨⟨hf, Nat.le_refl _⟩, hf, fin od σ' H' hh⟩
end Dw

/-! How long a repr may be. -/
namespace Dw
open PySem PySem.Spec PyProof.Rows L2 HT
/-! ### the length of a repr -/
mutual
def shB : D → Nat
  | .int i => (PyData.shown (.int i)).length | .str x => 10 * x.length + 2
  | .tup ds => shBs ds + 4 | .lst ds => shBs ds + 4 | .tupN ds => shBs ds + 4
  | _ => 5
def shBs : List D → Nat
  | [] => 0
  | d :: ds => shB d + 2 + shBs ds
end
theorem listText_le (ts : List Str) : (listText ts).length ≤ piled ts + 4 := by
  cases ts with
  | nil => decide
  | cons t r =>
    have h := textFrom_length_pos r 1 (("[" : Str) ++ (if (0 : Nat) > 0 then ", " else "" : String) ++ t) (Nat.succ_pos 0)
    have e : ((("[" : Str) ++ (if (0 : Nat) > 0 then ", " else "" : String) ++ t)).length = 1 + t.length := by
      rw [strLen_append, strLen_append]; rfl
    have hX : (listText (t :: r)).length = (textFrom 1 (("[" : Str) ++ (if (0 : Nat) > 0 then ", " else "" : String) ++ t) r).length + 1 := by
      unfold listText
      rw [strLen_append]; rfl
    rw [hX, h, e, piled_cons]
    omega
theorem tupleText_le (ts : List Str) : (tupleText ts).length ≤ piled ts + 4 := by
  unfold tupleText
  rw [strLen_append, strLen_append]
  have e1 : ((("(" : String) : Str)).length = 1 := rfl
  have e3 : (((if ts.length == 1 then ",)" else ")" : String) : Str)).length ≤ 2 := by split <;> decide
  rw [e1]
  by_cases h : ts = []
  · subst h
    have : (Str.join ", " []).length = 0 := rfl
    omega
  · have := join_length_add ts h
    omega
mutual
theorem shB_le : ∀ (k : Nat) (d : D), dOk k d = true → (PyData.shown (py d)).length ≤ shB d
  | _, .non, _ => by show (("None" : String) : Str).length ≤ 5; decide
  | _, .bl b, _ => by cases b <;> (show (PyData.shown (.bool _)).length ≤ 5) <;> decide
  | _, .int i, _ => Nat.le_refl _
  | k, .str x, h => by
    have e : dOk k (.str x) = PyData.strOk x := by cases k <;> rfl
    rw [e] at h
    have a' : x.cps.all (fun c => decide (c < 1114112)) = true := h
    rw [← Array.all_toList, List.all_eq_true] at a'
    exact PySem.StrLaws.reprText_len x fun c hc => Nat.lt_of_lt_of_le (of_decide_eq_true (a' c hc)) (by decide)
  | k + 1, .tup ds, h => by
    have ih := shBs_le k ds h
    show (tupleText (PyData.shownAll (pys ds))).length ≤ shBs ds + 4
    have := tupleText_le (PyData.shownAll (pys ds))
    omega
  | k + 1, .lst ds, h => by
    have ih := shBs_le k ds h
    show (listText (PyData.shownAll (pys ds))).length ≤ shBs ds + 4
    have := listText_le (PyData.shownAll (pys ds))
    omega
  | k + 1, .tupN ds, h => by
    have ih := shBs_le k ds h
    show (tupleText (PyData.shownAll (pys ds))).length ≤ shBs ds + 4
    have := tupleText_le (PyData.shownAll (pys ds))
    omega
  | 0, .tup _, h => nomatch h
  | 0, .lst _, h => nomatch h
  | 0, .tupN _, h => nomatch h
  | k, .obj _ _ _, h => by cases k <;> exact nomatch h
  | k, .raw _, h => by cases k <;> exact nomatch h
  | k, .purse, h => by cases k <;> exact nomatch h
  | k, .rng _ _, h => by cases k <;> exact nomatch h
  | k, .dct _ _, h => by cases k <;> exact nomatch h
  | k, .scr _ _, h => by cases k <;> exact nomatch h
theorem shBs_le : ∀ (k : Nat) (ds : List D), dOks k ds = true → piled (PyData.shownAll (pys ds)) ≤ shBs ds
  | _, [], _ => Nat.zero_le _
  | k, d :: ds, h => by
    have e : dOks k (d :: ds) = (dOk k d && dOks k ds) := by cases k <;> rfl
    rw [e, Bool.and_eq_true] at h
    have h1 := shB_le k d h.1
    have h2 := shBs_le k ds h.2
    show piled (PyData.shown (py d) :: PyData.shownAll (pys ds)) ≤ shB d + 2 + shBs ds
    rw [piled_cons]
    omega
end
/-- a number below n -/
theorem shB_nat : ∀ k : Nat, k < 1000 → shB (.int (k : Int)) ≤ 5 := by decide +kernel
theorem shOk_nat {k : Nat} (h : k < 1000) : shOk (.int (k : Int)) = true := by
  show decide ((Int.natAbs (k : Int)).log2 < 1920) = true
  rw [Int.natAbs_natCast]
  exact decide_eq_true (Nat.lt_of_le_of_lt (Nat.log2_le_self k) (by omega))
theorem ev_repr {K : PySem.W.Frag} {Γ : Gam} {ta : TE} {d : D} {ds : List D} {k : Nat} (hd : d = .tup ds ∨ d = .lst ds) (h : Ev ta Γ d) (h1 : dOk k d = true) (hk : k ≤ 64) (h2 : shOk d = true) (h3 : shB d ≤ sizeLine) : Ev (tCB (rRepr K) (tCons ta tNil)) Γ (.str (PyData.shown (py d))) := by
  rcases hd with rfl | rfl
  · exact ev_reprT h h1 hk h2 (Nat.le_trans (shB_le k _ h1) h3)
  · exact ev_reprL h h1 hk h2 (Nat.le_trans (shB_le k _ h1) h3)
end Dw
namespace Dw
open PySem PySem.Spec PyProof.Rows L2 HT
def seqD : D → Bool
  | .tup _ => true | .lst _ => true | .tupN _ => true | _ => false
theorem drl_repr {K : PySem.W.Frag} {d : D} {k : Nat} (hd : seqD d = true) (h1 : dOk k d = true) (hk : k ≤ 64) (h2 : shOk d = true) (h3 : shB d ≤ sizeLine) : DRL (rRepr K) [d] (.str (PyData.shown (py d))) := fun W us Q dom ⟨v, _, e, r, e2⟩ q => by
  subst e
  obtain rfl : _ = [] := e2
  obtain ⟨a, rfl⟩ : ∃ a, v = V.ref a := by
    cases d <;> first | exact absurd hd Bool.false_ne_true | skip
    · obtain ⟨a, _, e, _⟩ := r; exact ⟨a, e⟩
    · obtain ⟨a, _, e, _⟩ := r; exact ⟨a, e⟩
    · obtain ⟨a, _, e, _⟩ := r; exact ⟨a, e⟩
  obtain ⟨p1, _, p3⟩ := dOk_py k _ h1
  obtain ⟨s1, s2⟩ := shOk_py _ h2
  exact ⟨a, _, rfl, dp_of (W := W) d _ p1 r, s1, s2, Nat.le_trans p3 hk, Nat.le_trans (shB_le k _ h1) h3, q _ W.H (Same.refl _) rfl⟩
theorem dl_repr {K : PySem.W.Frag} {Γ : Gam} {ta : TE} {Q : D → Gam → Prop} (h : Dl ta Γ fun d Γ1 => seqD d = true ∧ (∃ k, k ≤ 64 ∧ dOk k d = true) ∧ shOk d = true ∧ shB d ≤ sizeLine ∧ Q (.str (PyData.shown (py d))) Γ1) : Dl (tCB (rRepr K) (tCons ta tNil)) Γ Q :=
  dl_cb (dla_cons (h.imp fun d Γ1 ⟨h1, ⟨k, hk, h2⟩, h3, h4, q⟩ => dla_nil ⟨_, drl_repr h1 h2 hk h3 h4, q⟩))
end Dw

/-! Tuples that are known to have no dict of their own: displays, sums, tuple(xs); t.index(x). -/
namespace Dw
open PySem PySem.Spec PyProof.Rows L2 HT
theorem Rep.dn {W : Wd} {ds : List D} {v : V} (h : Rep W (.tupN ds) v) : Rep W (.tup ds) v := let ⟨a, vs, e, h, r⟩ := h; ⟨a, vs, e, h.at, r⟩
theorem ev_dn {t : TE} {Γ : Gam} {ds : List D} (h : Ev t Γ (.tupN ds)) : Ev t Γ (.tup ds) := fun F σ W Q g k => h F σ W Q g fun v H s r => k v H s r.dn
theorem ev_weak {t : TE} {Γ : Gam} {d d' : D} (e : weakD d = d') (h : Ev t Γ d) : Ev t Γ d' := fun F σ W Q g k => h F σ W Q g fun v H s r => k v H s (e ▸ Rep.weak d v r)
theorem Dl.weak {t : TE} {Γ : Gam} {Q : D → Gam → Prop} (h : Dl t Γ fun d Γ1 => Q (weakD d) Γ1) : Dl t Γ Q := fun F σ W R g k => h F σ W R g fun v W' d Γ' s r' l q => k v W' (weakD d) Γ' s r' (Rep.weak d v l) q
theorem rep_new_tupN {W : Wd} {p : Addr} {ds : List D} {vs : List V} {ob : Obj} (dom : ∀ a, W.U a → W.H a ≠ none) (h : W.H p = none) (c : ob.cls = .type "tuple") (d : ob.dict = none) (l : RepL W ds vs) : Rep (W.at (upd W.H p (.frz ob (.tup vs)))) (.tupN ds) (.ref p) :=
  ⟨p, vs, rfl, ⟨ob, upd_same, c, d⟩, fun u => dom p u h, l.same (same_upd h)⟩
/-- a new tuple: its cell is known -/
abbrev NewT (H : Hp) (xs : List V) (Q : VK) : Prop := ∀ (p : Addr) (ob : Obj), ob.cls = .type "tuple" → ob.dict = none → H p = none → Q (.ref p) (upd H p (.frz ob (.tup xs)))
section
variable {X : Cx} {pins : List (Addr × Obj)} {σ : L2.St} {H : Hp} {s : Shared}
theorem new_tup {xs : List V} {us : List Value} {Q : VK} (I : Inv X pins σ H s) (r : Vals xs us) (z : xs.length ≤ sizeLine) (q : NewT H xs Q) : EP X pins σ Q (.ref s.heap.objs.size) { s with heap := s.heap.push { cls := .type "tuple", data := .seq us.toArray } } := by
  have st : (s.heap.push { cls := .type "tuple", data := .seq us.toArray }).get? s.heap.objs.size = some { cls := .type "tuple", data := .seq us.toArray } := Heap.get?_push_size _ rfl
  have J := I.laid (t' := s.toks) (o := .frz { cls := .type "tuple", data := .seq us.toArray } (.tup xs)) (fun b u e => Heap.get?_push_of_some _ e) (Nat.le_refl _) ⟨st, z, us, r, _, st, rfl, _, rfl⟩
  exact ⟨.ref s.heap.objs.size, _, J, rfl, q _ _ rfl rfl (I.hok.fresh (Nat.le_refl _))⟩
end
/-! ### (x, y) -/
def tTupF (t : TA) : TE := fun σ H Q => t σ H fun xs H1 => xs.length ≤ sizeLine ∧ NewT H1 xs Q
theorem pe_tupF {X : Cx} {es : List Expr} {t : TA} {pos : Pos} {x1} (h : PA X es t) : PE X (.Tuple es x1 pos) (tTupF t) :=
  ⟨fun pins s σ H Q I q0 => wpAny_Tuple_spliced (thn (h.run pos pins s σ H _ I q0) fun us s1 ⟨xs, H1, I1, r, z, q⟩ => ⟨r.length ▸ z, new_tup I1 r z q⟩)⟩
section
variable {Γ : Gam} {t : TA} {ds : List D}
theorem ev_tupN (h : EvA t Γ ds) (hz : ds.length ≤ sizeLine) : Ev (tTupF t) Γ (.tupN ds) := fun F σ W Q g k => h F σ W _ g fun vs H s l => ⟨by rw [← l.length]; exact hz, fun p ob c d hp =>
  k _ _ (Same.trans s (same_upd hp)) (rep_new_tupN (W := W.at H) (g.same s).ok.dom hp c d l)⟩
theorem ev_tupF (h : EvA t Γ ds) (hz : ds.length ≤ sizeLine) : Ev (tTupF t) Γ (.tup ds) := ev_dn (ev_tupN h hz)
theorem dl_tupN {Q : D → Gam → Prop} (h : DlA t Γ fun ds Γ1 => ds.length ≤ sizeLine ∧ Q (.tupN ds) Γ1) : Dl (tTupF t) Γ Q := fun F σ W R g k => h F σ W _ g fun vs W1 ds Γ1 s g1 l ⟨hz, q⟩ => ⟨by rw [← l.length]; exact hz, fun p ob c d hp =>
  k _ (W1.at _) (.tupN ds) Γ1 (s.trans (Stp.of_same g1.ok (same_upd hp))) (g1.same (same_upd hp)) (rep_new_tupN g1.ok.dom hp c d l) q⟩
end
/-! ### t + (x,) -/
abbrev rCatTF (K : PySem.W.Frag) : R2 := fun x y H Q => ∃ a b xs ys, x = .ref a ∧ y = .ref b ∧ SqT K H a xs ∧ SqT K H b ys ∧ xs ≠ [] ∧ ys ≠ [] ∧ xs.length + ys.length ≤ sizeLine ∧ NewT H (xs ++ ys) Q
theorem op_catTF {X : Cx} : OpR X (binaryOp .Add) (rCatTF X.K) := by
  intro pins s σ H x y v u Q I rx ry ⟨a, b, xs, ys, ex, ey, ha, hb, hx, hy, hz, q⟩
  subst ex; subst ey
  cases rx; cases ry
  obtain ⟨i1, r1, p1, _⟩ := I.tuple ha
  obtain ⟨i2, r2, p2, _⟩ := I.tuple hb
  have n1 : i1 ≠ [] := fun z => hx (r1.nil_iff.mp z)
  have n2 : i2 ≠ [] := fun z => hy (r2.nil_iff.mp z)
  exact HT.cat_tup p1 p2 n1 (fun z => absurd z n2) (fun _ => new_tup I (r1.append r2) (by rw [List.length_append]; exact hz) q) (by rw [← r1.length, ← r2.length]; exact hz)
abbrev rPlusF (K : PySem.W.Frag) : R2 := rOr (rPlusE K) (rCatTF K)
theorem plusF {X : Cx} (K : PySem.W.Frag) (hK : X.K = K := by rfl) : OpR X (binaryOp .Add) (rPlusF K) := hK ▸ (plusE X.K).or op_catTF
theorem plF_of {K : PySem.W.Frag} {x y d : D} (h : DR2 (rPlusE K) x y d) : DR2 (rPlusF K) x y d := dr2_l h
theorem plF_tupN {K : PySem.W.Frag} {ds es : List D} (n : es ≠ []) (h : ds.length + es.length ≤ sizeLine) : DR2 (rPlusF K) (.tup ds) (.tupN es) (.tupN (ds ++ es)) := by
  by_cases n0 : ds = []
  · subst n0
    exact dr2_l (dr2_r (dr2_flat fun W u v Q ⟨a, vs, e1, h1, n1, l1⟩ b k => by
      obtain ⟨c, ws, e2, h2, n2, l2⟩ := id b
      obtain rfl : vs = [] := l1
      exact ⟨a, c, ws, e1, e2, h1.sq, h2.at.sq, by rw [← e2]; exact k v b⟩))
  · refine dr2_r fun W u v Q dom ⟨a, vs, e1, h1, _, l1⟩ ⟨b, ws, e2, h2, _, l2⟩ k => ?_
    have nv : vs ≠ [] := fun z => n0 (List.length_eq_zero_iff.mp (by rw [l1.length, z]; rfl))
    have nw : ws ≠ [] := fun z => n (List.length_eq_zero_iff.mp (by rw [l2.length, z]; rfl))
    exact ⟨a, b, vs, ws, e1, e2, h1.sq, h2.at.sq, nv, nw, by rw [← l1.length, ← l2.length]; exact h, fun p ob c d hp => k _ _ (same_upd hp) (rep_new_tupN dom hp c d (l1.append l2))⟩
theorem plF_evn {K : PySem.W.Frag} {Γ : Gam} {ta tb : TE} {ds es : List D} (ha : EvB ta Γ ds) (hb : EvB tb Γ es) (h : ds.length + es.length ≤ sizeLine) : EvN (tOp (rPlusF K) ta tb) Γ (ds ++ es) := fun F σ W Q g k =>
  ha F σ W _ g fun p vs H s e l => hb F σ (W.at H) _ (g.same s) fun q ws H' s' e' l' => .inl (.inl (.inr (.inr (.inl ⟨p, q, vs, ws, rfl, rfl, s' _ _ e, e', by rw [← l.length, ← l'.length]; exact h, fun n hn =>
    k n (vs ++ ws) _ (Same.trans s (Same.trans s' (same_upd hn))) (s.free (s'.free hn)) upd_same (RepL.plus (W := W.at H') hn (same_upd hn) ((RepL.same (W := W.at H) s' l).append l'))⟩))))
/-! ### tuple(xs) -/
abbrev rTupleF (K : PySem.W.Frag) : List V → Hp → VK → Prop := fun xs H Q => ∃ p ys, xs = [.ref p] ∧ SqL K H p ys ∧ NewT H ys Q
theorem cr_tupleF {X : Cx} : CallR X (.type "tuple") (rTupleF X.K) := by
  intro pins s σ H xs us Q I r ⟨p, ys, ex, hq, q⟩
  subst ex
  obtain ⟨u, eu, rx⟩ := vals1 r
  subst eu; cases rx
  obtain ⟨its, r', pl, hz⟩ := I.list hq
  have hl := r'.length
  exact call_tuple_list pl.isList (fun h' kp => new_tup (I.kept (t' := s.toks) kp) r' hz q) (by simp only [List.size_toArray]; omega)
theorem tupleFA {X : Cx} (K : PySem.W.Frag) (hK : X.K = K := by rfl) : CallR X (.type "tuple") (rTupleF K) := hK ▸ cr_tupleF
theorem ev_tupleN {K : PySem.W.Frag} {Γ : Gam} {ta : TE} {ds : List D} (h : EvB ta Γ ds) : Ev (tCB (rTupleF K) (tCons ta tNil)) Γ (.tupN ds) := fun F σ W Q g k => h F σ W _ g fun p vs H s e l =>
  ⟨p, vs, rfl, .of e, fun n ob c d hn => k _ _ (Same.trans s (same_upd hn)) (rep_new_tupN (W := W.at H) (g.same s).ok.dom hn c d l)⟩
theorem ev_tupleF {K : PySem.W.Frag} {Γ : Gam} {ta : TE} {ds : List D} (h : EvB ta Γ ds) : Ev (tCB (rTupleF K) (tCons ta tNil)) Γ (.tup ds) := ev_dn (ev_tupleN h)
theorem dl_tupleN {K : PySem.W.Frag} {Γ : Gam} {ta : TE} {Q : D → Gam → Prop} (h : Dl ta Γ fun d Γ1 => ∃ ds, d = .lst ds ∧ Q (.tupN ds) Γ1) : Dl (tCB (rTupleF K) (tCons ta tNil)) Γ Q := fun F σ W R g k => h F σ W _ g fun v W1 d Γ1 st g1 r ⟨ds, e, q⟩ => by
  subst e
  obtain ⟨p, vs, rfl, e, nu, l⟩ := r
  exact ⟨p, vs, rfl, .of e, fun n ob c d hn => k _ (W1.at _) (.tupN ds) Γ1 (st.trans (Stp.of_same g1.ok (same_upd hn))) (g1.same (same_upd hn)) (rep_new_tupN g1.ok.dom hn c d l) q⟩
/-! ### t.m(x) of such a tuple -/
def tBMN (r : V → List V → Hp → VK → Prop) (to : TE) (t : TA) : TE := fun σ H Q => to σ H fun x H1 => (∃ a vs, x = .ref a ∧ TupN H1 a vs) ∧ t σ H1 fun xs H2 => r x xs H2 Q
section
variable {X : Cx} {o e : Expr} {es : List Expr} {to : TE} {t : TA} {nm : Str} {p1 p2 : Pos} {id : String} {r : V → List V → Hp → VK → Prop}
theorem pe_tm (sl : Slot "tuple" nm id) (ty : typeOf (.builtin id) = pure (.type "method_descriptor")) (hm : MtR X id r) (ho : PE X o to) (ha : PA X (e :: es) t)
    (b1 : attributeBase o nm X.env (eval o X.env) = eval o X.env := by rfl)
    (b2 : ((backTo p2 (starEach (e :: es) X.env)).all (fun z => !z.1) && (backToKw p2 (keywordEach [] X.env)).all (fun z => z.1.isSome) && decide ((e :: es).length + ([] : List Keyword).length + (if ([] : List Keyword).isEmpty then 0 else 1) < 30)) = true := by rfl)
    (b3 : (p1.endLine == p2.line) = true := by rfl) (b4 : starEach (e :: es) X.env = (false, eval e X.env) :: starEach es X.env := by rfl) (b5 : (backTo p2 (starEach es X.env)).any (·.1) = false := by rfl) :
    PE X (.Call (.Attribute o nm p1) (e :: es) [] p2) (tBMN r to t) := ⟨fun pins s σ H Q I q0 => by
  refine wpAny_Call_method_late b1 b2 b3 rfl (thn (ho.run pins s σ H _ I q0) fun v s1 ⟨x, H1, I1, r1, ⟨a, vs, ex, ob, hob, c, d⟩, q1⟩ => ?_)
  subst ex
  cases r1
  obtain ⟨g1, _⟩ : s1.heap.get? a = some ob ∧ _ := I1.hok a _ hob
  refine ⟨"tuple", id, PySem.F.plainAttrs_tuple, sl, ty, ⟨ob, g1, c⟩, fun b e => by cases e; exact ⟨ob, g1, d⟩, ?_⟩
  have A1 := ha.run p2 pins s1 σ H1 _ I1 q1
  rw [b4] at A1 ⊢
  refine Calls.callWith_builtin (by show (false || (backTo p2 (starEach es X.env)).any (·.1)) = false; rw [b5]; rfl) (Calls.evalArgs_plain ?_)
  exact thn A1 fun us s2 ⟨ws, H2, I2, r2, q2⟩ => hm pins s2 σ H2 (V.ref a) ws _ us Q I2 rfl r2 q2⟩
end
abbrev TIdx (K : PySem.W.Frag) (a : Addr) (ys : List V) (y : V) (j : Nat) (H : Hp) (Q : VK) : Prop := SqT K H a ys ∧ flatV y = true ∧ ys.all flatV = true ∧ (∃ z, ys[j]? = some z ∧ eqV z y = true) ∧ (∀ (m : Nat) (z : V), m < j → ys[m]? = some z → eqV z y = false) ∧ Q (.int (j : Nat)) H
def rTIdx (K : PySem.W.Frag) : V → List V → Hp → VK → Prop := fun x xs H Q => ∃ a ys y j, x = V.ref a ∧ xs = [y] ∧ TIdx K a ys y j H Q
theorem mt_tidx {X : Cx} : MtR X "tuple.index" (rTIdx X.K) := by
  intro pins s σ H x xs v us Q I rx rxs ⟨a, ys, y, j, ex, exs, hs, fy, fys, ⟨z, hz, hzj⟩, hno, q⟩
  subst ex; subst exs
  cases rx
  obtain ⟨uy, eu, ry⟩ := vals1 rxs
  subst eu
  obtain ⟨its, rv, ⟨⟨cls, dd, data, sl⟩, ho, hc, n, hd⟩, _⟩ := I.tuple hs
  simp only at hc hd
  subst hc; subst hd
  have look : ∀ (m : Nat) (w : V), ys[m]? = some w → ∃ (u : Value) (hm : m < its.toArray.size), its.toArray[m] = u ∧ eqU y u = eqV w y := fun m w hw => by
    obtain ⟨u, hu, ru⟩ := rv.get hw
    obtain ⟨h1, h2⟩ := List.getElem?_eq_some_iff.mp hu
    exact ⟨u, by simpa using h1, by simpa using h2, eqU_of ru (flat_at fys hw)⟩
  obtain ⟨u0, hj, e0, e1⟩ := look j z hz
  have hl := rv.length
  refine call_meets PySem.F.slot_tuple_index ⟨_, ho, rfl⟩ PySem.F.entry_tuple_index (PySem.F.args_tuple_index_2 _ _) (TI.tuple_indexAt a its.toArray n dd sl uy (eqU y) j hj (by rw [e0, e1]; exact hzj) fun m hm hmj => ?_)
    ⟨ho, fun u' hu' => mem_eqAt ry fy rv fys u' (by simpa using hu'), .int (j : Nat), H, I.tok _, ⟨_, rfl⟩, q⟩
  have hml : m < its.length := by simpa using hm
  have hw : ys[m]? = some ys[m] := List.getElem?_eq_getElem (by omega)
  obtain ⟨u2, _, e2, e3⟩ := look m _ hw
  rw [e2, e3]
  exact hno m _ hmj hw
theorem tidxA {X : Cx} (K : PySem.W.Frag) (hK : X.K = K := by rfl) : MtR X "tuple.index" (rTIdx K) := hK ▸ mt_tidx
section
variable {K : PySem.W.Frag} {Γ : Gam} {ta tb : TE}
theorem idx_not {α : Type} [DecidableEq α] {o : List α} {c : α} {m : Nat} (h : m < o.idxOf c) (hm : m < o.length) : o[m] ≠ c := fun e => by
  have h2 : m < o.findIdx (· == c) := h
  have := List.not_of_lt_findIdx h2
  simp [e] at this
theorem idx_at {α : Type} [DecidableEq α] {o : List α} {c : α} (h : c ∈ o) : o[o.idxOf c]? = some c := by
  have hl : o.idxOf c < o.length := List.idxOf_lt_length_iff.mpr h
  rw [List.getElem?_eq_getElem hl, List.getElem_idxOf hl]
theorem ev_tidx {o : List Nat} {c : Nat} (h : Ev ta Γ (.tupN (o.map fun k : Nat => D.int k))) (hb : Ev tb Γ (.int c)) (hm : c ∈ o) : Ev (tBMN (rTIdx K) ta (tCons tb tNil)) Γ (.int (o.idxOf c : Nat)) := fun F σ W Q g k =>
  h F σ W _ g fun v H s ⟨a, vs, ev, e, nu, l⟩ => by
    subst ev
    refine ⟨⟨a, vs, rfl, e⟩, hb F σ (W.at H) _ (g.same s) fun u H2 s2 r => ?_⟩
    obtain rfl : u = V.int c := r
    obtain rfl := repL_ord l
    refine ⟨a, _, _, o.idxOf c, rfl, rfl, (e.same s2).at.sq, rfl, by rw [List.all_map]; exact List.all_eq_true.mpr fun _ _ => rfl, ⟨V.int c, by rw [List.getElem?_map, idx_at hm]; rfl, by simp [eqV]⟩, fun m z' hmj hz => ?_, k _ H2 (Same.trans s s2) rfl⟩
    have hl : o.idxOf c < o.length := List.idxOf_lt_length_iff.mpr hm
    rw [List.getElem?_map, List.getElem?_eq_getElem (by omega)] at hz
    obtain rfl := Option.some.inj hz
    have ne := idx_not hmj (by omega)
    simp [eqV]
    omega
theorem ev_tidxS {o : List Str} {c : Str} (h : Ev ta Γ (.tupN (o.map D.str))) (hb : Ev tb Γ (.str c)) (hm : c ∈ o) : Ev (tBMN (rTIdx K) ta (tCons tb tNil)) Γ (.int (o.idxOf c : Nat)) := fun F σ W Q g k =>
  h F σ W _ g fun v H s ⟨a, vs, ev, e, nu, l⟩ => by
    subst ev
    refine ⟨⟨a, vs, rfl, e⟩, hb F σ (W.at H) _ (g.same s) fun u H2 s2 r => ?_⟩
    obtain rfl : u = V.str c := r
    obtain rfl := RepL.strs.mp l
    refine ⟨a, _, _, o.idxOf c, rfl, rfl, (e.same s2).at.sq, rfl, by rw [List.all_map]; exact List.all_eq_true.mpr fun _ _ => rfl, ⟨V.str c, by rw [List.getElem?_map, idx_at hm]; rfl, by simp [eqV]⟩, fun m z' hmj hz => ?_, k _ H2 (Same.trans s s2) rfl⟩
    have hl : o.idxOf c < o.length := List.idxOf_lt_length_iff.mpr hm
    rw [List.getElem?_map, List.getElem?_eq_getElem (by omega)] at hz
    obtain rfl := Option.some.inj hz
    have ne := idx_not hmj (by omega)
    simp [eqV, ne]
end
end Dw
namespace Dw
open PySem PySem.Spec PyProof.Rows L2 HT
/-! ### a new tuple, by its cell -/
def EvX (t : TE) (Γ : Gam) (ds : List D) : Prop := ∀ (F : Addr → Prop) (σ : L2.St) (W : Wd) (Q : VK), SR F Γ σ W → (∀ a vs H, Same W.H H → H a = some (.tup vs) → ¬ W.U a → RepL (W.at H) ds vs → Q (.ref a) H) → t σ W.H Q
section
variable {K : PySem.W.Frag} {Γ : Gam} {t : TA} {ta : TE} {ds : List D}
theorem evx_tup (h : EvA t Γ ds) (hz : ds.length ≤ sizeLine) : EvX (tTup t) Γ ds := fun F σ W Q g k => h F σ W _ g fun vs H s l => ⟨by rw [← l.length]; exact hz, fun p hp =>
  k p vs _ (Same.trans s (same_upd hp)) upd_same ((g.same s).ok.new hp) (RepL.same (W := W.at H) (same_upd hp) l)⟩
theorem evx_tuple (h : EvB ta Γ ds) : EvX (tCB (rTupleOf K) (tCons ta tNil)) Γ ds := fun F σ W Q g k => h F σ W _ g fun p vs H s e l => ⟨p, vs, rfl, .inl ⟨.of e, fun n hn => k n vs _ (Same.trans s (same_upd hn)) upd_same ((g.same s).ok.new hn) (RepL.same (W := W.at H) (same_upd hn) l)⟩⟩
theorem evx_tupRg {n : Nat} (h : Ev ta Γ (.int n)) (hn : n ≤ 16777216) : EvX (tTupRg (tRg1 ta)) Γ (rng n) := fun F σ W Q g k => h F σ W _ g fun v H s r => ⟨n, r, RgOk.of_le (by omega) (by omega) (by omega) (by omega), fun q hq => by
  have e : rgV 0 n = (List.range n).map fun i : Nat => V.int i := by
    unfold rgV
    refine List.map_congr_left fun i _ => ?_
    show V.int (0 + (i : Int)) = V.int i
    rw [Int.zero_add]
  have l : RepL (W.at H) (rng n) (rgV 0 n) := by
    rw [e]
    exact ord_repL (List.range n)
  exact k q _ _ (Same.trans s (same_upd hq)) upd_same ((g.same s).ok.new hq) (RepL.same (W := W.at H) (same_upd hq) l)⟩
end
end Dw
namespace Dw
open PySem PySem.Spec PyProof.Rows L2 HT
theorem is_bl (a b : Bool) : DR2 rIsB (.bl a) (.bl b) (.bl (decide (a = b))) := dr2_flat fun W u v Q r1 r2 k => ⟨a, b, r1, r2, k _ rfl⟩
end Dw

/-! {k: v for x in xs if ..}, k in d, d[k]; a call of a local name that holds a def. -/
namespace Dw
open PySem PySem.Spec PyProof.Rows L2 HT
def tNeverE : TE := fun _ _ _ => False
theorem pe_neverX {X : Cx} {e : Expr} : PE X e tNeverE := ⟨fun _ _ _ _ _ _ h => h.elim⟩
theorem put_newK {kvs : List (Key × V)} {k : Key} (h : k ∉ kvs.map (·.1)) (v : V) : putK kvs k v = kvs ++ [(k, v)] := by
  unfold putK
  have : (kvs.any fun kv => decide (kv.1 = k)) = false := by
    rw [List.any_eq_false]
    intro kv hkv z
    exact h (List.mem_map.mpr ⟨kv, hkv, of_decide_eq_true z⟩)
  rw [this]; rfl
theorem val_at : ∀ {ks : List Key} {vs : List V} {k : Key} {i : Nat} {v : V}, ks[i]? = some k → vs[i]? = some v → (∀ j < i, ks[j]? ≠ some k) → valV (ks.zip vs) k = some v
  | [], _, _, _, _, h, _, _ => by simp at h
  | a :: ks, [], _, _, _, _, h, _ => by simp at h
  | a :: ks, u :: vs, k, 0, v, h, h2, _ => by
    have h : a = k := by simpa using h
    have h2 : u = v := by simpa using h2
    subst h; subst h2
    exact valV_pos rfl
  | a :: ks, u :: vs, k, i + 1, v, h, h2, hn => by
    have ne : a ≠ k := fun e => hn 0 (by omega) (by rw [e]; rfl)
    show valV ((a, u) :: ks.zip vs) k = some v
    rw [valV_neg ne]
    exact val_at (by simpa using h) (by simpa using h2) fun j hj => by
      have := hn (j + 1) (by omega)
      simpa using this
theorem val_mem : ∀ {ks : List Key} {vs : List V} {k : Key}, ks.length = vs.length → (valV (ks.zip vs) k).isSome = ks.any fun a => decide (a = k)
  | [], vs, k, _ => by rw [List.zip_nil_left]; rfl
  | a :: ks, [], k, h => by simp at h
  | a :: ks, u :: vs, k, h => by
    show (valV ((a, u) :: ks.zip vs) k).isSome = (decide (a = k) || ks.any fun a => decide (a = k))
    by_cases e : a = k
    · rw [valV_pos (p := (a, u)) e, decide_eq_true e]; rfl
    · rw [valV_neg (p := (a, u)) e, val_mem (by simpa using h), decide_eq_false e]; rfl
section
variable {K : PySem.W.Frag} {Γ : Gam} {wi : TI} {g : TG} {tt : TT} {tk tv ta td ty : TE} {vs : List Nat}
theorem ev_dcS {α : Type} {xs : List α} {c : α → D} {p : α → Bool} {kf : α → Str} {vf : α → D} (h : Ei wi Γ (xs.map c)) (hz : xs.length ≤ 1000) (nd : (xs.filter p).Pairwise fun x y => kf x ≠ kf y)
    (he : ∀ x ∈ xs, ∃ is Γ2, DG g is (c x) (wipeG Γ vs) Γ2 ∧ (∀ i ∈ is, i ∈ vs) ∧ EvT tt Γ2 (p x) ∧ (p x = true → Ev tk Γ2 (.str (kf x)) ∧ Ev tv Γ2 (vf x))) :
    Ev (tDc wi g tt tk tv vs) Γ (.dct ((xs.filter p).map fun x => Sum.inr (kf x)) ((xs.filter p).map vf)) := fun F σ W R s k =>
  h F σ W _ s fun I H1 st it => fun Dn hD => by
    have wd : W.H Dn = none := st.free hD
    refine ⟨fun i m H' => m = xs.length - i ∧ i ≤ xs.length ∧ Same H1 H' ∧ ∃ us, H' Dn = some (.dK ((((xs.take i).filter p).map fun x => (Sum.inr (kf x) : Key)).zip us)) ∧ RepL (W.plus H' Dn) (((xs.take i).filter p).map vf) us, ⟨_, rfl, Nat.zero_le _, same_upd hD, [], upd_same, rfl⟩, ?_⟩
    rintro i m H' ⟨rfl, hi, sm, us, hus, rus⟩
    by_cases hlt : i < xs.length
    · have hx : xs[i]? = some xs[i] := List.getElem?_eq_getElem hlt
      have hx' : (xs.map c)[i]? = some (c xs[i]) := by rw [List.getElem?_map, hx]; rfl
      obtain ⟨is, Γ2, hg, his, ht, hel⟩ := he xs[i] (List.getElem_mem hlt)
      obtain ⟨go, yl⟩ := it.go (W.plus H' Dn) i (c xs[i]) (fun b hb z => hb.elim (fun u => s.ok.dom b u ((Same.trans st sm).free z)) (fun e => by rw [e] at z; exact absurd (hus.symm.trans z) (fun q => nomatch q))) sm (fun b u e n z => z.elim n fun z => by rw [z] at e; exact absurd (e.symm.trans hD) (fun q => nomatch q)) rfl hx'
      refine .inr ⟨go, fun H2 => Same H1 H2 ∧ ∃ us, H2 Dn = some (.dK ((((xs.take (i + 1)).filter p).map fun x => (Sum.inr (kf x) : Key)).zip us)) ∧ RepL (W.plus H2 Dn) (((xs.take (i + 1)).filter p).map vf) us, fun H2 q => ⟨xs.length - (i + 1), by omega, rfl, hlt, q⟩, fun v H2 y => ?_⟩
      obtain ⟨sm2, rv⟩ := yl v H2 y
      have sW : Same W.H H2 := Same.trans st (Same.trans sm sm2)
      obtain ⟨_, gp, _, _, _⟩ := s.plus sW wd (by rw [sm2 _ _ hus]; exact fun z => nomatch z)
      have gp := gp.wipe vs
      refine hg F _ (W.plus H2 Dn) v _ gp rv fun σ2 g2 w2 => ⟨by rw [w2 vs his, wipe_wipe], ?_⟩
      refine ht F σ2 (W.plus H2 Dn) _ g2 fun H3 s3 => ?_
      have e1 : (xs.take (i + 1)).filter p = (xs.take i).filter p ++ (if p xs[i] = true then [xs[i]] else []) := by
        rw [List.take_add_one, hx, List.filter_append]
        congr 1
        cases hp : p xs[i] <;> simp [hp]
      have mv : ∀ {H3 H4 : Hp} {ds us}, Same H3 H4 → RepL (W.plus H3 Dn) ds us → RepL (W.plus H4 Dn) ds us := fun {H3 H4 ds us} s34 r => RepL.mono (W := W.plus H3 Dn) (W' := W.plus H4 Dn) (fun b u e n => ⟨s34 b u e, n⟩) (fun _ h => h) ds us r
      cases hp : p xs[i] with
      | false =>
        rw [if_neg Bool.false_ne_true]
        refine ⟨Same.trans (Same.trans sm sm2) s3, us, ?_, ?_⟩
        · rw [e1, hp, if_neg Bool.false_ne_true, List.append_nil]
          exact s3 _ _ (sm2 _ _ hus)
        · rw [e1, hp, if_neg Bool.false_ne_true, List.append_nil]
          exact mv s3 (mv sm2 rus)
      | true =>
        rw [if_pos rfl]
        obtain ⟨hek, hev⟩ := hel hp
        refine hek F σ2 ((W.plus H2 Dn).at H3) _ (g2.same s3) fun y H4 s4 ry => ?_
        refine hev F σ2 (((W.plus H2 Dn).at H3).at H4) _ ((g2.same s3).same s4) fun z H5 s5 rz => ?_
        obtain rfl : y = V.str (kf xs[i]) := ry
        have h5 : H5 Dn = some (.dK ((((xs.take i).filter p).map fun x => (Sum.inr (kf x) : Key)).zip us)) := s5 _ _ (s4 _ _ (s3 _ _ (sm2 _ _ hus)))
        have un : ∀ {ds us}, RepL (W.plus H5 Dn) ds us → ∀ o, RepL (W.plus (upd H5 Dn o) Dn) ds us := fun {ds us} r o => RepL.mono (W := W.plus H5 Dn) (W' := W.plus (upd H5 Dn o) Dn) (fun b u e n => ⟨by
          show (upd H5 Dn o) b = some u
          rw [upd_ne (fun z : b = Dn => n (Or.inr z))]; exact e, n⟩) (fun _ h => h) ds us r
        have ll : (((xs.take i).filter p).map fun x => (Sum.inr (kf x) : Key)).length = us.length := by rw [List.length_map, ← rus.length, List.length_map]
        have lz : ((((xs.take i).filter p).map fun x => (Sum.inr (kf x) : Key)).zip us).length ≤ 1000 := by
          rw [List.length_zip, ← ll, Nat.min_self, List.length_map]
          exact Nat.le_trans (List.length_filter_le _ _) (Nat.le_trans (List.length_take_le _ _) (by omega))
        have nin : (Sum.inr (kf xs[i]) : Key) ∉ ((((xs.take i).filter p).map fun x => (Sum.inr (kf x) : Key)).zip us).map (·.1) := fun hm => by
          rw [List.map_fst_zip (by omega), List.mem_map] at hm
          obtain ⟨x, hx2, ex⟩ := hm
          have e2 : xs.filter p = (xs.take i).filter p ++ xs[i] :: (xs.drop (i + 1)).filter p := by
            conv => lhs; rw [← List.take_append_drop i xs, List.drop_eq_getElem_cons hlt]
            rw [List.filter_append, List.filter_cons_of_pos hp]
          rw [e2, List.pairwise_append] at nd
          exact nd.2.2 x hx2 _ List.mem_cons_self (Sum.inr.inj ex)
        refine ⟨_, Sum.inr (kf xs[i]), rfl, h5, Nat.lt_of_le_of_lt lz (by decide), fun b u e => ?_, us ++ [z], ?_, ?_⟩
        · have nb : b ≠ Dn := fun z => by rw [z, hD] at e; cases e
          rw [upd_ne nb]
          exact s5 _ _ (s4 _ _ (s3 _ _ (sm2 _ _ (sm _ _ e))))
        · rw [upd_same, put_newK nin, e1, hp, if_pos rfl, List.map_append, List.zip_append ll]; rfl
        · rw [e1, hp, if_pos rfl, List.map_append]
          exact un ((mv s5 (mv s4 (mv s3 (mv sm2 rus)))).append (RepL.one rz)) _
    · have e : i = xs.length := by omega
      subst e
      rw [List.take_length] at rus hus
      exact .inl ⟨by have := it.stop H' sm; rw [List.length_map] at this; exact this, k (.ref Dn) H' (Same.trans st sm) ⟨Dn, us, rfl, hus, s.ok.new wd, by rw [List.length_map, ← rus.length, List.length_map], rus.minus⟩⟩
theorem ev_dinS {x : Str} {ks : List Key} {ds : List D} (ha : Ev ty Γ (.str x)) (hd : Ev td Γ (.dct ks ds)) : Ev (tDIn ty td) Γ (.bl (ks.any fun a => decide (a = (Sum.inr x : Key)))) := fun F σ W Q g k =>
  ha F σ W _ g fun v H s r => hd F σ (W.at H) _ (g.same s) fun u H' s' ⟨a, vs, eu, e, nu, hl, rl⟩ => by
    obtain rfl : v = V.str x := r
    refine ⟨a, _, eu, .inl ⟨_, Sum.inr x, .inl e, rfl, rfl⟩, ?_⟩
    rw [val_mem hl]
    exact k _ H' (Same.trans s s') rfl
theorem ev_dgetS {x : Str} {ks : List Key} {ds : List D} {i : Nat} {d : D} (hd : Ev td Γ (.dct ks ds)) (ha : Ev ty Γ (.str x)) (h1 : ks[i]? = some (Sum.inr x)) (h2 : ds[i]? = some d) (h3 : ∀ j < i, ks[j]? ≠ some (Sum.inr x)) : Ev (tDGet td ty) Γ d := fun F σ W Q g k =>
  hd F σ W _ g fun u H s ⟨a, vs, eu, e, nu, hl, rl⟩ => ha F σ (W.at H) _ (g.same s) fun v H' s' r => by
    obtain rfl : v = V.str x := r
    obtain ⟨w, hw, rw'⟩ := rl.get h2
    exact ⟨a, w, eu, .inl ⟨_, Sum.inr x, .inl (s' _ _ e), rfl, (val_at h1 hw h3).symm⟩, k w H' (Same.trans s s') (Rep.same (W := W.at H) s' rw')⟩
/-! ### a call of a local name that holds a def -/
theorem ev_callL {s : Spc} {i : Nat} {f : Addr} {E : XK} {t : TA} {x : s.ty} {d : D} (hf : Γ[i]? = some (.val (.raw (.ref f)))) (h : EvA t Γ (s.args x)) (np : noPs (s.args x) = true) (ok : s.ok x) (hd : ∀ d', s.rel x d' → d' = d) : Ev (tCallL i f (toSp s) [] E t) Γ d := fun F σ W R g k => by
  obtain ⟨v, e, r⟩ := g.val i _ hf
  obtain rfl : v = V.ref f := r
  exact ⟨e, ev_call (E := E) h np ok hd F σ W R g k⟩
end
end Dw

/-! xs, y = [], e with a cell among them; xs.index(x) of texts. -/
namespace Dw
open PySem PySem.Spec PyProof.Rows L2 HT
theorem ds_asg_o2 {K : PySem.W.Frag} {Γ : Gam} {De : DE} {i j : Nat} {t1 t2 : TE} {ds : List D} (h1 : EvN t1 Γ ds) (h : Dl t2 Γ fun d Γ1 => De.nx ((Γ1.set i (.own ds)).set j (.val d))) : Ds (tAsg (tTup (tCons t1 (tCons t2 tNil))) (gTup K 2 (gCons (gName i) (gCons (gName j) gNil)))) Γ De := fun F σ W Dr g k =>
  h1 F σ W _ g fun a vs H s n e r => by
    obtain ⟨st1, g1, no1, f1, p1⟩ := g.plus s n (by rw [e]; exact fun z => nomatch z)
    have g1' : SR (fun b => F b ∨ b = a) Γ σ (W.plus H a) := ⟨⟨g1.ok.dom, fun b z => z.elim (g1.ok.fu b) (fun z => z ▸ .inr rfl), fun b z => let ⟨u, f, p⟩ := g1.ok.pu b z; ⟨u, fun w => w.elim f (fun w => p1 (w ▸ z)), p⟩⟩, g1.len, g1.val, fun i ds e => let ⟨b, vs, e1, u, f, p, q, r⟩ := g1.own i ds e; ⟨b, vs, e1, u, fun w => w.elim f (fun w => no1 ⟨i, ds, e, w ▸ e1⟩), p, q, r⟩, g1.apart⟩
    refine h (fun b => F b ∨ b = a) σ (W.plus H a) _ g1' fun v W1 d Γ1 st g2 rd q => ?_
    have ea : W1.H a = some (.lst vs) := (st.fr a (.inr rfl)).trans e
    have g2' : SR F Γ1 σ W1 := ⟨⟨g2.ok.dom, fun b z => g2.ok.fu b (.inl z), fun b z => let ⟨u, f, p⟩ := g2.ok.pu b z; ⟨u, fun w => f (.inl w), p⟩⟩, g2.len, g2.val, fun i ds e => let ⟨b, vs, e1, u, f, p, q, r⟩ := g2.own i ds e; ⟨b, vs, e1, u, fun w => f (.inl w), p, q, r⟩, g2.apart⟩
    have no2 : ¬ ownA Γ1 σ a := fun ⟨i, ds, e1, e2⟩ => by
      obtain ⟨b, vs, e3, _, f, _⟩ := g2.own i ds e1
      rw [e2] at e3; cases e3
      exact f (.inr rfl)
    have p2 : ¬ W1.P a := fun z => (g2.ok.pu a z).2.1 (.inr rfl)
    have ra : RepL W1 ds vs := r.stp st
    have g3 := g2'.adopt (i := i) (g2.ok.fu a (.inr rfl)) f1 p2 ea ra no2
    refine ⟨Nat.le_trans (show 2 ≤ 100000 by decide) (by decide), fun p hp => ?_⟩
    exact ⟨p, [.ref a, v], rfl, TupAt.sq (.mk upd_same), rfl, .ref a, [v], rfl, v, [], rfl, rfl, k.nx _ (W1.at _) _ ((st1.trans (st.sub fun b z => .inl z)).trans (Stp.of_same g2'.ok (same_upd hp))) ((g3.set rd).same (same_upd hp)) q⟩
section
variable {K : PySem.W.Frag} {Γ : Gam} {ta tb : TE}
theorem ev_lidxS {o : List Str} {c : Str} (h : EvB ta Γ (o.map D.str)) (hb : Ev tb Γ (.str c)) (hm : c ∈ o) : Ev (tBM K "list" (rIndex K) ta (tCons tb tNil)) Γ (.int (o.idxOf c : Nat)) := fun F σ W Q g k =>
  h F σ W _ g fun a vs H s e l => by
    refine ⟨?ty, hb F σ (W.at H) _ (g.same s) fun u H2 s2 r => ?_⟩
    case ty => exact tyV_lst e
    obtain rfl : u = V.str c := r
    obtain rfl := RepL.strs.mp l
    have hl : o.idxOf c < o.length := List.idxOf_lt_length_iff.mpr hm
    refine ⟨a, _, _, o.idxOf c, _, rfl, rfl, .of (s2 _ _ e), rfl, by rw [List.all_map]; exact List.all_eq_true.mpr fun _ _ => rfl, by rw [List.getElem?_map, idx_at hm]; rfl, by simp [eqV], fun m z' hmj hz => ?_, k _ H2 (Same.trans s s2) rfl⟩
    rw [List.getElem?_map, List.getElem?_eq_getElem (by omega)] at hz
    obtain rfl := Option.some.inj hz
    have ne := idx_not hmj (by omega)
    simp [eqV, ne]
end
end Dw

/-! an own list, lent for the time of one expression whose answer is a tuple of numbers. -/
namespace Dw
open PySem PySem.Spec PyProof.Rows L2 HT
theorem dl_lend {Γ : Gam} {t : TE} {Q : D → Gam → Prop} (i : Nat) {ds : List D} (hi : Γ[i]? = some (.own ds)) (one : ∀ j es, Γ[j]? = some (.own es) → j = i)
    (h : Dl t (Γ.set i (.val (.lst ds))) fun d Γ1 => Γ1 = Γ.set i (.val (.lst ds)) ∧ (∃ m : List Nat, d = .tup (m.map fun k : Nat => D.int k)) ∧ Q d Γ) : Dl t Γ Q := fun F σ W R g k => by
  obtain ⟨a, vs, hs, ua, fa, pa, ea, ra⟩ := g.own i ds hi
  obtain ⟨st0, g0⟩ := g.freeze hi hs
  refine h F σ ⟨W.H, fun b => W.U b ∧ b ≠ a, W.P⟩ R g0 fun v W1 d Γ1 st g1 r ⟨eΓ, ⟨m, ed⟩, q⟩ => ?_
  subst eΓ; subst ed
  have ea1 := st.keep a _ ea fun z => z.2 rfl
  have hp : W1.P = W.P := st.pur
  have stp : Stp F W ⟨W1.H, fun b => W1.U b ∨ b = a, W1.P⟩ := ⟨fun b u e n => by
    have hb := st.keep b u e fun z => n z.1
    exact ⟨hb.1, fun z => z.elim hb.2 fun z => n (z ▸ ua)⟩, hp, fun b z => st.fr b z⟩
  refine k v ⟨W1.H, fun b => W1.U b ∨ b = a, W1.P⟩ (.tup (m.map fun k : Nat => D.int k)) Γ stp ⟨⟨fun b z => z.elim (g1.ok.dom b) (fun z => by rw [z, ea1.1]; exact fun q => nomatch q), fun b z => .inl (g1.ok.fu b z), fun b z => let ⟨u, f, p⟩ := g1.ok.pu b z; ⟨.inl u, f, p⟩⟩, g.len, fun j d' e => ?_, fun j es e => ?_, g.apart⟩ ?_ q
  · obtain ⟨v', e1, r'⟩ := g.val j d' e
    exact ⟨v', e1, r'.stp stp⟩
  · obtain rfl := one j es e
    rw [hi] at e; cases e
    exact ⟨a, vs, hs, .inr rfl, fa, by rw [hp]; exact pa, ea1.1, ra.stp stp⟩
  · obtain ⟨b, ws, e1, hb, nu, l⟩ := r
    have nb : b ≠ a := fun z => by
      rw [z] at hb
      rcases hb with hb | ⟨o, hb⟩
      · rw [ea1.1] at hb; cases hb
      · rw [ea1.1] at hb; cases hb
    refine ⟨b, ws, e1, hb, fun z => z.elim nu nb, ?_⟩
    obtain rfl := repL_ord l
    exact ord_repL m
end Dw

/-! list(d.values()). -/
namespace Dw
open PySem PySem.Spec PyProof.Rows L2 HT
def rListVals : V → Hp → VK → Prop := fun x H Q => ∃ (d : Addr) (kvs : List (Key × V)), x = .ref d ∧ H d = some (.dK kvs) ∧ ∀ p, H p = none → Q (.ref p) (upd H p (.lst (kvs.map (·.2))))
def tListVals (te : TE) : TE := fun σ H Q => te σ H fun x H1 => rListVals x H1 Q
section
variable {X : Cx} {e : Expr} {te : TE} {p apos cpos pos : Pos}
theorem pe_listVals (hc : X.calm = true) (hg : Gl X "list") (hm : X.mg "list" = none) (he : PE X e te) (hv : bootBuiltins "list" = some (.type "list") := by decide +kernel) (hbase : attributeBase e "values" X.env (eval e X.env) = eval e X.env := by rfl) (hline : (apos.endLine == cpos.line) = true := by rfl)
    (hs : starEach [.Call (.Attribute e "values" apos) [] [] cpos] X.env = (false, eval (.Call (.Attribute e "values" apos) [] [] cpos) X.env) :: starEach [] X.env := by rfl) :
    PE X (.Call (.Name "list" p) [.Call (.Attribute e "values" apos) [] [] cpos] [] pos) (tListVals te) := by
  refine ⟨fun pins s σ H Q I hq => ?_⟩
  refine wpAny_Call_Name_kw (ld_blt I hg hm hv ?_)
  refine PyProof.Rows.callWith_type1 ?_ hs rfl
  rw [hs]
  show wpAny _ _ (spliced ((false, eval (.Call (.Attribute e "values" apos) [] [] cpos) X.env) :: backTo pos (starEach [] X.env))) _ _ s
  refine Calls.spliced_cons ?_
  refine wpAny_Call_method (T := "dict") (id := "dict.values") hbase rfl hline F.plainAttrs_dict F.slot_dict_values F.type_dict_values (thn (he.run pins s σ H _ I hq) fun u s1 ⟨x, H1, I1, rx, d, kvs, ex, hd, q⟩ => ?_)
  subst ex
  obtain rfl : u = Value.ref d := rx
  obtain ⟨hz, hs0, vs, kv, hdo⟩ := I1.hok d _ hd
  obtain ⟨ep, hat⟩ := hdo.dictAt
  have lk : kvs.length = vs.length := Paired.length kv
  have I2 : Inv X pins σ H1 { s1 with heap := s1.heap.push { cls := .type "dict_values", data := .fields #[.ref d] } } := I1.kept (t' := s1.toks) fun b ob q => Heap.get?_push_of_some _ q
  refine ⟨hdo.typeIs, hdo.mapOf.noDict, ?_⟩
  show wpAny _ _ (callWith cpos (.builtin "dict.values") [.ref d] [] []) _ X.xe s1
  refine method_meetsIn F.slot_dict_values F.entry_dict_values rfl (PySem.evalArgs_none ⟨rfl, hdo.typeIs, F.args_dict_values_1 _, _, meets_dict_values (mixKind X.prog X.w) d hs0, ⟨vs, hdo⟩, ?_⟩)
  refine Calls.spliced_nil ?_
  refine PySem.W.kdl_call (PySem.W.kdl_values (knd := mixKind X.prog X.w) (kvs := vs) (ep := ep)) (I1.ok.hd hc) ⟨⟨_, Heap.get?_push_size _ rfl, rfl, rfl⟩, hat.push _⟩ (by omega) fun h' tk acc' c' hkeep hS hacc => ?_
  refine ⟨.ref _, upd H1 _ (.lst (kvs.map (·.2))), I2.laid hkeep (Nat.le_refl _) (show ObjOk X.prog X.w _ _ _ (.lst (kvs.map (·.2))) from ⟨?_, acc'.toList, c', ?_, ?_⟩), rfl, q _ (I2.hok.fresh (Nat.le_refl _))⟩
  · rw [List.length_map]; exact hz
  · have el : acc'.toList.length = acc'.size := by simp
    refine vals_of_at (by rw [List.length_map, el, hacc.1, lk]) fun j x w h1 h2 => ?_
    obtain ⟨k, hky⟩ := hacc.2 j w (by rw [← Array.getElem?_toList]; exact h2)
    obtain ⟨x2, h3, h4⟩ := KV.at' kv hky
    rw [List.getElem?_map, h3] at h1
    cases h1
    exact h4
  · rw [Array.toArray_toList]; exact hS
variable {Γ : Gam} {td : TE}
theorem evn_listVals {ks : List Key} {ds : List D} (h : Ev td Γ (.dct ks ds)) : EvN (tListVals td) Γ ds := fun F σ W Q g k =>
  h F σ W _ g fun u H s ⟨a, vs, eu, e, nu, hl, rl⟩ => ⟨a, ks.zip vs, eu, e, fun n hn => by
    rw [List.map_snd_zip (by omega)]
    exact k n vs _ (Same.trans s (same_upd hn)) (s.free hn) upd_same (RepL.plus (W := W.at H) hn (same_upd hn) rl)⟩
end
end Dw

/-! xs == [] of any list. -/
namespace Dw
open PySem PySem.Spec PyProof.Rows L2 HT
abbrev rEqL0 (K : PySem.W.Frag) : R2 := fun x y H Q => ∃ a b xs, x = .ref a ∧ y = .ref b ∧ SqL K H a xs ∧ SqL K H b [] ∧ Q (.bl xs.isEmpty) H
theorem op_eqL0 {X : Cx} (hu : X.A.units + 64 < cLine) : OpR X (compareOp .Eq) (rEqL0 X.K) := by
  intro pins s σ H x y v u Q I rx ry h
  obtain ⟨a, b, xs, rfl, rfl, ha, hb, q⟩ := h
  cases rx
  cases ry
  obtain ⟨its, r1, p1, _⟩ := I.list ha
  obtain ⟨its2, r2, p2, _⟩ := I.list hb
  cases r2
  cases xs with
  | nil =>
    cases r1
    refine PySem.EqBoolInt.of_rc (SeqAt.RcAt.lists (e := fun _ => true) p1.isList p2.isList rfl (by omega) (fun j h1 h2 => absurd h2 (by simp))) ?_
    exact ⟨.bl _, H, I, rfl, q⟩
  | cons x xs =>
    cases r1
    refine PySem.EqBoolInt.of_rc (SeqAt.RcAt.lists_lengths p1.isList p2.isList (by simp) (by omega)) ?_
    exact ⟨.bl _, H, I, rfl, q⟩
theorem eqL0A {X : Cx} (K : PySem.W.Frag) (hu : X.A.units + 64 < cLine) (hK : X.K = K := by rfl) : OpR X (compareOp .Eq) (rEqL0 K) := hK ▸ op_eqL0 hu
theorem eq_L0 {K : PySem.W.Frag} {ds : List D} : DR2 (rEqL0 K) (.lst ds) (.lst []) (.bl ds.isEmpty) := dr2_flat fun W u v Q ⟨a, vs, eu, e, nu, l⟩ ⟨b, ws, ev, e2, nu2, l2⟩ k => ⟨a, b, vs, eu, ev, .of e, by rw [show ws = [] from l2] at e2; exact .of e2, k _ (by
  have := l.length
  cases ds <;> cases vs <;> first | rfl | (simp at this))⟩
/-- the comprehension's answer against [] -/
theorem ev_eqL0 {K : PySem.W.Frag} {Γ : Gam} {ta tb : TE} {ds : List D} {b : Bool} (ha : EvN ta Γ ds) (hb : Ev tb Γ (.lst [])) (e : ds.isEmpty = b) : Ev (tOp (rEqL0 K) ta tb) Γ (.bl b) := ev_op ha.ev hb (e ▸ eq_L0)
theorem ev_neL0 {K : PySem.W.Frag} {Γ : Gam} {ta tb : TE} {ds : List D} {b : Bool} (ha : EvN ta Γ ds) (hb : Ev tb Γ (.lst [])) (e : (!ds.isEmpty) = b) : Ev (tOp (rNeL0 K) ta tb) Γ (.bl b) := ev_op ha.ev hb (e ▸ ne_L0)
theorem filter_no {α β : Type} (xs : List α) (p : α → Bool) (f : α → β) : ((xs.filter p).map f).isEmpty = xs.all fun x => !p x := by
  induction xs with
  | nil => rfl
  | cons x r ih =>
    cases h : p x with
    | true => simp [List.filter_cons, h]
    | false => simp only [List.filter_cons, h, List.all_cons, Bool.not_false, Bool.true_and]; exact ih
/-! ### texts, >= -/
theorem op_ge_str {X : Cx} : OpR X (compareOp .GtE) (fun x y H Q => ∃ i j, x = .str i ∧ y = .str j ∧ Q (.bl (!decide (i.cps.toList < j.cps.toList))) H) := by
  intro pins s σ H x y v u Q I rx ry h
  obtain ⟨i, j, rfl, rfl, q⟩ := h
  obtain ⟨t, rfl⟩ := rx
  obtain ⟨t', rfl⟩ := ry
  exact PySem.P.ge_str (fin_bl I q rfl)
abbrev rGeS : R2 := fun x y H Q => ∃ i j, x = .str i ∧ y = .str j ∧ Q (.bl (!decide (i.cps.toList < j.cps.toList))) H
theorem opGeS {X : Cx} : OpR X (compareOp .GtE) rGeS := op_ge_str
theorem ge_txS {a b : List Nat} : DR2 rGeS (.str (tx a)) (.str (tx b)) (.bl (!decide (a < b))) := dr2_flat fun W u v Q r1 r2 k => ⟨tx a, tx b, r1, r2, by rw [tx_cps, tx_cps]; exact k _ rfl⟩
/-! ### range(a, b) -/
def rng2 (a n : Nat) : List D := (List.range n).map fun (i : Nat) => D.int ((a + i : Nat) : Int)
theorem rng2_get {a n i : Nat} {x : D} (h : (rng2 a n)[i]? = some x) : i < n ∧ x = .int ((a + i : Nat) : Int) := by
  unfold rng2 at h
  rw [List.getElem?_map] at h
  by_cases hi : i < n
  · rw [List.getElem?_range hi] at h
    cases h; exact ⟨hi, rfl⟩
  · rw [List.getElem?_eq_none (by simpa using hi)] at h; cases h
theorem rng2_length (a n : Nat) : (rng2 a n).length = n := by simp [rng2]
theorem ei_range2 {Γ : Gam} {ta : TA} {a b : Nat} (h : EvA ta Γ [.int a, .int b]) (ha : a < 2 ^ 62) (hb : b < 2 ^ 62) : Ei (iRng2 ta) Γ (rng2 a (b - a)) := fun F σ W R g k => h F σ W _ g fun vs H st r => by
  obtain ⟨v, _, rfl, rv, v2, _, rfl, rv2, rfl⟩ := r
  refine ⟨a, b, by rw [show v = V.int a from rv, show v2 = V.int b from rv2], ⟨by omega, by omega, by omega, by omega⟩, k (Itr a ((b : Int) - a).toNat) H st ⟨fun W2 i x dm s2 ku pu hx => ?_, fun H2 s2 => ?_⟩⟩
  · obtain ⟨hi, rfl⟩ := rng2_get hx
    refine ⟨by show i < ((b : Int) - a).toNat; omega, fun u H' ⟨e, hy⟩ => ?_⟩
    subst e hy
    exact ⟨Same.refl _, by show V.int ((a : Int) + (i : Int)) = V.int ((a + i : Nat) : Int); congr 1⟩
  · show ((b : Int) - a).toNat ≤ _
    rw [rng2_length]; omega
end Dw

/-! {"a": 1, ..}, d.get(k, z); cuts and sums of tuples whose cells are known. -/
namespace Dw
open PySem PySem.Spec PyProof.Rows L2 HT
section
variable {Γ : Gam} {td ty : TE}
theorem tPairs_si (σ : L2.St) (H : Hp) : ∀ (kvs : List (Str × Int)) (Q : List (V × V) → Hp → Prop), Q (kvs.map fun p => (V.str p.1, V.int p.2)) H → tPairs (kvs.map fun p => (tC (.str p.1), tC (.int p.2))) σ H Q
  | [], Q, h => h
  | p :: r, Q, h => tPairs_si σ H r _ h
theorem zip_kv (kvs : List (Str × Int)) : (kvs.map fun p => (Sum.inr p.1 : Key)).zip (kvs.map fun p => V.int p.2) = kvs.map fun p => (Sum.inr p.1, V.int p.2) := by
  induction kvs with
  | nil => rfl
  | cons p r ih => rw [List.map_cons, List.map_cons, List.zip_cons_cons, ih]; rfl
theorem repL_si {W : Wd} : ∀ kvs : List (Str × Int), RepL W (kvs.map fun p => D.int p.2) (kvs.map fun p => V.int p.2)
  | [] => rfl
  | p :: r => ⟨.int p.2, _, rfl, rfl, repL_si r⟩
theorem repL_si' {W : Wd} : ∀ {kvs : List (Str × Int)} {vs : List V}, RepL W (kvs.map fun p => D.int p.2) vs → vs = kvs.map fun p => V.int p.2
  | [], _, h => h
  | p :: r, _, ⟨v, rs, e, h1, h2⟩ => by rw [e, show v = V.int p.2 from h1, repL_si' h2]; rfl
theorem ev_dispS {trs : List (TE × TE)} (kvs : List (Str × Int)) (ht : trs = kvs.map fun p => (tC (.str p.1), tC (.int p.2))) (hl : kvs.length ≤ 15) (hm : mergeK [] (kvs.map fun p => ((Sum.inr p.1 : Key), V.int p.2)) = kvs.map fun p => (Sum.inr p.1, .int p.2)) :
    Ev (tDisp trs) Γ (.dct (kvs.map fun p => Sum.inr p.1) (kvs.map fun p => .int p.2)) := fun F σ W Q g k => fun p hp => by
  subst ht
  refine tPairs_si σ _ kvs _ ⟨upd_same, kvs.map fun p => (Sum.inr p.1, .int p.2), by rw [List.map_map]; rfl, by rw [List.length_map]; exact hl, ?_⟩
  rw [upd_upd, hm]
  exact k _ _ (same_upd hp) ⟨p, kvs.map fun p => V.int p.2, rfl, by rw [zip_kv]; exact upd_same, fun u => g.ok.dom p u hp, by rw [List.length_map, List.length_map], repL_si kvs⟩
theorem valV_si (kvs : List (Str × Int)) (x : Str) : valV (kvs.map fun p => ((Sum.inr p.1 : Key), V.int p.2)) (Sum.inr x) = ((kvs.find? fun p => decide (p.1 = x)).map fun p => V.int p.2) := by
  induction kvs with
  | nil => rfl
  | cons p r ih =>
    rw [List.map_cons, List.find?_cons]
    by_cases h : p.1 = x
    · rw [valV_pos (by rw [h]), decide_eq_true h]; rfl
    · rw [valV_neg (fun z => h (Sum.inr.inj z)), decide_eq_false h]; exact ih
theorem ev_dget2S {kvs : List (Str × Int)} {x : Str} {z : Int} (h : Ev td Γ (.dct (kvs.map fun p => Sum.inr p.1) (kvs.map fun p => .int p.2))) (hk : Ev ty Γ (.str x)) : Ev (tDGet2 td ty (tC (.int z))) Γ (.int (((kvs.find? fun p => decide (p.1 = x)).map (·.2)).getD z)) := fun F σ W Q g k => h F σ W _ g fun v H s ⟨a, vs, ev, e, nu, hl, rl⟩ => by
  subst ev
  obtain rfl := repL_si' rl
  rw [zip_kv] at e
  refine ⟨a, rfl, .inl ⟨_, .inl e⟩, hk F σ (W.at H) _ (g.same s) fun w H2 s2 rw' => ?_⟩
  refine ⟨valV (kvs.map fun p => ((Sum.inr p.1 : Key), V.int p.2)) (Sum.inr x), ?_, ?_⟩
  · rw [show w = V.str x from rw']; exact DGet.k (k := Sum.inr x) (s2 _ _ e)
  · refine k _ H2 (Same.trans s s2) ?_
    rw [valV_si]
    show _ = V.int _
    cases kvs.find? fun p => decide (p.1 = x) <;> rfl
end
/-! ### t[a:b], its cell known -/
abbrev rSlN (K : PySem.W.Frag) : V → Option Int → Option Int → Hp → VK → Prop := fun x lo hi H Q => ∃ a xs, x = .ref a ∧ SqT K H a xs ∧ ((HT.sIx xs.length 0 lo = 0 ∧ HT.sIx xs.length xs.length hi = xs.length) → Q (.ref a) H) ∧ (¬ (HT.sIx xs.length 0 lo = 0 ∧ HT.sIx xs.length xs.length hi = xs.length) → NewT H (cutV xs lo hi) Q)
theorem sl_tupN {X : Cx} : SlR X (rSlN X.K) := by
  intro pins s σ H x v vl vu lo hi sl Q I rx hs pl pu h
  obtain ⟨a, xs, rfl, hx, q1, q2⟩ := h
  cases rx
  obtain ⟨its, r, ht, hz⟩ := I.tuple hx
  have hlen : its.toArray.size = xs.length := by rw [List.size_toArray]; exact r.length.symm
  refine ⟨"tuple", _, PyProof.Rows.slot_tuple_getitem.lookup, ht.typeIs, ?_⟩
  by_cases hw : HT.sIx xs.length 0 lo = 0 ∧ HT.sIx xs.length xs.length hi = xs.length
  · exact getItem_tuple_whole ht hs pl pu (by rw [hlen]; exact hw) ⟨.ref a, H, I, rfl, q1 hw⟩
  · refine HT.getItem_tuple_cut ht hs pl pu (by rw [hlen]; exact hw) ?_ (by rw [hlen]; exact hz)
    rw [hlen]
    exact new_tup I ((r.drop (HT.sIx xs.length 0 lo)).take (HT.sIx xs.length xs.length hi - HT.sIx xs.length 0 lo)) (Nat.le_trans (cutV_length xs lo hi) hz) (q2 hw)
abbrev rSlXN (K : PySem.W.Frag) : V → Option Int → Option Int → Hp → VK → Prop := fun x lo hi H Q => rSlX K x lo hi H Q ∨ rSlN K x lo hi H Q
theorem slXNA {X : Cx} (K : PySem.W.Frag) (hK : X.K = K := by rfl) : SlR X (rSlXN K) := by subst hK; exact (slXA X.K).or sl_tupN
section
variable {K : PySem.W.Frag} {Γ : Gam} {te : TE} {ds : List D}
theorem ev_sliceTN {tl th : TO} {lo hi : Option Int} (h : Ev te Γ (.tupN ds)) (h1 : Eo tl Γ lo) (h2 : Eo th Γ hi) : Ev (tSl (rSlXN K) te tl th) Γ (.tupN (cutD ds lo hi)) := fun F σ W Q g k => h F σ W _ g fun v H s ⟨a, vs, ev, e, nu, l⟩ => h1 F σ (W.at H) _ (g.same s) fun H1 s1 => h2 F σ ((W.at H).at H1) _ ((g.same s).same s1) fun H2 s2 => by
  have sm : Same H H2 := Same.trans s1 s2
  subst ev
  refine .inr ⟨a, vs, rfl, (e.same sm).at.sq, fun hw => ?_, fun hw p ob c d hp => k _ _ (Same.trans s (Same.trans sm (same_upd hp))) (rep_new_tupN (W := W.at H2) (((g.same s).same s1).same s2).ok.dom hp c d (repL_cut (RepL.same (W := W.at H) sm l)))⟩
  have e1 : cutD ds lo hi = ds := cut_whole ds ds.length lo hi rfl (by rw [l.length]; exact hw)
  rw [e1] at k
  exact k _ H2 (Same.trans s sm) ⟨a, vs, rfl, e.same sm, nu, RepL.same (W := W.at H) sm l⟩
theorem plF_NN {es : List D} (h : ds.length + es.length ≤ sizeLine) : DR2 (rPlusF K) (.tupN ds) (.tupN es) (.tupN (ds ++ es)) := by
  by_cases n : es = []
  · subst n
    rw [List.append_nil]
    by_cases n0 : ds = []
    · subst n0
      exact dr2_l (dr2_r (dr2_flat fun W u v Q ⟨a, vs, e1, h1, n1, l1⟩ b k => by
        obtain ⟨c, ws, e2, h2, n2, l2⟩ := id b
        obtain rfl : vs = [] := l1
        exact ⟨a, c, ws, e1, e2, h1.at.sq, h2.at.sq, by rw [← e2]; exact k v b⟩))
    · refine dr2_l (dr2_l (dr2_r (dr2_r (dr2_r fun W u v Q dom ⟨a, vs, e1, h1, n1, l1⟩ ⟨b, ws, e2, h2, n2, l2⟩ k => ?_))))
      have nv : vs ≠ [] := fun z => n0 (List.length_eq_zero_iff.mp (by rw [l1.length, z]; rfl))
      obtain rfl : ws = [] := l2
      subst e1
      exact ⟨a, b, vs, [], rfl, e2, h1.at.sq, h2.at.sq, nv, by rw [← l1.length]; exact h, fun _ => k _ W.H (Same.refl _) ⟨a, vs, rfl, h1, n1, l1⟩, fun z => absurd rfl z⟩
  · exact fun W u v Q dom r1 r2 k => plF_tupN (K := K) n h W u v Q dom r1.dn r2 k
end
/-! ### t == () -/
abbrev rEqT0 (K : PySem.W.Frag) : R2 := fun x y H Q => ∃ a b xs, x = .ref a ∧ y = .ref b ∧ SqT K H a xs ∧ SqT K H b [] ∧ Q (.bl xs.isEmpty) H
theorem op_eqT0 {X : Cx} (hu : X.A.units + 64 < cLine) : OpR X (compareOp .Eq) (rEqT0 X.K) := by
  intro pins s σ H x y v u Q I rx ry h
  obtain ⟨a, b, xs, rfl, rfl, ha, hb, q⟩ := h
  cases rx
  cases ry
  obtain ⟨its, r1, ⟨o, ho, hc, n, hd⟩, _⟩ := I.tuple ha
  obtain ⟨its2, r2, ⟨o2, ho2, hc2, n2, hd2⟩, _⟩ := I.tuple hb
  cases r2
  have e : ((List.range (min its.toArray.size ([] : List Value).toArray.size)).all (fun _ => true) && its.toArray.size == ([] : List Value).toArray.size) = xs.isEmpty := by
    have h1 := r1.length
    rw [show (List.range (min its.toArray.size ([] : List Value).toArray.size)).all (fun _ => true) = true from List.all_eq_true.mpr fun _ _ => rfl, Bool.true_and, List.size_toArray, List.size_toArray, ← h1]
    cases xs <;> rfl
  refine PySem.EqBoolInt.of_rc (SeqAt.RcAt.tuples (e := fun _ => true) ⟨o, ho, hc, n, hd⟩ ⟨o2, ho2, hc2, n2, hd2⟩ (by omega) (fun j h1 h2 => absurd h2 (by simp))) ?_
  exact ⟨.bl _, H, I, by rw [e]; rfl, q⟩
theorem eqT0A {X : Cx} (K : PySem.W.Frag) (hu : X.A.units + 64 < cLine) (hK : X.K = K := by rfl) : OpR X (compareOp .Eq) (rEqT0 K) := hK ▸ op_eqT0 hu
theorem eq_T0 {K : PySem.W.Frag} {ds : List D} : DR2 (rEqT0 K) (.tup ds) (.tup []) (.bl ds.isEmpty) := dr2_flat fun W u v Q ⟨a, vs, eu, e, nu, l⟩ ⟨b, ws, ev, e2, nu2, l2⟩ k => ⟨a, b, vs, eu, ev, e.sq, by rw [show ws = [] from l2] at e2; exact e2.sq, k _ (by
  have := l.length
  cases ds <;> cases vs <;> first | rfl | (simp at this))⟩
end Dw

namespace K61
open PySem PySem.Spec PyProof.Rows L2 Dw
/-! ### the text by places -/
def topS (i : Nat) : Stmt := PySem.Challenge.pw_rankedrules_k61_things_of_any_sort_judge.main.body.getD i (.Pass ⟨0, 0, 0, 0⟩)
abbrev s_is_name : Stmt := topS 9
abbrev N_is_name : List Str := ["value", "letter"]
theorem sc_is_name : FnScope N_is_name ["value"] (defScope s_is_name) := ⟨rfl, rfl, rfl, by decide +kernel, rfl, by decide +kernel, by decide +kernel⟩
abbrev s_are_names : Stmt := topS 10
abbrev N_are_names : List Str := ["values", "one", "other", "value"]
theorem sc_are_names : FnScope N_are_names ["values"] (defScope s_are_names) := ⟨rfl, rfl, rfl, by decide +kernel, rfl, by decide +kernel, by decide +kernel⟩
abbrev s_is_number : Stmt := topS 11
abbrev N_is_number : List Str := ["word", "digit"]
theorem sc_is_number : FnScope N_is_number ["word"] (defScope s_is_number) := ⟨rfl, rfl, rfl, by decide +kernel, rfl, by decide +kernel, by decide +kernel⟩
abbrev s_is_any_row : Stmt := topS 12
abbrev N_is_any_row : List Str := ["value", "sign"]
theorem sc_is_any_row : FnScope N_is_any_row ["value"] (defScope s_is_any_row) := ⟨rfl, rfl, rfl, by decide +kernel, rfl, by decide +kernel, by decide +kernel⟩
abbrev s_is_row : Stmt := topS 13
abbrev N_is_row : List Str := ["value", "many"]
theorem sc_is_row : FnScope N_is_row ["value", "many"] (defScope s_is_row) := ⟨rfl, rfl, rfl, by decide +kernel, rfl, by decide +kernel, by decide +kernel⟩
abbrev s_is_whole : Stmt := topS 14
abbrev N_is_whole : List Str := ["value"]
theorem sc_is_whole : FnScope N_is_whole ["value"] (defScope s_is_whole) := ⟨rfl, rfl, rfl, by decide +kernel, rfl, by decide +kernel, by decide +kernel⟩
abbrev s_is_index : Stmt := topS 15
abbrev N_is_index : List Str := ["value", "many"]
theorem sc_is_index : FnScope N_is_index ["value", "many"] (defScope s_is_index) := ⟨rfl, rfl, rfl, by decide +kernel, rfl, by decide +kernel, by decide +kernel⟩
abbrev s_is_pair : Stmt := topS 16
abbrev N_is_pair : List Str := ["one", "other", "many"]
theorem sc_is_pair : FnScope N_is_pair ["one", "other", "many"] (defScope s_is_pair) := ⟨rfl, rfl, rfl, by decide +kernel, rfl, by decide +kernel, by decide +kernel⟩
abbrev s_wrong_in_lot : Stmt := topS 17
abbrev N_wrong_in_lot : List Str := ["lot", "many", "least", "at", "index"]
theorem sc_wrong_in_lot : FnScope N_wrong_in_lot ["lot", "many"] (defScope s_wrong_in_lot) := ⟨rfl, rfl, rfl, by decide +kernel, rfl, by decide +kernel, by decide +kernel⟩
abbrev s_is_lot : Stmt := topS 18
abbrev N_is_lot : List Str := ["value", "many"]
theorem sc_is_lot : FnScope N_is_lot ["value", "many"] (defScope s_is_lot) := ⟨rfl, rfl, rfl, by decide +kernel, rfl, by decide +kernel, by decide +kernel⟩
abbrev s_is_ranking : Stmt := topS 19
abbrev N_is_ranking : List Str := ["value", "many", "rule"]
theorem sc_is_ranking : FnScope N_is_ranking ["value", "many"] (defScope s_is_ranking) := ⟨rfl, rfl, rfl, by decide +kernel, rfl, by decide +kernel, by decide +kernel⟩
abbrev s_read_book : Stmt := topS 22
abbrev N_read_book : List Str := ["text", "head", "_", "tail", "names", "first", "rows", "row"]
theorem sc_read_book : FnScope N_read_book ["text"] (defScope s_read_book) := ⟨rfl, rfl, rfl, by decide +kernel, rfl, by decide +kernel, by decide +kernel⟩
abbrev s_read_mark : Stmt := topS 23
abbrev N_read_mark : List Str := ["word"]
theorem sc_read_mark : FnScope N_read_mark ["word"] (defScope s_read_mark) := ⟨rfl, rfl, rfl, by decide +kernel, rfl, by decide +kernel, by decide +kernel⟩
abbrev s_read_candidates : Stmt := topS 24
abbrev N_read_candidates : List Str := ["text", "read_word", "parts", "names", "many", "marks", "part", "words", "row", "word"]
theorem sc_read_candidates : FnScope N_read_candidates ["text", "read_word"] (defScope s_read_candidates) := ⟨rfl, rfl, rfl, by decide +kernel, rfl, by decide +kernel, by decide +kernel⟩
abbrev s_read_case : Stmt := topS 25
abbrev N_read_case : List Str := ["text"]
theorem sc_read_case : FnScope N_read_case ["text"] (defScope s_read_case) := ⟨rfl, rfl, rfl, by decide +kernel, rfl, by decide +kernel, by decide +kernel⟩
abbrev s_row_holds : Stmt := topS 28
abbrev N_row_holds : List Str := ["row", "ranking", "rule"]
theorem sc_row_holds : FnScope N_row_holds ["row", "ranking"] (defScope s_row_holds) := ⟨rfl, rfl, rfl, by decide +kernel, rfl, by decide +kernel, by decide +kernel⟩
abbrev s_all_hold : Stmt := topS 29
abbrev N_all_hold : List Str := ["rows", "ranking", "row"]
theorem sc_all_hold : FnScope N_all_hold ["rows", "ranking"] (defScope s_all_hold) := ⟨rfl, rfl, rfl, by decide +kernel, rfl, by decide +kernel, by decide +kernel⟩
abbrev s_turned : Stmt := topS 30
abbrev N_turned : List Str := ["row", "sign"]
theorem sc_turned : FnScope N_turned ["row"] (defScope s_turned) := ⟨rfl, rfl, rfl, by decide +kernel, rfl, by decide +kernel, by decide +kernel⟩
abbrev s_row_of_pair : Stmt := topS 31
abbrev N_row_of_pair : List Str := ["one", "other", "many", "signs", "rule"]
theorem sc_row_of_pair : FnScope N_row_of_pair ["one", "other", "many"] (defScope s_row_of_pair) := ⟨rfl, rfl, rfl, by decide +kernel, rfl, by decide +kernel, by decide +kernel⟩
abbrev s_sign_of : Stmt := topS 32
abbrev N_sign_of : List Str := ["mark", "rival"]
theorem sc_sign_of : FnScope N_sign_of ["mark", "rival"] (defScope s_sign_of) := ⟨rfl, rfl, rfl, by decide +kernel, rfl, by decide +kernel, by decide +kernel⟩
abbrev s_row_between : Stmt := topS 33
abbrev N_row_between : List Str := ["mine", "theirs", "mark", "rival"]
theorem sc_row_between : FnScope N_row_between ["mine", "theirs"] (defScope s_row_between) := ⟨rfl, rfl, rfl, by decide +kernel, rfl, by decide +kernel, by decide +kernel⟩
abbrev s_fused_sign : Stmt := topS 34
abbrev N_fused_sign : List Str := ["signs"]
theorem sc_fused_sign : FnScope N_fused_sign ["signs"] (defScope s_fused_sign) := ⟨rfl, rfl, rfl, by decide +kernel, rfl, by decide +kernel, by decide +kernel⟩
abbrev s_fused : Stmt := topS 35
abbrev N_fused : List Str := ["rows", "many", "rule", "row"]
theorem sc_fused : FnScope N_fused ["rows", "many"] (defScope s_fused) := ⟨rfl, rfl, rfl, by decide +kernel, rfl, by decide +kernel, by decide +kernel⟩
abbrev s_is_fitting : Stmt := topS 38
abbrev N_is_fitting : List Str := ["value", "rows", "many"]
theorem sc_is_fitting : FnScope N_is_fitting ["value", "rows", "many"] (defScope s_is_fitting) := ⟨rfl, rfl, rfl, by decide +kernel, rfl, by decide +kernel, by decide +kernel⟩
abbrev s_do_quarrel : Stmt := topS 39
abbrev N_do_quarrel : List Str := ["rows", "many", "fusion"]
theorem sc_do_quarrel : FnScope N_do_quarrel ["rows", "many"] (defScope s_do_quarrel) := ⟨rfl, rfl, rfl, by decide +kernel, rfl, by decide +kernel, by decide +kernel⟩
abbrev s_shows_quarrel : Stmt := topS 40
abbrev N_shows_quarrel : List Str := ["certificate", "rows", "many", "index"]
theorem sc_shows_quarrel : FnScope N_shows_quarrel ["certificate", "rows", "many"] (defScope s_shows_quarrel) := ⟨rfl, rfl, rfl, by decide +kernel, rfl, by decide +kernel, by decide +kernel⟩
abbrev s_shows_following : Stmt := topS 41
abbrev N_shows_following : List Str := ["certificate", "rows", "row", "lot", "index"]
theorem sc_shows_following : FnScope N_shows_following ["certificate", "rows", "row"] (defScope s_shows_following) := ⟨rfl, rfl, rfl, by decide +kernel, rfl, by decide +kernel, by decide +kernel⟩
abbrev s_shows_open : Stmt := topS 42
abbrev N_shows_open : List Str := ["certificate", "rows", "row", "one", "other"]
theorem sc_shows_open : FnScope N_shows_open ["certificate", "rows", "row"] (defScope s_shows_open) := ⟨rfl, rfl, rfl, by decide +kernel, rfl, by decide +kernel, by decide +kernel⟩
abbrev s_may_follow : Stmt := topS 43
abbrev N_may_follow : List Str := ["rule", "lot", "rows", "row", "one"]
theorem sc_may_follow : FnScope N_may_follow ["rule", "lot", "rows"] (defScope s_may_follow) := ⟨rfl, rfl, rfl, by decide +kernel, rfl, by decide +kernel, by decide +kernel⟩
abbrev s_count_rankings : Stmt := topS 44
abbrev N_count_rankings : List Str := ["rows", "many", "ways", "_", "longer", "lot", "rule", "more"]
theorem sc_count_rankings : FnScope N_count_rankings ["rows", "many"] (defScope s_count_rankings) := ⟨rfl, rfl, rfl, by decide +kernel, rfl, by decide +kernel, by decide +kernel⟩
abbrev s_are_alike : Stmt := topS 45
abbrev N_are_alike : List Str := ["names", "rows", "text", "other", "both"]
theorem sc_are_alike : FnScope N_are_alike ["names", "rows", "text"] (defScope s_are_alike) := ⟨rfl, rfl, rfl, by decide +kernel, rfl, by decide +kernel, by decide +kernel⟩
abbrev s_shows_above : Stmt := topS 46
abbrev N_shows_above : List Str := ["certificate", "rows", "many", "pair", "one", "other"]
theorem sc_shows_above : FnScope N_shows_above ["certificate", "rows", "many", "pair"] (defScope s_shows_above) := ⟨rfl, rfl, rfl, by decide +kernel, rfl, by decide +kernel, by decide +kernel⟩
abbrev s_accepts_of_book : Stmt := topS 47
abbrev N_accepts_of_book : List Str := ["word", "book", "parts", "certificate", "names", "rows", "many"]
theorem sc_accepts_of_book : FnScope N_accepts_of_book ["word", "book", "parts", "certificate"] (defScope s_accepts_of_book) := ⟨rfl, rfl, rfl, by decide +kernel, rfl, by decide +kernel, by decide +kernel⟩
abbrev s_accepts_of_case : Stmt := topS 48
abbrev N_accepts_of_case : List Str := ["word", "case", "one", "certificate", "names", "marks", "mine", "rows", "name", "theirs"]
theorem sc_accepts_of_case : FnScope N_accepts_of_case ["word", "case", "one", "certificate"] (defScope s_accepts_of_case) := ⟨rfl, rfl, rfl, by decide +kernel, rfl, by decide +kernel, by decide +kernel⟩
abbrev s_accepts : Stmt := topS 49
abbrev N_accepts : List Str := ["claim", "certificate", "word", "parts", "text", "others", "case", "book"]
theorem sc_accepts : FnScope N_accepts ["claim", "certificate"] (defScope s_accepts) := ⟨rfl, rfl, rfl, by decide +kernel, rfl, by decide +kernel, by decide +kernel⟩
abbrev s__law_begun : Stmt := topS 51
abbrev N__law_begun : List Str := ["_law_script", "_law_turn", "_law_own", "_law_state", "_law_cell"]
theorem sc__law_begun : FnScope N__law_begun ["_law_script", "_law_turn"] (defScope s__law_begun) := ⟨rfl, rfl, rfl, by decide +kernel, rfl, by decide +kernel, by decide +kernel⟩
abbrev s__law_cast : Stmt := topS 52
abbrev N__law_cast : List Str := ["_law_pail", "_law_many", "_law_figure", "_law_state"]
theorem sc__law_cast : FnScope N__law_cast ["_law_pail", "_law_many"] (defScope s__law_cast) := ⟨rfl, rfl, rfl, by decide +kernel, rfl, by decide +kernel, by decide +kernel⟩
abbrev s__law_any_of : Stmt := topS 53
abbrev N__law_any_of : List Str := ["_law_pail", "_law_some"]
theorem sc__law_any_of : FnScope N__law_any_of ["_law_pail", "_law_some"] (defScope s__law_any_of) := ⟨rfl, rfl, rfl, by decide +kernel, rfl, by decide +kernel, by decide +kernel⟩
abbrev s__law_words : Stmt := topS 54
abbrev N__law_words : List Str := ["_law_pail", "_law_many", "_law_menu", "_law_chosen", "_law_k"]
theorem sc__law_words : FnScope N__law_words ["_law_pail", "_law_many"] (defScope s__law_words) := ⟨rfl, rfl, rfl, by decide +kernel, rfl, by decide +kernel, by decide +kernel⟩
abbrev s__law_said : Stmt := topS 55
abbrev N__law_said : List Str := ["_law_words_here", "_law_rows", "_law_row"]
theorem sc__law_said : FnScope N__law_said ["_law_words_here", "_law_rows"] (defScope s__law_said) := ⟨rfl, rfl, rfl, by decide +kernel, rfl, by decide +kernel, by decide +kernel⟩
abbrev s__law_thing : Stmt := topS 56
abbrev N__law_thing : List Str := ["_law_pail", "_law_menu"]
theorem sc__law_thing : FnScope N__law_thing ["_law_pail"] (defScope s__law_thing) := ⟨rfl, rfl, rfl, by decide +kernel, rfl, by decide +kernel, by decide +kernel⟩
abbrev s__law_told : Stmt := topS 57
abbrev N__law_told : List Str := ["_law_claim_here", "_law_paper"]
theorem sc__law_told : FnScope N__law_told ["_law_claim_here", "_law_paper"] (defScope s__law_told) := ⟨rfl, rfl, rfl, by decide +kernel, rfl, by decide +kernel, by decide +kernel⟩
abbrev s__law_goods : Stmt := topS 58
abbrev N__law_goods : List Str := ["_law_pail", "_law_words_here", "_law_names_here", "_law_small", "_law_wide", "_law_bad", "_law_other", "_law_case_here", "_law_found"]
theorem sc__law_goods : FnScope N__law_goods ["_law_pail"] (defScope s__law_goods) := ⟨rfl, rfl, rfl, by decide +kernel, rfl, by decide +kernel, by decide +kernel⟩
abbrev s__law_odd : Stmt := topS 59
abbrev N__law_odd : List Str := ["_law_pail"]
theorem sc__law_odd : FnScope N__law_odd ["_law_pail"] (defScope s__law_odd) := ⟨rfl, rfl, rfl, by decide +kernel, rfl, by decide +kernel, by decide +kernel⟩
abbrev s__law_wrong : Stmt := topS 60
abbrev N__law_wrong : List Str := ["_law_pail", "_law_claim_here", "_law_way", "_law_menu", "_law_at"]
theorem sc__law_wrong : FnScope N__law_wrong ["_law_pail", "_law_claim_here"] (defScope s__law_wrong) := ⟨rfl, rfl, rfl, by decide +kernel, rfl, by decide +kernel, by decide +kernel⟩
abbrev s__law_right : Stmt := topS 61
abbrev N__law_right : List Str := ["_law_pail", "_law_goods_here", "_law_claim_here", "_law_paper", "_law_turn", "_law_odd_here", "_law_bent", "_law_at", "_law_changed_here", "_law_thing_here"]
theorem sc__law_right : FnScope N__law_right ["_law_pail"] (defScope s__law_right) := ⟨rfl, rfl, rfl, by decide +kernel, rfl, by decide +kernel, by decide +kernel⟩
abbrev s_law : Stmt := topS 62
abbrev N_law : List Str := ["_law_script", "_law_turn"]
theorem sc_law : FnScope N_law ["_law_script"] (defScope s_law) := ⟨rfl, rfl, rfl, by decide +kernel, rfl, by decide +kernel, by decide +kernel⟩
/-! ### what the top has written -/
structure Txt (K : PySem.W.Frag) (w : World) (mg : Str → Option Value) where
  f_is_name : Addr
  e_is_name : FuncData
  F_is_name : Fun K "is_name" "is_name" s_is_name f_is_name e_is_name
  b_is_name : Binds K e_is_name ["value"] []
  m_is_name : mg "is_name" = some (.ref f_is_name)
  f_are_names : Addr
  e_are_names : FuncData
  F_are_names : Fun K "are_names" "are_names" s_are_names f_are_names e_are_names
  b_are_names : Binds K e_are_names ["values"] []
  m_are_names : mg "are_names" = some (.ref f_are_names)
  f_is_number : Addr
  e_is_number : FuncData
  F_is_number : Fun K "is_number" "is_number" s_is_number f_is_number e_is_number
  b_is_number : Binds K e_is_number ["word"] []
  m_is_number : mg "is_number" = some (.ref f_is_number)
  f_is_any_row : Addr
  e_is_any_row : FuncData
  F_is_any_row : Fun K "is_any_row" "is_any_row" s_is_any_row f_is_any_row e_is_any_row
  b_is_any_row : Binds K e_is_any_row ["value"] []
  m_is_any_row : mg "is_any_row" = some (.ref f_is_any_row)
  f_is_row : Addr
  e_is_row : FuncData
  F_is_row : Fun K "is_row" "is_row" s_is_row f_is_row e_is_row
  b_is_row : Binds K e_is_row ["value", "many"] []
  m_is_row : mg "is_row" = some (.ref f_is_row)
  f_is_whole : Addr
  e_is_whole : FuncData
  F_is_whole : Fun K "is_whole" "is_whole" s_is_whole f_is_whole e_is_whole
  b_is_whole : Binds K e_is_whole ["value"] []
  m_is_whole : mg "is_whole" = some (.ref f_is_whole)
  f_is_index : Addr
  e_is_index : FuncData
  F_is_index : Fun K "is_index" "is_index" s_is_index f_is_index e_is_index
  b_is_index : Binds K e_is_index ["value", "many"] []
  m_is_index : mg "is_index" = some (.ref f_is_index)
  f_is_pair : Addr
  e_is_pair : FuncData
  F_is_pair : Fun K "is_pair" "is_pair" s_is_pair f_is_pair e_is_pair
  b_is_pair : Binds K e_is_pair ["one", "other", "many"] []
  m_is_pair : mg "is_pair" = some (.ref f_is_pair)
  f_wrong_in_lot : Addr
  e_wrong_in_lot : FuncData
  F_wrong_in_lot : Fun K "wrong_in_lot" "wrong_in_lot" s_wrong_in_lot f_wrong_in_lot e_wrong_in_lot
  b_wrong_in_lot : Binds K e_wrong_in_lot ["lot", "many"] []
  m_wrong_in_lot : mg "wrong_in_lot" = some (.ref f_wrong_in_lot)
  f_is_lot : Addr
  e_is_lot : FuncData
  F_is_lot : Fun K "is_lot" "is_lot" s_is_lot f_is_lot e_is_lot
  b_is_lot : Binds K e_is_lot ["value", "many"] []
  m_is_lot : mg "is_lot" = some (.ref f_is_lot)
  f_is_ranking : Addr
  e_is_ranking : FuncData
  F_is_ranking : Fun K "is_ranking" "is_ranking" s_is_ranking f_is_ranking e_is_ranking
  b_is_ranking : Binds K e_is_ranking ["value", "many"] []
  m_is_ranking : mg "is_ranking" = some (.ref f_is_ranking)
  f_read_book : Addr
  e_read_book : FuncData
  F_read_book : Fun K "read_book" "read_book" s_read_book f_read_book e_read_book
  b_read_book : Binds K e_read_book ["text"] []
  m_read_book : mg "read_book" = some (.ref f_read_book)
  f_read_mark : Addr
  e_read_mark : FuncData
  F_read_mark : Fun K "read_mark" "read_mark" s_read_mark f_read_mark e_read_mark
  b_read_mark : Binds K e_read_mark ["word"] []
  m_read_mark : mg "read_mark" = some (.ref f_read_mark)
  f_read_candidates : Addr
  e_read_candidates : FuncData
  F_read_candidates : Fun K "read_candidates" "read_candidates" s_read_candidates f_read_candidates e_read_candidates
  b_read_candidates : Binds K e_read_candidates ["text", "read_word"] []
  m_read_candidates : mg "read_candidates" = some (.ref f_read_candidates)
  f_read_case : Addr
  e_read_case : FuncData
  F_read_case : Fun K "read_case" "read_case" s_read_case f_read_case e_read_case
  b_read_case : Binds K e_read_case ["text"] []
  m_read_case : mg "read_case" = some (.ref f_read_case)
  f_row_holds : Addr
  e_row_holds : FuncData
  F_row_holds : Fun K "row_holds" "row_holds" s_row_holds f_row_holds e_row_holds
  b_row_holds : Binds K e_row_holds ["row", "ranking"] []
  m_row_holds : mg "row_holds" = some (.ref f_row_holds)
  f_all_hold : Addr
  e_all_hold : FuncData
  F_all_hold : Fun K "all_hold" "all_hold" s_all_hold f_all_hold e_all_hold
  b_all_hold : Binds K e_all_hold ["rows", "ranking"] []
  m_all_hold : mg "all_hold" = some (.ref f_all_hold)
  f_turned : Addr
  e_turned : FuncData
  F_turned : Fun K "turned" "turned" s_turned f_turned e_turned
  b_turned : Binds K e_turned ["row"] []
  m_turned : mg "turned" = some (.ref f_turned)
  f_row_of_pair : Addr
  e_row_of_pair : FuncData
  F_row_of_pair : Fun K "row_of_pair" "row_of_pair" s_row_of_pair f_row_of_pair e_row_of_pair
  b_row_of_pair : Binds K e_row_of_pair ["one", "other", "many"] []
  m_row_of_pair : mg "row_of_pair" = some (.ref f_row_of_pair)
  f_sign_of : Addr
  e_sign_of : FuncData
  F_sign_of : Fun K "sign_of" "sign_of" s_sign_of f_sign_of e_sign_of
  b_sign_of : Binds K e_sign_of ["mark", "rival"] []
  m_sign_of : mg "sign_of" = some (.ref f_sign_of)
  f_row_between : Addr
  e_row_between : FuncData
  F_row_between : Fun K "row_between" "row_between" s_row_between f_row_between e_row_between
  b_row_between : Binds K e_row_between ["mine", "theirs"] []
  m_row_between : mg "row_between" = some (.ref f_row_between)
  f_fused_sign : Addr
  e_fused_sign : FuncData
  F_fused_sign : Fun K "fused_sign" "fused_sign" s_fused_sign f_fused_sign e_fused_sign
  b_fused_sign : Binds K e_fused_sign ["signs"] []
  m_fused_sign : mg "fused_sign" = some (.ref f_fused_sign)
  f_fused : Addr
  e_fused : FuncData
  F_fused : Fun K "fused" "fused" s_fused f_fused e_fused
  b_fused : Binds K e_fused ["rows", "many"] []
  m_fused : mg "fused" = some (.ref f_fused)
  f_is_fitting : Addr
  e_is_fitting : FuncData
  F_is_fitting : Fun K "is_fitting" "is_fitting" s_is_fitting f_is_fitting e_is_fitting
  b_is_fitting : Binds K e_is_fitting ["value", "rows", "many"] []
  m_is_fitting : mg "is_fitting" = some (.ref f_is_fitting)
  f_do_quarrel : Addr
  e_do_quarrel : FuncData
  F_do_quarrel : Fun K "do_quarrel" "do_quarrel" s_do_quarrel f_do_quarrel e_do_quarrel
  b_do_quarrel : Binds K e_do_quarrel ["rows", "many"] []
  m_do_quarrel : mg "do_quarrel" = some (.ref f_do_quarrel)
  f_shows_quarrel : Addr
  e_shows_quarrel : FuncData
  F_shows_quarrel : Fun K "shows_quarrel" "shows_quarrel" s_shows_quarrel f_shows_quarrel e_shows_quarrel
  b_shows_quarrel : Binds K e_shows_quarrel ["certificate", "rows", "many"] []
  m_shows_quarrel : mg "shows_quarrel" = some (.ref f_shows_quarrel)
  f_shows_following : Addr
  e_shows_following : FuncData
  F_shows_following : Fun K "shows_following" "shows_following" s_shows_following f_shows_following e_shows_following
  b_shows_following : Binds K e_shows_following ["certificate", "rows", "row"] []
  m_shows_following : mg "shows_following" = some (.ref f_shows_following)
  f_shows_open : Addr
  e_shows_open : FuncData
  F_shows_open : Fun K "shows_open" "shows_open" s_shows_open f_shows_open e_shows_open
  b_shows_open : Binds K e_shows_open ["certificate", "rows", "row"] []
  m_shows_open : mg "shows_open" = some (.ref f_shows_open)
  f_may_follow : Addr
  e_may_follow : FuncData
  F_may_follow : Fun K "may_follow" "may_follow" s_may_follow f_may_follow e_may_follow
  b_may_follow : Binds K e_may_follow ["rule", "lot", "rows"] []
  m_may_follow : mg "may_follow" = some (.ref f_may_follow)
  f_count_rankings : Addr
  e_count_rankings : FuncData
  F_count_rankings : Fun K "count_rankings" "count_rankings" s_count_rankings f_count_rankings e_count_rankings
  b_count_rankings : Binds K e_count_rankings ["rows", "many"] []
  m_count_rankings : mg "count_rankings" = some (.ref f_count_rankings)
  f_are_alike : Addr
  e_are_alike : FuncData
  F_are_alike : Fun K "are_alike" "are_alike" s_are_alike f_are_alike e_are_alike
  b_are_alike : Binds K e_are_alike ["names", "rows", "text"] []
  m_are_alike : mg "are_alike" = some (.ref f_are_alike)
  f_shows_above : Addr
  e_shows_above : FuncData
  F_shows_above : Fun K "shows_above" "shows_above" s_shows_above f_shows_above e_shows_above
  b_shows_above : Binds K e_shows_above ["certificate", "rows", "many", "pair"] []
  m_shows_above : mg "shows_above" = some (.ref f_shows_above)
  f_accepts_of_book : Addr
  e_accepts_of_book : FuncData
  F_accepts_of_book : Fun K "accepts_of_book" "accepts_of_book" s_accepts_of_book f_accepts_of_book e_accepts_of_book
  b_accepts_of_book : Binds K e_accepts_of_book ["word", "book", "parts", "certificate"] []
  m_accepts_of_book : mg "accepts_of_book" = some (.ref f_accepts_of_book)
  f_accepts_of_case : Addr
  e_accepts_of_case : FuncData
  F_accepts_of_case : Fun K "accepts_of_case" "accepts_of_case" s_accepts_of_case f_accepts_of_case e_accepts_of_case
  b_accepts_of_case : Binds K e_accepts_of_case ["word", "case", "one", "certificate"] []
  m_accepts_of_case : mg "accepts_of_case" = some (.ref f_accepts_of_case)
  f_accepts : Addr
  e_accepts : FuncData
  F_accepts : Fun K "accepts" "accepts" s_accepts f_accepts e_accepts
  b_accepts : Binds K e_accepts ["claim", "certificate"] []
  m_accepts : mg "accepts" = some (.ref f_accepts)
  f__law_begun : Addr
  e__law_begun : FuncData
  F__law_begun : Fun K "_law_begun" "_law_begun" s__law_begun f__law_begun e__law_begun
  b__law_begun : Binds K e__law_begun ["_law_script", "_law_turn"] []
  m__law_begun : mg "_law_begun" = some (.ref f__law_begun)
  f__law_cast : Addr
  e__law_cast : FuncData
  F__law_cast : Fun K "_law_cast" "_law_cast" s__law_cast f__law_cast e__law_cast
  b__law_cast : Binds K e__law_cast ["_law_pail", "_law_many"] []
  m__law_cast : mg "_law_cast" = some (.ref f__law_cast)
  f__law_any_of : Addr
  e__law_any_of : FuncData
  F__law_any_of : Fun K "_law_any_of" "_law_any_of" s__law_any_of f__law_any_of e__law_any_of
  b__law_any_of : Binds K e__law_any_of ["_law_pail", "_law_some"] []
  m__law_any_of : mg "_law_any_of" = some (.ref f__law_any_of)
  f__law_words : Addr
  e__law_words : FuncData
  F__law_words : Fun K "_law_words" "_law_words" s__law_words f__law_words e__law_words
  b__law_words : Binds K e__law_words ["_law_pail", "_law_many"] []
  m__law_words : mg "_law_words" = some (.ref f__law_words)
  f__law_said : Addr
  e__law_said : FuncData
  F__law_said : Fun K "_law_said" "_law_said" s__law_said f__law_said e__law_said
  b__law_said : Binds K e__law_said ["_law_words_here", "_law_rows"] []
  m__law_said : mg "_law_said" = some (.ref f__law_said)
  f__law_thing : Addr
  e__law_thing : FuncData
  F__law_thing : Fun K "_law_thing" "_law_thing" s__law_thing f__law_thing e__law_thing
  b__law_thing : Binds K e__law_thing ["_law_pail"] []
  m__law_thing : mg "_law_thing" = some (.ref f__law_thing)
  f__law_told : Addr
  e__law_told : FuncData
  F__law_told : Fun K "_law_told" "_law_told" s__law_told f__law_told e__law_told
  b__law_told : Binds K e__law_told ["_law_claim_here", "_law_paper"] []
  m__law_told : mg "_law_told" = some (.ref f__law_told)
  f__law_goods : Addr
  e__law_goods : FuncData
  F__law_goods : Fun K "_law_goods" "_law_goods" s__law_goods f__law_goods e__law_goods
  b__law_goods : Binds K e__law_goods ["_law_pail"] []
  m__law_goods : mg "_law_goods" = some (.ref f__law_goods)
  f__law_odd : Addr
  e__law_odd : FuncData
  F__law_odd : Fun K "_law_odd" "_law_odd" s__law_odd f__law_odd e__law_odd
  b__law_odd : Binds K e__law_odd ["_law_pail"] []
  m__law_odd : mg "_law_odd" = some (.ref f__law_odd)
  f__law_wrong : Addr
  e__law_wrong : FuncData
  F__law_wrong : Fun K "_law_wrong" "_law_wrong" s__law_wrong f__law_wrong e__law_wrong
  b__law_wrong : Binds K e__law_wrong ["_law_pail", "_law_claim_here"] []
  m__law_wrong : mg "_law_wrong" = some (.ref f__law_wrong)
  f__law_right : Addr
  e__law_right : FuncData
  F__law_right : Fun K "_law_right" "_law_right" s__law_right f__law_right e__law_right
  b__law_right : Binds K e__law_right ["_law_pail"] []
  m__law_right : mg "_law_right" = some (.ref f__law_right)
  f_law : Addr
  e_law : FuncData
  F_law : Fun K "law" "law" s_law f_law e_law
  b_law : Binds K e_law ["_law_script"] []
  m_law : mg "law" = some (.ref f_law)
  n_abs : mg "abs" = none
  n_all : mg "all" = none
  n_bool : mg "bool" = none
  n_divmod : mg "divmod" = none
  n_enumerate : mg "enumerate" = none
  n_int : mg "int" = none
  n_isinstance : mg "isinstance" = none
  n_len : mg "len" = none
  n_list : mg "list" = none
  n_max : mg "max" = none
  n_min : mg "min" = none
  n_range : mg "range" = none
  n_sorted : mg "sorted" = none
  n_str : mg "str" = none
  n_tuple : mg "tuple" = none
  n_zip : mg "zip" = none
  t_DIGITS : Tok
  c_DIGITS : mg "DIGITS" = some (.str "0123456789" t_DIGITS)
  t_LEAST_CANDIDATES : Tok
  c_LEAST_CANDIDATES : mg "LEAST_CANDIDATES" = some (.int 2 t_LEAST_CANDIDATES)
  a_LENGTHS : Addr
  c_LENGTHS : mg "LENGTHS" = some (.ref a_LENGTHS)
  es_LENGTHS : Array DictEntry
  nn_LENGTHS : Nat
  kd_LENGTHS : KDict K w a_LENGTHS es_LENGTHS nn_LENGTHS
  v_LENGTHS_fits : ∃ r : Value, PySem.W.nsIn K a_LENGTHS "fits" = some (some r)
  w_LENGTHS_fits : KDct K w a_LENGTHS "fits" (.int 2)
  v_LENGTHS_quarrels : ∃ r : Value, PySem.W.nsIn K a_LENGTHS "quarrels" = some (some r)
  w_LENGTHS_quarrels : KDct K w a_LENGTHS "quarrels" (.int 2)
  v_LENGTHS_follows : ∃ r : Value, PySem.W.nsIn K a_LENGTHS "follows" = some (some r)
  w_LENGTHS_follows : KDct K w a_LENGTHS "follows" (.int 3)
  v_LENGTHS_above : ∃ r : Value, PySem.W.nsIn K a_LENGTHS "above" = some (some r)
  w_LENGTHS_above : KDct K w a_LENGTHS "above" (.int 4)
  v_LENGTHS_open : ∃ r : Value, PySem.W.nsIn K a_LENGTHS "open" = some (some r)
  w_LENGTHS_open : KDct K w a_LENGTHS "open" (.int 3)
  v_LENGTHS_count : ∃ r : Value, PySem.W.nsIn K a_LENGTHS "count" = some (some r)
  w_LENGTHS_count : KDct K w a_LENGTHS "count" (.int 3)
  v_LENGTHS_alike : ∃ r : Value, PySem.W.nsIn K a_LENGTHS "alike" = some (some r)
  w_LENGTHS_alike : KDct K w a_LENGTHS "alike" (.int 3)
  v_LENGTHS_wins : ∃ r : Value, PySem.W.nsIn K a_LENGTHS "wins" = some (some r)
  w_LENGTHS_wins : KDct K w a_LENGTHS "wins" (.int 3)
  v_LENGTHS_loses : ∃ r : Value, PySem.W.nsIn K a_LENGTHS "loses" = some (some r)
  w_LENGTHS_loses : KDct K w a_LENGTHS "loses" (.int 3)
  t_LETTERS : Tok
  c_LETTERS : mg "LETTERS" = some (.str "abcdefghijklmnopqrstuvwxyz" t_LETTERS)
  t_MOST_CANDIDATES : Tok
  c_MOST_CANDIDATES : mg "MOST_CANDIDATES" = some (.int 8 t_MOST_CANDIDATES)
  t_MOST_LETTERS : Tok
  c_MOST_LETTERS : mg "MOST_LETTERS" = some (.int 8 t_MOST_LETTERS)
  t_MOST_MARKS : Tok
  c_MOST_MARKS : mg "MOST_MARKS" = some (.int 99 t_MOST_MARKS)
  t_MOST_ROWS : Tok
  c_MOST_ROWS : mg "MOST_ROWS" = some (.int 20 t_MOST_ROWS)
  t_MOST_RULES : Tok
  c_MOST_RULES : mg "MOST_RULES" = some (.int 8 t_MOST_RULES)
  a_OPPOSITES : Addr
  c_OPPOSITES : mg "OPPOSITES" = some (.ref a_OPPOSITES)
  w_OPPOSITES_43 : KDct K w a_OPPOSITES "+" (.str "-")
  w_OPPOSITES_45 : KDct K w a_OPPOSITES "-" (.str "+")
  w_OPPOSITES_46 : KDct K w a_OPPOSITES "." (.str ".")
  t_SIGNS : Tok
  c_SIGNS : mg "SIGNS" = some (.str "+-." t_SIGNS)
  k_accepts_certificate_claim : KBinds K e_accepts ["claim", "certificate"] ["certificate", "claim"] (fun us ws => match us, ws with | [], [k0, k1] => [k1, k0] | _, _ => []) (fun us ws => match us, ws with | [], [k0, k1] => [k1, k0] | _, _ => [])
  un_LENGTHS : ∀ x : Str, x ∉ (["fits", "quarrels", "follows", "above", "open", "count", "alike", "wins", "loses"] : List Str) → PySem.W.nsIn K a_LENGTHS x = some none
end K61

namespace K61
open PySem PySem.Spec PyProof.Rows L2 Dw
/-- a row's signs, as codes -/
def isSign (c : Nat) : Prop := c = 43 ∨ c = 45 ∨ c = 46
structure RowOk (l : List Nat) (n : Nat) : Prop where
  len : l.length = n
  all : ∀ c ∈ l, isSign c
def sgn (l : List Nat) (k : Nat) : Nat := l.getD k 46
theorem ch_dot : (Str.ofString ".") = ch 46 := by decide +kernel
theorem ch_plus : (Str.ofString "+") = ch 43 := by decide +kernel
theorem ch_minus : (Str.ofString "-") = ch 45 := by decide +kernel
theorem sgn_at {l : List Nat} {n k : Nat} (h : l.length = n) (hk : k < n) : atI (tx l).cps.toList (k : Int) = some (sgn l k) := by
  have hl : k < l.length := by omega
  rw [tx_cps]
  refine atI_nat ?_
  unfold sgn
  rw [List.getElem?_eq_getElem hl, List.getD_eq_getElem?_getD, List.getElem?_eq_getElem hl]
  rfl
theorem sgn_is {l : List Nat} {n : Nat} (h : RowOk l n) (k : Nat) : isSign (sgn l k) := by
  unfold sgn
  rw [List.getD_eq_getElem?_getD]
  cases q : l[k]? with
  | none => exact .inr (.inr rfl)
  | some c => exact h.all c (List.mem_of_getElem? q)
theorem isSign.lt {c : Nat} (h : isSign c) : c < 1114112 := by rcases h with h | h | h <;> omega
/-- the signs of a row along an order, without the dots -/
def told (l : List Nat) (o : List Nat) : List Nat := (o.map (sgn l)).filter (fun c => !decide (c = 46))
/-- whether a row holds -/
def holdsB (l : List Nat) (o : List Nat) : Bool :=
  match told l o with
  | [] => true
  | c :: _ => decide (c = 43)
def ordD (o : List Nat) : List D := o.map fun (k : Nat) => D.int k
theorem small8 {n : Nat} (h : n ≤ 8) : n ≤ sizeLine := Nat.le_trans h (by decide)
theorem told_strs (l o : List Nat) : (o.filter fun k => !decide (ch (sgn l k) = Str.ofString ".")).map (fun k => D.str (ch (sgn l k))) = ((told l o).map ch).map D.str := by
  unfold told
  rw [List.filter_map, List.map_map, List.map_map]
  have e : (fun k => !decide (ch (sgn l k) = Str.ofString ".")) = ((fun c => !decide (c = 46)) ∘ sgn l) := by
    funext k
    show (!decide (ch (sgn l k) = Str.ofString ".")) = !decide (sgn l k = 46)
    rw [ch_dot, Bool.eq_iff_iff]
    simp [ch_eq]
  rw [e]
  rfl
theorem told_ok {l : List Nat} {n : Nat} (h : RowOk l n) (o : List Nat) : ∀ x ∈ (told l o).map ch, okS x := by
  intro x hx
  obtain ⟨c, hc, rfl⟩ := List.mem_map.mp hx
  obtain ⟨k, _, rfl⟩ := List.mem_map.mp (List.mem_filter.mp hc).1
  exact okS_ch (sgn_is h k).lt
def spHolds : Spc where
  ty := List Nat × List Nat × Bool
  args := fun x => [.str (tx x.1), if x.2.2 then .lst (ordD x.2.1) else .tup (ordD x.2.1)]
  ok := fun x => ∃ n, RowOk x.1 n ∧ n ≤ 8 ∧ x.2.1.length ≤ 8 ∧ ∀ k ∈ x.2.1, k < n
  rel := fun x d => d = .bl (holdsB x.1 x.2.1)
end K61

namespace K61
open PySem PySem.Spec PyProof.Rows L2 Dw
theorem small8L {α : Type} {l : List α} (h : l.length ≤ 8) : l.length ≤ 1000000 := by omega
theorem line8 {n : Nat} (h : n ≤ 1000) : n ≤ sizeLine := Nat.le_trans h (by decide)
/-! flipped -/
def flip1 (c : Nat) : Nat := if c = 43 then 45 else if c = 45 then 43 else 46
def flipped (l : List Nat) : List Nat := l.map flip1
theorem flip_get {c : Nat} (h : isSign c) : valV (mergeK [] ([(Str.ofString "+", Str.ofString "-"), (Str.ofString "-", Str.ofString "+"), (Str.ofString ".", Str.ofString ".")].map fun p => ((Sum.inr p.1 : Key), V.str p.2))) (Sum.inr (ch c)) = some (.str (ch (flip1 c))) := by
  rcases h with rfl | rfl | rfl <;> decide +kernel
theorem flip1_is {c : Nat} (h : isSign c) : isSign (flip1 c) := by
  rcases h with rfl | rfl | rfl <;> first | exact .inl rfl | exact .inr (.inl rfl) | exact .inr (.inr rfl)
def spFlip : Spc where
  ty := List Nat
  args := fun l => [.str (tx l)]
  ok := fun l => ∃ n, RowOk l n ∧ n ≤ 8
  rel := fun l d => d = .str (tx (flipped l))
def spSigns : Spc where
  ty := Nat
  args := fun n => [.purse, .int n]
  ok := fun n => n ≤ 8
  rel := fun n d => ∃ l, RowOk l n ∧ d = .str (tx l)
def spDraw : Spc where
  ty := Nat
  args := fun n => [.purse, .int n]
  ok := fun n => 0 < n ∧ n < 100000
  rel := fun n d => ∃ r : Nat, r < n ∧ d = .int r
end K61

namespace K61
open PySem PySem.Spec PyProof.Rows L2 Dw
structure NameOk (l : List Nat) : Prop where
  lo : 1 ≤ l.length
  hi : l.length ≤ 8
  all : ∀ c ∈ l, 97 ≤ c ∧ c ≤ 122
theorem lettersS : Str.ofString "abcdefghijklmnopqrstuvwxyz" = tx ((List.range 26).map (97 + ·)) := by decide +kernel
theorem signsS : Str.ofString "+-." = tx [43, 45, 46] := by decide +kernel
theorem NameOk.len {l : List Nat} (h : NameOk l) : (tx l).length ≤ sizeLine := by rw [tx_len]; exact small8 h.hi
theorem RowOk.sz {l : List Nat} {n : Nat} (h : RowOk l n) (hn : n ≤ 8) : (tx l).length ≤ sizeLine := by rw [tx_len, h.len]; exact small8 hn
theorem all_yes {α : Type} {xs : List α} {b : α → Bool} (h : ∀ x ∈ xs, b x = true) : xs.all b = true := List.all_eq_true.mpr h
theorem ev_cast {t : TE} {Γ : Gam} {d d' : D} (h : d = d') (e : Ev t Γ d) : Ev t Γ d' := h ▸ e
theorem sIx1 {n : Nat} (h : 1 ≤ n) : HT.sIx n 0 (some 1) = 1 := by
  show (if (1 : Int) < 0 then ((1 : Int) + (n : Int)).toNat else min (1 : Int).toNat n) = 1
  rw [if_neg (by decide)]
  show min 1 n = 1
  omega
def spName : Spc where
  ty := List Nat
  args := fun l => [.str (tx l)]
  ok := fun l => NameOk l
  rel := fun _ d => d = .bl true
def spAny : Spc where
  ty := List Nat
  args := fun l => [.str (tx l)]
  ok := fun l => ∃ n, RowOk l n ∧ 1 ≤ n ∧ n ≤ 8
  rel := fun _ d => d = .bl true
def spRow : Spc where
  ty := List Nat × Nat
  args := fun x => [.str (tx x.1), .int x.2]
  ok := fun x => RowOk x.1 x.2 ∧ 1 ≤ x.2 ∧ x.2 ≤ 8
  rel := fun _ d => d = .bl true
def nameD (ls : List (List Nat)) : List D := ls.map fun l => D.str (tx l)
structure NamesOk (ls : List (List Nat)) : Prop where
  lo : 1 ≤ ls.length
  hi : ls.length ≤ 8
  all : ∀ l ∈ ls, NameOk l
  inc : ∀ p ∈ ls.zip (ls.drop 1), p.1 < p.2
def spNames : Spc where
  ty := List (List Nat)
  args := fun ls => [.tup (nameD ls)]
  ok := fun ls => NamesOk ls
  rel := fun _ d => d = .bl true
theorem zip_names (ls ms : List (List Nat)) : zipD (nameD ls) (nameD ms) = (ls.zip ms).map fun p => D.tup [.str (tx p.1), .str (tx p.2)] := by
  unfold zipD nameD
  rw [List.zip_map, List.map_map]; rfl
end K61

namespace K61
open PySem PySem.Spec PyProof.Rows L2 Dw
theorem ev_notT {K : PySem.W.Frag} {t : TE} {Γ : Gam} {b : Bool} (h : EvT (tTru K t) Γ b) : Ev (tNotT K t) Γ (.bl (!b)) := fun F σ W Q g k => by
  have e := h F σ W (fun c H => Q (.bl (!c)) H) g fun H s => k _ H s rfl
  exact e
def spWhole : Spc where
  ty := Nat
  args := fun n => [.int n]
  ok := fun _ => True
  rel := fun _ d => d = .bl true
def spIndex : Spc where
  ty := Nat × Nat
  args := fun x => [.int x.1, .int x.2]
  ok := fun x => x.1 < x.2
  rel := fun _ d => d = .bl true
structure LotOk (o : List Nat) (m : Nat) : Prop where
  lt : ∀ k ∈ o, k < m
  inc : o.Pairwise (· < ·)
def spLot : Spc where
  ty := List Nat × Nat
  args := fun x => [.tup (ordD x.1), .int x.2]
  ok := fun x => LotOk x.1 x.2
  rel := fun _ d => d = .non
theorem pair_next {o : List Nat} (h : o.Pairwise (· < ·)) {i j a b : Nat} (hi : o[i]? = some a) (hj : o[j]? = some b) (hij : i < j) : a < b := by
  obtain ⟨h1, e1⟩ := List.getElem?_eq_some_iff.mp hi
  obtain ⟨h2, e2⟩ := List.getElem?_eq_some_iff.mp hj
  have := List.pairwise_iff_getElem.mp h i j h1 h2 hij
  rw [e1, e2] at this
  exact this
end K61

namespace K61
open PySem PySem.Spec PyProof.Rows L2 Dw
/-! plain data: what a claim or a certificate may be -/
mutual
def plW (z : Nat) : Nat → D → Bool
  | _, .non => true | _, .bl _ => true | _, .int _ => true | _, .str x => PyData.strOk x && decide (x.length ≤ 100000)
  | k + 1, .tup ds => decide (ds.length ≤ z) && plWs z k ds
  | k + 1, .lst ds => decide (ds.length ≤ z) && plWs z k ds
  | k + 1, .dct ks ds => decide (ds.length ≤ z) && plWs z k ds
  | 0, .tup _ => false | 0, .lst _ => false | 0, .dct _ _ => false
  | _, .obj _ _ _ => false | _, .raw _ => false | _, .purse => false | _, .rng _ _ => false | _, .scr _ _ => false | _, .tupN _ => false
def plWs (z : Nat) : Nat → List D → Bool
  | _, [] => true
  | k, d :: ds => plW z k d && plWs z k ds
end
abbrev plB := plW 60
abbrev plBs := plWs 60
theorem plWs_iff {z k : Nat} : ∀ {ds : List D}, plWs z k ds = true ↔ ∀ d ∈ ds, plW z k d = true
  | [] => by simp [plWs]
  | d :: ds => by
    have e : plWs z k (d :: ds) = (plW z k d && plWs z k ds) := by cases k <;> rfl
    rw [e, Bool.and_eq_true, plWs_iff (ds := ds)]
    simp
theorem plBs_iff {k : Nat} {ds : List D} : plBs k ds = true ↔ ∀ d ∈ ds, plB k d = true := plWs_iff
mutual
theorem plW_mono {z z' : Nat} (hz : z ≤ z') : ∀ (k m : Nat) (d : D), k ≤ m → plW z k d = true → plW z' m d = true
  | _, _, .non, _, _ => by unfold plW; rfl
  | _, _, .bl _, _, _ => by unfold plW; rfl
  | _, _, .int _, _, _ => by unfold plW; rfl
  | k, m, .str x, _, h => by
    have e : plW z k (.str x) = (PyData.strOk x && decide (x.length ≤ 100000)) := by cases k <;> rfl
    have e2 : plW z' m (.str x) = (PyData.strOk x && decide (x.length ≤ 100000)) := by cases m <;> rfl
    rw [e2, ← e, h]
  | k + 1, m + 1, .tup ds, hm, h => by
    have h : (decide (ds.length ≤ z) && plWs z k ds) = true := h
    show (decide (ds.length ≤ z') && plWs z' m ds) = true
    rw [Bool.and_eq_true] at h ⊢
    exact ⟨decide_eq_true (Nat.le_trans (of_decide_eq_true h.1) hz), plWs_mono hz k m ds (by omega) h.2⟩
  | k + 1, m + 1, .lst ds, hm, h => by
    have h : (decide (ds.length ≤ z) && plWs z k ds) = true := h
    show (decide (ds.length ≤ z') && plWs z' m ds) = true
    rw [Bool.and_eq_true] at h ⊢
    exact ⟨decide_eq_true (Nat.le_trans (of_decide_eq_true h.1) hz), plWs_mono hz k m ds (by omega) h.2⟩
  | k + 1, m + 1, .dct ks ds, hm, h => by
    have h : (decide (ds.length ≤ z) && plWs z k ds) = true := h
    show (decide (ds.length ≤ z') && plWs z' m ds) = true
    rw [Bool.and_eq_true] at h ⊢
    exact ⟨decide_eq_true (Nat.le_trans (of_decide_eq_true h.1) hz), plWs_mono hz k m ds (by omega) h.2⟩
  | 0, _, .tup _, _, h => nomatch h
  | 0, _, .lst _, _, h => nomatch h
  | 0, _, .dct _ _, _, h => nomatch h
  | k + 1, 0, .tup _, hm, _ => absurd hm (by omega)
  | k + 1, 0, .lst _, hm, _ => absurd hm (by omega)
  | k + 1, 0, .dct _ _, hm, _ => absurd hm (by omega)
  | k, _, .obj _ _ _, _, h => by cases k <;> exact nomatch h
  | k, _, .raw _, _, h => by cases k <;> exact nomatch h
  | k, _, .purse, _, h => by cases k <;> exact nomatch h
  | k, _, .rng _ _, _, h => by cases k <;> exact nomatch h
  | k, _, .scr _ _, _, h => by cases k <;> exact nomatch h
  | k, _, .tupN _, _, h => by cases k <;> exact nomatch h
theorem plWs_mono {z z' : Nat} (hz : z ≤ z') : ∀ (k m : Nat) (ds : List D), k ≤ m → plWs z k ds = true → plWs z' m ds = true
  | _, _, [], _, _ => by unfold plWs; rfl
  | k, m, d :: ds, hm, h => by
    have e : plWs z k (d :: ds) = (plW z k d && plWs z k ds) := by cases k <;> rfl
    have e2 : plWs z' m (d :: ds) = (plW z' m d && plWs z' m ds) := by cases m <;> rfl
    rw [e, Bool.and_eq_true] at h
    rw [e2, plW_mono hz k m d hm h.1, plWs_mono hz k m ds hm h.2]; rfl
end
theorem plB_mono (k m : Nat) (d : D) (h : k ≤ m) (q : plB k d = true) : plB m d = true := plW_mono (Nat.le_refl _) k m d h q
mutual
theorem plB_np : ∀ (k : Nat) (d : D), plB k d = true → noP d = true
  | _, .non, _ => rfl
  | _, .bl _, _ => rfl
  | _, .int _, _ => rfl
  | _, .str _, _ => rfl
  | k + 1, .tup ds, h => plBs_np k ds (by have h : (decide (ds.length ≤ 60) && plBs k ds) = true := h; rw [Bool.and_eq_true] at h; exact h.2)
  | k + 1, .lst ds, h => plBs_np k ds (by have h : (decide (ds.length ≤ 60) && plBs k ds) = true := h; rw [Bool.and_eq_true] at h; exact h.2)
  | k + 1, .dct _ ds, h => plBs_np k ds (by have h : (decide (ds.length ≤ 60) && plBs k ds) = true := h; rw [Bool.and_eq_true] at h; exact h.2)
  | 0, .tup _, h => nomatch h
  | 0, .lst _, h => nomatch h
  | 0, .dct _ _, h => nomatch h
  | k, .obj _ _ _, h => by cases k <;> exact nomatch h
  | _, .raw _, _ => rfl
  | k, .purse, h => by cases k <;> exact nomatch h
  | _, .rng _ _, _ => rfl
  | _, .scr _ _, _ => rfl
  | k, .tupN _, h => by cases k <;> exact nomatch h
theorem plBs_np : ∀ (k : Nat) (ds : List D), plBs k ds = true → noPs ds = true
  | _, [], _ => rfl
  | k, d :: ds, h => by
    have e : plBs k (d :: ds) = (plB k d && plBs k ds) := by cases k <;> rfl
    rw [e, Bool.and_eq_true] at h
    show (noP d && noPs ds) = true
    rw [plB_np k d h.1, plBs_np k ds h.2]; rfl
end
/-- a plain value -/
def Pv (d : D) : Prop := plB 12 d = true
theorem Pv.ty {d : D} (h : Pv d) : hasTy d = true := by
  cases d <;> first | rfl | exact nomatch h
theorem Pv.np {d : D} (h : Pv d) : noP d = true := plB_np _ _ h
theorem Pv.str {x : Str} (h : Pv (.str x)) : okS x ∧ x.length ≤ 100000 := by
  have h : (PyData.strOk x && decide (x.length ≤ 100000)) = true := h
  rw [Bool.and_eq_true, decide_eq_true_eq] at h
  exact h
theorem Pv.tup {ds : List D} (h : Pv (.tup ds)) : ds.length ≤ 60 ∧ ∀ d ∈ ds, Pv d := by
  have h : (decide (ds.length ≤ 60) && plBs 11 ds) = true := h
  rw [Bool.and_eq_true, decide_eq_true_eq] at h
  exact ⟨h.1, fun d hd => plB_mono 11 12 d (by decide) (plBs_iff.mp h.2 d hd)⟩
theorem np1 {d : D} {r : List D} (h : Pv d) (hr : noPs r = true) : noPs (d :: r) = true := by
  show (noP d && noPs r) = true
  rw [h.np, hr]; rfl
theorem pv_strs {l : List Nat} (h : ∀ c ∈ l, c < 1114112) (hz : l.length ≤ 100000) : Pv (.str (tx l)) := by
  show (PyData.strOk (tx l) && decide ((tx l).length ≤ 100000)) = true
  rw [show PyData.strOk (tx l) = true from okS_tx h, tx_len, decide_eq_true hz]; rfl
/-! what isinstance tells -/
def isStrB : D → Bool | .str _ => true | _ => false
def isTupB : D → Bool | .tup _ => true | _ => false
def isIntB : D → Bool | .int _ => true | .bl _ => true | _ => false
def isBoolB : D → Bool | .bl _ => true | _ => false
section
variable {K : PySem.W.Frag} {d : D}
theorem kit_str (h : hasTy d = true) : PySem.W.kitOne K (tyD d) (.type "str") = some (isStrB d) := by cases d <;> first | rfl | exact nomatch h
theorem kit_tup (h : hasTy d = true) : PySem.W.kitOne K (tyD d) (.type "tuple") = some (isTupB d) := by cases d <;> first | rfl | exact nomatch h
theorem kit_int (h : hasTy d = true) : PySem.W.kitOne K (tyD d) (.type "int") = some (isIntB d) := by cases d <;> first | rfl | exact nomatch h
theorem kit_bool (h : hasTy d = true) : PySem.W.kitOne K (tyD d) (.type "bool") = some (isBoolB d) := by cases d <;> first | rfl | exact nomatch h
theorem str_of (h : isStrB d = true) : ∃ x, d = .str x := by cases d <;> first | exact ⟨_, rfl⟩ | exact nomatch h
theorem tup_of (h : isTupB d = true) : ∃ x, d = .tup x := by cases d <;> first | exact ⟨_, rfl⟩ | exact nomatch h
end
def spNever : Spc where
  ty := Unit
  args := fun _ => []
  ok := fun _ => False
  rel := fun _ _ => False
def wholeB : D → Bool | .int _ => true | _ => false
theorem whole_eq (d : D) : (isIntB d && !isBoolB d) = wholeB d := by cases d <;> rfl
theorem whole_of {d : D} (h : wholeB d = true) : ∃ i, d = .int i := by cases d <;> first | exact ⟨_, rfl⟩ | exact nomatch h
def spWholeG : Spc where
  ty := D
  args := fun d => [d]
  ok := fun d => Pv d
  rel := fun d e => e = .bl (wholeB d)
def idxB : D → Int → Bool | .int i, m => decide (0 ≤ i) && decide (i < m) | _, _ => false
theorem idx_whole (d : D) (m : Int) : (wholeB d && idxB d m) = idxB d m := by cases d <;> first | rfl | exact Bool.true_and _
def spIndexG : Spc where
  ty := D × Nat
  args := fun x => [x.1, .int x.2]
  ok := fun x => Pv x.1
  rel := fun x e => e = .bl (idxB x.1 x.2)
def difB : D → D → Bool | .int i, .int j => !decide (i = j) | _, _ => false
def spPairG : Spc where
  ty := D × D × Nat
  args := fun x => [x.1, x.2.1, .int x.2.2]
  ok := fun x => Pv x.1 ∧ Pv x.2.1
  rel := fun x e => e = .bl (idxB x.1 x.2.2 && idxB x.2.1 x.2.2 && difB x.1 x.2.1)
/-- a text of some codes -/
def rowC (l : List Nat) : Bool := decide (1 ≤ l.length) && decide (l.length ≤ 8) && l.all fun c => decide (c ∈ [43, 45, 46])
def anyRowB : D → Bool | .str x => rowC x.cps.toList | _ => false
theorem rowC_ok {l : List Nat} : rowC l = true ↔ RowOk l l.length ∧ 1 ≤ l.length ∧ l.length ≤ 8 := by
  unfold rowC
  rw [Bool.and_eq_true, Bool.and_eq_true, decide_eq_true_eq, decide_eq_true_eq, List.all_eq_true]
  constructor
  · rintro ⟨⟨h1, h2⟩, h⟩
    refine ⟨⟨rfl, fun c hc => ?_⟩, h1, h2⟩
    have := of_decide_eq_true (h c hc)
    simp only [List.mem_cons, List.not_mem_nil, or_false] at this
    exact this
  · rintro ⟨h, h1, h2⟩
    refine ⟨⟨h1, h2⟩, fun c hc => decide_eq_true ?_⟩
    rcases h.all c hc with rfl | rfl | rfl <;> decide
def spAnyG : Spc where
  ty := D
  args := fun d => [d]
  ok := fun d => Pv d
  rel := fun d e => e = .bl (anyRowB d)
def lenB : D → Nat → Bool | .str x, n => decide (x.length = n) | _, _ => false
def rowB (d : D) (n : Nat) : Bool := anyRowB d && lenB d n
def spRowG : Spc where
  ty := D × Nat
  args := fun x => [x.1, .int x.2]
  ok := fun x => Pv x.1
  rel := fun x e => e = .bl (rowB x.1 x.2)
theorem rowB_iff {d : D} {n : Nat} : rowB d n = true ↔ ∃ l, d = .str (tx l) ∧ RowOk l n ∧ 1 ≤ n ∧ n ≤ 8 := by
  constructor
  · intro h
    unfold rowB at h
    rw [Bool.and_eq_true] at h
    cases d <;> first | exact absurd h.1 Bool.false_ne_true | skip
    rename_i x
    obtain ⟨h1, h2⟩ := h
    obtain ⟨r, a, b⟩ := rowC_ok.mp h1
    have h2 : decide (x.length = n) = true := h2
    rw [decide_eq_true_eq] at h2
    have e : x.cps.toList.length = n := by rw [← h2]; rfl
    rw [e] at r a b
    exact ⟨x.cps.toList, congrArg D.str (of_tx x), r, a, b⟩
  · rintro ⟨l, rfl, r, a, b⟩
    show (rowC (tx l).cps.toList && decide ((tx l).length = n)) = true
    rw [tx_cps, tx_len, r.len, decide_eq_true rfl, Bool.and_true]
    exact rowC_ok.mpr (by rw [r.len]; exact ⟨r, a, b⟩)
def letterC (c : Nat) : Bool := decide (c ∈ (List.range 26).map (97 + ·))
theorem letter_iff {c : Nat} : letterC c = true ↔ 97 ≤ c ∧ c ≤ 122 := by
  unfold letterC
  rw [decide_eq_true_eq, List.mem_map]
  constructor
  · rintro ⟨a, h, rfl⟩
    have := List.mem_range.mp h
    omega
  · rintro ⟨h1, h2⟩
    exact ⟨c - 97, List.mem_range.mpr (by omega), by omega⟩
def nmC (l : List Nat) : Bool := decide (1 ≤ l.length) && decide (l.length ≤ 8) && l.all letterC
theorem nmC_ok {l : List Nat} : nmC l = true ↔ NameOk l := by
  unfold nmC
  rw [Bool.and_eq_true, Bool.and_eq_true, decide_eq_true_eq, decide_eq_true_eq, List.all_eq_true]
  exact ⟨fun ⟨⟨h1, h2⟩, h⟩ => ⟨h1, h2, fun c hc => letter_iff.mp (h c hc)⟩, fun h => ⟨⟨h.lo, h.hi⟩, fun c hc => letter_iff.mpr (h.all c hc)⟩⟩
def nmB : D → Bool | .str x => nmC x.cps.toList | _ => false
def spNameG : Spc where
  ty := D
  args := fun d => [d]
  ok := fun d => Pv d
  rel := fun d e => e = .bl (nmB d)
theorem nmB_iff {d : D} : nmB d = true ↔ ∃ l, d = .str (tx l) ∧ NameOk l := by
  constructor
  · intro h
    cases d <;> first | exact absurd h Bool.false_ne_true | skip
    rename_i x
    exact ⟨x.cps.toList, congrArg D.str (of_tx x), nmC_ok.mp h⟩
  · rintro ⟨l, rfl, h⟩
    show nmC (tx l).cps.toList = true
    rw [tx_cps]
    exact nmC_ok.mpr h
end K61

namespace K61
open PySem PySem.Spec PyProof.Rows L2 Dw
theorem d_is_whole {P : Program} {w : World} {K : PySem.W.Frag} {mg : Str → Option Value} {base : Heap} (T : Txt K w mg) : FnOk P w K mg base CX0 1 T.f_is_whole T.e_is_whole ["value"] (toSp (spWholeG)) := by
  refine fn_ok T.F_is_whole sc_is_whole (fun _ => rfl) fun cdv A outer s' H E hr => ?_
  refine ⟨_, (pss_one (ps_ret (pe_and (pe_callB (isiA K) (by rfl) T.n_isinstance (by decide +kernel) (pa_cons (pv 0) (pa_cons (pe_bltn (v := .ty "int") (by rfl) T.n_int (by decide +kernel) rfl) pa_nil))) (pe_one (notA K (pe_callB (isiA K) (by rfl) T.n_isinstance (by decide +kernel) (pa_cons (pv 0) (pa_cons (pe_bltn (v := .ty "bool") (by rfl) T.n_bool (by decide +kernel) rfl) pa_nil)))))))), fun x hx => ?_⟩
  obtain ⟨d, rfl⟩ : ∃ l : D, l = x := ⟨x, rfl⟩
  have hd : Pv d := hx
  refine ds_ret (Ev.dl (ev_cast (congrArg D.bl (whole_eq d)) (ev_andV (a := isIntB d) (b := !isBoolB d) (ev_isi (ev_var rfl) ev_raw (.inl hd.ty) (.ty "int") (kit_int hd.ty)) fun _ => ev_notT (b := isBoolB d) (evt_tru_bl (ev_isi (ev_var rfl) ev_raw (.inl hd.ty) (.ty "bool") (kit_bool hd.ty))))) rfl)
end K61

namespace K61
open PySem PySem.Spec PyProof.Rows L2 Dw
theorem d_is_index {P : Program} {w : World} {K : PySem.W.Frag} {mg : Str → Option Value} {base : Heap} (T : Txt K w mg) : FnOk P w K mg base CX0 2 T.f_is_index T.e_is_index ["value", "many"] (toSp (spIndexG)) := by
  refine fn_ok T.F_is_index sc_is_index (fun _ => rfl) fun cdv A outer s' H E hr => ?_
  refine ⟨_, (pss_one (ps_ret (pe_and (pe_call (d_is_whole T) (hr.mono (by decide)) (by rfl) T.m_is_whole T.F_is_whole.kp T.b_is_whole .nil pass0 (pa_cons (pv 0) pa_nil)) (pe_one (pe_chain opLe opLt pe_int (pv 0) (pv 1)))))), fun x hx => ?_⟩
  obtain ⟨d, m⟩ := x
  have hd : Pv d := hx
  refine ds_ret (Ev.dl (ev_cast (congrArg D.bl (idx_whole d m)) (ev_andV (a := wholeB d) (b := idxB d m) (ev_call (s := spWholeG) (x := d) (eva_cons (ev_var rfl) eva_nil) (np1 hd rfl) hd fun d h => h) fun h => ?_)) rfl)
  obtain ⟨i, rfl⟩ := whole_of h
  exact ev_chain ev_int (ev_var rfl) (fun _ => ev_var rfl) dr2_le fun _ => lt_int'
end K61

namespace K61
open PySem PySem.Spec PyProof.Rows L2 Dw
theorem d_is_pair {P : Program} {w : World} {K : PySem.W.Frag} {mg : Str → Option Value} {base : Heap} (T : Txt K w mg) : FnOk P w K mg base CX0 3 T.f_is_pair T.e_is_pair ["one", "other", "many"] (toSp (spPairG)) := by
  refine fn_ok T.F_is_pair sc_is_pair (fun _ => rfl) fun cdv A outer s' H E hr => ?_
  refine ⟨_, (pss_one (ps_ret (pe_and (pe_call (d_is_index T) (hr.mono (by decide)) (by rfl) T.m_is_index T.F_is_index.kp T.b_is_index .nil pass0 (pa_cons (pv 0) (pa_cons (pv 2) pa_nil))) (pe_and (pe_call (d_is_index T) (hr.mono (by decide)) (by rfl) T.m_is_index T.F_is_index.kp T.b_is_index .nil pass0 (pa_cons (pv 1) (pa_cons (pv 2) pa_nil))) (pe_one (pe_cmpR (neA K hr.units) (pv 0) (pv 1) (nomark _))))))), fun x hx => ?_⟩
  obtain ⟨a, b, m⟩ := x
  obtain ⟨ha, hb⟩ := hx
  have ha : Pv a := ha
  have hb : Pv b := hb
  refine ds_ret (Ev.dl (ev_cast (d := .bl (idxB a m && (idxB b m && difB a b))) (congrArg D.bl (Bool.and_assoc ..).symm) (ev_andV (ev_call (s := spIndexG) (x := (a, m)) (eva_cons (ev_var rfl) (eva_cons (ev_var rfl) eva_nil)) (np1 (r := [_]) ha rfl) ha fun d h => h) fun h1 => ev_andV (ev_call (s := spIndexG) (x := (b, m)) (eva_cons (ev_var rfl) (eva_cons (ev_var rfl) eva_nil)) (np1 (r := [_]) hb rfl) hb fun d h => h) fun h2 => ?_)) rfl)
  cases a <;> first | exact absurd h1 Bool.false_ne_true | skip
  cases b <;> first | exact absurd h2 Bool.false_ne_true | skip
  exact ev_op (ev_var rfl) (ev_var rfl) ne_int'
end K61

namespace K61
open PySem PySem.Spec PyProof.Rows L2 Dw
theorem d_is_any_row {P : Program} {w : World} {K : PySem.W.Frag} {mg : Str → Option Value} {base : Heap} (T : Txt K w mg) : FnOk P w K mg base CX0 1 T.f_is_any_row T.e_is_any_row ["value"] (toSp (spAnyG)) := by
  refine fn_ok T.F_is_any_row sc_is_any_row (fun _ => rfl) fun cdv A outer s' H E hr => ?_
  refine ⟨_, (pss_cons (ps_if (PW.pt (pw_or (pt_not (truA K (pe_callB (isiA K) (by rfl) T.n_isinstance (by decide +kernel) (pa_cons (pv 0) (pa_cons (pe_bltn (v := .ty "str") (by rfl) T.n_str (by decide +kernel) rfl) pa_nil))))) (pw_or1 (pt_not (pt_chain opLe opLe pe_int (pe_callB (lenA K) (by rfl) T.n_len (by decide +kernel) (pa_cons (pv 0) pa_nil)) (pe_glob (v := .int 8) (by rfl) T.c_MOST_RULES ⟨_, rfl⟩)))))) (pss_one (ps_ret pe_bl)) pss_nil) (pss_one (ps_ret (pe_callB (allA K) (by rfl) T.n_all (by decide +kernel) (pa_cons (pe_lc (own := [("sign", 1)]) rfl sc_is_any_row.nd (piR K (pv 0)) (blkOk_by (own := [("sign", 1)]) (N := N_is_any_row) (sc := (defScope s_is_any_row)) (by decide +kernel)) (fun _ _ _ _ _ => pg_name (i := 1) sc_is_any_row.nd rfl (Or.inl rfl)) (fun _ _ _ _ _ => pts_nil) (fun _ _ _ _ _ => (pe_cmpR (inA K) (pv 1) (pe_glob (v := .str "+-.") (by rfl) T.c_SIGNS ⟨_, rfl⟩) (by rfl)))) pa_nil))))), fun x hx => ?_⟩
  obtain ⟨d, rfl⟩ : ∃ l : D, l = x := ⟨x, rfl⟩
  have hd : Pv d := hx
  by_cases hs : isStrB d = true
  · obtain ⟨s, rfl⟩ := str_of hs
    obtain ⟨l, rfl⟩ : ∃ l, s = tx l := ⟨_, of_tx s⟩
    have hz := hd.str.2
    rw [tx_len] at hz
    have hc : (decide ((1 : Int) ≤ ((tx l).length : Int)) && decide (((tx l).length : Int) ≤ 8)) = (decide (1 ≤ l.length) && decide (l.length ≤ 8)) := by
      rw [tx_len]
      congr 1
      · exact decide_eq_decide.mpr (by omega)
      · exact decide_eq_decide.mpr (by omega)
    refine ds_seq (ds_if (EvT.dl (b := !(decide (1 ≤ l.length) && decide (l.length ≤ 8))) ?_ ⟨fun h => ?_, fun h => ?_⟩))
    · have e := evt_or (Γ := Gz0 2 (spAnyG.args (.str (tx l)))) (a := false) (b := !(decide ((1 : Int) ≤ ((tx l).length : Int)) && decide (((tx l).length : Int) ≤ 8))) (evt_not (a := true) (evt_tru_bl (K := K) (ev_isi (K := K) (ta := tVar 0) (d := .str (tx l)) (ev_var rfl) ev_raw (.inl rfl) (.ty "str") rfl))) fun _ => evt_not (evt_chain (ta := tC (.int 1)) (tb := tCB (Dw.rLen K) (tCons (tVar 0) tNil)) (tc := tC (.int 8)) ev_int (ev_lenS (ev_var rfl) (small (by rw [tx_len]; exact hz))) (fun _ => ev_int) dr2_le fun _ => dr2_le)
      rw [hc] at e
      exact e
    · refine ds_ret (Ev.dl ev_bl ?_)
      show D.bl false = D.bl (rowC (tx l).cps.toList)
      unfold rowC
      rw [tx_cps, show (decide (1 ≤ l.length) && decide (l.length ≤ 8)) = false by rw [Bool.not_eq_true'] at h; exact h]; rfl
    · refine ds_next (ds_ret (Ev.dl (ev_all_lc (xs := l) (c := fun c => .str (ch c)) (b := fun c => decide (c ∈ [43, 45, 46])) ?_ (by omega) fun c hc => ⟨[1], _, dg_name, fun i hi => hi, evt_yes, ev_op (ev_var rfl) ev_str ?_⟩) ?_))
      · have := ej_str (K := K) (ta := tVar 0) (Γ := Gz0 2 (spAnyG.args (.str (tx l)))) (x := tx l) (ev_var rfl)
        rw [signs_tx, List.map_map] at this
        exact this
      · rw [signsS]; exact in_code
      · show D.bl _ = D.bl (rowC (tx l).cps.toList)
        unfold rowC
        rw [tx_cps, show (decide (1 ≤ l.length) && decide (l.length ≤ 8)) = true by rw [Bool.not_eq_false'] at h; exact h]; rfl
  · have hs : isStrB d = false := by simpa using hs
    refine ds_seq (ds_if (EvT.dl (b := true) (evt_or (a := true) (b := false) (evt_not (a := false) (evt_tru_bl (ev_isi (ev_var rfl) ev_raw (.inl hd.ty) (.ty "str") (by rw [kit_str hd.ty, hs])))) fun h => (nomatch h)) ⟨fun _ => ds_ret (Ev.dl ev_bl ?_), fun h => (nomatch h)⟩))
    cases d <;> first | rfl | exact nomatch hs
end K61

namespace K61
open PySem PySem.Spec PyProof.Rows L2 Dw
theorem d_is_row {P : Program} {w : World} {K : PySem.W.Frag} {mg : Str → Option Value} {base : Heap} (T : Txt K w mg) : FnOk P w K mg base CX0 2 T.f_is_row T.e_is_row ["value", "many"] (toSp (spRowG)) := by
  refine fn_ok T.F_is_row sc_is_row (fun _ => rfl) fun cdv A outer s' H E hr => ?_
  refine ⟨_, (pss_one (ps_ret (pe_and (pe_call (d_is_any_row T) (hr.mono (by decide)) (by rfl) T.m_is_any_row T.F_is_any_row.kp T.b_is_any_row .nil pass0 (pa_cons (pv 0) pa_nil)) (pe_one (pe_cmpR (eqA K hr.units) (pe_callB (lenA K) (by rfl) T.n_len (by decide +kernel) (pa_cons (pv 0) pa_nil)) (pv 1) (nomark _)))))), fun x hx => ?_⟩
  obtain ⟨d, n⟩ := x
  have hd : Pv d := hx
  refine ds_ret (Ev.dl (ev_andV (a := anyRowB d) (b := lenB d n) (ev_call (s := spAnyG) (x := d) (eva_cons (ev_var rfl) eva_nil) (np1 hd rfl) hd fun d h => h) fun h => ?_) rfl)
  cases d <;> first | exact absurd h Bool.false_ne_true | skip
  rename_i s
  refine ev_op (ev_lenS (ev_var rfl) (small hd.str.2)) (ev_var rfl) (eq_ib ?_)
  exact decide_eq_decide.mpr (by omega)
end K61

namespace K61
open PySem PySem.Spec PyProof.Rows L2 Dw
theorem d_is_name {P : Program} {w : World} {K : PySem.W.Frag} {mg : Str → Option Value} {base : Heap} (T : Txt K w mg) : FnOk P w K mg base CX0 1 T.f_is_name T.e_is_name ["value"] (toSp (spNameG)) := by
  refine fn_ok T.F_is_name sc_is_name (fun _ => rfl) fun cdv A outer s' H E hr => ?_
  refine ⟨_, (pss_cons (ps_if (PW.pt (pw_or (pt_not (truA K (pe_callB (isiA K) (by rfl) T.n_isinstance (by decide +kernel) (pa_cons (pv 0) (pa_cons (pe_bltn (v := .ty "str") (by rfl) T.n_str (by decide +kernel) rfl) pa_nil))))) (pw_or1 (pt_not (pt_chain opLe opLe pe_int (pe_callB (lenA K) (by rfl) T.n_len (by decide +kernel) (pa_cons (pv 0) pa_nil)) (pe_glob (v := .int 8) (by rfl) T.c_MOST_LETTERS ⟨_, rfl⟩)))))) (pss_one (ps_ret pe_bl)) pss_nil) (pss_one (ps_ret (pe_callB (allA K) (by rfl) T.n_all (by decide +kernel) (pa_cons (pe_lc (own := [("letter", 1)]) rfl sc_is_name.nd (piR K (pv 0)) (blkOk_by (own := [("letter", 1)]) (N := N_is_name) (sc := (defScope s_is_name)) (by decide +kernel)) (fun _ _ _ _ _ => pg_name (i := 1) sc_is_name.nd rfl (Or.inl rfl)) (fun _ _ _ _ _ => pts_nil) (fun _ _ _ _ _ => (pe_cmpR (inA K) (pv 1) (pe_glob (v := .str "abcdefghijklmnopqrstuvwxyz") (by rfl) T.c_LETTERS ⟨_, rfl⟩) (by rfl)))) pa_nil))))), fun x hx => ?_⟩
  obtain ⟨d, rfl⟩ : ∃ l : D, l = x := ⟨x, rfl⟩
  have hd : Pv d := hx
  by_cases hs : isStrB d = true
  · obtain ⟨s, rfl⟩ := str_of hs
    obtain ⟨l, rfl⟩ : ∃ l, s = tx l := ⟨_, of_tx s⟩
    have hz := hd.str.2
    rw [tx_len] at hz
    have hc : (decide ((1 : Int) ≤ ((tx l).length : Int)) && decide (((tx l).length : Int) ≤ 8)) = (decide (1 ≤ l.length) && decide (l.length ≤ 8)) := by
      rw [tx_len]
      congr 1
      · exact decide_eq_decide.mpr (by omega)
      · exact decide_eq_decide.mpr (by omega)
    refine ds_seq (ds_if (EvT.dl (b := !(decide (1 ≤ l.length) && decide (l.length ≤ 8))) ?_ ⟨fun h => ?_, fun h => ?_⟩))
    · have e := evt_or (Γ := Gz0 2 (spNameG.args (.str (tx l)))) (a := false) (b := !(decide ((1 : Int) ≤ ((tx l).length : Int)) && decide (((tx l).length : Int) ≤ 8))) (evt_not (a := true) (evt_tru_bl (K := K) (ev_isi (K := K) (ta := tVar 0) (d := .str (tx l)) (ev_var rfl) ev_raw (.inl rfl) (.ty "str") rfl))) fun _ => evt_not (evt_chain (ta := tC (.int 1)) (tb := tCB (Dw.rLen K) (tCons (tVar 0) tNil)) (tc := tC (.int 8)) ev_int (ev_lenS (ev_var rfl) (small (by rw [tx_len]; exact hz))) (fun _ => ev_int) dr2_le fun _ => dr2_le)
      rw [hc] at e
      exact e
    · refine ds_ret (Ev.dl ev_bl ?_)
      show D.bl false = D.bl (nmC (tx l).cps.toList)
      unfold nmC
      rw [tx_cps, show (decide (1 ≤ l.length) && decide (l.length ≤ 8)) = false by rw [Bool.not_eq_true'] at h; exact h]; rfl
    · refine ds_next (ds_ret (Ev.dl (ev_all_lc (xs := l) (c := fun c => .str (ch c)) (b := letterC) ?_ (by omega) fun c hc => ⟨[1], _, dg_name, fun i hi => hi, evt_yes, ev_op (ev_var rfl) ev_str ?_⟩) ?_))
      · have := ej_str (K := K) (ta := tVar 0) (Γ := Gz0 2 (spNameG.args (.str (tx l)))) (x := tx l) (ev_var rfl)
        rw [signs_tx, List.map_map] at this
        exact this
      · rw [lettersS]; exact in_code
      · show D.bl _ = D.bl (nmC (tx l).cps.toList)
        unfold nmC
        rw [tx_cps, show (decide (1 ≤ l.length) && decide (l.length ≤ 8)) = true by rw [Bool.not_eq_false'] at h; exact h]; rfl
  · have hs : isStrB d = false := by simpa using hs
    refine ds_seq (ds_if (EvT.dl (b := true) (evt_or (a := true) (b := false) (evt_not (a := false) (evt_tru_bl (ev_isi (ev_var rfl) ev_raw (.inl hd.ty) (.ty "str") (by rw [kit_str hd.ty, hs])))) fun h => (nomatch h)) ⟨fun _ => ds_ret (Ev.dl ev_bl ?_), fun h => (nomatch h)⟩))
    cases d <;> first | rfl | exact nomatch hs

end K61

namespace K61
open PySem PySem.Spec PyProof.Rows L2 Dw
def bookTx (ls rs : List (List Nat)) : List Nat := TL.joinL [32] ((TL.joinL [32] ls ++ [58]) :: rs)
def bookD (C : Addr) (ls rs : List (List Nat)) : D := .obj C ["_text", "_names", "_rows"] [.str (tx (bookTx ls rs)), .tup (nameD ls), .tup (nameD rs)]
structure BookOk (ls rs : List (List Nat)) : Prop where
  names : NamesOk ls
  few : rs.length ≤ 20
  rows : ∀ r ∈ rs, RowOk r ls.length
theorem kit_self {K : PySem.W.Frag} {C : Addr} : PySem.W.kitOne K (.ref C) (.ref C) = some true := by
  unfold PySem.W.kitOne
  rw [if_pos]
  first | exact beq_self_eq_true _ | simp | rfl
abbrev Bk := List (List Nat) × List (List Nat)
def spCheck (C : Addr) : Spc where
  ty := Bk
  args := fun x => [bookD C x.1 x.2]
  ok := fun _ => True
  rel := fun _ d => d = .non
def spBNames (C : Addr) : Spc where
  ty := Bk
  args := fun x => [bookD C x.1 x.2]
  ok := fun _ => True
  rel := fun x d => d = .tup (nameD x.1)
def spBRows (C : Addr) : Spc where
  ty := Bk
  args := fun x => [bookD C x.1 x.2]
  ok := fun _ => True
  rel := fun x d => d = .tup (nameD x.2)
/-! signs fused -/
def fuse (l : List Nat) : Nat := if 45 ∈ l then 45 else if 43 ∈ l then 43 else 46
def chD (l : List Nat) : List D := l.map fun c => D.str (ch c)
def spFs : Spc where
  ty := List Nat
  args := fun l => [.lst (chD l)]
  ok := fun _ => True
  rel := fun l d => d = .str (ch (fuse l))
theorem inV_ch (c : Nat) : ∀ l : List Nat, inV (.str (ch c)) ((chD l).map scV) = decide (c ∈ l)
  | [] => rfl
  | b :: l => by
    show ((ch b == ch c) || inV (.str (ch c)) ((chD l).map scV)) = _
    rw [inV_ch c l, Bool.eq_iff_iff]
    simp only [Bool.or_eq_true, beq_iff_eq, ch_eq, decide_eq_true_eq, List.mem_cons]
    constructor
    · rintro (h | h)
      · exact .inl h.symm
      · exact .inr h
    · rintro (h | h)
      · exact .inl h.symm
      · exact .inr h
theorem sc_ch (l : List Nat) : (chD l).all isSc = true := by
  induction l with
  | nil => rfl
  | cons c l ih => exact ih
theorem ev_in_ch {K : PySem.W.Frag} {t : TE} {Γ : Gam} {r' : R2} {s : Str} {c : Nat} {l : List Nat} (hs : s = ch c) (h : EvB t Γ (chD l)) : Ev (tOp (rOr (rIn K false) r') (tC (.str s)) t) Γ (.bl (decide (c ∈ l))) := by
  have e := ev_in (neg := false) (K := K) (r' := r') (ev_str (z := s) (Γ := Γ)) h rfl (sc_ch l)
  rw [hs] at e ⊢
  rw [show (if false = true then !inV (scV (.str (ch c))) ((chD l).map scV) else inV (scV (.str (ch c))) ((chD l).map scV)) = decide (c ∈ l) from inV_ch c l] at e
  exact e
theorem fuse_is (l : List Nat) : isSign (fuse l) := by
  unfold fuse
  by_cases h : 45 ∈ l
  · rw [if_pos h]; exact .inr (.inl rfl)
  · rw [if_neg h]
    by_cases h : 43 ∈ l
    · rw [if_pos h]; exact .inl rfl
    · rw [if_neg h]; exact .inr (.inr rfl)
def spOpp : Spc where
  ty := List Nat
  args := fun l => [.str (tx l)]
  ok := fun l => ∃ n, RowOk l n ∧ 1 ≤ n ∧ n ≤ 8
  rel := fun l d => d = .str (tx (flipped l))
end K61

namespace K61
open PySem PySem.Spec PyProof.Rows L2 Dw
theorem np_name (ls : List (List Nat)) : noPs (nameD ls) = true := noPs_map (fun _ => rfl) ls
theorem np_ord (o : List Nat) : noPs (ordD o) = true := noPs_map (fun _ => rfl) o
theorem np_ch (o : List Nat) : noPs (chD o) = true := noPs_map (fun _ => rfl) o
theorem np_tup {ds : List D} (h : noPs ds = true) : noPs [.tup ds] = true := by show (noPs ds && true) = true; rw [h]; rfl
theorem np_lst {ds : List D} (h : noPs ds = true) : noPs [.lst ds] = true := by show (noPs ds && true) = true; rw [h]; rfl
theorem np_book (C : Addr) (ls rs : List (List Nat)) : noPs [bookD C ls rs] = true := by
  show ((true && ((noPs (nameD ls)) && (noPs (nameD rs) && true))) && true) = true
  rw [np_name, np_name]; rfl
theorem joinL_len {m : Nat} : ∀ ls : List (List Nat), (∀ p ∈ ls, p.length ≤ m) → (TL.joinL [32] ls).length ≤ ls.length * (m + 1)
  | [], _ => Nat.zero_le _
  | [p], h => by
    have := h p (List.mem_singleton.mpr rfl)
    show p.length ≤ 1 * (m + 1)
    omega
  | p :: q :: r, h => by
    have h1 := h p List.mem_cons_self
    have h2 := joinL_len (q :: r) fun x hx => h x (List.mem_cons_of_mem _ hx)
    show (p ++ ([32] ++ TL.joinL [32] (q :: r))).length ≤ (List.length (q :: r) + 1) * (m + 1)
    rw [List.length_append, List.length_append, Nat.add_mul]
    show p.length + (1 + _) ≤ _
    omega
theorem joinL_mem {c : Nat} : ∀ ls : List (List Nat), c ∈ TL.joinL [32] ls → c = 32 ∨ ∃ p ∈ ls, c ∈ p
  | [], h => absurd h (by simp [TL.joinL])
  | [p], h => .inr ⟨p, List.mem_singleton.mpr rfl, h⟩
  | p :: q :: r, h => by
    have h : c ∈ p ++ ([32] ++ TL.joinL [32] (q :: r)) := h
    rcases List.mem_append.mp h with h | h
    · exact .inr ⟨p, List.mem_cons_self, h⟩
    · rcases List.mem_append.mp h with h | h
      · exact .inl (List.mem_singleton.mp h)
      · rcases joinL_mem (q :: r) h with h | ⟨x, hx, hc⟩
        · exact .inl h
        · exact .inr ⟨x, List.mem_cons_of_mem _ hx, hc⟩
theorem bookTx_eq (ls : List (List Nat)) : ∀ rs : List (List Nat), bookTx ls rs = TL.joinL [32] ls ++ ([58] ++ TL.joinL [32] ([] :: rs))
  | [] => rfl
  | q :: r => by
    show (TL.joinL [32] ls ++ [58]) ++ ([32] ++ TL.joinL [32] (q :: r)) = TL.joinL [32] ls ++ ([58] ++ ([] ++ ([32] ++ TL.joinL [32] (q :: r))))
    rw [List.nil_append, List.append_assoc]
theorem spaceS : Str.ofString " " = tx [32] := by decide +kernel
theorem colonS : Str.ofString ":" = tx [58] := by decide +kernel
theorem split_sp {ps : List (List Nat)} (hne : ps ≠ []) (h : ∀ p ∈ ps, 32 ∉ p) : Txt.split (tx (TL.joinL [32] ps)) (Str.ofString " ") = ps.map tx := by
  rw [spaceS]
  refine (SX.split_S (a := TL.joinL [32] ps) (b := [32]) (by simp) (by decide)).trans ?_
  rw [SX.spl_join hne h]; rfl
theorem part_sp {p q : List Nat} (h : 58 ∉ p) : Txt.partition (tx (p ++ ([58] ++ q))) (Str.ofString ":") = (tx p, tx [58], tx q) := by
  rw [colonS]
  exact SX.partition_some (by simp) (SX.par_head q h)
theorem BookOk.h58 {ls rs : List (List Nat)} (h : BookOk ls rs) : 58 ∉ TL.joinL [32] ls := fun hm => by
  rcases joinL_mem ls hm with h' | ⟨p, hp, hc⟩
  · cases h'
  · have := (h.names.all p hp).all 58 hc; omega
theorem BookOk.h32 {ls rs : List (List Nat)} (h : BookOk ls rs) : ∀ p ∈ ls, 32 ∉ p := fun p hp hc => by
  have := (h.names.all p hp).all 32 hc; omega
theorem BookOk.r32 {ls rs : List (List Nat)} (h : BookOk ls rs) : ∀ p ∈ [] :: rs, 32 ∉ p := fun p hp hc => by
  rcases List.mem_cons.mp hp with rfl | hp
  · exact absurd hc (by simp)
  · rcases (h.rows p hp).all 32 hc with h | h | h <;> cases h
theorem BookOk.hl {ls rs : List (List Nat)} (h : BookOk ls rs) : (TL.joinL [32] ls).length ≤ 72 := by
  have := joinL_len (m := 8) ls fun p hp => (h.names.all p hp).hi
  have := h.names.hi
  omega
theorem BookOk.tl {ls rs : List (List Nat)} (h : BookOk ls rs) : (TL.joinL [32] ([] :: rs)).length ≤ 189 := by
  have e := joinL_len (m := 8) ([] :: rs) fun p hp => by
    rcases List.mem_cons.mp hp with rfl | hp
    · exact Nat.zero_le _
    · rw [(h.rows p hp).len]; exact h.names.hi
  rw [List.length_cons] at e
  have := h.few
  omega
theorem BookOk.len {ls rs : List (List Nat)} (h : BookOk ls rs) : (tx (bookTx ls rs)).length ≤ 300 := by
  rw [tx_len, bookTx_eq, List.length_append, List.length_append]
  have := h.hl
  have := h.tl
  show _ + (1 + _) ≤ _
  omega
def spRead : Spc where
  ty := Bk
  args := fun x => [.str (tx (bookTx x.1 x.2))]
  ok := fun x => BookOk x.1 x.2
  rel := fun x d => d = .tup [.tup (nameD x.1), .tup (nameD x.2)]
def spInit : Spc where
  ty := Bk
  args := fun x => [.str (tx (bookTx x.1 x.2))]
  ok := fun x => BookOk x.1 x.2
  rel := fun x d => d = .tup [.str (tx (bookTx x.1 x.2)), .tup (nameD x.1), .tup (nameD x.2)]
theorem nameD_map (ls : List (List Nat)) : (ls.map tx).map D.str = nameD ls := by rw [List.map_map]; rfl
end K61

namespace K61
open PySem PySem.Spec PyProof.Rows L2 Dw
def selR (rs : List (List Nat)) (o : List Nat) : List (List Nat) := o.map fun i => rs.getD i []
def fusedRow (rs : List (List Nat)) (o : List Nat) (n : Nat) : List Nat := (List.range n).map fun k => fuse ((selR rs o).map fun r => sgn r k)
structure FuOk (ls rs : List (List Nat)) (o : List Nat) : Prop where
  book : BookOk ls rs
  lot : LotOk o rs.length
def spFusion (C : Addr) : Spc where
  ty := Bk × List Nat
  args := fun x => [bookD C x.1.1 x.1.2, .tup (ordD x.2)]
  ok := fun x => FuOk x.1.1 x.1.2 x.2
  rel := fun x d => d = .str (tx (fusedRow x.1.2 x.2 x.1.1.length))
theorem nameD_at {rs : List (List Nat)} {i : Nat} (h : i < rs.length) : atI (nameD rs) (i : Int) = some (.str (tx (rs.getD i []))) := by
  refine atI_nat ?_
  unfold nameD
  rw [List.getElem?_map, List.getElem?_eq_getElem h, List.getD_eq_getElem?_getD, List.getElem?_eq_getElem h]; rfl
theorem getD_ok {rs : List (List Nat)} {n i : Nat} (h : ∀ r ∈ rs, RowOk r n) (hi : i < rs.length) : RowOk (rs.getD i []) n := by
  rw [List.getD_eq_getElem?_getD, List.getElem?_eq_getElem hi]
  exact h _ (List.getElem_mem hi)
theorem inc_len {m : Nat} : ∀ (o : List Nat) (lo : Nat), lo ≤ m → (∀ k ∈ o, lo ≤ k ∧ k < m) → o.Pairwise (· < ·) → o.length + lo ≤ m
  | [], lo, h, _, _ => by rw [List.length_nil]; omega
  | a :: o, lo, h, hk, hp => by
    obtain ⟨h1, h2⟩ := hk a List.mem_cons_self
    obtain ⟨p1, p2⟩ := List.pairwise_cons.mp hp
    have := inc_len o (a + 1) (by omega) (fun k hm => ⟨p1 k hm, (hk k (List.mem_cons_of_mem _ hm)).2⟩) p2
    rw [List.length_cons]; omega
theorem lot_len {o : List Nat} {m : Nat} (h : LotOk o m) : o.length ≤ m := inc_len o 0 (Nat.zero_le _) (fun k hk => ⟨Nat.zero_le _, h.lt k hk⟩) h.inc
end K61

namespace K61
open PySem PySem.Spec PyProof.Rows L2 Dw
def lots : Nat → List (List Nat)
  | 0 => [[]]
  | n + 1 => lots n ++ (lots n).map (· ++ [n])
theorem lots_len : ∀ n, (lots n).length = 2 ^ n
  | 0 => rfl
  | n + 1 => by
    show (lots n ++ (lots n).map _).length = _
    rw [List.length_append, List.length_map, lots_len n, Nat.pow_succ]; omega
theorem lots_ok : ∀ n, ∀ o ∈ lots n, LotOk o n
  | 0, o, h => by
    rw [List.mem_singleton.mp h]
    exact ⟨fun k h => absurd h (by simp), List.Pairwise.nil⟩
  | n + 1, o, h => by
    rcases List.mem_append.mp h with h | h
    · have := lots_ok n o h
      exact ⟨fun k hk => Nat.lt_succ_of_lt (this.lt k hk), this.inc⟩
    · obtain ⟨p, hp, rfl⟩ := List.mem_map.mp h
      have := lots_ok n p hp
      refine ⟨fun k hk => ?_, List.pairwise_append.mpr ⟨this.inc, List.pairwise_singleton _ _, fun a ha b hb => ?_⟩⟩
      · rcases List.mem_append.mp hk with hk | hk
        · exact Nat.lt_succ_of_lt (this.lt k hk)
        · rw [List.mem_singleton.mp hk]; exact Nat.lt_succ_self n
      · rw [List.mem_singleton.mp hb]; exact this.lt a ha
def ordT (os : List (List Nat)) : List D := os.map fun o => D.tup (ordD o)
theorem ordD_snoc (o : List Nat) (i : Nat) : ordD o ++ [D.int i] = ordD (o ++ [i]) := by
  unfold ordD
  rw [List.map_append]; rfl
theorem ordD_len (o : List Nat) : (ordD o).length = o.length := List.length_map ..
theorem ordT_len (o : List (List Nat)) : (ordT o).length = o.length := List.length_map ..
def spLots : Spc where
  ty := Nat
  args := fun n => [.int n]
  ok := fun n => n ≤ 6
  rel := fun n d => d = .lst (ordT (lots n))
theorem pow6 {i n : Nat} (h : i ≤ n) (hn : n ≤ 6) : 2 ^ i ≤ 64 := Nat.le_trans (Nat.pow_le_pow_right (by decide) (Nat.le_trans h hn)) (by decide)
end K61

namespace K61
open PySem PySem.Spec PyProof.Rows L2 Dw
theorem erase_map {α β : Type} (f : α → β) : ∀ (l : List α) (i : Nat), (l.map f).eraseIdx i = (l.eraseIdx i).map f
  | [], i => rfl
  | a :: l, 0 => rfl
  | a :: l, i + 1 => congrArg (f a :: ·) (erase_map f l i)
theorem perm_erase {α : Type} {a : α} : ∀ {l : List α} {i : Nat}, l[i]? = some a → (a :: l.eraseIdx i).Perm l
  | [], i, h => by cases h
  | b :: l, 0, h => by
    have : b = a := by simpa using h
    subst this
    exact .refl _
  | b :: l, i + 1, h => (List.Perm.swap b a (l.eraseIdx i)).trans ((perm_erase (l := l) (i := i) (by simpa using h)).cons b)
def strs0 : List Str := ["a", "b", "cost", "far", "level", "near", "safe", "t", "width", "zzzzzzzz"]
def lab0 : List (List Nat) := strs0.map fun s => s.cps.toList
theorem lab0_D : nameD lab0 = strs0.map D.str := by
  unfold nameD lab0
  rw [List.map_map]
  exact List.map_congr_left fun s _ => congrArg D.str (of_tx s).symm
def nameB (l : List Nat) : Bool := decide (1 ≤ l.length) && decide (l.length ≤ 8) && l.all fun c => decide (97 ≤ c) && decide (c ≤ 122)
theorem nameB_ok {l : List Nat} (h : nameB l = true) : NameOk l := by
  unfold nameB at h
  rw [Bool.and_eq_true, Bool.and_eq_true, List.all_eq_true] at h
  exact ⟨of_decide_eq_true h.1.1, of_decide_eq_true h.1.2, fun c hc => by
    have := h.2 c hc
    rw [Bool.and_eq_true] at this
    exact ⟨of_decide_eq_true this.1, of_decide_eq_true this.2⟩⟩
theorem lab0_ok : ∀ l ∈ lab0, NameOk l := by
  have h : lab0.all nameB = true := by decide +kernel
  exact fun l hl => nameB_ok (List.all_eq_true.mp h l hl)
theorem lab0_nd : lab0.Nodup := by decide +kernel
theorem lab0_len : lab0.length = 10 := rfl
theorem lt_of_ne : ∀ a b : List Nat, a ≠ b → ¬ b < a → a < b
  | [], [], h, _ => absurd rfl h
  | [], b :: bs, _, _ => List.nil_lt_cons b bs
  | a :: as, [], _, h => absurd (List.nil_lt_cons a as) h
  | a :: as, b :: bs, h, h' => by
    rw [List.cons_lt_cons_iff] at h' ⊢
    by_cases e : a = b
    · subst e
      exact .inr ⟨rfl, lt_of_ne as bs (fun z => h (by rw [z])) fun z => h' (.inr ⟨rfl, z⟩)⟩
    · exact .inl (by
        have : ¬ b < a := fun z => h' (.inl z)
        omega)
theorem rising_inc : ∀ (x : Str) (r : List Str), risingS x r = true → (x :: r).Nodup → ∀ p ∈ (((x :: r).map fun s => s.cps.toList).zip (r.map fun s => s.cps.toList)), p.1 < p.2
  | x, [], _, _, p, hp => by cases hp
  | x, y :: r, h, nd, p, hp => by
    have h : (!ltCps y.cps.toList x.cps.toList && risingS y r) = true := h
    rw [Bool.and_eq_true, ltCps_eq, Bool.not_eq_true', decide_eq_false_iff_not] at h
    obtain ⟨n1, n2⟩ := List.nodup_cons.mp nd
    rcases List.mem_cons.mp hp with rfl | hp
    · exact lt_of_ne _ _ (fun z => n1 (by
        have z' : x.cps.toList = y.cps.toList := z
        have : x = y := by rw [of_tx x, of_tx y, z']
        rw [this]; exact List.mem_cons_self)) h.1
    · exact rising_inc y r h.2 n2 p hp
def spLabels : Spc where
  ty := Nat
  args := fun n => [.purse, .int n]
  ok := fun n => 1 ≤ n ∧ n ≤ 8
  rel := fun n d => ∃ ls, d = .lst (nameD ls) ∧ NamesOk ls ∧ ls.length = n
theorem nameD_len (ls : List (List Nat)) : (nameD ls).length = ls.length := List.length_map ..
theorem nodup_tx {l : List (List Nat)} (h : l.Nodup) : (l.map tx).Nodup := by
  rw [List.nodup_iff_pairwise_ne] at h ⊢
  exact List.pairwise_map.mpr (h.imp fun h z => h (tx_eq.mp z))
theorem names_of {zs : List Str} {acc left : List (List Nat)} {n : Nat} (hp : (acc ++ left).Perm lab0) (hz : zs.Perm (acc.map tx)) (hs : sortedS zs = true) (hl : acc.length = n) (h1 : 1 ≤ n) (h8 : n ≤ 8) :
    NamesOk (zs.map fun s => s.cps.toList) := by
  have ln : zs.length = n := by rw [hz.length_eq, List.length_map, hl]
  have nd : zs.Nodup := hz.nodup_iff.mpr (nodup_tx (List.nodup_append.mp (hp.nodup_iff.mpr lab0_nd)).1)
  refine ⟨by rw [List.length_map]; omega, by rw [List.length_map]; omega, fun l h => ?_, ?_⟩
  · obtain ⟨s, h1, rfl⟩ := List.mem_map.mp h
    obtain ⟨m, h2, rfl⟩ := List.mem_map.mp (hz.mem_iff.mp h1)
    show NameOk (tx m).cps.toList
    rw [tx_cps]
    exact lab0_ok m (hp.mem_iff.mp (List.mem_append_left _ h2))
  · cases zs with
    | nil => exact fun p hp => by cases hp
    | cons x r => exact rising_inc x r hs nd
end K61

namespace K61
open PySem PySem.Spec PyProof.Rows L2 Dw
def spRows : Spc where
  ty := Nat × Nat × Nat
  args := fun x => [.purse, .int x.1, .int x.2.1, .int x.2.2]
  ok := fun x => 1 ≤ x.1 ∧ x.1 ≤ 8 ∧ x.2.1 < 1000 ∧ 0 < x.2.2 ∧ x.2.2 < 1000
  rel := fun x d => ∃ rs, d = .lst (nameD rs) ∧ rs.length ≤ x.2.1 ∧ ∀ r ∈ rs, RowOk r x.1
theorem flipped_ok {l : List Nat} {n : Nat} (h : RowOk l n) : RowOk (flipped l) n := by
  refine ⟨by unfold flipped; rw [List.length_map, h.len], fun c hc => ?_⟩
  unfold flipped at hc
  obtain ⟨b, hb, rfl⟩ := List.mem_map.mp hc
  exact flip1_is (h.all b hb)
end K61

namespace K61
open PySem PySem.Spec PyProof.Rows L2 Dw
def spSpelled : Spc where
  ty := Bk
  args := fun x => [.lst (nameD x.1), .lst (nameD x.2)]
  ok := fun x => BookOk x.1 x.2
  rel := fun x d => d = .str (tx (bookTx x.1 x.2))
theorem sum_tx {m : Nat} : ∀ ls : List (List Nat), (∀ p ∈ ls, p.length ≤ m) → ((ls.map tx).map (·.length)).sum ≤ ls.length * m
  | [], _ => Nat.zero_le _
  | p :: r, h => by
    have h1 := h p List.mem_cons_self
    have h2 := sum_tx r fun x hx => h x (List.mem_cons_of_mem _ hx)
    rw [List.map_cons, List.map_cons, List.sum_cons, tx_len, List.length_cons, Nat.add_mul]
    omega
theorem join_sp (ls : List (List Nat)) : Txt.join (Str.ofString " ") (ls.map tx) = tx (TL.joinL [32] ls) := by rw [spaceS, join_tx]
end K61

namespace K61
open PySem PySem.Spec PyProof.Rows L2 Dw
theorem dr2_pow {i j : Int} (h : CPow i j) : DR2 (rI CPow fun i j => .int (i ^ j.toNat)) (.int i) (.int j) (.int (i ^ j.toNat)) := dr2_rI h fun _ => rfl
theorem ds_runS {t u : TS} {F : Addr → Prop} {σ : L2.St} {W : Wd} {Dr : Ends} {Γ : Gam} {Γ' : Gam → Prop} (h : Ds t Γ ⟨Γ', fun _ => False, fun _ => False, fun _ => False⟩) (g : SR F Γ σ W) (k : ∀ σ' W' Γ2, Stp F W W' → SR F Γ2 σ' W' → Γ' Γ2 → u Dr σ' W'.H) : tSeq t u Dr σ W.H :=
  h F σ W { Dr with nx := u Dr } g ⟨k, fun _ _ _ _ _ _ h => h.elim, fun _ _ _ _ _ h => h.elim, fun _ _ _ _ _ h => h.elim⟩
theorem scr_at {ns : List Int} {spot : Nat} (h : spot < ns.length) : atI (ns.map V.int) (spot : Int) = some (.int (ns.getD spot 0)) := by
  refine atI_nat ?_
  rw [List.getElem?_map, List.getElem?_eq_getElem h, List.getD_eq_getElem?_getD, List.getElem?_eq_getElem h]; rfl
theorem seed_ok {s z : Int} : 0 ≤ (s * 41539 + z % 2147483647 + 101) % 2147483647 ∧ (s * 41539 + z % 2147483647 + 101) % 2147483647 < 2147483647 := ⟨Int.emod_nonneg _ (by decide), Int.emod_lt_of_pos _ (by decide)⟩
end K61

namespace K61
open PySem PySem.Spec PyProof.Rows L2 Dw
/-! lots and rankings of any plain values -/
def wrongM (m : Int) : List D → Nat → Int → Option Nat
  | [], _, _ => none
  | d :: r, at_, least => if idxB d m && (match d with | .int i => decide (least ≤ i) | _ => false) then wrongM m r (at_ + 1) (match d with | .int i => i + 1 | _ => 0) else some at_
theorem wrong_int {m : Int} {i : Int} {r : List D} {k : Nat} {least : Int} : wrongM m (.int i :: r) k least = if (decide (0 ≤ i) && decide (i < m)) && decide (least ≤ i) then wrongM m r (k + 1) (i + 1) else some k := rfl
theorem wrong_not {m : Int} {d : D} {r : List D} {k : Nat} {least : Int} (h : idxB d m = false) : wrongM m (d :: r) k least = some k := by
  unfold wrongM
  rw [h]; rfl
def wrongD (m : Int) (ds : List D) : D := match wrongM m ds 0 0 with | none => .non | some k => .int k
def spWrongG : Spc where
  ty := List D × Nat
  args := fun x => [.tup x.1, .int x.2]
  ok := fun x => Pv (.tup x.1)
  rel := fun x e => e = wrongD x.2 x.1
def lotB : D → Int → Bool | .tup ds, m => (wrongM m ds 0 0).isNone | _, _ => false
def spLotG : Spc where
  ty := D × Nat
  args := fun x => [x.1, .int x.2]
  ok := fun x => Pv x.1
  rel := fun x e => e = .bl (lotB x.1 x.2)
theorem wrong_none {m : Int} : ∀ {ds : List D} {k : Nat} {least : Int}, 0 ≤ least → wrongM m ds k least = none → ∃ o : List Nat, ds = ordD o ∧ (∀ j ∈ o, least ≤ (j : Int) ∧ (j : Int) < m) ∧ o.Pairwise (· < ·)
  | [], _, _, _, _ => ⟨[], rfl, fun j h => absurd h (by simp), .nil⟩
  | d :: r, k, least, h0, h => by
    cases hd : idxB d m with
    | false => rw [wrong_not hd] at h; cases h
    | true =>
      cases d <;> first | exact absurd hd Bool.false_ne_true | skip
      rename_i i
      rw [wrong_int] at h
      by_cases hc : ((decide (0 ≤ i) && decide (i < m)) && decide (least ≤ i)) = true
      · rw [if_pos hc] at h
        rw [Bool.and_eq_true, Bool.and_eq_true, decide_eq_true_eq, decide_eq_true_eq, decide_eq_true_eq] at hc
        obtain ⟨⟨c1, c2⟩, c3⟩ := hc
        obtain ⟨o, e, ho, hp⟩ := wrong_none (least := i + 1) (by omega) h
        have ei : ((i.toNat : Nat) : Int) = i := by omega
        refine ⟨i.toNat :: o, ?_, fun j hj => ?_, List.pairwise_cons.mpr ⟨fun j hj => ?_, hp⟩⟩
        · show D.int i :: r = D.int ((i.toNat : Nat) : Int) :: ordD o
          rw [ei, e]
        · rcases List.mem_cons.mp hj with rfl | hj
          · omega
          · have := ho j hj; omega
        · have := ho j hj; omega
      · rw [if_neg hc] at h; cases h
theorem lot_wrong {m : Int} : ∀ {o : List Nat} {k : Nat} {least : Int}, (∀ j ∈ o, least ≤ (j : Int) ∧ (j : Int) < m) → o.Pairwise (· < ·) → wrongM m (ordD o) k least = none
  | [], _, _, _, _ => rfl
  | a :: o, k, least, h, hp => by
    obtain ⟨p1, p2⟩ := List.pairwise_cons.mp hp
    have ha := h a List.mem_cons_self
    show wrongM m (D.int (a : Int) :: ordD o) k least = none
    rw [wrong_int, if_pos (by rw [Bool.and_eq_true, Bool.and_eq_true, decide_eq_true_eq, decide_eq_true_eq, decide_eq_true_eq]; omega)]
    exact lot_wrong (fun j hj => ⟨by have := p1 j hj; omega, (h j (List.mem_cons_of_mem _ hj)).2⟩) p2
theorem lotB_iff {d : D} {m : Nat} : lotB d m = true ↔ ∃ o, d = .tup (ordD o) ∧ LotOk o m := by
  constructor
  · intro h
    cases d <;> first | exact absurd h Bool.false_ne_true | skip
    rename_i ds
    have h : (wrongM m ds 0 0).isNone = true := h
    rw [Option.isNone_iff_eq_none] at h
    obtain ⟨o, rfl, ho, hp⟩ := wrong_none (by decide) h
    exact ⟨o, rfl, fun k hk => by have := ho k hk; omega, hp⟩
  · rintro ⟨o, rfl, h⟩
    show (wrongM m (ordD o) 0 0).isNone = true
    rw [lot_wrong (fun j hj => ⟨by omega, by have := h.lt j hj; omega⟩) h.inc]; rfl
def intOf : D → Int | .int i => i | _ => 0
theorem all_ints : ∀ {ds : List D}, ds.all wholeB = true → ds = (ds.map intOf).map D.int
  | [], _ => rfl
  | d :: r, h => by
    rw [List.all_cons, Bool.and_eq_true] at h
    obtain ⟨i, rfl⟩ := whole_of h.1
    rw [List.map_cons, List.map_cons, ← all_ints h.2]; rfl
def rangeI (n : Nat) : List Int := (List.range n).map fun k : Nat => (k : Int)
def rkB : D → Nat → Bool | .tup ds, n => ds.all wholeB && decide ((ds.map intOf).mergeSort (fun a b => decide (a ≤ b)) = rangeI n) | _, _ => false
def spIsRkG : Spc where
  ty := D × Nat
  args := fun x => [x.1, .int x.2]
  ok := fun x => Pv x.1 ∧ x.2 ≤ 8
  rel := fun x e => e = .bl (rkB x.1 x.2)
theorem sort_u {ns ns' : List Int} (h1 : ns'.Perm ns) (h2 : ns'.Pairwise (· ≤ ·)) : ns' = ns.mergeSort (fun a b => decide (a ≤ b)) := by
  have p := List.mergeSort_perm ns (fun a b => decide (a ≤ b))
  have s := List.pairwise_mergeSort (le := fun a b : Int => decide (a ≤ b)) (fun a b c h1 h2 => by
    simp only [decide_eq_true_eq] at h1 h2 ⊢
    omega) (fun a b => by
    simp only [Bool.or_eq_true, decide_eq_true_eq]
    omega) ns
  refine List.Perm.eq_of_pairwise (le := (· ≤ ·)) (fun a b _ _ h h' => Int.le_antisymm h h') h2 (s.imp fun {a b} h => of_decide_eq_true h) (h1.trans p.symm)
theorem rkB_iff {d : D} {n : Nat} : rkB d n = true ↔ ∃ o, d = .tup (ordD o) ∧ o.Perm (List.range n) := by
  constructor
  · intro h
    cases d <;> first | exact absurd h Bool.false_ne_true | skip
    rename_i ds
    have h : (ds.all wholeB && decide ((ds.map intOf).mergeSort (fun a b => decide (a ≤ b)) = rangeI n)) = true := h
    rw [Bool.and_eq_true, decide_eq_true_eq] at h
    obtain ⟨h1, h2⟩ := h
    have p := List.mergeSort_perm (ds.map intOf) (fun a b => decide (a ≤ b))
    rw [h2] at p
    have nn : ∀ i ∈ ds.map intOf, 0 ≤ i := fun i hi => by
      have := p.symm.subset hi
      obtain ⟨k, _, rfl⟩ := List.mem_map.mp this
      omega
    refine ⟨(ds.map intOf).map Int.toNat, ?_, ?_⟩
    · have e : ordD ((ds.map intOf).map Int.toNat) = (ds.map intOf).map D.int := by
        unfold ordD
        rw [List.map_map]
        refine List.map_congr_left fun i hi => ?_
        have := nn i hi
        show D.int ((i.toNat : Nat) : Int) = D.int i
        rw [show ((i.toNat : Nat) : Int) = i by omega]
      rw [e, ← all_ints h1]
    · have := (p.symm).map Int.toNat
      have e : (rangeI n).map Int.toNat = List.range n := by
        unfold rangeI
        rw [List.map_map, show (Int.toNat ∘ fun k : Nat => (k : Int)) = id by funext k; simp, List.map_id]
      rw [e] at this
      exact this
  · rintro ⟨o, rfl, h⟩
    show ((ordD o).all wholeB && decide (((ordD o).map intOf).mergeSort (fun a b => decide (a ≤ b)) = rangeI n)) = true
    have e1 : (ordD o).all wholeB = true := by
      unfold ordD
      rw [List.all_map, List.all_eq_true]
      exact fun _ _ => rfl
    have e2 : (ordD o).map intOf = o.map fun k : Nat => (k : Int) := by unfold ordD; rw [List.map_map]; rfl
    rw [e1, e2, ← sort_u (ns' := rangeI n) ((h.map _).symm) (List.pairwise_map.mpr ((List.pairwise_lt_range (n := n)).imp fun {a b} h => by omega)), decide_eq_true rfl]; rfl
theorem eqv_ints : ∀ xs ys : List Int, PyData.eqvAll (pys (xs.map D.int)) (pys (ys.map D.int)) = decide (xs = ys)
  | [], [] => rfl
  | [], y :: ys => by
    show false = _
    simp
  | x :: xs, [] => by
    show false = _
    simp
  | x :: xs, y :: ys => by
    show ((x == y) && PyData.eqvAll (pys (xs.map D.int)) (pys (ys.map D.int))) = _
    rw [eqv_ints xs ys, Bool.eq_iff_iff]
    simp
theorem sh_ints (xs : List Int) : dOk 1 (.lst (xs.map D.int)) = true := dOks_map fun _ _ => rfl
theorem eq_intsL {K : PySem.W.Frag} {xs ys : List Int} : DR2 (rEqX K) (.lst (xs.map D.int)) (.lst (ys.map D.int)) (.bl (decide (xs = ys))) := by
  obtain ⟨p1, s1⟩ := dOk_shaped (sh_ints xs) (by decide)
  obtain ⟨p2, s2⟩ := dOk_shaped (sh_ints ys) (by decide)
  have := eq_deep (K := K) p1 p2 s1 s2
  rw [show PyData.eqv (py (.lst (xs.map D.int))) (py (.lst (ys.map D.int))) = PyData.eqvAll (pys (xs.map D.int)) (pys (ys.map D.int)) from rfl, eqv_ints] at this
  exact this
theorem rng_int (n : Nat) : rng n = (rangeI n).map D.int := by unfold rng rangeI; rw [List.map_map]; rfl
/-! names of any plain values -/
def codesOf : D → List Nat | .str x => x.cps.toList | _ => []
def incB (ls : List (List Nat)) : Bool := (ls.zip (ls.drop 1)).all fun p => decide (p.1 < p.2)
def namesB (ds : List D) : Bool := ds.all nmB && incB (ds.map codesOf)
theorem all_names : ∀ {ds : List D}, ds.all nmB = true → ds = nameD (ds.map codesOf) ∧ ∀ l ∈ ds.map codesOf, NameOk l
  | [], _ => ⟨rfl, fun l h => absurd h (by simp)⟩
  | d :: r, h => by
    rw [List.all_cons, Bool.and_eq_true] at h
    obtain ⟨l, rfl, hl⟩ := nmB_iff.mp h.1
    obtain ⟨e, hr⟩ := all_names h.2
    have ec : codesOf (.str (tx l)) = l := tx_cps l
    rw [List.map_cons, ec]
    refine ⟨?_, fun x hx => ?_⟩
    · show D.str (tx l) :: r = D.str (tx l) :: nameD (r.map codesOf)
      rw [← e]
    · rcases List.mem_cons.mp hx with rfl | hx
      · exact hl
      · exact hr x hx
theorem codes_name (ls : List (List Nat)) : (nameD ls).map codesOf = ls := by
  unfold nameD
  rw [List.map_map]
  have e : (codesOf ∘ fun l => D.str (tx l)) = id := by funext l; exact tx_cps l
  rw [e, List.map_id]
theorem namesB_iff {ds : List D} : namesB ds = true ↔ ∃ ls, ds = nameD ls ∧ (∀ l ∈ ls, NameOk l) ∧ ∀ p ∈ ls.zip (ls.drop 1), p.1 < p.2 := by
  unfold namesB incB
  rw [Bool.and_eq_true]
  constructor
  · rintro ⟨h1, h2⟩
    obtain ⟨e, hn⟩ := all_names h1
    exact ⟨_, e, hn, fun p hp => of_decide_eq_true (List.all_eq_true.mp h2 p hp)⟩
  · rintro ⟨ls, rfl, h1, h2⟩
    rw [codes_name]
    refine ⟨?_, List.all_eq_true.mpr fun p hp => decide_eq_true (h2 p hp)⟩
    unfold nameD
    rw [List.all_map, List.all_eq_true]
    exact fun l hl => nmB_iff.mpr ⟨l, rfl, h1 l hl⟩
def spNamesG : Spc where
  ty := List D
  args := fun ds => [.tup ds]
  ok := fun ds => Pv (.tup ds)
  rel := fun ds e => e = .bl (namesB ds)
theorem cut_tail (ds : List D) : Dw.cutD ds (some 1) none = ds.drop 1 := by
  unfold Dw.cutD
  rw [HT.sIx_none]
  have e : HT.sIx ds.length 0 (some 1) = min 1 ds.length := by
    show (if (1 : Int) < 0 then ((1 : Int) + (ds.length : Int)).toNat else min (1 : Int).toNat ds.length) = _
    rw [if_neg (by decide)]; rfl
  rw [e]
  cases ds with
  | nil => rfl
  | cons d r =>
    rw [show min 1 (d :: r).length = 1 by simp [Nat.min_def], List.take_of_length_le (by simp)]
theorem pv_names {ls : List (List Nat)} (h : ∀ l ∈ ls, NameOk l) (hz : ls.length ≤ 60) : Pv (.tup (nameD ls)) := by
  show (decide ((nameD ls).length ≤ 60) && plBs 11 (nameD ls)) = true
  rw [show (nameD ls).length = ls.length from List.length_map .., decide_eq_true hz, Bool.true_and, plBs_iff]
  intro d hd
  obtain ⟨l, hl, rfl⟩ := List.mem_map.mp hd
  have := h l hl
  exact pv_strs (fun c hc => by have := this.all c hc; omega) (by have := this.hi; omega)
theorem names_ok {ls : List (List Nat)} (h : NamesOk ls) : namesB (nameD ls) = true := namesB_iff.mpr ⟨ls, rfl, h.all, h.inc⟩
theorem row_ok {l : List Nat} {n : Nat} (h : RowOk l n) (h1 : 1 ≤ n) (h8 : n ≤ 8) : rowB (.str (tx l)) n = true := rowB_iff.mpr ⟨l, rfl, h, h1, h8⟩
theorem pv_row {l : List Nat} {n : Nat} (h : RowOk l n) (h8 : n ≤ 8) : Pv (.str (tx l)) := pv_strs (fun c hc => (h.all c hc).lt) (by rw [h.len]; omega)
end K61

namespace K61
open PySem PySem.Spec PyProof.Rows L2 Dw
theorem d_wrong_in_lot {P : Program} {w : World} {K : PySem.W.Frag} {mg : Str → Option Value} {base : Heap} (T : Txt K w mg) : FnOk P w K mg base CX0 3 T.f_wrong_in_lot T.e_wrong_in_lot ["lot", "many"] (toSp (spWrongG)) := by
  refine fn_ok T.F_wrong_in_lot sc_wrong_in_lot (fun _ => rfl) fun cdv A outer s' H E hr => ?_
  refine ⟨_, (pss_cons (ps_set (i := 2) sc_wrong_in_lot.nd rfl (Or.inl rfl) pe_int) (pss_cons (ps_for PassesOwn.never rfl (enumTA K (by rfl) T.n_enumerate (pa_cons (pv 0) pa_nil)) (tupA K 2 rfl (pgs_cons (pg_name (i := 3) sc_wrong_in_lot.nd rfl (Or.inl rfl)) (pgs_cons (pg_name (i := 4) sc_wrong_in_lot.nd rfl (Or.inl rfl)) pgs_nil))) (pss_cons (ps_if (PW.pt (pw_or (pt_not (truA K (pe_call (d_is_index T) (hr.mono (by decide)) (by rfl) T.m_is_index T.F_is_index.kp T.b_is_index .nil pass0 (pa_cons (pv 4) (pa_cons (pv 1) pa_nil))))) (pw_or1 (pt_cmpR opLt (pv 4) (pv 2) (nomark _))))) (pss_one (ps_ret (pv 3))) pss_nil) (pss_one (ps_set (i := 2) sc_wrong_in_lot.nd rfl (Or.inl rfl) (pe_op (plusE K) (pv 4) pe_int))))) (pss_one (ps_ret pe_non)))), fun x hx => ?_⟩
  obtain ⟨ds, m⟩ := x
  have hd : Pv (.tup ds) := hx
  refine ds_seq (ds_asg (Ev.dl ev_int ?_))
  refine ds_seq (ds_for (fun xs i Γ' => ∃ (least : Int) (s3 s4 : Sl), Γ' = [.val (.tup ds), .val (.int m), .val (.int least), s3, s4] ∧ xs = enumD ds ∧ wrongM m ds 0 0 = wrongM m (ds.drop i) i least)
    (di_enumT (Ev.dl (ev_var rfl) ⟨ds, rfl, ⟨0, .unset, .unset, rfl, rfl, rfl⟩, fun i x Γ' hx' ⟨c, s3, s4, e, exs, hc⟩ => ?_, fun Γ' ⟨c, s3, s4, e, exs, hc⟩ => ?_⟩)))
  · subst e
    obtain ⟨y, hy, rfl⟩ := enumD_get hx'
    obtain ⟨hi, ey⟩ := List.getElem?_eq_some_iff.mp hy
    have ed : ds.drop i = y :: ds.drop (i + 1) := by rw [List.drop_eq_getElem_cons hi, ey]
    rw [ed] at hc
    have hp : Pv y := hd.tup.2 y (List.mem_of_getElem? hy)
    refine ⟨[3] ++ [4], _, dg_tup2 dg_name dg_name, ?_⟩
    cases hd' : idxB y m with
    | false =>
      refine ds_seq (ds_if (EvT.dl (b := true) (evt_or (a := true) (b := false) (evt_not (a := false) (evt_tru_bl (ev_call (s := spIndexG) (x := (y, m)) (eva_cons (ev_var rfl) (eva_cons (ev_var rfl) eva_nil)) (np1 (r := [_]) hp rfl) hp fun d h => by rw [h, hd']))) fun h => (nomatch h)) ⟨fun _ => ds_ret (Ev.dl (ev_var rfl) ?_), fun h => (nomatch h)⟩))
      show D.int (i : Int) = wrongD m ds
      unfold wrongD
      rw [hc, wrong_not hd']
    | true =>
      cases y <;> first | exact absurd hd' Bool.false_ne_true | skip
      rename_i z
      rw [wrong_int] at hc
      have hd2 : (decide (0 ≤ z) && decide (z < (m : Int))) = true := hd'
      rw [hd2, Bool.true_and] at hc
      refine ds_seq (ds_if (EvT.dl (b := decide (z < c)) (evt_or (a := false) (b := decide (z < c)) (evt_not (a := true) (evt_tru_bl (ev_call (s := spIndexG) (x := (.int z, m)) (eva_cons (ev_var rfl) (eva_cons (ev_var rfl) eva_nil)) rfl hp fun d h => by rw [h, hd']))) fun _ => evt_test (ev_op (ev_var rfl) (ev_var rfl) lt_int')) ⟨fun h => ?_, fun h => ?_⟩))
      · refine ds_ret (Ev.dl (ev_var rfl) ?_)
        show D.int (i : Int) = wrongD m ds
        unfold wrongD
        have : ¬ c ≤ z := by have := of_decide_eq_true h; omega
        rw [hc, if_neg (by rw [decide_eq_true_eq]; exact this)]
      · refine ds_next (ds_asg (Ev.dl (ev_op (ev_var rfl) ev_int pl_int) ⟨z + 1, _, _, rfl, exs, ?_⟩))
        have : c ≤ z := by have := of_decide_eq_false h; omega
        rw [hc, if_pos (decide_eq_true this)]
  · subst e
    refine ds_ret (Ev.dl ev_non ?_)
    show D.non = wrongD m ds
    unfold wrongD
    rw [hc, List.drop_eq_nil_of_le (by rw [enumD_length]; exact Nat.le_refl _)]; rfl
end K61

namespace K61
open PySem PySem.Spec PyProof.Rows L2 Dw
theorem d_is_lot {P : Program} {w : World} {K : PySem.W.Frag} {mg : Str → Option Value} {base : Heap} (T : Txt K w mg) : FnOk P w K mg base CX0 4 T.f_is_lot T.e_is_lot ["value", "many"] (toSp (spLotG)) := by
  refine fn_ok T.F_is_lot sc_is_lot (fun _ => rfl) fun cdv A outer s' H E hr => ?_
  refine ⟨_, (pss_one (ps_ret (pe_and (pe_callB (isiA K) (by rfl) T.n_isinstance (by decide +kernel) (pa_cons (pv 0) (pa_cons (pe_bltn (v := .ty "tuple") (by rfl) T.n_tuple (by decide +kernel) rfl) pa_nil))) (pe_one (pe_cmpR op_isN (pe_call (d_wrong_in_lot T) (hr.mono (by decide)) (by rfl) T.m_wrong_in_lot T.F_wrong_in_lot.kp T.b_wrong_in_lot .nil pass0 (pa_cons (pv 0) (pa_cons (pv 1) pa_nil))) pe_non (nomark _)))))), fun x hx => ?_⟩
  obtain ⟨d, m⟩ := x
  have hd : Pv d := hx
  refine ds_ret (Ev.dl (ev_cast (d := .bl (isTupB d && lotB d m)) (by cases d <;> first | rfl | exact congrArg D.bl (Bool.true_and _)) (ev_andV (a := isTupB d) (b := lotB d m) (ev_isi (ev_var rfl) ev_raw (.inl hd.ty) (.ty "tuple") (kit_tup hd.ty)) fun h => ?_)) rfl)
  obtain ⟨ds, rfl⟩ := tup_of h
  refine ev_op (ev_call (s := spWrongG) (d := wrongD m ds) (x := (ds, m)) (eva_cons (ev_var rfl) (eva_cons (ev_var rfl) eva_nil)) (np1 (r := [_]) hd rfl) hd fun d h => h) ev_non (dr2_isN fun W v hv => ?_)
  show decide (v = V.non) = (wrongM m ds 0 0).isNone
  unfold wrongD at hv
  cases hw : wrongM m ds 0 0 with
  | none => rw [hw] at hv; exact decide_eq_true hv
  | some k => rw [hw] at hv; rw [show v = V.int k from hv]; rfl
end K61

namespace K61
open PySem PySem.Spec PyProof.Rows L2 Dw
theorem d_is_ranking {P : Program} {w : World} {K : PySem.W.Frag} {mg : Str → Option Value} {base : Heap} (T : Txt K w mg) : FnOk P w K mg base CX0 2 T.f_is_ranking T.e_is_ranking ["value", "many"] (toSp (spIsRkG)) := by
  refine fn_ok T.F_is_ranking sc_is_ranking (fun _ => rfl) fun cdv A outer s' H E hr => ?_
  refine ⟨_, (pss_cons (ps_if (PW.pt (pw_or (pt_not (truA K (pe_callB (isiA K) (by rfl) T.n_isinstance (by decide +kernel) (pa_cons (pv 0) (pa_cons (pe_bltn (v := .ty "tuple") (by rfl) T.n_tuple (by decide +kernel) rfl) pa_nil))))) (pw_or1 (pt_not (truA K (pe_callB (allA K) (by rfl) T.n_all (by decide +kernel) (pa_cons (pe_lc (own := [("rule", 2)]) rfl sc_is_ranking.nd (piR K (pv 0)) (blkOk_by (own := [("rule", 2)]) (N := N_is_ranking) (sc := (defScope s_is_ranking)) (by decide +kernel)) (fun _ _ _ _ _ => pg_name (i := 2) sc_is_ranking.nd rfl (Or.inl rfl)) (fun _ _ _ _ _ => pts_nil) (fun _ _ _ _ _ => (pe_call (d_is_whole T) (hr.mono (by decide)) (by rfl) T.m_is_whole T.F_is_whole.kp T.b_is_whole .nil pass0 (pa_cons (pv 2) pa_nil)))) pa_nil))))))) (pss_one (ps_ret pe_bl)) pss_nil) (pss_one (ps_ret (pe_cmpR (eqA K hr.units) (pe_callB (sortTA K) (by rfl) T.n_sorted (by decide +kernel) (pa_cons (pv 0) pa_nil)) (pe_listRg rfl (by rfl) T.n_list (prg_1 (by rfl) T.n_range (pv 1))) (nomark _))))), fun x hx => ?_⟩
  obtain ⟨d, n⟩ := x
  obtain ⟨hd, h8⟩ := hx
  have hd : Pv d := hd
  have h8 : n ≤ 8 := h8
  by_cases ht : isTupB d = true
  · obtain ⟨ds, rfl⟩ := tup_of ht
    obtain ⟨hz, hp⟩ := hd.tup
    refine ds_seq (ds_if (EvT.dl (b := !ds.all wholeB) (evt_or (a := false) (b := !ds.all wholeB) (evt_not (a := true) (evt_tru_bl (ev_isi (ev_var rfl) ev_raw (.inl rfl) (.ty "tuple") rfl))) fun _ => evt_not (evt_tru_bl (ev_all_lc (K := K) (xs := ds) (c := fun d => d) (b := wholeB) ?it (by omega) fun k hk => ⟨[2], _, dg_name, fun i hi => hi, evt_yes, ev_call (s := spWholeG) (x := k) (eva_cons (ev_var rfl) eva_nil) (np1 (hp k hk) rfl) (hp k hk) fun d h => h⟩))) ⟨fun h => ?_, fun h => ds_next ?_⟩))
    case it => rw [List.map_id']; exact ej_tup (ev_var rfl)
    · refine ds_ret (Ev.dl ev_bl ?_)
      show D.bl false = D.bl (ds.all wholeB && _)
      rw [Bool.not_eq_true'] at h
      rw [h]; rfl
    · rw [Bool.not_eq_false'] at h
      refine ds_ret (Ev.dl (ev_op (x := .lst (((ds.map intOf).mergeSort (fun a b => decide (a ≤ b))).map D.int)) (y := .lst ((rangeI n).map D.int)) (EvN.ev ?srt) (EvN.ev ?rg) eq_intsL) ?_)
      case srt => exact evn_sortT (ns := ds.map intOf) (ev_cast (congrArg D.tup (all_ints h)) (ev_var rfl)) (by rw [List.length_map]; omega) fun ns h1 h2 => sort_u h1 h2
      case rg => rw [← rng_int]; exact evn_listRg (ev_var rfl) (by omega)
      show D.bl _ = D.bl (ds.all wholeB && _)
      rw [h]; rfl
  · have ht : isTupB d = false := by simpa using ht
    refine ds_seq (ds_if (EvT.dl (b := true) (evt_or (a := true) (b := false) (evt_not (a := false) (evt_tru_bl (ev_isi (ev_var rfl) ev_raw (.inl hd.ty) (.ty "tuple") (by rw [kit_tup hd.ty, ht])))) fun h => (nomatch h)) ⟨fun _ => ds_ret (Ev.dl ev_bl ?_), fun h => (nomatch h)⟩))
    cases d <;> first | rfl | exact nomatch ht
end K61

namespace K61
open PySem PySem.Spec PyProof.Rows L2 Dw
theorem d_are_names {P : Program} {w : World} {K : PySem.W.Frag} {mg : Str → Option Value} {base : Heap} (T : Txt K w mg) : FnOk P w K mg base CX0 2 T.f_are_names T.e_are_names ["values"] (toSp (spNamesG)) := by
  refine fn_ok T.F_are_names sc_are_names (fun _ => rfl) fun cdv A outer s' H E hr => ?_
  refine ⟨_, (pss_cons (ps_if (pt_not (truA K (pe_callB (allA K) (by rfl) T.n_all (by decide +kernel) (pa_cons (pe_lc (own := [("value", 3)]) rfl sc_are_names.nd (piR K (pv 0)) (blkOk_by (own := [("value", 3)]) (N := N_are_names) (sc := (defScope s_are_names)) (by decide +kernel)) (fun _ _ _ _ _ => pg_name (i := 3) sc_are_names.nd rfl (Or.inl rfl)) (fun _ _ _ _ _ => pts_nil) (fun _ _ _ _ _ => (pe_call (d_is_name T) (hr.mono (by decide)) (by rfl) T.m_is_name T.F_is_name.kp T.b_is_name .nil pass0 (pa_cons (pv 3) pa_nil)))) pa_nil)))) (pss_one (ps_ret pe_bl)) pss_nil) (pss_one (ps_ret (pe_callB (allA K) (by rfl) T.n_all (by decide +kernel) (pa_cons (pe_lc (own := [("one", 1), ("other", 2)]) rfl sc_are_names.nd (zipA K (by rfl) T.n_zip (pa_cons (pv 0) (pa_cons (pe_slice (slXA K) (pv 0) (po_some pe_int) po_none) pa_nil))) (blkOk_by (own := [("one", 1), ("other", 2)]) (N := N_are_names) (sc := (defScope s_are_names)) (by decide +kernel)) (fun _ _ _ _ _ => tupA K 2 rfl (pgs_cons (pg_name (i := 1) sc_are_names.nd rfl (Or.inl rfl)) (pgs_cons (pg_name (i := 2) sc_are_names.nd rfl (Or.inl rfl)) pgs_nil))) (fun _ _ _ _ _ => pts_nil) (fun _ _ _ _ _ => (pe_cmpR opLt (pv 1) (pv 2) (nomark _)))) pa_nil))))), fun x hx => ?_⟩
  obtain ⟨ds, rfl⟩ : ∃ l : List D, l = x := ⟨x, rfl⟩
  have hd : Pv (.tup ds) := hx
  obtain ⟨hz, hp⟩ := hd.tup
  refine ds_seq (ds_if (EvT.dl (b := !ds.all nmB) (evt_not (evt_tru_bl (ev_all_lc (K := K) (xs := ds) (c := fun d => d) (b := nmB) ?it (by omega) fun k hk => ⟨[3], _, dg_name, fun i hi => hi, evt_yes, ev_call (s := spNameG) (x := k) (eva_cons (ev_var rfl) eva_nil) (np1 (hp k hk) rfl) (hp k hk) fun d h => h⟩))) ⟨fun h => ?_, fun h => ds_next ?_⟩))
  case it => rw [List.map_id']; exact ej_tup (ev_var rfl)
  · refine ds_ret (Ev.dl ev_bl ?_)
    show D.bl false = D.bl (namesB ds)
    unfold namesB
    rw [Bool.not_eq_true'] at h
    rw [h]; rfl
  · rw [Bool.not_eq_false'] at h
    obtain ⟨e, hn⟩ := all_names h
    generalize hls : ds.map codesOf = ls at e hn
    subst e
    have el : (nameD ls).length = ls.length := List.length_map ..
    refine ds_ret (Ev.dl (ev_all_lc (xs := ls.zip (ls.drop 1)) (c := fun p => .tup [.str (tx p.1), .str (tx p.2)]) (b := fun p => decide (p.1 < p.2)) ?_ ?_ ?_) ?_)
    · rw [← zip_names]
      have e : nameD (ls.drop 1) = Dw.cutD (nameD ls) (some 1) none := by
        rw [cut_tail]
        unfold nameD
        rw [List.map_drop]
      rw [e]
      exact ei_zipT (ev_var rfl) (ev_sliceTY (ev_var rfl) (eo_some ev_int) eo_none)
    · rw [List.length_zip]; omega
    · intro p hp
      exact ⟨[1] ++ [2], _, dg_tup2 dg_name dg_name, fun i hi => hi, evt_yes, ev_op (ev_var rfl) (ev_var rfl) lt_tx⟩
    · show D.bl (incB ls) = D.bl (namesB (nameD ls))
      unfold namesB
      rw [h, codes_name]; rfl

end K61

namespace K61
open PySem PySem.Spec PyProof.Rows L2 Dw
/-! the layers -/
def rowAt (rs : List (List Nat)) (i : Nat) : List Nat := rs.getD i []
def minB (rs : List (List Nat)) (still : List Nat) (k : Nat) : Bool := still.any fun i => decide (sgn (rowAt rs i) k = 45)
def plusB (rs : List (List Nat)) (lay : List Nat) (i : Nat) : Bool := lay.any fun k => decide (sgn (rowAt rs i) k = 43)
def openB (rs : List (List Nat)) (i : Nat) : Bool := (rowAt rs i).any fun c => !decide (c = 46)
def open0 (rs : List (List Nat)) : List Nat := (List.range rs.length).filter (openB rs)
def layF (rs : List (List Nat)) : Nat → List (List Nat) → List Nat → List Nat → List (List Nat) × List Nat
  | 0, made, _, still => (made, still)
  | f + 1, made, left, still =>
    if still = [] then (if left = [] then made else made ++ [left], [])
    else if left.filter (fun k => !minB rs still k) = [] then (made, still)
    else layF rs f (made ++ [left.filter fun k => !minB rs still k]) (left.filter (minB rs still)) (still.filter fun i => !plusB rs (left.filter fun k => !minB rs still k) i)
def splitM (rs : List (List Nat)) (n : Nat) : List (List Nat) × List Nat := layF rs (n + 1) [] (List.range n) (open0 rs)
/-- a row that some layer settles, all ahead of it being dots, and none of it a minus -/
def Settled (rs : List (List Nat)) (made : List (List Nat)) (i : Nat) : Prop := ∃ pre lay post, made = pre ++ lay :: post ∧ (∀ l ∈ pre, ∀ k ∈ l, sgn (rowAt rs i) k = 46) ∧ (∀ k ∈ lay, sgn (rowAt rs i) k ≠ 45) ∧ ∃ k ∈ lay, sgn (rowAt rs i) k = 43
structure LayI (rs : List (List Nat)) (n : Nat) (made : List (List Nat)) (left still : List Nat) : Prop where
  perm : (made.flatten ++ left).Perm (List.range n)
  ne : ∀ l ∈ made, l ≠ []
  sub : still.Sublist (open0 rs)
  dots : ∀ i ∈ still, ∀ l ∈ made, ∀ k ∈ l, sgn (rowAt rs i) k = 46
  done : ∀ i ∈ open0 rs, i ∉ still → Settled rs made i
  inc : left.Sublist (List.range n)
theorem Settled.more {rs made i} (l : List (List Nat)) (h : Settled rs made i) : Settled rs (made ++ l) i := by
  obtain ⟨pre, lay, post, rfl, h1, h2, h3⟩ := h
  exact ⟨pre, lay, post ++ l, by simp, h1, h2, h3⟩
theorem filter_split (p : Nat → Bool) : ∀ l : List Nat, ((l.filter fun k => !p k) ++ l.filter p).Perm l
  | [] => .refl _
  | a :: l => by
    have ih := filter_split p l
    cases h : p a with
    | true =>
      rw [List.filter_cons_of_neg (by simp [h]), List.filter_cons_of_pos h]
      exact (List.perm_middle).trans (ih.cons a)
    | false =>
      rw [List.filter_cons_of_pos (by simp [h]), List.filter_cons_of_neg (by simp [h])]
      exact ih.cons a
theorem LayI.next {rs n made left still} (hs : ∀ i c, sgn (rowAt rs i) c = 43 ∨ sgn (rowAt rs i) c = 45 ∨ sgn (rowAt rs i) c = 46) (h : LayI rs n made left still) (hl : left.filter (fun k => !minB rs still k) ≠ []) :
    LayI rs n (made ++ [left.filter fun k => !minB rs still k]) (left.filter (minB rs still)) (still.filter fun i => !plusB rs (left.filter fun k => !minB rs still k) i) := by
  have nomin : ∀ i ∈ still, ∀ k ∈ left.filter (fun k => !minB rs still k), sgn (rowAt rs i) k ≠ 45 := fun i hi k hk z => by
    have h1 := (List.mem_filter.mp hk).2
    have : minB rs still k = true := List.any_eq_true.mpr ⟨i, hi, decide_eq_true z⟩
    rw [this] at h1; cases h1
  refine ⟨?_, fun l hm => ?_, (List.filter_sublist).trans h.sub, fun i hi l hm k hk => ?_, fun i hi hn => ?_, (List.filter_sublist).trans h.inc⟩
  · rw [List.flatten_append, List.append_assoc]
    refine (List.Perm.append_left _ ?_).trans h.perm
    simp only [List.flatten_cons, List.flatten_nil, List.append_nil]
    exact filter_split _ left
  · rcases List.mem_append.mp hm with hm | hm
    · exact h.ne l hm
    · rw [List.mem_singleton.mp hm]; exact hl
  · obtain ⟨hi, hp⟩ := List.mem_filter.mp hi
    rcases List.mem_append.mp hm with hm | hm
    · exact h.dots i hi l hm k hk
    · rw [List.mem_singleton.mp hm] at hk
      rcases hs i k with z | z | z
      · have : plusB rs (left.filter fun k => !minB rs still k) i = true := List.any_eq_true.mpr ⟨k, hk, decide_eq_true z⟩
        rw [this] at hp; cases hp
      · exact absurd z (nomin i hi k hk)
      · exact z
  · by_cases hi2 : i ∈ still
    · have hp : plusB rs (left.filter fun k => !minB rs still k) i = true := by
        cases q : plusB rs (left.filter fun k => !minB rs still k) i with
        | true => rfl
        | false => exact absurd (List.mem_filter.mpr ⟨hi2, by rw [q]; rfl⟩) hn
      obtain ⟨k, hk, z⟩ := List.any_eq_true.mp hp
      exact ⟨made, _, [], by simp, fun l hm k hk => h.dots i hi2 l hm k hk, nomin i hi2, k, hk, of_decide_eq_true z⟩
    · exact (h.done i hi hi2).more _
theorem lay_len {rs : List (List Nat)} {left still : List Nat} (hl : left.filter (fun k => !minB rs still k) ≠ []) : (left.filter (minB rs still)).length < left.length := by
  have := (filter_split (minB rs still) left).length_eq
  rw [List.length_append] at this
  have h2 : 0 < (left.filter fun k => !minB rs still k).length := List.length_pos_iff.mpr hl
  omega
theorem layI_0 (rs : List (List Nat)) (n : Nat) : LayI rs n [] (List.range n) (open0 rs) :=
  ⟨.refl _, fun l h => absurd h (by simp), List.Sublist.refl _, fun i _ l h => absurd h (by simp), fun i h h' => absurd h h', List.Sublist.refl _⟩
/-- how the making ends -/
theorem layF_end {rs : List (List Nat)} {n : Nat} (hs : ∀ i c, sgn (rowAt rs i) c = 43 ∨ sgn (rowAt rs i) c = 45 ∨ sgn (rowAt rs i) c = 46) : ∀ (f : Nat) (made : List (List Nat)) (left still : List Nat), LayI rs n made left still → left.length < f →
    (∃ ls, layF rs f made left still = (ls, []) ∧ LayI rs n ls [] []) ∨ (∃ ls lf st, layF rs f made left still = (ls, st) ∧ st ≠ [] ∧ LayI rs n ls lf st ∧ lf.filter (fun k => !minB rs st k) = [])
  | 0, _, _, _, _, h => absurd h (Nat.not_lt_zero _)
  | f + 1, made, left, still, h, hf => by
    unfold layF
    by_cases h1 : still = []
    · subst h1
      rw [if_pos rfl]
      refine .inl ⟨_, rfl, ?_⟩
      by_cases h2 : left = []
      · rw [if_pos h2]; subst h2; exact h
      · rw [if_neg h2]
        refine ⟨?_, fun l hm => ?_, h.sub, fun i hi => absurd hi (by simp), fun i hi hn => (h.done i hi hn).more _, List.nil_sublist _⟩
        · have := h.perm
          simpa using this
        · rcases List.mem_append.mp hm with hm | hm
          · exact h.ne l hm
          · rw [List.mem_singleton.mp hm]; exact h2
    · rw [if_neg h1]
      by_cases h2 : left.filter (fun k => !minB rs still k) = []
      · rw [if_pos h2]; exact .inr ⟨_, _, _, rfl, h1, h, h2⟩
      · rw [if_neg h2]
        exact layF_end hs f _ _ _ (h.next hs h2) (by have := lay_len h2; omega)
/-- a row along an order: dots, then a sign -/
theorem told_dots {l : List Nat} : ∀ {p : List Nat}, (∀ k ∈ p, sgn l k = 46) → told l p = []
  | [], _ => rfl
  | k :: p, h => by
    have ih := told_dots (l := l) (p := p) fun j hj => h j (List.mem_cons_of_mem _ hj)
    unfold told at ih ⊢
    rw [List.map_cons, List.filter_cons_of_neg (by rw [h k List.mem_cons_self]; decide)]
    exact ih
theorem told_app (l p q : List Nat) : told l (p ++ q) = told l p ++ told l q := by
  unfold told
  rw [List.map_append, List.filter_append]
theorem holds_lay {l : List Nat} : ∀ {q : List Nat}, (∀ k ∈ q, sgn l k = 43 ∨ sgn l k = 46) → (∃ k ∈ q, sgn l k = 43) → ∀ r, holdsB l (q ++ r) = true
  | [], _, h, _ => by obtain ⟨k, hk, _⟩ := h; cases hk
  | k :: q, h, h2, r => by
    rcases h k List.mem_cons_self with z | z
    · unfold holdsB told
      rw [List.cons_append, List.map_cons, List.filter_cons_of_pos (by rw [z]; decide), z]; rfl
    · have : told l (k :: q ++ r) = told l (q ++ r) := by
        unfold told
        rw [List.cons_append, List.map_cons, List.filter_cons_of_neg (by rw [z]; decide)]
      unfold holdsB
      rw [this]
      obtain ⟨j, hj, zj⟩ := h2
      rcases List.mem_cons.mp hj with rfl | hj
      · rw [z] at zj; cases zj
      · exact holds_lay (fun x hx => h x (List.mem_cons_of_mem _ hx)) ⟨j, hj, zj⟩ r
theorem holds_pre {l p q : List Nat} (h : ∀ k ∈ p, sgn l k = 46) : holdsB l (p ++ q) = holdsB l q := by
  unfold holdsB
  rw [told_app, told_dots h]; rfl
theorem holds_dots {l p : List Nat} (h : ∀ k ∈ p, sgn l k = 46) : holdsB l p = true := by
  unfold holdsB
  rw [told_dots h]
/-- layers each in some order -/
def walked (g : List Nat → List Nat) (ls : List (List Nat)) : List Nat := (ls.map g).flatten
theorem walked_perm {g : List Nat → List Nat} (hg : ∀ l, (g l).Perm l) : ∀ ls : List (List Nat), (walked g ls).Perm ls.flatten
  | [] => .refl _
  | l :: ls => by
    show (g l ++ walked g ls).Perm (l ++ ls.flatten)
    exact (hg l).append (walked_perm hg ls)
theorem settled_holds {rs : List (List Nat)} {ls : List (List Nat)} {i : Nat} (hs : ∀ i c, sgn (rowAt rs i) c = 43 ∨ sgn (rowAt rs i) c = 45 ∨ sgn (rowAt rs i) c = 46) {g : List Nat → List Nat} (hg : ∀ l, (g l).Perm l) (h : Settled rs ls i) : holdsB (rowAt rs i) (walked g ls) = true := by
  obtain ⟨pre, lay, post, rfl, h1, h2, k, hk, hk2⟩ := h
  have e : walked g (pre ++ lay :: post) = walked g pre ++ (g lay ++ walked g post) := by
    unfold walked
    simp
  rw [e, holds_pre fun k hk => ?_]
  · refine holds_lay (fun j hj => ?_) ⟨k, (hg lay).mem_iff.mpr hk, hk2⟩ _
    rcases hs i j with z | z | z
    · exact .inl z
    · exact absurd z (h2 j ((hg lay).mem_iff.mp hj))
    · exact .inr z
  · have hm := (walked_perm hg pre).mem_iff.mp hk
    obtain ⟨l, hl, hk⟩ := List.mem_flatten.mp hm
    exact h1 l hl k hk
theorem closed_dots {rs : List (List Nat)} {i : Nat} (hi : i < rs.length) (h : i ∉ open0 rs) (k : Nat) : sgn (rowAt rs i) k = 46 := by
  have hn : openB rs i = false := by
    cases q : openB rs i with
    | false => rfl
    | true => exact absurd (List.mem_filter.mpr ⟨List.mem_range.mpr hi, q⟩) h
  unfold openB at hn
  unfold sgn
  rw [List.getD_eq_getElem?_getD]
  cases q : (rowAt rs i)[k]? with
  | none => rfl
  | some c =>
    have := (List.any_eq_false.mp hn) c (List.mem_of_getElem? q)
    simpa using this
/-- where the layers end well, each order through them fits -/
theorem lay_fits {rs : List (List Nat)} {n : Nat} {ls : List (List Nat)} (hs : ∀ i c, sgn (rowAt rs i) c = 43 ∨ sgn (rowAt rs i) c = 45 ∨ sgn (rowAt rs i) c = 46) (h : LayI rs n ls [] []) {g : List Nat → List Nat} (hg : ∀ l, (g l).Perm l) :
    (walked g ls).Perm (List.range n) ∧ ∀ i, i < rs.length → holdsB (rowAt rs i) (walked g ls) = true := by
  refine ⟨(walked_perm hg ls).trans (by have := h.perm; simpa using this), fun i hi => ?_⟩
  by_cases ho : i ∈ open0 rs
  · exact settled_holds hs hg (h.done i ho (by simp))
  · exact holds_dots fun k _ => closed_dots hi ho k
/-- where they end badly, no order fits -/
theorem lay_stuck' {rs : List (List Nat)} {n : Nat} {ls : List (List Nat)} {lf st : List Nat} (h : LayI rs n ls lf st) (hne : st ≠ []) (hl : lf.filter (fun k => !minB rs st k) = []) (hr : ∀ i, i < rs.length → (rowAt rs i).length ≤ n) (o : List Nat) (ho : o.Perm (List.range n)) : ∃ i ∈ st, holdsB (rowAt rs i) o = false := by
  have bar : ∀ k ∈ lf, ∃ i ∈ st, sgn (rowAt rs i) k = 45 := fun k hk => by
    have : minB rs st k = true := by
      cases q : minB rs st k with
      | true => rfl
      | false =>
        have hm : k ∈ lf.filter (fun k => !minB rs st k) := List.mem_filter.mpr ⟨hk, by rw [q]; rfl⟩
        rw [hl] at hm; cases hm
    obtain ⟨i, hi, z⟩ := List.any_eq_true.mp this
    exact ⟨i, hi, of_decide_eq_true z⟩
  have inn : ∀ i ∈ st, i < rs.length := fun i hi => List.mem_range.mp (List.mem_filter.mp (h.sub.subset hi)).1
  have pl : ∀ k < n, k ∉ lf → ∀ i ∈ st, sgn (rowAt rs i) k = 46 := fun k hk hn i hi => by
    have : k ∈ ls.flatten ++ lf := h.perm.mem_iff.mpr (List.mem_range.mpr hk)
    rcases List.mem_append.mp this with hm | hm
    · obtain ⟨l, hl, hk⟩ := List.mem_flatten.mp hm
      exact h.dots i hi l hl k hk
    · exact absurd hm hn
  have hlf : ∃ k ∈ lf, k < n := by
    obtain ⟨i, hi⟩ := List.exists_mem_of_ne_nil st hne
    have ho := (List.mem_filter.mp (h.sub.subset hi)).2
    obtain ⟨c, hc, z⟩ := List.any_eq_true.mp ho
    obtain ⟨k, hk, e⟩ := List.mem_iff_getElem.mp hc
    have hkn : k < n := Nat.lt_of_lt_of_le hk (hr i (inn i hi))
    by_cases hk2 : k ∈ lf
    · exact ⟨k, hk2, hkn⟩
    · have := pl k hkn hk2 i hi
      unfold sgn at this
      rw [List.getD_eq_getElem?_getD, List.getElem?_eq_getElem hk] at this
      have this : (rowAt rs i)[k] = 46 := this
      rw [e] at this
      rw [this] at z; cases z
  obtain ⟨k0, hk0, hk0n⟩ := hlf
  -- the first of the order that is in no layer
  have first : ∀ o : List Nat, (∃ k ∈ o, k ∈ lf) → ∃ p k q, o = p ++ k :: q ∧ k ∈ lf ∧ ∀ j ∈ p, j ∉ lf := fun o => by
    induction o with
    | nil => rintro ⟨k, hk, _⟩; cases hk
    | cons a o ih =>
      intro hx
      by_cases ha : a ∈ lf
      · exact ⟨[], a, o, rfl, ha, fun j hj => absurd hj (by simp)⟩
      · obtain ⟨k, hk, hk2⟩ := hx
        rcases List.mem_cons.mp hk with rfl | hk
        · exact absurd hk2 ha
        · obtain ⟨p, j, q, e, h1, h2⟩ := ih ⟨k, hk, hk2⟩
          refine ⟨a :: p, j, q, by rw [e]; rfl, h1, fun x hx => ?_⟩
          rcases List.mem_cons.mp hx with rfl | hx
          · exact ha
          · exact h2 x hx
  obtain ⟨p, k, q, e, h1, h2⟩ := first o ⟨k0, ho.mem_iff.mpr (List.mem_range.mpr hk0n), hk0⟩
  obtain ⟨i, hi, z⟩ := bar k h1
  refine ⟨i, hi, ?_⟩
  rw [e, holds_pre fun j hj => pl j (List.mem_range.mp (ho.mem_iff.mp (by rw [e]; exact List.mem_append_left _ hj))) (h2 j hj) i hi]
  unfold holdsB told
  rw [List.map_cons, List.filter_cons_of_pos (by rw [z]; decide), z]; rfl
theorem lay_stuck {rs : List (List Nat)} {n : Nat} {ls : List (List Nat)} {lf st : List Nat} (h : LayI rs n ls lf st) (hne : st ≠ []) (hl : lf.filter (fun k => !minB rs st k) = []) (hr : ∀ i, i < rs.length → (rowAt rs i).length ≤ n) (o : List Nat) (ho : o.Perm (List.range n)) : ∃ i, i < rs.length ∧ holdsB (rowAt rs i) o = false := by
  obtain ⟨i, hi, z⟩ := lay_stuck' h hne hl hr o ho
  exact ⟨i, List.mem_range.mp (List.mem_filter.mp (h.sub.subset hi)).1, z⟩
/-! all orders -/
def allM (n : Nat) : Nat → List (List Nat)
  | 0 => [[]]
  | i + 1 => (allM n i).flatMap fun o => ((List.range n).filter fun k => !decide (k ∈ o)).map fun k => o ++ [k]
theorem allM_mem (n : Nat) : ∀ (i : Nat) (o : List Nat), o ∈ allM n i ↔ o.length = i ∧ o.Nodup ∧ ∀ k ∈ o, k < n
  | 0, o => by
    show o ∈ [[]] ↔ _
    constructor
    · intro h; rw [List.mem_singleton.mp h]; exact ⟨rfl, List.nodup_nil, fun k h => absurd h (by simp)⟩
    · rintro ⟨h, _⟩
      rw [List.length_eq_zero_iff.mp h]; exact List.mem_singleton.mpr rfl
  | i + 1, o => by
    show o ∈ List.flatMap _ _ ↔ _
    rw [List.mem_flatMap]
    constructor
    · rintro ⟨p, hp, ho⟩
      obtain ⟨k, hk, rfl⟩ := List.mem_map.mp ho
      obtain ⟨hk1, hk2⟩ := List.mem_filter.mp hk
      obtain ⟨l, nd, lt⟩ := (allM_mem n i p).mp hp
      have hkp : k ∉ p := by simpa using hk2
      refine ⟨by rw [List.length_append, l]; rfl, ?_, fun j hj => ?_⟩
      · rw [List.nodup_append]
        exact ⟨nd, by simp, fun a ha b hb e => by rw [List.mem_singleton.mp hb] at e; subst e; exact hkp ha⟩
      · rcases List.mem_append.mp hj with hj | hj
        · exact lt j hj
        · rw [List.mem_singleton.mp hj]; exact List.mem_range.mp hk1
    · rintro ⟨l, nd, lt⟩
      have hne : o ≠ [] := fun z => by rw [z] at l; cases l
      have e := List.dropLast_concat_getLast hne
      have nd' := nd
      rw [← e, List.nodup_append] at nd'
      refine ⟨o.dropLast, (allM_mem n i _).mpr ⟨by rw [List.length_dropLast, l]; rfl, nd'.1, fun k hk => lt k (List.dropLast_subset o hk)⟩, List.mem_map.mpr ⟨o.getLast hne, List.mem_filter.mpr ⟨List.mem_range.mpr (lt _ (List.getLast_mem hne)), ?_⟩, e⟩⟩
      have : o.getLast hne ∉ o.dropLast := fun z => nd'.2.2 _ z _ (List.mem_singleton.mpr rfl) rfl
      simpa using this
theorem nd_perm : ∀ (o m : List Nat), o.Nodup → (∀ k ∈ o, k ∈ m) → m.length ≤ o.length → o.Perm m
  | [], m, _, _, h => by
    have : m = [] := List.length_eq_zero_iff.mp (Nat.le_zero.mp h)
    subst this; exact .refl _
  | a :: o, m, nd, hm, hl => by
    have p := List.perm_cons_erase (hm a List.mem_cons_self)
    obtain ⟨n1, n2⟩ := List.nodup_cons.mp nd
    refine ((nd_perm o (m.erase a) n2 (fun k hk => (List.mem_erase_of_ne (fun e : k = a => n1 (by rw [← e]; exact hk))).mpr (hm k (List.mem_cons_of_mem _ hk))) ?_).cons a).trans p.symm
    have := p.length_eq
    rw [List.length_cons] at this hl
    omega
theorem perm_iff {n : Nat} {o : List Nat} : o.Perm (List.range n) ↔ o.length = n ∧ o.Nodup ∧ ∀ k ∈ o, k < n := by
  constructor
  · intro h
    exact ⟨by rw [h.length_eq, List.length_range], h.nodup_iff.mpr List.nodup_range, fun k hk => List.mem_range.mp (h.mem_iff.mp hk)⟩
  · rintro ⟨l, nd, lt⟩
    exact nd_perm o _ nd (fun k hk => List.mem_range.mpr (lt k hk)) (by rw [List.length_range, l]; exact Nat.le_refl _)
def fitM (rs : List (List Nat)) (n : Nat) : List (List Nat) := (allM n n).filter fun o => rs.all fun r => holdsB r o
theorem fitM_mem {rs : List (List Nat)} {n : Nat} {o : List Nat} : o ∈ fitM rs n ↔ o.Perm (List.range n) ∧ ∀ r ∈ rs, holdsB r o = true := by
  unfold fitM
  rw [List.mem_filter, allM_mem, perm_iff, List.all_eq_true]
theorem all_rows {rs : List (List Nat)} {p : List Nat → Prop} : (∀ r ∈ rs, p r) ↔ ∀ i, i < rs.length → p (rowAt rs i) := by
  constructor
  · intro h i hi
    unfold rowAt
    rw [List.getD_eq_getElem?_getD, List.getElem?_eq_getElem hi]
    exact h _ (List.getElem_mem hi)
  · intro h r hr
    obtain ⟨i, hi, rfl⟩ := List.mem_iff_getElem.mp hr
    have := h i hi
    unfold rowAt at this
    rw [List.getD_eq_getElem?_getD, List.getElem?_eq_getElem hi] at this
    exact this
end K61

namespace K61
open PySem PySem.Spec PyProof.Rows L2 Dw
theorem small8' {n : Nat} (h : n ≤ 1000) : n ≤ 1000000 := by omega
theorem ordD_N (o : List Nat) : ordD o = ordN o := rfl
theorem ordD_int (o : List Nat) : ordD o = (o.map fun k : Nat => (k : Int)).map D.int := by unfold ordD; rw [List.map_map]; rfl
theorem np_to {o : List Nat} {r : List D} (h : noPs r = true) : noPs (.tup (ordD o) :: r) = true := by show (noPs (ordD o) && noPs r) = true; rw [np_ord, h]; rfl
theorem np_lo {o : List Nat} {r : List D} (h : noPs r = true) : noPs (.lst (ordD o) :: r) = true := by show (noPs (ordD o) && noPs r) = true; rw [np_ord, h]; rfl
theorem np_tn {o : List (List Nat)} {r : List D} (h : noPs r = true) : noPs (.tup (nameD o) :: r) = true := by show (noPs (nameD o) && noPs r) = true; rw [np_name, h]; rfl
theorem np_ln {o : List (List Nat)} {r : List D} (h : noPs r = true) : noPs (.lst (nameD o) :: r) = true := by show (noPs (nameD o) && noPs r) = true; rw [np_name, h]; rfl
theorem np_bk {C : Addr} {ls rs : List (List Nat)} {r : List D} (h : noPs r = true) : noPs (bookD C ls rs :: r) = true := by
  have e := np_book C ls rs
  have e : (noP (bookD C ls rs) && true) = true := e
  rw [Bool.and_true] at e
  show (noP (bookD C ls rs) && noPs r) = true
  rw [e, h]; rfl
theorem rowAt_at {rs : List (List Nat)} {i : Nat} (h : i < rs.length) : atI (nameD rs) (i : Int) = some (.str (tx (rowAt rs i))) := by
  refine atI_nat ?_
  unfold nameD rowAt
  rw [List.getElem?_map, List.getElem?_eq_getElem h, List.getD_eq_getElem?_getD, List.getElem?_eq_getElem h]; rfl
theorem rowAt_ok {rs : List (List Nat)} {n i : Nat} (h : ∀ r ∈ rs, RowOk r n) (hi : i < rs.length) : RowOk (rowAt rs i) n := by
  unfold rowAt
  rw [List.getD_eq_getElem?_getD, List.getElem?_eq_getElem hi]
  exact h _ (List.getElem_mem hi)
theorem rowAt_sgn {rs : List (List Nat)} {n : Nat} (h : ∀ r ∈ rs, RowOk r n) (i c : Nat) : sgn (rowAt rs i) c = 43 ∨ sgn (rowAt rs i) c = 45 ∨ sgn (rowAt rs i) c = 46 := by
  by_cases hi : i < rs.length
  · exact sgn_is (rowAt_ok h hi) c
  · unfold rowAt sgn
    rw [List.getD_eq_getElem?_getD (l := rs), List.getElem?_eq_none (by omega)]
    exact .inr (.inr rfl)
/-- the plain texts of a row -/
theorem ev_inC {K : PySem.W.Frag} {ta t : TE} {Γ : Gam} {r' : R2} {c : Nat} {l : List Nat} (ha : Ev ta Γ (.str (ch c))) (h : EvB t Γ (chD l)) : Ev (tOp (rOr (rIn K false) r') ta t) Γ (.bl (decide (c ∈ l))) := by
  have e := ev_in (neg := false) (K := K) (r' := r') ha h rfl (sc_ch l)
  rw [show (if false = true then !inV (scV (.str (ch c))) ((chD l).map scV) else inV (scV (.str (ch c))) ((chD l).map scV)) = decide (c ∈ l) from inV_ch c l] at e
  exact e
theorem sgn_ev {K : PySem.W.Frag} {ta tb : TE} {Γ : Gam} {l : List Nat} {n k : Nat} (h : RowOk l n) (h8 : n ≤ 8) (hk : k < n) (ha : Ev ta Γ (.str (tx l))) (hb : Ev tb Γ (.int k)) : Ev (tOp (rIx K) ta tb) Γ (.str (ch (sgn l k))) := ev_op ha hb (dr2_ixS (h.sz h8) (sgn_at h.len hk))
theorem mem_mapB {l : List Nat} {f : Nat → Nat} {c : Nat} : decide (c ∈ l.map f) = l.any fun k => decide (f k = c) := by
  rw [Bool.eq_iff_iff, decide_eq_true_eq, List.mem_map, List.any_eq_true]
  simp only [decide_eq_true_eq]
theorem ok_ordL (l : List Nat) : dOk 1 (.lst (ordD l)) = true := dOks_map fun _ _ => rfl
theorem ok_ordT1 (l : List Nat) : dOk 1 (.tup (ordD l)) = true := dOks_map fun _ _ => rfl
theorem ok_ordTs (l : List (List Nat)) : dOk 2 (.lst (ordT l)) = true := dOks_map fun o _ => ok_ordT1 o
theorem ok_ordTt (l : List (List Nat)) : dOk 2 (.tup (ordT l)) = true := dOks_map fun o _ => ok_ordT1 o
def spIsRk : Spc where
  ty := List Nat × Nat
  args := fun x => [.tup (ordD x.1), .int x.2]
  ok := fun x => x.1.Perm (List.range x.2) ∧ x.2 ≤ 8
  rel := fun _ d => d = .bl true
def spCkRk : Spc where
  ty := List Nat × Nat
  args := fun x => [.tup (ordD x.1), .int x.2]
  ok := fun x => x.1.Perm (List.range x.2) ∧ x.2 ≤ 8
  rel := fun _ d => d = .non
theorem sort_range {n : Nat} {o : List Nat} (h : o.Perm (List.range n)) (ns : List Int) (h1 : ns.Perm (o.map fun k : Nat => (k : Int))) (h2 : ns.Pairwise (· ≤ ·)) : ns = (List.range n).map fun k : Nat => (k : Int) := by
  refine List.Perm.eq_of_pairwise (le := (· ≤ ·)) (fun a b _ _ h h' => Int.le_antisymm h h') h2 ?_ (h1.trans (h.map _))
  refine List.pairwise_map.mpr ((List.pairwise_lt_range (n := n)).imp fun {a b} h => ?_)
  omega
def spRowHolds : Spc where
  ty := List Nat × List Nat
  args := fun x => [.str (tx x.1), .tup (ordD x.2)]
  ok := fun x => ∃ n, RowOk x.1 n ∧ n ≤ 8 ∧ ∀ k ∈ x.2, k < n
  rel := fun x d => d = .bl (holdsB x.1 x.2)
def spAllHold : Spc where
  ty := List (List Nat) × List Nat
  args := fun x => [.tup (nameD x.1), .tup (ordD x.2)]
  ok := fun x => ∃ n, (∀ r ∈ x.1, RowOk r n) ∧ n ≤ 8 ∧ x.1.length ≤ 1000 ∧ ∀ k ∈ x.2, k < n
  rel := fun x d => d = .bl (x.1.all fun r => holdsB r x.2)
theorem holds_at {l o : List Nat} {i k : Nat} (q : o[i]? = some k) (h : ∀ j ∈ o.take i, sgn l j = 46) (hk : sgn l k ≠ 46) : holdsB l o = decide (sgn l k = 43) := by
  obtain ⟨hi, e⟩ := List.getElem?_eq_some_iff.mp q
  have e1 : o = o.take i ++ k :: o.drop (i + 1) := by
    rw [← e, List.getElem_cons_drop, List.take_append_drop]
  have e2 : holdsB l o = holdsB l (o.take i ++ k :: o.drop (i + 1)) := by rw [← e1]
  rw [e2, holds_pre h]
  unfold holdsB told
  rw [List.map_cons, List.filter_cons_of_pos (by simp [hk])]
def spHasSign : Spc where
  ty := List Nat × List Nat × Nat
  args := fun x => [.str (tx x.1), .lst (ordD x.2.1), .str (ch x.2.2)]
  ok := fun x => ∃ n, RowOk x.1 n ∧ n ≤ 8 ∧ x.2.1.length ≤ 8 ∧ ∀ k ∈ x.2.1, k < n
  rel := fun x d => d = .bl (x.2.1.any fun k => decide (sgn x.1 k = x.2.2))
def rowsD (b : Bool) (rs : List (List Nat)) : D := if b = true then .lst (nameD rs) else .tup (nameD rs)
def spSplit : Spc where
  ty := List (List Nat) × Nat × Bool
  args := fun x => [rowsD x.2.2 x.1, .int x.2.1]
  ok := fun x => (∀ r ∈ x.1, RowOk r x.2.1) ∧ x.2.1 ≤ 8 ∧ x.1.length ≤ 1000
  rel := fun x d => d = .tup [.lst (ordT (splitM x.1 x.2.1).1), .lst (ordD (splitM x.1 x.2.1).2)]
theorem np_rd {b : Bool} {o : List (List Nat)} {r : List D} (h : noPs r = true) : noPs (rowsD b o :: r) = true := by
  cases b with
  | true => exact np_ln h
  | false => exact np_tn h
theorem ev_rowsD {K : PySem.W.Frag} {ta tb : TE} {Γ : Gam} {b : Bool} {rs : List (List Nat)} {i : Nat} (hi : i < rs.length) (ha : Ev ta Γ (rowsD b rs)) (hb : Ev tb Γ (.int i)) : Ev (tOp (rIx K) ta tb) Γ (.str (tx (rowAt rs i))) := by
  cases b with
  | true => exact ev_ix (Ev.b (ds := nameD rs) ha) hb (rowAt_at hi)
  | false => exact ev_ixT (ds := nameD rs) ha hb (rowAt_at hi)
theorem ei_rowsD {K : PySem.W.Frag} {ta : TE} {Γ : Gam} {b : Bool} {rs : List (List Nat)} (ha : Ev ta Γ (rowsD b rs)) : Ei (fun σ H R => iEnum K (tCons ta tNil) σ H R ∨ iEnumT K (tCons ta tNil) σ H R) Γ (enumD (nameD rs)) := by
  cases b with
  | true => exact ei_enumL (Ev.b (ds := nameD rs) ha)
  | false => exact ei_enumT ha
theorem enum_rows (rs : List (List Nat)) : enumD (nameD rs) = (List.range rs.length).map fun (i : Nat) => D.tup [.int i, .str (tx (rowAt rs i))] := by
  apply List.ext_getElem?
  intro i
  by_cases hi : i < rs.length
  · obtain ⟨x, hx⟩ : ∃ x, (enumD (nameD rs))[i]? = some x := ⟨_, List.getElem?_eq_getElem (by rw [enumD_length, nameD_len]; exact hi)⟩
    obtain ⟨y, hy, rfl⟩ := enumD_get hx
    rw [hx, List.getElem?_map, List.getElem?_range hi]
    have hy' : (rs.map fun l => D.str (tx l))[i]? = some y := hy
    rw [List.getElem?_map, List.getElem?_eq_getElem hi] at hy'
    cases hy'
    show _ = some (D.tup [.int i, .str (tx (rowAt rs i))])
    unfold rowAt
    rw [List.getD_eq_getElem?_getD, List.getElem?_eq_getElem hi]; rfl
  · rw [List.getElem?_eq_none (by rw [enumD_length, nameD_len]; omega), List.getElem?_eq_none (by simpa using hi)]
theorem open_of {rs : List (List Nat)} {n i : Nat} (h : RowOk (rowAt rs i) n) : (decide (43 ∈ rowAt rs i) || decide (45 ∈ rowAt rs i)) = openB rs i := by
  unfold openB
  rw [Bool.eq_iff_iff, Bool.or_eq_true, decide_eq_true_eq, decide_eq_true_eq, List.any_eq_true]
  constructor
  · rintro (h | h)
    · exact ⟨_, h, rfl⟩
    · exact ⟨_, h, rfl⟩
  · rintro ⟨c, hc, hn⟩
    rcases h.all c hc with rfl | rfl | rfl
    · exact .inl hc
    · exact .inr hc
    · exact absurd hn (by decide)
theorem nin_filter {p : Nat → Bool} (l : List Nat) : (l.filter fun k => !decide (k ∈ l.filter p)) = l.filter fun k => !p k := by
  refine List.filter_congr fun k hk => ?_
  congr 1
  rw [Bool.eq_iff_iff, decide_eq_true_eq, List.mem_filter]
  exact ⟨fun h => h.2, fun h => ⟨hk, h⟩⟩
theorem isEmpty_ord (l : List Nat) : (ordD l).isEmpty = decide (l = []) := by cases l <;> rfl
theorem isEmpty_ordT (l : List (List Nat)) : (ordT l).isEmpty = decide (l = []) := by cases l <;> rfl
theorem ordT_snoc (ms : List (List Nat)) (l : List Nat) : ordT ms ++ [D.tup (ordD l)] = ordT (ms ++ [l]) := by unfold ordT; rw [List.map_append]; rfl
end K61

namespace K61
open PySem PySem.Spec PyProof.Rows L2 Dw
theorem lay_step {rs : List (List Nat)} {f : Nat} {made : List (List Nat)} {left still : List Nat} (h1 : still ≠ []) : layF rs (f + 1) made left still = if left.filter (fun k => !minB rs still k) = [] then (made, still) else layF rs f (made ++ [left.filter fun k => !minB rs still k]) (left.filter (minB rs still)) (still.filter fun i => !plusB rs (left.filter fun k => !minB rs still k) i) := by
  show (if still = [] then _ else _) = _
  rw [if_neg h1]
theorem lay_done {rs : List (List Nat)} {f : Nat} {made : List (List Nat)} {left : List Nat} : layF rs (f + 1) made left [] = (if left = [] then made else made ++ [left], []) := by
  show (if _ then _ else _) = _
  rw [if_pos rfl]
def RowsOk (rs : List (List Nat)) (n : Nat) : Prop := (∀ r ∈ rs, RowOk r n) ∧ n ≤ 8 ∧ rs.length ≤ 1000
/-- what stays so while layers are made -/
structure Mk (rs : List (List Nat)) (n m : Nat) (made : List (List Nat)) (left still : List Nat) : Prop where
  eq : layF rs m made left still = splitM rs n
  lt : left.length < m
  few : made.length + left.length ≤ n
  ltn : ∀ k ∈ left, k < n
  ltr : ∀ i ∈ still, i < rs.length
  fst : still.length ≤ rs.length
  flat : made.flatten.length + left.length ≤ n
theorem mk_0 (rs : List (List Nat)) (n : Nat) : Mk rs n (n + 1) [] (List.range n) (open0 rs) := ⟨rfl, by rw [List.length_range]; omega, by rw [List.length_range]; exact Nat.le_of_eq (Nat.zero_add n), fun k h => List.mem_range.mp h, fun i h => List.mem_range.mp (List.mem_filter.mp h).1, by
  have := List.length_filter_le (openB rs) (List.range rs.length)
  rw [List.length_range] at this; exact this, by rw [List.length_range]; exact Nat.le_of_eq (Nat.zero_add n)⟩
theorem Mk.next {rs n m made left still} (h : Mk rs n (m + 1) made left still) (h1 : still ≠ []) (h2 : left.filter (fun k => !minB rs still k) ≠ []) : Mk rs n m (made ++ [left.filter fun k => !minB rs still k]) (left.filter (minB rs still)) (still.filter fun i => !plusB rs (left.filter fun k => !minB rs still k) i) := by
  have l := lay_len h2
  have e := h.eq
  rw [lay_step h1, if_neg h2] at e
  refine ⟨e, by have := h.lt; omega, ?_, fun k hk => h.ltn k (List.mem_filter.mp hk).1, fun i hi => h.ltr i (List.mem_filter.mp hi).1, Nat.le_trans (List.length_filter_le _ _) h.fst, ?_⟩
  · have := h.few
    rw [List.length_append]
    show made.length + 1 + _ ≤ n
    omega
  · have := h.flat
    have e2 := (filter_split (minB rs still) left).length_eq
    rw [List.length_append] at e2
    rw [List.flatten_append, List.length_append]
    simp only [List.flatten_cons, List.flatten_nil, List.append_nil]
    omega
def layOut (rs : List (List Nat)) (n : Nat) : D := .tup [.lst (ordT (splitM rs n).1), .lst (ordD (splitM rs n).2)]
theorem minB_any {rs : List (List Nat)} {still : List Nat} {k : Nat} : decide (45 ∈ still.map fun i => sgn (rowAt rs i) k) = minB rs still k := mem_mapB
def spLay (C : Addr) : Spc where
  ty := Bk
  args := fun x => [bookD C x.1 x.2]
  ok := fun x => BookOk x.1 x.2
  rel := fun x d => d = if (splitM x.2 x.1.length).2 = [] then .tup (ordT (splitM x.2 x.1.length).1) else .non
def spOver (C : Addr) : Spc where
  ty := Bk
  args := fun x => [bookD C x.1 x.2]
  ok := fun x => BookOk x.1 x.2
  rel := fun x d => d = if (splitM x.2 x.1.length).2 = [] then .non else .tup (ordD (splitM x.2 x.1.length).2)
def spFits (C : Addr) : Spc where
  ty := Bk × List Nat
  args := fun x => [bookD C x.1.1 x.1.2, .tup (ordD x.2)]
  ok := fun x => BookOk x.1.1 x.1.2 ∧ x.2.Perm (List.range x.1.1.length)
  rel := fun x d => d = .bl (x.1.2.all fun r => holdsB r x.2)
theorem BookOk.n8 {ls rs} (h : BookOk ls rs) : ls.length ≤ 8 := h.names.hi
theorem ev_names {C : Addr} {K : PySem.W.Frag} {t : TE} {Γ : Gam} {ls rs : List (List Nat)} (h : Ev t Γ (.tup (nameD ls))) : Ev (tCB (Dw.rLen K) (tCons t tNil)) Γ (.int (ls.length : Nat)) := ev_cast (congrArg (fun n : Nat => D.int n) (nameD_len ls)) (ev_lenT (ds := nameD ls) h)
end K61

namespace K61
open PySem PySem.Spec PyProof.Rows L2 Dw
def fuseC (l : List Nat) : Nat := if 45 ∈ l then 45 else if 43 ∈ l then 43 else 46
def selQ (rs : List (List Nat)) (o : List Nat) : List (List Nat) := o.map fun i => rowAt rs i
def Fit (rs : List (List Nat)) (n : Nat) : Prop := ∃ o : List Nat, o.Perm (List.range n) ∧ ∀ r ∈ rs, holdsB r o = true
def SgnOk (rs : List (List Nat)) (n : Nat) : Prop := (∀ i c, sgn (rowAt rs i) c = 43 ∨ sgn (rowAt rs i) c = 45 ∨ sgn (rowAt rs i) c = 46) ∧ ∀ i, i < rs.length → (rowAt rs i).length ≤ n
theorem selQ_len (rs : List (List Nat)) (o : List Nat) : (selQ rs o).length = o.length := List.length_map ..
theorem selQ_at {rs : List (List Nat)} {o : List Nat} {j : Nat} (h : j < o.length) : rowAt (selQ rs o) j = rowAt rs o[j] := by
  unfold selQ
  conv => lhs; unfold rowAt
  rw [List.getD_eq_getElem?_getD, List.getElem?_map, List.getElem?_eq_getElem h]; rfl
theorem fit_sel {rs : List (List Nat)} {n : Nat} {p q : List Nat} (h : Fit (selQ rs q) n) (hs : ∀ k ∈ p, k ∈ q) : Fit (selQ rs p) n := by
  obtain ⟨o, ho, hh⟩ := h
  refine ⟨o, ho, fun r hr => ?_⟩
  obtain ⟨k, hk, rfl⟩ := List.mem_map.mp hr
  exact hh _ (List.mem_map.mpr ⟨k, hs k hk, rfl⟩)
/-- where the layers end badly, the rows that stay open fit no order -/
theorem stuck_open {rs : List (List Nat)} {n : Nat} {ls : List (List Nat)} {lf st : List Nat} (h : LayI rs n ls lf st) (hne : st ≠ []) (hl : lf.filter (fun k => !minB rs st k) = []) (hr : ∀ i, i < rs.length → (rowAt rs i).length ≤ n) : ¬ Fit (selQ rs st) n := by
  rintro ⟨o, ho, hh⟩
  obtain ⟨i, hi, z⟩ := lay_stuck' h hne hl hr o ho
  rw [hh _ (List.mem_map.mpr ⟨i, hi, rfl⟩)] at z; cases z
def Still (rs : List (List Nat)) (n : Nat) : List Nat := (splitM rs n).2
theorem still_cases {rs : List (List Nat)} {n : Nat} (h : SgnOk rs n) : (Still rs n = [] ∧ Fit rs n) ∨ ∃ ls lf, Still rs n ≠ [] ∧ LayI rs n ls lf (Still rs n) ∧ lf.filter (fun k => !minB rs (Still rs n) k) = [] ∧ ¬ Fit (selQ rs (Still rs n)) n := by
  rcases layF_end h.1 (n + 1) [] (List.range n) (open0 rs) (layI_0 rs n) (by rw [List.length_range]; omega) with ⟨ls, e, hh⟩ | ⟨ls, lf, st, e, h1, hh, h2⟩
  · have e : splitM rs n = (ls, []) := e
    refine .inl ⟨by unfold Still; rw [e], ?_⟩
    obtain ⟨w1, w2⟩ := lay_fits h.1 hh (g := fun l => l) (fun l => .refl _)
    exact ⟨_, w1, all_rows.mpr w2⟩
  · have e : splitM rs n = (ls, st) := e
    have e2 : Still rs n = st := by unfold Still; rw [e]
    refine .inr ⟨ls, lf, ?_⟩
    rw [e2]
    exact ⟨h1, hh, h2, stuck_open hh h1 h2 h.2⟩
theorem still_fit {rs : List (List Nat)} {n : Nat} (h : SgnOk rs n) : Still rs n = [] ↔ Fit rs n := by
  constructor
  · intro e
    rcases still_cases h with ⟨_, f⟩ | ⟨_, _, z, _⟩
    · exact f
    · exact absurd e z
  · intro f
    rcases still_cases h with ⟨e, _⟩ | ⟨ls, lf, z, hh, h2, nf⟩
    · exact e
    · obtain ⟨o, ho, hf⟩ := f
      refine absurd ⟨o, ho, fun r hr => ?_⟩ nf
      obtain ⟨k, hk, rfl⟩ := List.mem_map.mp hr
      exact all_rows.mp hf k (List.mem_range.mp (List.mem_filter.mp (hh.sub.subset hk)).1)
/-- fused signs -/
def fuseR (rs : List (List Nat)) (n : Nat) : List Nat := (List.range n).map fun k => fuseC (rs.map fun r => sgn r k)
def quarB (rs : List (List Nat)) (n : Nat) : Bool := decide (45 ∈ fuseR rs n) && !decide (43 ∈ fuseR rs n)
theorem fuse_45 {l : List Nat} : fuseC l = 45 ↔ 45 ∈ l := by
  unfold fuseC
  by_cases h : 45 ∈ l
  · simp [h]
  · rw [if_neg h]
    by_cases h' : 43 ∈ l
    · rw [if_pos h']; simp [h]
    · rw [if_neg h']; simp [h]
theorem fuse_43 {l : List Nat} : fuseC l = 43 ↔ 45 ∉ l ∧ 43 ∈ l := by
  unfold fuseC
  by_cases h : 45 ∈ l
  · simp [h]
  · rw [if_neg h]
    by_cases h' : 43 ∈ l
    · rw [if_pos h']; simp [h, h']
    · rw [if_neg h']; simp [h']
/-- what quarrels fits no order -/
theorem quar_nofit {rs : List (List Nat)} {n : Nat} (hs : ∀ r ∈ rs, ∀ c, sgn r c = 43 ∨ sgn r c = 45 ∨ sgn r c = 46) (h : quarB rs n = true) : ¬ Fit rs n := by
  rintro ⟨o, ho, hh⟩
  unfold quarB at h
  rw [Bool.and_eq_true, decide_eq_true_eq, Bool.not_eq_true', decide_eq_false_iff_not] at h
  obtain ⟨h1, h2⟩ := h
  obtain ⟨k0, hk0, e0⟩ := List.mem_map.mp h1
  have k0n := List.mem_range.mp hk0
  obtain ⟨r0, hr0, e1⟩ := List.mem_map.mp (fuse_45.mp e0)
  have nop : ∀ k < n, (∀ r ∈ rs, sgn r k ≠ 45) → ∀ r ∈ rs, sgn r k = 46 := fun k hk hn r hr => by
    rcases hs r hr k with z | z | z
    · refine absurd (List.mem_map.mpr ⟨k, List.mem_range.mpr hk, fuse_43.mpr ⟨fun hm => ?_, List.mem_map.mpr ⟨r, hr, z⟩⟩⟩) h2
      obtain ⟨r', hr', e'⟩ := List.mem_map.mp hm
      exact hn r' hr' e'
    · exact absurd z (hn r hr)
    · exact z
  have go : ∀ o : List Nat, (∀ k ∈ o, k < n) → (∃ k ∈ o, ∃ r ∈ rs, sgn r k = 45) → ∃ r ∈ rs, holdsB r o = false := fun o => by
    induction o with
    | nil => rintro _ ⟨k, hk, _⟩; cases hk
    | cons a o ih =>
      intro hn hx
      by_cases ha : ∃ r ∈ rs, sgn r a = 45
      · obtain ⟨r, hr, z⟩ := ha
        refine ⟨r, hr, ?_⟩
        unfold holdsB told
        rw [List.map_cons, List.filter_cons_of_pos (by rw [z]; decide), z]; rfl
      · obtain ⟨k, hk, hk2⟩ := hx
        have hk3 : k ∈ o := by
          rcases List.mem_cons.mp hk with rfl | hk
          · exact absurd hk2 ha
          · exact hk
        obtain ⟨r, hr, z⟩ := ih (fun j hj => hn j (List.mem_cons_of_mem _ hj)) ⟨k, hk3, hk2⟩
        refine ⟨r, hr, ?_⟩
        have e : holdsB r ([a] ++ o) = holdsB r o := holds_pre fun j hj => by
          rw [List.mem_singleton.mp hj]
          exact nop a (hn a List.mem_cons_self) (fun r' hr' z => ha ⟨r', hr', z⟩) r hr
        exact e.trans z
  obtain ⟨r, hr, z⟩ := go o (fun k hk => List.mem_range.mp (ho.mem_iff.mp hk)) ⟨k0, ho.mem_iff.mpr hk0, r0, hr0, e1⟩
  rw [hh r hr] at z; cases z
/-- a least lot that fits no order quarrels -/
theorem least_quar {rs : List (List Nat)} {n : Nat} (h : SgnOk rs n) (nf : ¬ Fit rs n) (hl : ∀ i < rs.length, Fit (selQ rs ((List.range rs.length).filter fun j => !decide (j = i))) n) : quarB rs n = true := by
  rcases still_cases h with ⟨_, f⟩ | ⟨ls, lf, z, hh, h2, nf2⟩
  · exact absurd f nf
  have all : ∀ i < rs.length, i ∈ Still rs n := fun i hi => by
    by_cases hm : i ∈ Still rs n
    · exact hm
    · refine absurd (fit_sel (hl i hi) fun k hk => List.mem_filter.mpr ⟨(List.mem_filter.mp (hh.sub.subset hk)).1, ?_⟩) nf2
      have : k ≠ i := fun e => hm (e ▸ hk)
      simp [this]
  have dots : ∀ k < n, k ∉ lf → ∀ r ∈ rs, sgn r k = 46 := fun k hk hn => all_rows.mpr fun i hi => by
    have : k ∈ ls.flatten ++ lf := hh.perm.mem_iff.mpr (List.mem_range.mpr hk)
    rcases List.mem_append.mp this with hm | hm
    · obtain ⟨l, hl, hk⟩ := List.mem_flatten.mp hm
      exact hh.dots i (all i hi) l hl k hk
    · exact absurd hm hn
  have bar : ∀ k ∈ lf, ∃ r ∈ rs, sgn r k = 45 := fun k hk => by
    have : minB rs (Still rs n) k = true := by
      cases q : minB rs (Still rs n) k with
      | true => rfl
      | false =>
        have hm : k ∈ lf.filter (fun k => !minB rs (Still rs n) k) := List.mem_filter.mpr ⟨hk, by rw [q]; rfl⟩
        rw [h2] at hm; cases hm
    obtain ⟨i, hi, z⟩ := List.any_eq_true.mp this
    have hi2 : i < rs.length := List.mem_range.mp (List.mem_filter.mp (hh.sub.subset hi)).1
    have e : rowAt rs i = rs[i] := by
      unfold rowAt
      rw [List.getD_eq_getElem?_getD, List.getElem?_eq_getElem hi2]; rfl
    exact ⟨rs[i], List.getElem_mem hi2, by rw [← e]; exact of_decide_eq_true z⟩
  have lfn : ∀ k ∈ lf, k < n := fun k hk => List.mem_range.mp (hh.perm.mem_iff.mp (List.mem_append_right _ hk))
  have lfe : ∃ k, k ∈ lf := by
    obtain ⟨i, hi⟩ := List.exists_mem_of_ne_nil _ z
    have hi2 : i < rs.length := List.mem_range.mp (List.mem_filter.mp (hh.sub.subset hi)).1
    obtain ⟨c, hc, zc⟩ := List.any_eq_true.mp (List.mem_filter.mp (hh.sub.subset hi)).2
    obtain ⟨k, hk, e⟩ := List.mem_iff_getElem.mp hc
    have hkn : k < n := Nat.lt_of_lt_of_le hk (h.2 i hi2)
    refine ⟨k, ?_⟩
    by_cases hk2 : k ∈ lf
    · exact hk2
    · have := all_rows.mp (dots k hkn hk2) i hi2
      unfold sgn at this
      rw [List.getD_eq_getElem?_getD, List.getElem?_eq_getElem hk] at this
      have this : (rowAt rs i)[k] = 46 := this
      rw [e] at this
      rw [this] at zc; cases zc
  unfold quarB
  rw [Bool.and_eq_true, decide_eq_true_eq, Bool.not_eq_true', decide_eq_false_iff_not]
  constructor
  · obtain ⟨k, hk⟩ := lfe
    obtain ⟨r, hr, e⟩ := bar k hk
    exact List.mem_map.mpr ⟨k, List.mem_range.mpr (lfn k hk), fuse_45.mpr (List.mem_map.mpr ⟨r, hr, e⟩)⟩
  · intro hm
    obtain ⟨k, hk, e⟩ := List.mem_map.mp hm
    obtain ⟨e1, e2⟩ := fuse_43.mp e
    by_cases hk2 : k ∈ lf
    · obtain ⟨r, hr, e3⟩ := bar k hk2
      exact e1 (List.mem_map.mpr ⟨r, hr, e3⟩)
    · obtain ⟨r, hr, e3⟩ := List.mem_map.mp e2
      rw [dots k (List.mem_range.mp hk) hk2 r hr] at e3; cases e3
/-! the lot that is told -/
def qStep (rs : List (List Nat)) (n : Nat) (kept : List Nat) (i : Nat) : List Nat :=
  if Still (selQ rs (kept.filter fun j => !decide (j = i))) n = [] then kept else kept.filter fun j => !decide (j = i)
def quarM (rs : List (List Nat)) (n : Nat) : List Nat := (Still rs n).foldl (qStep rs n) (Still rs n)
structure QI (rs : List (List Nat)) (n : Nat) (kept seen : List Nat) : Prop where
  sub : kept.Sublist (List.range rs.length)
  nf : ¬ Fit (selQ rs kept) n
  min : ∀ i ∈ seen, i ∈ kept → Fit (selQ rs (kept.filter fun j => !decide (j = i))) n
theorem sel_sgn {rs : List (List Nat)} {n : Nat} (h : SgnOk rs n) {o : List Nat} (ho : ∀ k ∈ o, k < rs.length) : SgnOk (selQ rs o) n := by
  refine ⟨fun i c => ?_, fun i hi => ?_⟩
  · by_cases hi : i < o.length
    · rw [selQ_at hi]; exact h.1 _ _
    · unfold rowAt sgn
      rw [List.getD_eq_getElem?_getD (l := selQ rs o), List.getElem?_eq_none (by rw [selQ_len]; omega)]
      exact .inr (.inr rfl)
  · rw [selQ_len] at hi
    rw [selQ_at hi]
    exact h.2 _ (ho _ (List.getElem_mem hi))
theorem QI.next {rs : List (List Nat)} {n : Nat} (h : SgnOk rs n) {kept seen : List Nat} (q : QI rs n kept seen) (i : Nat) : QI rs n (qStep rs n kept i) (seen ++ [i]) := by
  have hf : ∀ k ∈ kept.filter (fun j => !decide (j = i)), k < rs.length := fun k hk => List.mem_range.mp (q.sub.subset (List.mem_filter.mp hk).1)
  unfold qStep
  by_cases e : Still (selQ rs (kept.filter fun j => !decide (j = i))) n = []
  · rw [if_pos e]
    refine ⟨q.sub, q.nf, fun j hj hk => ?_⟩
    rcases List.mem_append.mp hj with hj | hj
    · exact q.min j hj hk
    · rw [List.mem_singleton.mp hj]
      exact (still_fit (sel_sgn h hf)).mp e
  · rw [if_neg e]
    refine ⟨List.filter_sublist.trans q.sub, fun f => e ((still_fit (sel_sgn h hf)).mpr f), fun j hj hk => ?_⟩
    have hk' := (List.mem_filter.mp hk).1
    rcases List.mem_append.mp hj with hj | hj
    · refine fit_sel (q.min j hj hk') fun k hk2 => ?_
      obtain ⟨a, b⟩ := List.mem_filter.mp hk2
      exact List.mem_filter.mpr ⟨(List.mem_filter.mp a).1, b⟩
    · have := (List.mem_filter.mp hk).2
      rw [List.mem_singleton.mp hj] at this
      simp at this
theorem quarM_I {rs : List (List Nat)} {n : Nat} (h : SgnOk rs n) (hne : Still rs n ≠ []) : QI rs n (quarM rs n) (Still rs n) := by
  rcases still_cases h with ⟨e, _⟩ | ⟨ls, lf, z, hh, h2, nf2⟩
  · exact absurd e hne
  have go : ∀ (l kept seen : List Nat), QI rs n kept seen → QI rs n (l.foldl (qStep rs n) kept) (seen ++ l) := fun l => by
    induction l with
    | nil => intro kept seen q; rw [List.append_nil]; exact q
    | cons a l ih =>
      intro kept seen q
      have := ih _ _ (q.next h a)
      rw [List.append_assoc] at this
      exact this
  have q0 : QI rs n (Still rs n) [] := ⟨hh.sub.trans List.filter_sublist, nf2, fun i hi => absurd hi (by simp)⟩
  have := go (Still rs n) _ _ q0
  rw [List.nil_append] at this
  exact this
theorem qStep_sub (rs : List (List Nat)) (n : Nat) (kept : List Nat) (i : Nat) : (qStep rs n kept i).Sublist kept := by
  unfold qStep
  split
  · exact List.Sublist.refl _
  · exact List.filter_sublist
theorem fold_sub (rs : List (List Nat)) (n : Nat) : ∀ (l kept : List Nat), (l.foldl (qStep rs n) kept).Sublist kept
  | [], kept => List.Sublist.refl _
  | a :: l, kept => (fold_sub rs n l _).trans (qStep_sub rs n kept a)
/-- a lot of the told one quarrels just if it is the whole -/
theorem lot_quar {rs : List (List Nat)} {n : Nat} (h : SgnOk rs n) (hne : Still rs n ≠ []) {o : List Nat} (ho : o.Sublist (quarM rs n)) : quarB (selQ rs o) n = decide (o.length = (quarM rs n).length) := by
  have q := quarM_I h hne
  have hq : ∀ k ∈ quarM rs n, k < rs.length := fun k hk => List.mem_range.mp (q.sub.subset hk)
  have nd : (quarM rs n).Nodup := q.sub.nodup List.nodup_range
  have seen : ∀ k ∈ quarM rs n, k ∈ Still rs n := fun k hk => (fold_sub rs n _ _).subset hk
  by_cases hl : o.length = (quarM rs n).length
  · have e : o = quarM rs n := ho.eq_of_length hl
    rw [decide_eq_true hl, e]
    refine least_quar (sel_sgn h hq) q.nf fun i hi => ?_
    rw [selQ_len] at hi
    have hm := List.getElem_mem hi
    obtain ⟨p, hp, hh⟩ := q.min _ (seen _ hm) hm
    refine ⟨p, hp, fun r hr => ?_⟩
    obtain ⟨j, hj, rfl⟩ := List.mem_map.mp hr
    obtain ⟨hj1, hj2⟩ := List.mem_filter.mp hj
    have hj1 := List.mem_range.mp hj1
    rw [selQ_len] at hj1
    rw [selQ_at hj1]
    refine hh _ (List.mem_map.mpr ⟨_, List.mem_filter.mpr ⟨List.getElem_mem hj1, ?_⟩, rfl⟩)
    have hne2 : j ≠ i := by simpa using hj2
    have : (quarM rs n)[j] ≠ (quarM rs n)[i] := fun e => hne2 ((List.getElem_inj nd).mp e)
    simp [this]
  · rw [decide_eq_false hl]
    cases c : quarB (selQ rs o) n with
    | false => rfl
    | true =>
      exfalso
      have ho2 : ∀ k ∈ o, k < rs.length := fun k hk => hq k (ho.subset hk)
      have sg : ∀ r ∈ selQ rs o, ∀ c, sgn r c = 43 ∨ sgn r c = 45 ∨ sgn r c = 46 := fun r hr c => by
        obtain ⟨k, _, rfl⟩ := List.mem_map.mp hr
        exact h.1 k c
      refine quar_nofit sg c ?_
      -- some index of the told lot is not in o
      have : ∃ i ∈ quarM rs n, i ∉ o := by
        apply Classical.byContradiction
        intro hx
        have hsub : ∀ i ∈ quarM rs n, i ∈ o := fun i hi => Classical.byContradiction fun hn => hx ⟨i, hi, hn⟩
        have p := nd_perm (quarM rs n) o nd hsub ho.length_le
        exact hl p.length_eq.symm
      obtain ⟨i, hi, hn⟩ := this
      refine fit_sel (q.min i (seen i hi) hi) fun k hk => List.mem_filter.mpr ⟨ho.subset hk, ?_⟩
      have : k ≠ i := fun e => hn (e ▸ hk)
      simp [this]
/-! all lots of some things -/
def lotsS (acc : List (List Nat)) (t : Nat) : List (List Nat) := acc ++ acc.map (· ++ [t])
def lotsT (l : List Nat) : List (List Nat) := l.foldl lotsS [[]]
theorem lots_sub : ∀ (l : List Nat) (acc : List (List Nat)) (p : List Nat), (∀ o ∈ acc, o.Sublist p) → ∀ o ∈ l.foldl lotsS acc, o.Sublist (p ++ l)
  | [], acc, p, h, o, ho => by rw [List.append_nil]; exact h o ho
  | a :: l, acc, p, h, o, ho => by
    have := lots_sub l (lotsS acc a) (p ++ [a]) (fun x hx => by
      rcases List.mem_append.mp hx with hx | hx
      · exact (h x hx).trans (List.sublist_append_left _ _)
      · obtain ⟨y, hy, rfl⟩ := List.mem_map.mp hx
        exact (h y hy).append (List.Sublist.refl _)) o ho
    rw [List.append_assoc] at this
    exact this
theorem lotsT_sub {l o : List Nat} (h : o ∈ lotsT l) : o.Sublist l := by
  have := lots_sub l [[]] [] (fun x hx => by rw [List.mem_singleton.mp hx]; exact List.Sublist.refl _) o h
  rw [List.nil_append] at this
  exact this
theorem lotsS_len (acc : List (List Nat)) (t : Nat) : (lotsS acc t).length = acc.length * 2 := by
  unfold lotsS
  rw [List.length_append, List.length_map]; omega
theorem lots_len' : ∀ (l : List Nat) (acc : List (List Nat)), (l.foldl lotsS acc).length = acc.length * 2 ^ l.length
  | [], acc => by simp
  | a :: l, acc => by
    show ((l.foldl lotsS (lotsS acc a)).length) = _
    rw [lots_len' l, lotsS_len, List.length_cons, Nat.pow_succ, Nat.mul_assoc, Nat.mul_comm 2]

theorem sgnOk {rs : List (List Nat)} {n : Nat} (h : ∀ r ∈ rs, RowOk r n) : SgnOk rs n := ⟨rowAt_sgn h, fun i hi => Nat.le_of_eq (rowAt_ok h hi).len⟩
theorem selQ_ok {rs : List (List Nat)} {n : Nat} {o : List Nat} (h : ∀ r ∈ rs, RowOk r n) (ho : ∀ k ∈ o, k < rs.length) : ∀ r ∈ selQ rs o, RowOk r n := fun r hr => by
  obtain ⟨i, hi, rfl⟩ := List.mem_map.mp hr
  exact rowAt_ok h (ho i hi)
theorem selQ_D (rs : List (List Nat)) (o : List Nat) : nameD (selQ rs o) = o.map fun i => D.str (tx (rowAt rs i)) := by unfold nameD selQ; rw [List.map_map]; rfl
theorem fit_iff {rs : List (List Nat)} {n : Nat} : fitM rs n ≠ [] ↔ Fit rs n := by
  constructor
  · intro h
    obtain ⟨o, ho⟩ := List.exists_mem_of_ne_nil _ h
    obtain ⟨p, q⟩ := fitM_mem.mp ho
    exact ⟨o, p, q⟩
  · rintro ⟨o, p, q⟩ z
    have := fitM_mem.mpr ⟨p, q⟩
    rw [z] at this; cases this
def spSome : Spc where
  ty := List (List Nat) × Nat × Bool
  args := fun x => [rowsD x.2.2 x.1, .int x.2.1]
  ok := fun x => (∀ r ∈ x.1, RowOk r x.2.1) ∧ x.2.1 ≤ 8 ∧ x.1.length ≤ 1000
  rel := fun x d => d = .bl (decide (Still x.1 x.2.1 = []))
def quarD (rs : List (List Nat)) (n : Nat) : D := if Still rs n = [] then .non else .tup (ordD (quarM rs n))
def spQuar (C : Addr) : Spc where
  ty := Bk
  args := fun x => [bookD C x.1 x.2]
  ok := fun x => BookOk x.1 x.2
  rel := fun x d => d = quarD x.2 x.1.length
theorem still_sub (rs : List (List Nat)) (n : Nat) (h : SgnOk rs n) : (Still rs n).Sublist (List.range rs.length) := by
  rcases still_cases h with ⟨e, _⟩ | ⟨ls, lf, z, hh, _⟩
  · rw [e]; exact List.nil_sublist _
  · exact hh.sub.trans List.filter_sublist
end K61

namespace K61
open PySem PySem.Spec PyProof.Rows L2 Dw
def fz (rs : List (List Nat)) (n : Nat) : List Nat := (List.range n).map fun k => fuse (rs.map fun r => sgn r k)
theorem fz_len (rs : List (List Nat)) (n : Nat) : (fz rs n).length = n := by unfold fz; rw [List.length_map, List.length_range]
def quB (rs : List (List Nat)) (n : Nat) : Bool := decide (45 ∈ fz rs n) && !decide (43 ∈ fz rs n)
def ordOf : D → List Nat | .tup ds => (ds.map intOf).map Int.toNat | _ => []
theorem ordOf_ord (o : List Nat) : ordOf (.tup (ordD o)) = o := by
  show ((ordD o).map intOf).map Int.toNat = o
  unfold ordD
  rw [List.map_map, List.map_map]
  have e : ((Int.toNat ∘ intOf) ∘ fun k : Nat => D.int k) = id := by funext k; simp [intOf]
  rw [e, List.map_id]
def pick (rs : List (List Nat)) (o : List Nat) : List (List Nat) := o.map (rowAt rs)
theorem pick_ok {rs : List (List Nat)} {n : Nat} {o : List Nat} (h : ∀ r ∈ rs, RowOk r n) (ho : ∀ k ∈ o, k < rs.length) : ∀ r ∈ pick rs o, RowOk r n := fun r hr => by
  obtain ⟨k, hk, rfl⟩ := List.mem_map.mp hr
  exact rowAt_ok h (ho k hk)
theorem pick_D (rs : List (List Nat)) (o : List Nat) : nameD (pick rs o) = o.map fun i => D.str (tx (rowAt rs i)) := by unfold nameD pick; rw [List.map_map]; rfl
def fitB (d : D) (rs : List (List Nat)) (n : Nat) : Bool := rkB d n && rs.all fun r => holdsB r (ordOf d)
def sqB (d : D) (rs : List (List Nat)) (n : Nat) : Bool := lotB d rs.length && quB (pick rs (ordOf d)) n
def sfB (d : D) (rs : List (List Nat)) (r : List Nat) (n : Nat) : Bool := lotB d rs.length && (((ordOf d).isEmpty && !decide (45 ∈ r)) || (quB (pick rs (ordOf d)) n || quB (pick rs (ordOf d) ++ [flipped r]) n))
def soB (d : D) (rs : List (List Nat)) (r : List Nat) (n : Nat) : Bool := match d with
  | .tup [a, b] => fitB a rs n && fitB b rs n && (holdsB r (ordOf a) && !holdsB r (ordOf b))
  | _ => false
def spTurn : Spc where
  ty := List Nat
  args := fun l => [.str (tx l)]
  ok := fun l => ∃ n, RowOk l n ∧ n ≤ 8
  rel := fun l d => d = .str (tx (flipped l))
def spFused : Spc where
  ty := List (List Nat) × Nat
  args := fun x => [.lst (nameD x.1), .int x.2]
  ok := fun x => (∀ r ∈ x.1, RowOk r x.2) ∧ x.2 ≤ 8 ∧ x.1.length ≤ 1000
  rel := fun x d => d = .str (tx (fz x.1 x.2))
def spAllHoldG : Spc where
  ty := List (List Nat) × List Nat × Bool
  args := fun x => [rowsD x.2.2 x.1, .tup (ordD x.2.1)]
  ok := fun x => ∃ n, (∀ r ∈ x.1, RowOk r n) ∧ n ≤ 8 ∧ x.1.length ≤ 1000 ∧ ∀ k ∈ x.2.1, k < n
  rel := fun x d => d = .bl (x.1.all fun r => holdsB r x.2.1)
theorem ej_rows {K : PySem.W.Frag} {ta : TE} {Γ : Gam} {b : Bool} {rs : List (List Nat)} (h : Ev ta Γ (rowsD b rs)) : Ei (iAnyR K ta) Γ (nameD rs) := by
  cases b with
  | true => exact ej_list (Ev.b (ds := nameD rs) h)
  | false => exact ej_tup h
theorem ev_lenR {K : PySem.W.Frag} {ta : TE} {Γ : Gam} {b : Bool} {rs : List (List Nat)} (h : Ev ta Γ (rowsD b rs)) : Ev (tCB (Dw.rLen K) (tCons ta tNil)) Γ (.int rs.length) := by
  have l : (nameD rs).length = rs.length := List.length_map ..
  cases b with
  | true => have := ev_len (K := K) (Ev.b (ds := nameD rs) h); rw [l] at this; exact this
  | false => have := ev_lenT (K := K) (ds := nameD rs) h; rw [l] at this; exact this
def spFitting : Spc where
  ty := D × List (List Nat) × Nat × Bool
  args := fun x => [x.1, rowsD x.2.2.2 x.2.1, .int x.2.2.1]
  ok := fun x => Pv x.1 ∧ (∀ r ∈ x.2.1, RowOk r x.2.2.1) ∧ x.2.2.1 ≤ 8 ∧ x.2.1.length ≤ 1000
  rel := fun x d => d = .bl (fitB x.1 x.2.1 x.2.2.1)
def spDoQ : Spc where
  ty := List (List Nat) × Nat
  args := fun x => [.lst (nameD x.1), .int x.2]
  ok := fun x => (∀ r ∈ x.1, RowOk r x.2) ∧ x.2 ≤ 8 ∧ x.1.length ≤ 1000
  rel := fun x d => d = .bl (quB x.1 x.2)
def spSQ : Spc where
  ty := D × List (List Nat) × Nat
  args := fun x => [x.1, .tup (nameD x.2.1), .int x.2.2]
  ok := fun x => Pv x.1 ∧ (∀ r ∈ x.2.1, RowOk r x.2.2) ∧ x.2.2 ≤ 8 ∧ x.2.1.length ≤ 900
  rel := fun x d => d = .bl (sqB x.1 x.2.1 x.2.2)
def spSF : Spc where
  ty := D × List (List Nat) × List Nat × Nat
  args := fun x => [x.1, .tup (nameD x.2.1), .str (tx x.2.2.1)]
  ok := fun x => Pv x.1 ∧ (∀ r ∈ x.2.1, RowOk r x.2.2.2) ∧ x.2.2.2 ≤ 8 ∧ x.2.1.length ≤ 900 ∧ RowOk x.2.2.1 x.2.2.2
  rel := fun x d => d = .bl (sfB x.1 x.2.1 x.2.2.1 x.2.2.2)
def spSO : Spc where
  ty := D × List (List Nat) × List Nat × Nat
  args := fun x => [x.1, .tup (nameD x.2.1), .str (tx x.2.2.1)]
  ok := fun x => Pv x.1 ∧ (∀ r ∈ x.2.1, RowOk r x.2.2.2) ∧ x.2.2.2 ≤ 8 ∧ x.2.1.length ≤ 900 ∧ RowOk x.2.2.1 x.2.2.2
  rel := fun x d => d = .bl (soB x.1 x.2.1 x.2.2.1 x.2.2.2)
theorem ev_len_row {K : PySem.W.Frag} {ta : TE} {Γ : Gam} {r : List Nat} {n : Nat} (h : RowOk r n) (h8 : n ≤ 8) (he : Ev ta Γ (.str (tx r))) : Ev (tCB (Dw.rLen K) (tCons ta tNil)) Γ (.int n) := by
  have := ev_lenS (K := K) he (h.sz h8)
  rw [tx_len, h.len] at this
  exact this
theorem eqv_nilB : ∀ ds : List D, PyData.eqvAll (pys ds) (pys []) = ds.isEmpty
  | [] => rfl
  | _ :: _ => rfl
theorem eq_nilT {K : PySem.W.Frag} {o : List Nat} : DR2 (rEqX K) (.tup (ordD o)) (.tup []) (.bl o.isEmpty) := by
  obtain ⟨h1, h2⟩ := dOk_shaped (ok_ordT1 o) (by decide)
  have := eq_deep (K := K) (q := .tup []) h1 rfl h2 rfl
  rw [show PyData.eqv (py (.tup (ordD o))) (py (.tup [])) = PyData.eqvAll (pys (ordD o)) (pys []) from rfl, eqv_nilB] at this
  rw [show (ordD o).isEmpty = o.isEmpty by cases o <;> rfl] at this
  exact this
theorem np_rD {b : Bool} {rs : List (List Nat)} {r : List D} (h : noPs r = true) : noPs (rowsD b rs :: r) = true := np_rd h
theorem eq_int_dec {a b : Nat} : decide ((a : Int) = (b : Int)) = decide (a = b) := decide_eq_decide.mpr (by omega)
theorem evt_tru_tup {K : PySem.W.Frag} {t : TE} {Γ : Gam} {ds : List D} (h : Ev t Γ (.tup ds)) : EvT (tTru K t) Γ (!ds.isEmpty) := fun F σ W Q g k => h F σ W _ g fun v H s ⟨a, vs, ev, e, nu, l⟩ => ⟨_, by
  rw [ev]
  exact .inr (.inl ⟨vs, e.sq, by
    have := l.length
    cases ds <;> cases vs <;> simp_all⟩), k H s⟩
abbrev rNotNone : R2 := fun x y H Q => y = .non ∧ Q (.bl (!decide (x = .non))) H
theorem dr2_notN {d : D} {b : Bool} (h : ∀ (W : Wd) v, Rep W d v → (!decide (v = V.non)) = b) : DR2 rNotNone d .non (.bl b) := dr2_flat fun W u v Q r1 r2 k => ⟨r2, by rw [h W u r1]; exact k _ rfl⟩
end K61

namespace K61
open PySem PySem.Spec PyProof.Rows L2 Dw
theorem d_turned {P : Program} {w : World} {K : PySem.W.Frag} {mg : Str → Option Value} {base : Heap} (T : Txt K w mg) : FnOk P w K mg base CX0 1 T.f_turned T.e_turned ["row"] (toSp (spTurn)) := by
  refine fn_ok T.F_turned sc_turned (fun _ => rfl) fun cdv A outer s' H E hr => ?_
  refine ⟨_, (pss_one (ps_ret (joinA K pe_str (pe_lc (own := [("sign", 1)]) rfl sc_turned.nd (piR K (pv 0)) (blkOk_by (own := [("sign", 1)]) (N := N_turned) (sc := (defScope s_turned)) (by decide +kernel)) (fun _ _ _ _ _ => pg_name (i := 1) sc_turned.nd rfl (Or.inl rfl)) (fun _ _ _ _ _ => pts_nil) (fun _ _ _ _ _ => (pe_ix (ixD K w) (pe_glob (v := .ref T.a_OPPOSITES) (by rfl) T.c_OPPOSITES rfl) (pv 1) (fun _ _ => rfl))))))), fun x hx => ?_⟩
  obtain ⟨l, rfl⟩ : ∃ l : List Nat, l = x := ⟨x, rfl⟩
  obtain ⟨n, hl, h8⟩ := hx
  have hl : RowOk l n := hl
  refine ds_ret (Ev.dl (ev_join (x := Str.ofString "") (ys := (flipped l).map ch) ev_str (EvN.b ?_) ?_) ?_)
  · have e1 : (((flipped l).map ch).map D.str) = (l.map fun c => D.str (ch (flip1 c))) := by
      unfold flipped
      rw [List.map_map, List.map_map]; rfl
    rw [e1]
    refine evn_lc1 (xs := l) (c := fun c => .str (ch c)) ?_ (by rw [hl.len]; omega) fun c hc => ⟨[1], _, dg_name, fun i hi => hi, evt_yes, ev_ixD (ev_var rfl) ?_⟩
    · have := ej_str (K := K) (ta := tVar 0) (Γ := Gz0 2 (spTurn.args l)) (x := tx l) (ev_var rfl)
      rw [signs_tx, List.map_map] at this
      exact this
    · rcases hl.all c hc with h | h | h <;> subst h
      · have e := T.w_OPPOSITES_43; rw [ch_plus, ch_minus] at e; exact e
      · have e := T.w_OPPOSITES_45; rw [ch_plus, ch_minus] at e; exact e
      · have e := T.w_OPPOSITES_46; rw [ch_dot] at e; exact e
  · rw [chs_len]
    show (l.map flip1).length + ((l.map flip1).map ch).length * 0 ≤ _
    rw [List.length_map, hl.len]
    omega
  · show D.str _ = D.str _
    rw [join_chs]
end K61

namespace K61
open PySem PySem.Spec PyProof.Rows L2 Dw
theorem d_fused_sign {P : Program} {w : World} {K : PySem.W.Frag} {mg : Str → Option Value} {base : Heap} (T : Txt K w mg) : FnOk P w K mg base CX0 1 T.f_fused_sign T.e_fused_sign ["signs"] (toSp (spFs)) := by
  refine fn_ok T.F_fused_sign sc_fused_sign (fun _ => rfl) fun cdv A outer s' H E hr => ?_
  refine ⟨_, (pss_cons (ps_if (pt_cmpR (inA K) pe_str (pv 0) (by rfl)) (pss_one (ps_ret pe_str)) pss_nil) (pss_cons (ps_if (pt_cmpR (inA K) pe_str (pv 0) (by rfl)) (pss_one (ps_ret pe_str)) pss_nil) (pss_one (ps_ret pe_str)))), fun x hx => ?_⟩
  obtain ⟨l, rfl⟩ : ∃ l : List Nat, l = x := ⟨x, rfl⟩
  refine ds_seq (ds_if (EvT.dl (evt_test (ev_in_ch (c := 45) ch_minus (ev_var (d := .lst (chD l)) rfl).b)) ⟨fun h => ds_ret (Ev.dl ev_str ?_), fun h => ds_next (ds_seq (ds_if (EvT.dl (evt_test (ev_in_ch (c := 43) ch_plus (ev_var (d := .lst (chD l)) rfl).b)) ⟨fun h' => ds_ret (Ev.dl ev_str ?_), fun h' => ds_next (ds_ret (Ev.dl ev_str ?_))⟩)))⟩))
  · show D.str _ = D.str (ch (fuse l))
    unfold fuse
    rw [if_pos (of_decide_eq_true h), ch_minus]
  · show D.str _ = D.str (ch (fuse l))
    unfold fuse
    rw [if_neg (of_decide_eq_false h), if_pos (of_decide_eq_true h'), ch_plus]
  · show D.str _ = D.str (ch (fuse l))
    unfold fuse
    rw [if_neg (of_decide_eq_false h), if_neg (of_decide_eq_false h'), ch_dot]
end K61

namespace K61
open PySem PySem.Spec PyProof.Rows L2 Dw
theorem d_fused {P : Program} {w : World} {K : PySem.W.Frag} {mg : Str → Option Value} {base : Heap} (T : Txt K w mg) : FnOk P w K mg base CX0 2 T.f_fused T.e_fused ["rows", "many"] (toSp (spFused)) := by
  refine fn_ok T.F_fused sc_fused (fun _ => rfl) fun cdv A outer s' H E hr => ?_
  refine ⟨_, (pss_one (ps_ret (joinA K pe_str (pe_lc (own := [("rule", 2)]) rfl sc_fused.nd (pi_range1 (by rfl) T.n_range (pa_cons (pv 1) pa_nil)) (blkOk_by (own := [("rule", 2)]) (N := N_fused) (sc := (defScope s_fused)) (by decide +kernel)) (fun _ _ _ _ _ => pg_name (i := 2) sc_fused.nd rfl (Or.inr rfl)) (fun _ _ _ _ _ => pts_nil) (fun _ _ _ _ _ => (pe_call (d_fused_sign T) (hr.mono (by decide)) (by rfl) T.m_fused_sign T.F_fused_sign.kp T.b_fused_sign .nil pass0 (pa_cons (pe_lc (own := [("row", 3)]) rfl sc_fused.nd (piR K (pv 0)) (blkOk_by (own := [("row", 3)]) (N := N_fused) (sc := (relS { kind := .function, names := [(".0", .local), ("rule", .cell), ("fused_sign", .globalImplicit), ("rows", .free)], isGenerator := false, isCoroutine := false, more := [] } (defScope s_fused))) (by decide +kernel)) (fun _ _ _ _ _ => pg_name (i := 3) sc_fused.nd rfl (Or.inl rfl)) (fun _ _ _ _ _ => pts_nil) (fun _ _ _ _ _ => (pe_ix (ixA K) (pv 3) (pv 2) (fun _ _ => rfl)))) pa_nil))))))), fun x hx => ?_⟩
  obtain ⟨rs, n⟩ := x
  obtain ⟨hr', h8, hz⟩ := hx
  have hr' : ∀ r ∈ rs, RowOk r n := hr'
  have h8 : n ≤ 8 := h8
  have hz : rs.length ≤ 1000 := hz
  have e1 : ((fz rs n).map ch).map D.str = (List.range n).map fun k => D.str (ch (fuse (rs.map fun r => sgn r k))) := by
    unfold fz
    rw [List.map_map, List.map_map]; rfl
  refine ds_ret (Ev.dl (ev_join (x := Str.ofString "") (ys := (fz rs n).map ch) ev_str (EvN.b ?_) ?_) ?_)
  · rw [e1]
    refine evn_lc1 (xs := List.range n) (c := fun k : Nat => D.int k) (ei_range (n := n) (eva_cons (ev_var rfl) eva_nil) (by omega)) (by rw [List.length_range]; omega) fun k hk => ⟨[2], _, dg_name, fun i hi => hi, evt_yes, ?_⟩
    refine ev_call (s := spFs) (x := rs.map fun r => sgn r k) (eva_cons ?_ eva_nil) (np_lst (np_ch _)) trivial fun d h => h
    refine ev_cast (d := .lst (rs.map fun r => D.str (ch (sgn r k)))) ?_ (EvN.ev (evn_lc1 (xs := rs) (c := fun r => .str (tx r)) (ej_list (ev_var (d := .lst (nameD rs)) rfl).b) (by omega) fun r hr2 => ⟨[3], _, dg_name, fun i hi => hi, evt_yes, sgn_ev (hr' r hr2) h8 (List.mem_range.mp hk) (ev_var rfl) (ev_var rfl)⟩))
    unfold chD
    rw [List.map_map]; rfl
  · rw [chs_len, fz_len, List.length_map, fz_len]
    show n + n * 0 ≤ _
    omega
  · show D.str _ = D.str _
    rw [join_chs]
end K61

namespace K61
open PySem PySem.Spec PyProof.Rows L2 Dw
/-! any text, read as a book -/
def splitL : List Nat → List (List Nat)
  | [] => [[]]
  | c :: l => if c = 32 then [] :: splitL l else match splitL l with | [] => [[c]] | p :: r => (c :: p) :: r
theorem splitL_ne : ∀ l : List Nat, splitL l ≠ []
  | [] => fun h => nomatch h
  | c :: l => by
    unfold splitL
    by_cases h : c = 32
    · rw [if_pos h]; exact fun h => nomatch h
    · rw [if_neg h]
      cases splitL l <;> exact fun h => nomatch h
theorem splitL_cons {c : Nat} {l : List Nat} (h : c ≠ 32) {p : List Nat} {r : List (List Nat)} (e : splitL l = p :: r) : splitL (c :: l) = (c :: p) :: r := by
  show (if c = 32 then [] :: splitL l else match splitL l with | [] => [[c]] | p :: r => (c :: p) :: r) = _
  rw [if_neg h, e]
theorem splitL_sp (l : List Nat) : splitL (32 :: l) = [] :: splitL l := if_pos rfl
theorem splitL_ind {P : List Nat → List (List Nat) → Prop} (h0 : P [] [[]]) (h1 : ∀ l ps, ps ≠ [] → P l ps → P (32 :: l) ([] :: ps)) (h2 : ∀ c l p r, c ≠ 32 → P l (p :: r) → P (c :: l) ((c :: p) :: r)) : ∀ l, P l (splitL l)
  | [] => h0
  | c :: l => by
    have ih := splitL_ind h0 h1 h2 l
    by_cases h : c = 32
    · subst h
      rw [splitL_sp]
      exact h1 l _ (splitL_ne l) ih
    · cases e : splitL l with
      | nil => exact absurd e (splitL_ne l)
      | cons p r =>
        rw [splitL_cons h e]
        rw [e] at ih
        exact h2 c l p r h ih
theorem joinX_cons (p : List Nat) {r : List (List Nat)} (h : r ≠ []) : TL.joinL [32] (p :: r) = p ++ ([32] ++ TL.joinL [32] r) := by
  cases r with
  | nil => exact absurd rfl h
  | cons q r => simp [TL.joinL]
theorem joinL_one (p : List Nat) : TL.joinL [32] [p] = p := by simp [TL.joinL]
theorem joinL_head (c : Nat) (p : List Nat) (r : List (List Nat)) : TL.joinL [32] ((c :: p) :: r) = c :: TL.joinL [32] (p :: r) := by
  cases r with
  | nil => rw [joinL_one, joinL_one]
  | cons q r => rw [joinX_cons (c :: p) (r := q :: r) (by simp), joinX_cons p (r := q :: r) (by simp)]; rfl
theorem splitL_join (l : List Nat) : TL.joinL [32] (splitL l) = l := splitL_ind (P := fun l ps => TL.joinL [32] ps = l) rfl (fun l ps hn h => by rw [joinX_cons _ hn, h]; rfl) (fun c l p r _ h => by rw [joinL_head, h]) l
theorem splitL_no (l : List Nat) : ∀ p ∈ splitL l, 32 ∉ p := splitL_ind (P := fun _ ps => ∀ p ∈ ps, 32 ∉ p) (fun p h => by rw [List.mem_singleton.mp h]; simp) (fun l ps _ h p hp => by
  rcases List.mem_cons.mp hp with rfl | hp
  · simp
  · exact h p hp) (fun c l p r hc h q hq => by
  rcases List.mem_cons.mp hq with rfl | hq
  · have := h p List.mem_cons_self
    intro hm
    rcases List.mem_cons.mp hm with e | hm
    · exact hc e.symm
    · exact this hm
  · exact h q (List.mem_cons_of_mem _ hq)) l
theorem splitL_len (l : List Nat) : (splitL l).length ≤ l.length + 1 := splitL_ind (P := fun l ps => ps.length ≤ l.length + 1) (Nat.le_refl _) (fun l ps _ h => by simp; omega) (fun c l p r _ h => by simp at h ⊢; omega) l
theorem splitL_sub (l : List Nat) : ∀ p ∈ splitL l, p.length ≤ l.length ∧ ∀ c ∈ p, c ∈ l := splitL_ind (P := fun l ps => ∀ p ∈ ps, p.length ≤ l.length ∧ ∀ c ∈ p, c ∈ l) (fun p h => by rw [List.mem_singleton.mp h]; simp) (fun l ps _ h p hp => by
  rcases List.mem_cons.mp hp with rfl | hp
  · simp
  · obtain ⟨a, b⟩ := h p hp
    exact ⟨by simp; omega, fun c hc => List.mem_cons_of_mem _ (b c hc)⟩) (fun c l p r _ h q hq => by
  rcases List.mem_cons.mp hq with rfl | hq
  · obtain ⟨a, b⟩ := h p List.mem_cons_self
    refine ⟨by simp; omega, fun d hd => ?_⟩
    rcases List.mem_cons.mp hd with rfl | hd
    · exact List.mem_cons_self
    · exact List.mem_cons_of_mem _ (b d hd)
  · obtain ⟨a, b⟩ := h q (List.mem_cons_of_mem _ hq)
    exact ⟨by simp; omega, fun d hd => List.mem_cons_of_mem _ (b d hd)⟩) l
theorem splitL_app {p l : List Nat} (h : 32 ∉ p) : ∀ {q : List Nat} {r : List (List Nat)}, splitL l = q :: r → splitL (p ++ l) = (p ++ q) :: r := by
  induction p with
  | nil => intro q r e; exact e
  | cons c p ih =>
    intro q r e
    have hc : c ≠ 32 := fun z => h (by rw [z]; exact List.mem_cons_self)
    exact splitL_cons hc (ih (fun z => h (List.mem_cons_of_mem _ z)) e)
theorem splitL_of : ∀ {ps : List (List Nat)}, ps ≠ [] → (∀ p ∈ ps, 32 ∉ p) → splitL (TL.joinL [32] ps) = ps
  | [], h, _ => absurd rfl h
  | [p], _, h => by
    have := splitL_app (l := []) (h p List.mem_cons_self) (q := []) (r := []) rfl
    rw [List.append_nil] at this
    rw [joinL_one, this]
  | p :: q :: r, _, h => by
    rw [joinX_cons _ (by simp)]
    have ih := splitL_of (ps := q :: r) (by simp) fun x hx => h x (List.mem_cons_of_mem _ hx)
    have := splitL_app (l := [32] ++ TL.joinL [32] (q :: r)) (h p List.mem_cons_self) (q := []) (r := q :: r) (by rw [show [32] ++ TL.joinL [32] (q :: r) = 32 :: TL.joinL [32] (q :: r) from rfl, splitL_sp, ih])
    rw [List.append_nil] at this
    exact this
theorem splitS (l : List Nat) : Txt.split (tx l) (Str.ofString " ") = (splitL l).map tx := by
  have := split_sp (splitL_ne l) (splitL_no l)
  rw [splitL_join] at this
  exact this
def cutAt : List Nat → Option (List Nat × List Nat)
  | [] => none
  | c :: l => if c = 58 then some ([], l) else (cutAt l).map fun x => (c :: x.1, x.2)
theorem cutAt_some : ∀ {l p q : List Nat}, cutAt l = some (p, q) → l = p ++ ([58] ++ q) ∧ 58 ∉ p
  | [], p, q, h => nomatch h
  | c :: l, p, q, h => by
    unfold cutAt at h
    by_cases hc : c = 58
    · rw [if_pos hc] at h
      cases h
      exact ⟨by rw [hc]; rfl, by simp⟩
    · rw [if_neg hc] at h
      cases e : cutAt l with
      | none => rw [e] at h; cases h
      | some x =>
        obtain ⟨a, b⟩ := x
        rw [e] at h; cases h
        obtain ⟨h1, h2⟩ := cutAt_some e
        refine ⟨by rw [h1]; rfl, fun hm => ?_⟩
        rcases List.mem_cons.mp hm with z | hm
        · exact hc z.symm
        · exact h2 hm
theorem cutAt_none : ∀ {l : List Nat}, cutAt l = none ↔ 58 ∉ l
  | [] => by simp [cutAt]
  | c :: l => by
    unfold cutAt
    by_cases hc : c = 58
    · rw [if_pos hc]
      simp [hc]
    · rw [if_neg hc, Option.map_eq_none_iff, cutAt_none (l := l), List.mem_cons, not_or]
      exact ⟨fun h => ⟨fun z => hc z.symm, h⟩, fun h => h.2⟩
theorem cutAt_of : ∀ {p q : List Nat}, 58 ∉ p → cutAt (p ++ ([58] ++ q)) = some (p, q)
  | [], q, _ => if_pos rfl
  | c :: p, q, h => by
    show (if c = 58 then some ([], p ++ ([58] ++ q)) else (cutAt (p ++ ([58] ++ q))).map fun x => (c :: x.1, x.2)) = _
    rw [if_neg (fun z => h (by rw [z]; exact List.mem_cons_self)), cutAt_of fun z => h (List.mem_cons_of_mem _ z)]; rfl
/-- the tests of a text's head and tail -/
def headB (ns : List (List Nat)) (f : List Nat) : Bool := decide (f = []) && decide (ns.length ≤ 8) && namesB (nameD ns)
def tailB (rows : List (List Nat)) (n : Nat) : Bool := decide (rows.length ≤ 20) && rows.all fun r => rowB (.str (tx r)) n
def bookP (ns : List (List Nat)) : List (List Nat) → Option Bk
  | [] => none
  | f :: rows => if (headB ns f && tailB rows ns.length) = true then some (ns, rows) else none
def bookQ (l : List Nat) : Option Bk := (cutAt l).bind fun x => bookP (splitL x.1) (splitL x.2)
theorem names_some {ns : List (List Nat)} (h : ns ≠ []) (h8 : ns.length ≤ 8) (hn : namesB (nameD ns) = true) : NamesOk ns := by
  obtain ⟨ls, e, h1, h2⟩ := namesB_iff.mp hn
  have e : ns = ls := by
    have := congrArg (fun ds => ds.map codesOf) e
    rw [codes_name, codes_name] at this
    exact this
  subst e
  exact ⟨by cases ns with | nil => exact absurd rfl h | cons _ _ => simp, h8, h1, h2⟩
theorem rowB_tx {l : List Nat} {n : Nat} (h : rowB (.str (tx l)) n = true) : RowOk l n := by
  obtain ⟨m, e, hm, _, _⟩ := rowB_iff.mp h
  injection e with e
  rw [tx_eq.mp e]; exact hm
theorem bookQ_ok {l : List Nat} {b : Bk} (h : bookQ l = some b) : BookOk b.1 b.2 ∧ l = bookTx b.1 b.2 := by
  unfold bookQ at h
  cases e : cutAt l with
  | none => rw [e] at h; cases h
  | some x =>
    obtain ⟨p, q⟩ := x
    rw [e] at h
    obtain ⟨h1, h2⟩ := cutAt_some e
    have h : bookP (splitL p) (splitL q) = some b := h
    cases eq : splitL q with
    | nil => exact absurd eq (splitL_ne q)
    | cons f rows =>
      rw [eq] at h
      have h : (if (headB (splitL p) f && tailB rows (splitL p).length) = true then some (splitL p, rows) else none) = some b := h
      by_cases hb : (headB (splitL p) f && tailB rows (splitL p).length) = true
      · rw [if_pos hb] at h
        cases h
        unfold headB tailB at hb
        rw [Bool.and_eq_true, Bool.and_eq_true, Bool.and_eq_true, Bool.and_eq_true, decide_eq_true_eq, decide_eq_true_eq, decide_eq_true_eq, List.all_eq_true] at hb
        obtain ⟨⟨⟨hf, h8⟩, hn⟩, h20, hr⟩ := hb
        refine ⟨⟨names_some (splitL_ne p) h8 hn, h20, fun r hr' => rowB_tx (hr r hr')⟩, ?_⟩
        subst hf
        rw [bookTx_eq, splitL_join, h1, ← eq, splitL_join]
      · rw [if_neg hb] at h; cases h
theorem bookQ_tx {ls rs : List (List Nat)} (h : BookOk ls rs) : bookQ (bookTx ls rs) = some (ls, rs) := by
  unfold bookQ
  rw [bookTx_eq, cutAt_of h.h58]
  show bookP (splitL (TL.joinL [32] ls)) (splitL (TL.joinL [32] ([] :: rs))) = _
  rw [splitL_of (fun e => by have := h.names.lo; rw [e] at this; cases this) h.h32, splitL_of (by simp) h.r32]
  refine if_pos ?_
  unfold headB tailB
  rw [decide_eq_true rfl, decide_eq_true h.names.hi, names_ok h.names, decide_eq_true h.few, List.all_eq_true.mpr fun r hr => row_ok (h.rows r hr) h.names.lo h.names.hi]; rfl
theorem okS_codes {l : List Nat} (h : okS (tx l)) : ∀ c ∈ l, c < 1114112 := fun c hc => by
  have h : (tx l).cps.all (fun c => decide (c < 1114112)) = true := h
  rw [← Array.all_toList, List.all_eq_true, tx_cps] at h
  exact of_decide_eq_true (h c hc)
def pairD (b : Bk) : D := .tup [.tup (nameD b.1), .tup (nameD b.2)]
def bookOf : D → Option Bk
  | .str x => bookQ x.cps.toList
  | _ => none
def optD : Option Bk → D
  | some b => pairD b
  | none => .non
/-- a text that is not long beyond sense -/
def shT : D → Bool
  | .str x => decide (x.length ≤ 15000)
  | _ => true
def spReadG : Spc where
  ty := D
  args := fun d => [d]
  ok := fun d => Pv d ∧ shT d = true
  rel := fun d e => e = optD (bookOf d)
theorem bookOf_tx {ls rs : List (List Nat)} (h : BookOk ls rs) : bookOf (.str (tx (bookTx ls rs))) = some (ls, rs) := by
  show bookQ (tx (bookTx ls rs)).cps.toList = _
  rw [tx_cps]; exact bookQ_tx h
theorem bookOf_ok {d : D} {b : Bk} (h : bookOf d = some b) : BookOk b.1 b.2 ∧ d = .str (tx (bookTx b.1 b.2)) := by
  obtain ⟨x, rfl⟩ : ∃ x, d = .str x := by
    cases d with
    | str x => exact ⟨x, rfl⟩
    | _ => exact absurd h (by simp [bookOf])
  obtain ⟨h1, h2⟩ := bookQ_ok h
  exact ⟨h1, by rw [← h2, ← of_tx x]⟩
theorem not_str {d : D} (h : isStrB d = false) : bookOf d = none := by cases d <;> first | rfl | exact nomatch h
theorem bk_none {l : List Nat} (h : bookQ l = none) : D.non = optD (bookOf (.str (tx l))) := by
  show _ = optD (bookQ (tx l).cps.toList)
  rw [tx_cps, h]; rfl
end K61

namespace K61
open PySem PySem.Spec PyProof.Rows L2 Dw
theorem d_read_book {P : Program} {w : World} {K : PySem.W.Frag} {mg : Str → Option Value} {base : Heap} (T : Txt K w mg) : FnOk P w K mg base CX0 3 T.f_read_book T.e_read_book ["text"] (toSp (spReadG)) := by
  refine fn_ok T.F_read_book sc_read_book (fun _ => rfl) fun cdv A outer s' H E hr => ?_
  refine ⟨_, (pss_cons (ps_if (PW.pt (pw_or (pt_not (truA K (pe_callB (isiA K) (by rfl) T.n_isinstance (by decide +kernel) (pa_cons (pv 0) (pa_cons (pe_bltn (v := .ty "str") (by rfl) T.n_str (by decide +kernel) rfl) pa_nil))))) (pw_or1 (pt_cmpR (ninA K) pe_str (pv 0) (by rfl))))) (pss_one (ps_ret pe_non)) pss_nil) (pss_cons (ps_asg (pe_partition (pv 0) pe_str) (tupA K 3 rfl (pgs_cons (pg_name (i := 1) sc_read_book.nd rfl (Or.inl rfl)) (pgs_cons (pg_name (i := 2) sc_read_book.nd rfl (Or.inl rfl)) (pgs_cons (pg_name (i := 3) sc_read_book.nd rfl (Or.inl rfl)) pgs_nil))))) (pss_cons (ps_set (i := 4) sc_read_book.nd rfl (Or.inr rfl) (pe_callTy (tupleA K) (by rfl) T.n_tuple (by decide +kernel) (pa_cons (pe_split (pv 1) pe_str) pa_nil))) (pss_cons (ps_asg (pe_split (pv 3) pe_str) (star1XA K rfl (pg_name (i := 5) sc_read_book.nd rfl (Or.inl rfl)) (pg_name (i := 6) sc_read_book.nd rfl (Or.inl rfl)))) (pss_cons (ps_if (PW.pt (pw_or (pt_cmpR (neA K hr.units) (pv 5) pe_str (nomark _)) (pw_or (pt_cmpR opGt (pe_callB (lenA K) (by rfl) T.n_len (by decide +kernel) (pa_cons (pv 4) pa_nil)) (pe_glob (v := .int 8) (by rfl) T.c_MOST_RULES ⟨_, rfl⟩) (nomark _)) (pw_or1 (pt_not (truA K (pe_call (d_are_names T) (hr.mono (by decide)) (by rfl) T.m_are_names T.F_are_names.kp T.b_are_names .nil pass0 (pa_cons (pv 4) pa_nil)))))))) (pss_one (ps_ret pe_non)) pss_nil) (pss_cons (ps_if (PW.pt (pw_or (pt_cmpR opGt (pe_callB (lenA K) (by rfl) T.n_len (by decide +kernel) (pa_cons (pv 6) pa_nil)) (pe_glob (v := .int 20) (by rfl) T.c_MOST_ROWS ⟨_, rfl⟩) (nomark _)) (pw_or1 (pt_not (truA K (pe_callB (allA K) (by rfl) T.n_all (by decide +kernel) (pa_cons (pe_lc (own := [("row", 7)]) rfl sc_read_book.nd (piR K (pv 6)) (blkOk_by (own := [("row", 7)]) (N := N_read_book) (sc := (defScope s_read_book)) (by decide +kernel)) (fun _ _ _ _ _ => pg_name (i := 7) sc_read_book.nd rfl (Or.inl rfl)) (fun _ _ _ _ _ => pts_nil) (fun _ _ _ _ _ => (pe_call (d_is_row T) (hr.mono (by decide)) (by rfl) T.m_is_row T.F_is_row.kp T.b_is_row .nil pass0 (pa_cons (pv 7) (pa_cons (pe_callB (lenA K) (by rfl) T.n_len (by decide +kernel) (pa_cons (pv 4) pa_nil)) pa_nil))))) pa_nil))))))) (pss_one (ps_ret pe_non)) pss_nil) (pss_one (ps_ret (pe_tup (pa_cons (pv 4) (pa_cons (pe_callTy (tupleA K) (by rfl) T.n_tuple (by decide +kernel) (pa_cons (pv 6) pa_nil)) pa_nil))))))))))), fun x hx => ?_⟩
  obtain ⟨d, rfl⟩ : ∃ l : D, l = x := ⟨x, rfl⟩
  obtain ⟨hd, hsh⟩ := hx
  have hd : Pv d := hd
  by_cases hs : isStrB d = true
  · obtain ⟨s, rfl⟩ := str_of hs
    obtain ⟨l, rfl⟩ : ∃ l, s = tx l := ⟨_, of_tx s⟩
    have hc := hd.str.1
    have hl : l.length ≤ 15000 := by
      have : decide ((tx l).length ≤ 15000) = true := hsh
      rw [tx_len] at this
      exact of_decide_eq_true this
    have hz : (tx l).length ≤ sizeLine := small (by rw [tx_len]; omega)
    have e58 := nin_code (K := K) (l := l) (c := 58)
    rw [show ch 58 = Str.ofString ":" by decide +kernel] at e58
    refine ds_seq (ds_if (EvT.dl (b := false || !decide (58 ∈ l)) (evt_or (a := false) (b := !decide (58 ∈ l)) (evt_not (a := true) (evt_tru_bl (ev_isi (ev_var rfl) ev_raw (.inl rfl) (.ty "str") rfl))) fun _ => evt_test (ev_op ev_str (ev_var rfl) e58)) ⟨fun h => ds_ret (Ev.dl ev_non (bk_none ?no)), fun h => ds_next ?_⟩))
    case no =>
      have : 58 ∉ l := by simpa using h
      unfold bookQ
      rw [cutAt_none.mpr this]; rfl
    obtain ⟨p, q, e⟩ : ∃ p q, cutAt l = some (p, q) := by
      cases e : cutAt l with
      | none => exact absurd (cutAt_none.mp e) (by simpa using h)
      | some x => exact ⟨x.1, x.2, rfl⟩
    obtain ⟨el, h58⟩ := cutAt_some e
    have eb : bookQ l = bookP (splitL p) (splitL q) := by
      unfold bookQ
      rw [e]; rfl
    have lpq : p.length + q.length ≤ l.length := by rw [el]; simp
    have hp : Txt.partition (tx l) (Str.ofString ":") = (tx p, tx [58], tx q) := by rw [el]; exact part_sp h58
    refine ds_seq (ds_asg_g (Ev.dl (ev_cast (d' := .tup [.str (tx p), .str (tx [58]), .str (tx q)]) (by rw [hp]) (ev_partition (ev_var rfl) ev_str (by decide +kernel) hz)) ⟨[1] ++ ([2] ++ [3]), _, dg_tup3 dg_name dg_name dg_name, ?_⟩))
    refine ds_seq (ds_asg (Ev.dl (ev_cast (d' := .tup (nameD (splitL p))) ?e1 (ev_tuple (EvN.b (evn_split (a := tx p) (ev_var rfl) ev_str (by decide +kernel) ?z1)))) ?_))
    case e1 => rw [splitS, nameD_map]
    case z1 => rw [tx_len]; exact small (by omega)
    have lq := splitL_len q
    cases eq : splitL q with
    | nil => exact absurd eq (splitL_ne q)
    | cons f rows =>
      rw [eq, List.length_cons] at lq
      have eb : bookQ l = if (headB (splitL p) f && tailB rows (splitL p).length) = true then some (splitL p, rows) else none := by rw [eb, eq]; rfl
      refine ds_seq (ds_starL (Ev.dl (EvN.ev (evn_split (a := tx q) (ev_var rfl) ev_str (by decide +kernel) ?z2)) ⟨.str (tx f), nameD rows, .inl ?e2, ?z3, ?_⟩))
      case e2 => rw [splitS, eq]; show D.lst ((tx f :: rows.map tx).map D.str) = _; rw [List.map_cons, nameD_map]
      case z2 => rw [tx_len]; exact small (by omega)
      case z3 => unfold nameD; rw [List.length_map]; omega
      have l1 : (nameD (splitL p)).length = (splitL p).length := List.length_map ..
      have l2 : (nameD rows).length = rows.length := List.length_map ..
      have sub := splitL_sub p
      have subq := splitL_sub q
      have codes : ∀ c ∈ l, c < 1114112 := fun c hc' => okS_codes hc c hc'
      have pcodes : ∀ c ∈ p, c ∈ l := fun c hc' => by rw [el]; exact List.mem_append_left _ hc'
      have qcodes : ∀ c ∈ q, c ∈ l := fun c hc' => by rw [el]; simp [hc']
      have t1 : (!decide (f = [])) = (!decide (tx f = Str.ofString "")) := by
        congr 1
        rw [show Str.ofString "" = tx [] by decide +kernel]
        exact decide_eq_decide.mpr tx_eq.symm
      refine ds_seq (ds_if (EvT.dl (b := !headB (splitL p) f) ?hd ⟨fun h2 => ds_ret (Ev.dl ev_non (bk_none ?no2)), fun h2 => ds_next ?_⟩))
      case hd =>
        have e3 : (!headB (splitL p) f) = (!decide (f = []) || (!decide ((splitL p).length ≤ 8) || !namesB (nameD (splitL p)))) := by
          unfold headB
          cases decide (f = []) <;> cases decide ((splitL p).length ≤ 8) <;> cases namesB (nameD (splitL p)) <;> rfl
        rw [e3]
        refine evt_or (evt_test (ev_op (ev_var rfl) ev_str (ne_sb t1.symm))) fun _ => evt_or (evt_test (ev_op (ev_lenT (ds := nameD (splitL p)) (ev_var rfl)) ev_int (gt_b ?g))) fun h9 => evt_not (evt_tru_bl (ev_call (s := spNamesG) (x := nameD (splitL p)) (eva_cons (ev_var rfl) eva_nil) (np_tup (np_name _)) ?pv fun d h => h))
        case g =>
          rw [l1]
          have : decide ((8 : Int) < ((splitL p).length : Int)) = !decide ((splitL p).length ≤ 8) := by
            rw [← decide_not]
            exact decide_eq_decide.mpr (by omega)
          exact this
        case pv =>
          have h9 : (splitL p).length ≤ 8 := by simpa using h9
          show (decide ((nameD (splitL p)).length ≤ 60) && plBs 11 (nameD (splitL p))) = true
          rw [l1, decide_eq_true (by omega), Bool.true_and, plBs_iff]
          intro d hd'
          obtain ⟨w, hw, rfl⟩ := List.mem_map.mp hd'
          obtain ⟨s1, s2⟩ := sub w hw
          exact pv_strs (fun c hc' => codes c (pcodes c (s2 c hc'))) (by omega)
      case no2 =>
        rw [eb, if_neg]
        rw [Bool.not_eq_true'] at h2
        rw [h2]; simp
      rw [Bool.not_eq_false'] at h2
      have h2' := h2
      unfold headB at h2'
      rw [Bool.and_eq_true, Bool.and_eq_true, decide_eq_true_eq, decide_eq_true_eq] at h2'
      refine ds_seq (ds_if (EvT.dl (b := !tailB rows (splitL p).length) ?tl ⟨fun h3 => ds_ret (Ev.dl ev_non (bk_none ?no3)), fun h3 => ds_next ?_⟩))
      case tl =>
        have e3 : (!tailB rows (splitL p).length) = (!decide (rows.length ≤ 20) || !rows.all fun r => rowB (.str (tx r)) (splitL p).length) := by
          unfold tailB
          cases decide (rows.length ≤ 20) <;> rfl
        rw [e3]
        refine evt_or (evt_test (ev_op (ev_len (ds := nameD rows) (ev_var rfl).b) ev_int (gt_b ?g2))) fun h9 => evt_not (evt_tru_bl (ev_all_lc (K := K) (xs := rows) (c := fun l => .str (tx l)) (b := fun r => rowB (.str (tx r)) (splitL p).length) (ej_list (ev_var (d := .lst (nameD rows)) rfl).b) ?z4 fun r hr' => ⟨[7], _, dg_name, fun i hi => hi, evt_yes, ev_call (s := spRowG) (x := (.str (tx r), (splitL p).length)) (eva_cons (ev_var rfl) (eva_cons (ev_cast (congrArg (fun n : Nat => D.int n) l1) (ev_lenT (ds := nameD (splitL p)) (ev_var rfl))) eva_nil)) rfl ?pr fun d h => h⟩))
        case g2 =>
          rw [l2]
          have : decide ((20 : Int) < (rows.length : Int)) = !decide (rows.length ≤ 20) := by
            rw [← decide_not]
            exact decide_eq_decide.mpr (by omega)
          exact this
        case z4 => omega
        case pr =>
          obtain ⟨s1, s2⟩ := subq r (by rw [eq]; exact List.mem_cons_of_mem _ hr')
          exact pv_strs (fun c hc' => codes c (qcodes c (s2 c hc'))) (by omega)
      case no3 =>
        rw [eb, if_neg]
        rw [Bool.not_eq_true'] at h3
        rw [h3]; simp
      rw [Bool.not_eq_false'] at h3
      refine ds_ret (Ev.dl (ev_tup (eva_cons (ev_var rfl) (eva_cons (ev_tuple (ev_var (d := .lst (nameD rows)) rfl).b) eva_nil)) (small (show 2 ≤ 100000 by decide))) ?_)
      show _ = optD (bookQ (tx l).cps.toList)
      rw [tx_cps, eb, h2, h3]; rfl
  · have hs : isStrB d = false := by simpa using hs
    refine ds_seq (ds_if (EvT.dl (b := true) (evt_or (a := true) (b := false) (evt_not (a := false) (evt_tru_bl (ev_isi (ev_var rfl) ev_raw (.inl hd.ty) (.ty "str") (by rw [kit_str hd.ty, hs])))) fun h => (nomatch h)) ⟨fun _ => ds_ret (Ev.dl ev_non ?_), fun h => (nomatch h)⟩))
    show D.non = optD (bookOf d)
    rw [not_str hs]; rfl

end K61

namespace K61
open PySem PySem.Spec PyProof.Rows L2 Dw
theorem d_row_holds {P : Program} {w : World} {K : PySem.W.Frag} {mg : Str → Option Value} {base : Heap} (T : Txt K w mg) : FnOk P w K mg base CX0 1 T.f_row_holds T.e_row_holds ["row", "ranking"] (toSp (spRowHolds)) := by
  refine fn_ok T.F_row_holds sc_row_holds (fun _ => rfl) fun cdv A outer s' H E hr => ?_
  refine ⟨_, (pss_cons (ps_for PassesOwn.never rfl (piR K (pv 1)) (pg_name (i := 2) sc_row_holds.nd rfl (Or.inl rfl)) (pss_one (ps_if (pt_cmpR (neA K hr.units) (pe_ix (ixA K) (pv 0) (pv 2) (fun _ _ => rfl)) pe_str (nomark _)) (pss_one (ps_ret (pe_cmpR (eqA K hr.units) (pe_ix (ixA K) (pv 0) (pv 2) (fun _ _ => rfl)) pe_str (nomark _)))) pss_nil))) (pss_one (ps_ret pe_bl))), fun x hx => ?_⟩
  obtain ⟨l, o⟩ := x
  obtain ⟨n, hl, h8, hk⟩ := hx
  have hl : RowOk l n := hl
  have hk : ∀ k ∈ o, k < n := hk
  refine ds_seq (ds_for (fun xs i Γ' => xs = ordD o ∧ ∃ s : Sl, Γ' = [.val (.str (tx l)), .val (.tup (ordD o)), s] ∧ ∀ k ∈ o.take i, sgn l k = 46)
    (dj_tup (Ev.dl (ev_var rfl) ⟨ordD o, rfl, ⟨rfl, _, rfl, fun k h => absurd h (by simp)⟩, fun i x Γ' hx' ⟨exs, s, e, hd⟩ => ?_, fun Γ' ⟨exs, s, e, hd⟩ => ?_⟩)))
  · subst e
    have hx3 : (o.map fun k : Nat => D.int k)[i]? = some x := hx'
    rw [List.getElem?_map] at hx3
    cases q : o[i]? with
    | none => rw [q] at hx3; cases hx3
    | some k =>
      rw [q] at hx3; cases hx3
      have hkn := hk k (List.mem_of_getElem? q)
      refine ⟨[2], _, dg_name, ds_if (EvT.dl (evt_test (ev_op (sgn_ev hl h8 hkn (ev_var rfl) (ev_var rfl)) ev_str ne_str')) ⟨fun h => ?_, fun h => ?_⟩)⟩
      · refine ds_ret (Ev.dl (ev_op (sgn_ev hl h8 hkn (ev_var rfl) (ev_var rfl)) ev_str eq_str') ?_)
        show D.bl _ = D.bl (holdsB l o)
        have hne : sgn l k ≠ 46 := fun z => by
          rw [z, ← ch_dot] at h
          simp at h
        rw [holds_at q hd hne, ch_plus]
        congr 1
        rw [Bool.eq_iff_iff]; simp [ch_eq]
      · refine ds_next ⟨exs, _, rfl, fun j hj => ?_⟩
        have hz : sgn l k = 46 := by
          rw [ch_dot] at h
          simpa [ch_eq] using h
        rw [List.take_add_one, q] at hj
        rcases List.mem_append.mp hj with hj | hj
        · exact hd j hj
        · rw [List.mem_singleton.mp hj]; exact hz
  · subst e
    rw [ordD_len, List.take_length] at hd
    exact ds_ret (Ev.dl ev_bl (congrArg D.bl (holds_dots hd).symm))
end K61

namespace K61
open PySem PySem.Spec PyProof.Rows L2 Dw
theorem d_all_hold {P : Program} {w : World} {K : PySem.W.Frag} {mg : Str → Option Value} {base : Heap} (T : Txt K w mg) : FnOk P w K mg base CX0 2 T.f_all_hold T.e_all_hold ["rows", "ranking"] (toSp (spAllHoldG)) := by
  refine fn_ok T.F_all_hold sc_all_hold (fun _ => rfl) fun cdv A outer s' H E hr => ?_
  refine ⟨_, (pss_one (ps_ret (pe_callB (allA K) (by rfl) T.n_all (by decide +kernel) (pa_cons (pe_lc (own := [("row", 2)]) rfl sc_all_hold.nd (piR K (pv 0)) (blkOk_by (own := [("row", 2)]) (N := N_all_hold) (sc := (defScope s_all_hold)) (by decide +kernel)) (fun _ _ _ _ _ => pg_name (i := 2) sc_all_hold.nd rfl (Or.inl rfl)) (fun _ _ _ _ _ => pts_nil) (fun _ _ _ _ _ => (pe_call (d_row_holds T) (hr.mono (by decide)) (by rfl) T.m_row_holds T.F_row_holds.kp T.b_row_holds .nil pass0 (pa_cons (pv 2) (pa_cons (pv 1) pa_nil))))) pa_nil)))), fun x hx => ?_⟩
  obtain ⟨rs, o, b⟩ := x
  obtain ⟨n, hr', h8, hz, hk⟩ := hx
  have hr' : ∀ r ∈ rs, RowOk r n := hr'
  have hz : rs.length ≤ 1000 := hz
  exact ds_ret (Ev.dl (ev_all_lc (K := K) (xs := rs) (c := fun r => .str (tx r)) (b := fun r => holdsB r o) (ej_rows (ev_var (d := rowsD b rs) rfl)) (by omega) fun r hr => ⟨[2], _, dg_name, fun i hi => hi, evt_yes, ev_call (s := spRowHolds) (x := (r, o)) (eva_cons (ev_var rfl) (eva_cons (ev_var rfl) eva_nil)) (np_to (r := []) rfl) ⟨n, hr' r hr, h8, hk⟩ fun d h => h⟩) rfl)
end K61

namespace K61
open PySem PySem.Spec PyProof.Rows L2 Dw
theorem d_is_fitting {P : Program} {w : World} {K : PySem.W.Frag} {mg : Str → Option Value} {base : Heap} (T : Txt K w mg) : FnOk P w K mg base CX0 3 T.f_is_fitting T.e_is_fitting ["value", "rows", "many"] (toSp (spFitting)) := by
  refine fn_ok T.F_is_fitting sc_is_fitting (fun _ => rfl) fun cdv A outer s' H E hr => ?_
  refine ⟨_, (pss_one (ps_ret (pe_and (pe_call (d_is_ranking T) (hr.mono (by decide)) (by rfl) T.m_is_ranking T.F_is_ranking.kp T.b_is_ranking .nil pass0 (pa_cons (pv 0) (pa_cons (pv 2) pa_nil))) (pe_one (pe_call (d_all_hold T) (hr.mono (by decide)) (by rfl) T.m_all_hold T.F_all_hold.kp T.b_all_hold .nil pass0 (pa_cons (pv 1) (pa_cons (pv 0) pa_nil))))))), fun x hx => ?_⟩
  obtain ⟨d, rs, n, b⟩ := x
  obtain ⟨hd, hr', h8, hz⟩ := hx
  have hd : Pv d := hd
  have h8 : n ≤ 8 := h8
  refine ds_ret (Ev.dl (ev_andV (a := rkB d n) (b := rs.all fun r => holdsB r (ordOf d)) (ev_call (s := spIsRkG) (x := (d, n)) (eva_cons (ev_var rfl) (eva_cons (ev_var rfl) eva_nil)) (np1 (r := [_]) hd rfl) ⟨hd, h8⟩ fun d h => h) fun h => ?_) rfl)
  obtain ⟨o, rfl, ho⟩ := rkB_iff.mp h
  rw [ordOf_ord]
  exact ev_call (s := spAllHoldG) (x := (rs, o, b)) (eva_cons (ev_var (d := rowsD b rs) rfl) (eva_cons (ev_var rfl) eva_nil)) (np_rD (np_to rfl)) ⟨n, hr', h8, hz, fun k hk => List.mem_range.mp (ho.subset hk)⟩ fun d h => h
end K61

namespace K61
open PySem PySem.Spec PyProof.Rows L2 Dw
theorem d_do_quarrel {P : Program} {w : World} {K : PySem.W.Frag} {mg : Str → Option Value} {base : Heap} (T : Txt K w mg) : FnOk P w K mg base CX0 3 T.f_do_quarrel T.e_do_quarrel ["rows", "many"] (toSp (spDoQ)) := by
  refine fn_ok T.F_do_quarrel sc_do_quarrel (fun _ => rfl) fun cdv A outer s' H E hr => ?_
  refine ⟨_, (pss_cons (ps_set (i := 2) sc_do_quarrel.nd rfl (Or.inl rfl) (pe_call (d_fused T) (hr.mono (by decide)) (by rfl) T.m_fused T.F_fused.kp T.b_fused .nil pass0 (pa_cons (pv 0) (pa_cons (pv 1) pa_nil)))) (pss_one (ps_ret (pe_and (pe_cmpR (inA K) pe_str (pv 2) (by rfl)) (pe_one (pe_cmpR (ninA K) pe_str (pv 2) (by rfl))))))), fun x hx => ?_⟩
  obtain ⟨rs, n⟩ := x
  obtain ⟨hr', h8, hz⟩ := hx
  have h8 : n ≤ 8 := h8
  refine ds_seq (ds_asg (Ev.dl (ev_call (s := spFused) (x := (rs, n)) (eva_cons (ev_var rfl) (eva_cons (ev_var rfl) eva_nil)) (np_ln (r := [_]) rfl) ⟨hr', h8, hz⟩ fun d h => h) ?_))
  refine ds_ret (Ev.dl (ev_andV (ev_op ev_str (ev_var (d := .str (tx (fz rs n))) rfl) (d := .bl (decide (45 ∈ fz rs n))) ?_) fun _ => ev_op ev_str (ev_var (d := .str (tx (fz rs n))) rfl) (d := .bl (!decide (43 ∈ fz rs n))) ?_) rfl)
  · rw [ch_minus]; exact in_code
  · rw [ch_plus]; exact nin_code
end K61

namespace K61
open PySem PySem.Spec PyProof.Rows L2 Dw
theorem d_shows_quarrel {P : Program} {w : World} {K : PySem.W.Frag} {mg : Str → Option Value} {base : Heap} (T : Txt K w mg) : FnOk P w K mg base CX0 5 T.f_shows_quarrel T.e_shows_quarrel ["certificate", "rows", "many"] (toSp (spSQ)) := by
  refine fn_ok T.F_shows_quarrel sc_shows_quarrel (fun _ => rfl) fun cdv A outer s' H E hr => ?_
  refine ⟨_, (pss_cons (ps_if (pt_not (truA K (pe_call (d_is_lot T) (hr.mono (by decide)) (by rfl) T.m_is_lot T.F_is_lot.kp T.b_is_lot .nil pass0 (pa_cons (pv 0) (pa_cons (pe_callB (lenA K) (by rfl) T.n_len (by decide +kernel) (pa_cons (pv 1) pa_nil)) pa_nil))))) (pss_one (ps_ret pe_bl)) pss_nil) (pss_one (ps_ret (pe_call (d_do_quarrel T) (hr.mono (by decide)) (by rfl) T.m_do_quarrel T.F_do_quarrel.kp T.b_do_quarrel .nil pass0 (pa_cons (pe_lc (own := [("index", 3)]) rfl sc_shows_quarrel.nd (piR K (pv 0)) (blkOk_by (own := [("index", 3)]) (N := N_shows_quarrel) (sc := (defScope s_shows_quarrel)) (by decide +kernel)) (fun _ _ _ _ _ => pg_name (i := 3) sc_shows_quarrel.nd rfl (Or.inl rfl)) (fun _ _ _ _ _ => pts_nil) (fun _ _ _ _ _ => (pe_ix (ixA K) (pv 1) (pv 3) (fun _ _ => rfl)))) (pa_cons (pv 2) pa_nil)))))), fun x hx => ?_⟩
  obtain ⟨d, rs, n⟩ := x
  obtain ⟨hd, hr', h8, hz⟩ := hx
  have hd : Pv d := hd
  have h8 : n ≤ 8 := h8
  have hz : rs.length ≤ 900 := hz
  refine ds_seq (ds_if (EvT.dl (b := !lotB d rs.length) (evt_not (evt_tru_bl (ev_call (s := spLotG) (x := (d, rs.length)) (eva_cons (ev_var rfl) (eva_cons (ev_lenR (b := false) (ev_var rfl)) eva_nil)) (np1 (r := [_]) hd rfl) hd fun d h => h))) ⟨fun h => ?_, fun h => ds_next ?_⟩))
  · rw [Bool.not_eq_true'] at h
    refine ds_ret (Ev.dl ev_bl ?_)
    show D.bl false = D.bl (lotB d rs.length && _)
    rw [h]; rfl
  · rw [Bool.not_eq_false'] at h
    obtain ⟨o, rfl, ho⟩ := lotB_iff.mp h
    have ol := lot_len ho
    refine ds_ret (Ev.dl (ev_call (s := spDoQ) (d := .bl (quB (pick rs o) n)) (x := (pick rs o, n)) (eva_cons (ev_cast (d' := .lst (nameD (pick rs o))) (by rw [pick_D]) (EvN.ev (evn_lc1 (xs := o) (c := fun k : Nat => D.int k) (f := fun k => .str (tx (rowAt rs k))) (ej_tup (ev_var rfl)) (by omega) fun k hk => ⟨[3], _, dg_name, fun i hi => hi, evt_yes, ev_rowsD (b := false) (ho.lt k hk) (ev_var rfl) (ev_var rfl)⟩))) (eva_cons (ev_var rfl) eva_nil)) (np_ln (r := [_]) rfl) ⟨pick_ok hr' ho.lt, h8, by show (o.map _).length ≤ 1000; rw [List.length_map]; omega⟩ fun d h => h) ?_)
    show D.bl _ = D.bl (lotB _ _ && quB (pick rs (ordOf (.tup (ordD o)))) n)
    rw [h, ordOf_ord]; rfl
end K61

namespace K61
open PySem PySem.Spec PyProof.Rows L2 Dw
theorem d_shows_following {P : Program} {w : World} {K : PySem.W.Frag} {mg : Str → Option Value} {base : Heap} (T : Txt K w mg) : FnOk P w K mg base CX0 5 T.f_shows_following T.e_shows_following ["certificate", "rows", "row"] (toSp (spSF)) := by
  refine fn_ok T.F_shows_following sc_shows_following (fun _ => rfl) fun cdv A outer s' H E hr => ?_
  refine ⟨_, (pss_cons (ps_if (pt_not (truA K (pe_call (d_is_lot T) (hr.mono (by decide)) (by rfl) T.m_is_lot T.F_is_lot.kp T.b_is_lot .nil pass0 (pa_cons (pv 0) (pa_cons (pe_callB (lenA K) (by rfl) T.n_len (by decide +kernel) (pa_cons (pv 1) pa_nil)) pa_nil))))) (pss_one (ps_ret pe_bl)) pss_nil) (pss_cons (ps_if (PW.pt (pw_and (pt_cmpR (eqA K hr.units) (pv 0) (pe_tup pa_nil) (nomark _)) (pw_and1 (pt_cmpR (ninA K) pe_str (pv 2) (by rfl))))) (pss_one (ps_ret pe_bl)) pss_nil) (pss_cons (ps_setLc (i := 3) (own := [("index", 4)]) rfl sc_shows_following.nd rfl rfl (sw_true rfl rfl rfl (by decide +kernel)) (piR K (pv 0)) (blkOk_by (own := [("index", 4)]) (N := N_shows_following) (sc := (defScope s_shows_following)) (by decide +kernel)) (fun _ _ _ _ _ => pg_name (i := 4) sc_shows_following.nd rfl (Or.inl rfl)) (fun _ _ _ _ _ => pts_nil) (fun _ _ _ _ _ => (pe_ix (ixA K) (pv 1) (pv 4) (fun _ _ => rfl)))) (pss_one (ps_ret (pe_or (pe_call (d_do_quarrel T) (hr.mono (by decide)) (by rfl) T.m_do_quarrel T.F_do_quarrel.kp T.b_do_quarrel .nil pass0 (pa_cons (pv 3) (pa_cons (pe_callB (lenA K) (by rfl) T.n_len (by decide +kernel) (pa_cons (pv 2) pa_nil)) pa_nil))) (pe_one (pe_call (d_do_quarrel T) (hr.mono (by decide)) (by rfl) T.m_do_quarrel T.F_do_quarrel.kp T.b_do_quarrel .nil pass0 (pa_cons (pe_lst (starA K (pv 3) (pa_cons (pe_call (d_turned T) (hr.mono (by decide)) (by rfl) T.m_turned T.F_turned.kp T.b_turned .nil pass0 (pa_cons (pv 2) pa_nil)) pa_nil))) (pa_cons (pe_callB (lenA K) (by rfl) T.n_len (by decide +kernel) (pa_cons (pv 2) pa_nil)) pa_nil)))))))))), fun x hx => ?_⟩
  obtain ⟨d, rs, r, n⟩ := x
  obtain ⟨hd, hr', h8, hz, hrow⟩ := hx
  have hd : Pv d := hd
  have h8 : n ≤ 8 := h8
  have hz : rs.length ≤ 900 := hz
  have hrow : RowOk r n := hrow
  refine ds_seq (ds_if (EvT.dl (b := !lotB d rs.length) (evt_not (evt_tru_bl (ev_call (s := spLotG) (x := (d, rs.length)) (eva_cons (ev_var rfl) (eva_cons (ev_lenR (b := false) (ev_var rfl)) eva_nil)) (np1 (r := [_]) hd rfl) hd fun d h => h))) ⟨fun h => ?_, fun h => ds_next ?_⟩))
  · rw [Bool.not_eq_true'] at h
    refine ds_ret (Ev.dl ev_bl ?_)
    show D.bl false = D.bl (lotB d rs.length && _)
    rw [h]; rfl
  · rw [Bool.not_eq_false'] at h
    obtain ⟨o, rfl, ho⟩ := lotB_iff.mp h
    have ol := lot_len ho
    have fin : sfB (.tup (ordD o)) rs r n = ((o.isEmpty && !decide (45 ∈ r)) || (quB (pick rs o) n || quB (pick rs o ++ [flipped r]) n)) := by
      unfold sfB
      rw [h, ordOf_ord]; rfl
    refine ds_seq (ds_if (EvT.dl (evt_and (evt_test (ev_op (ev_var rfl) (ev_tup eva_nil (Nat.zero_le _)) eq_nilT)) fun _ => evt_test (b := !decide (45 ∈ r)) (ev_op ev_str (ev_var rfl) (by rw [ch_minus]; exact nin_code))) ⟨fun h => ?_, fun h => ds_next ?_⟩))
    · refine ds_ret (Ev.dl ev_bl ?_)
      show D.bl true = D.bl (sfB _ _ _ _)
      rw [fin, h]; rfl
    · have pl : (pick rs o).length = o.length := List.length_map ..
      have po := pick_ok hr' ho.lt
      refine ds_seq (ds_asg (Ev.dl (ev_cast (d' := .lst (nameD (pick rs o))) (by rw [pick_D]) (EvN.ev (evn_lc1 (xs := o) (c := fun k : Nat => D.int k) (f := fun k => .str (tx (rowAt rs k))) (ej_tup (ev_var rfl)) (by omega) fun k hk => ⟨[4], _, dg_name, fun i hi => hi, evt_yes, ev_rowsD (b := false) (ho.lt k hk) (ev_var rfl) (ev_var rfl)⟩))) ?_))
      refine ds_ret (Ev.dl (ev_orV (ev_call (s := spDoQ) (d := .bl (quB (pick rs o) n)) (x := (pick rs o, n)) (eva_cons (ev_var rfl) (eva_cons (ev_len_row hrow h8 (ev_var rfl)) eva_nil)) (np_ln (r := [_]) rfl) ⟨po, h8, by show (pick rs o).length ≤ 1000; omega⟩ fun d h => h) fun _ => ev_call (s := spDoQ) (d := .bl (quB (pick rs o ++ [flipped r]) n)) (x := (pick rs o ++ [flipped r], n)) (eva_cons (ev_cast (d := .lst (nameD (pick rs o) ++ [.str (tx (flipped r))])) (by unfold nameD; rw [List.map_append]; rfl) (EvN.ev (evn_lst (eva_starX (.inr (ev_var (d := .lst (nameD (pick rs o))) rfl).b) (eva_cons (ev_call (s := spTurn) (d := .str (tx (flipped r))) (x := r) (eva_cons (ev_var rfl) eva_nil) rfl ⟨n, hrow, h8⟩ fun d h => h) eva_nil)) ?_))) (eva_cons (ev_len_row hrow h8 (ev_var rfl)) eva_nil)) (np_ln (r := [_]) rfl) ⟨fun q hq => ?_, h8, by show (pick rs o ++ [flipped r]).length ≤ 1000; rw [List.length_append]; show _ + 1 ≤ _; omega⟩ fun d h => h) ?_)
      · rw [List.length_append, show (nameD (pick rs o)).length = (pick rs o).length from List.length_map ..]
        show _ + 1 ≤ _
        exact small (by omega)
      · rcases List.mem_append.mp hq with hq | hq
        · exact po q hq
        · rw [List.mem_singleton.mp hq]; exact flipped_ok hrow
      · show D.bl _ = D.bl (sfB _ _ _ _)
        rw [fin, h]; rfl
end K61

namespace K61
open PySem PySem.Spec PyProof.Rows L2 Dw
theorem d_shows_open {P : Program} {w : World} {K : PySem.W.Frag} {mg : Str → Option Value} {base : Heap} (T : Txt K w mg) : FnOk P w K mg base CX0 4 T.f_shows_open T.e_shows_open ["certificate", "rows", "row"] (toSp (spSO)) := by
  refine fn_ok T.F_shows_open sc_shows_open (fun _ => rfl) fun cdv A outer s' H E hr => ?_
  refine ⟨_, (pss_cons (ps_if (PW.pt (pw_or (pt_not (truA K (pe_callB (isiA K) (by rfl) T.n_isinstance (by decide +kernel) (pa_cons (pv 0) (pa_cons (pe_bltn (v := .ty "tuple") (by rfl) T.n_tuple (by decide +kernel) rfl) pa_nil))))) (pw_or1 (pt_cmpR (neA K hr.units) (pe_callB (lenA K) (by rfl) T.n_len (by decide +kernel) (pa_cons (pv 0) pa_nil)) pe_int (nomark _))))) (pss_one (ps_ret pe_bl)) pss_nil) (pss_cons (ps_asg (pv 0) (tupA K 2 rfl (pgs_cons (pg_name (i := 3) sc_shows_open.nd rfl (Or.inl rfl)) (pgs_cons (pg_name (i := 4) sc_shows_open.nd rfl (Or.inl rfl)) pgs_nil)))) (pss_cons (ps_if (PW.pt (pw_or (pt_not (truA K (pe_call (d_is_fitting T) (hr.mono (by decide)) (by rfl) T.m_is_fitting T.F_is_fitting.kp T.b_is_fitting .nil pass0 (pa_cons (pv 3) (pa_cons (pv 1) (pa_cons (pe_callB (lenA K) (by rfl) T.n_len (by decide +kernel) (pa_cons (pv 2) pa_nil)) pa_nil)))))) (pw_or1 (pt_not (truA K (pe_call (d_is_fitting T) (hr.mono (by decide)) (by rfl) T.m_is_fitting T.F_is_fitting.kp T.b_is_fitting .nil pass0 (pa_cons (pv 4) (pa_cons (pv 1) (pa_cons (pe_callB (lenA K) (by rfl) T.n_len (by decide +kernel) (pa_cons (pv 2) pa_nil)) pa_nil))))))))) (pss_one (ps_ret pe_bl)) pss_nil) (pss_one (ps_ret (pe_and (pe_call (d_row_holds T) (hr.mono (by decide)) (by rfl) T.m_row_holds T.F_row_holds.kp T.b_row_holds .nil pass0 (pa_cons (pv 2) (pa_cons (pv 3) pa_nil))) (pe_one (notA K (pe_call (d_row_holds T) (hr.mono (by decide)) (by rfl) T.m_row_holds T.F_row_holds.kp T.b_row_holds .nil pass0 (pa_cons (pv 2) (pa_cons (pv 4) pa_nil))))))))))), fun x hx => ?_⟩
  obtain ⟨d, rs, r, n⟩ := x
  obtain ⟨hd, hr', h8, hz, hrow⟩ := hx
  have hd : Pv d := hd
  have h8 : n ≤ 8 := h8
  have hz : rs.length ≤ 900 := hz
  have hrow : RowOk r n := hrow
  by_cases ht : isTupB d = true
  · obtain ⟨ds, rfl⟩ := tup_of ht
    obtain ⟨dz, hp⟩ := hd.tup
    refine ds_seq (ds_if (EvT.dl (b := !decide (ds.length = 2)) (evt_or (a := false) (b := !decide (ds.length = 2)) (evt_not (a := true) (evt_tru_bl (ev_isi (ev_var rfl) ev_raw (.inl rfl) (.ty "tuple") rfl))) fun _ => evt_test (ev_op (ev_lenT (ev_var rfl)) ev_int ?ne)) ⟨fun h => ?_, fun h => ds_next ?_⟩))
    case ne =>
      have e := ne_int' (K := K) (i := (ds.length : Int)) (j := 2)
      rw [show decide ((ds.length : Int) = 2) = decide (ds.length = 2) from decide_eq_decide.mpr (by omega)] at e
      exact e
    · refine ds_ret (Ev.dl ev_bl ?_)
      have h2 : ds.length ≠ 2 := by simpa using h
      show D.bl false = D.bl (soB (.tup ds) rs r n)
      match ds, h2 with
      | [], _ => rfl
      | [_], _ => rfl
      | [_, _], h2 => exact absurd rfl h2
      | _ :: _ :: _ :: _, _ => rfl
    · have h2 : ds.length = 2 := by simpa using h
      match ds, h2, hp with
      | [a, b], _, hp =>
        have ha : Pv a := hp a (by simp)
        have hb : Pv b := hp b (by simp)
        refine ds_seq (ds_asg_g (Ev.dl (ev_var rfl) ⟨[3] ++ [4], _, dg_tup2 dg_name dg_name, ?_⟩))
        refine ds_seq (ds_if (EvT.dl (evt_or (evt_not (evt_tru_bl (ev_call (s := spFitting) (x := (a, rs, n, false)) (eva_cons (ev_var rfl) (eva_cons (ev_var (d := .tup (nameD rs)) rfl) (eva_cons (ev_len_row hrow h8 (ev_var rfl)) eva_nil))) (np1 ha (np_rD (b := false) rfl)) ⟨ha, hr', h8, Nat.le_trans hz (by decide)⟩ fun d h => h))) fun _ => evt_not (evt_tru_bl (ev_call (s := spFitting) (x := (b, rs, n, false)) (eva_cons (ev_var rfl) (eva_cons (ev_var (d := .tup (nameD rs)) rfl) (eva_cons (ev_len_row hrow h8 (ev_var rfl)) eva_nil))) (np1 hb (np_rD (b := false) rfl)) ⟨hb, hr', h8, Nat.le_trans hz (by decide)⟩ fun d h => h))) ⟨fun h => ?_, fun h => ds_next ?_⟩))
        · refine ds_ret (Ev.dl ev_bl ?_)
          show D.bl false = D.bl (fitB a rs n && fitB b rs n && _)
          have : (fitB a rs n && fitB b rs n) = false := by
            rw [← Bool.not_and, Bool.not_eq_true'] at h
            exact h
          rw [this]; rfl
        · rw [← Bool.not_and, Bool.not_eq_false'] at h
          have h' := h
          rw [Bool.and_eq_true] at h'
          obtain ⟨f1, f2⟩ := h'
          have r1 : rkB a n = true := by unfold fitB at f1; rw [Bool.and_eq_true] at f1; exact f1.1
          have r2 : rkB b n = true := by unfold fitB at f2; rw [Bool.and_eq_true] at f2; exact f2.1
          obtain ⟨oa, rfl, pa⟩ := rkB_iff.mp r1
          obtain ⟨ob, rfl, pb⟩ := rkB_iff.mp r2
          refine ds_ret (Ev.dl (ev_andV (ev_call (s := spRowHolds) (d := .bl (holdsB r oa)) (x := (r, oa)) (eva_cons (ev_var rfl) (eva_cons (ev_var rfl) eva_nil)) (np_to (r := []) rfl) ⟨n, hrow, h8, fun k hk => List.mem_range.mp (pa.subset hk)⟩ fun d h => h) fun _ => ev_notT (evt_tru_bl (ev_call (s := spRowHolds) (d := .bl (holdsB r ob)) (x := (r, ob)) (eva_cons (ev_var rfl) (eva_cons (ev_var rfl) eva_nil)) (np_to (r := []) rfl) ⟨n, hrow, h8, fun k hk => List.mem_range.mp (pb.subset hk)⟩ fun d h => h))) ?_)
          show D.bl _ = D.bl (fitB _ rs n && fitB _ rs n && (holdsB r (ordOf _) && !holdsB r (ordOf _)))
          rw [h, ordOf_ord, ordOf_ord]; rfl
  · have ht : isTupB d = false := by simpa using ht
    refine ds_seq (ds_if (EvT.dl (b := true) (evt_or (a := true) (b := false) (evt_not (a := false) (evt_tru_bl (ev_isi (ev_var rfl) ev_raw (.inl hd.ty) (.ty "tuple") (by rw [kit_tup hd.ty, ht])))) fun h => (nomatch h)) ⟨fun _ => ds_ret (Ev.dl ev_bl ?_), fun h => (nomatch h)⟩))
    cases d <;> first | rfl | exact nomatch ht

end K61

namespace K61
open PySem PySem.Spec PyProof.Rows L2 Dw
def spAllHave : Spc where
  ty := List (List Nat) × List Nat
  args := fun x => [.tup (nameD x.1), .tup (ordD x.2)]
  ok := fun x => ∃ n, (∀ r ∈ x.1, RowOk r n) ∧ n ≤ 8 ∧ x.1.length ≤ 1000 ∧ ∀ k ∈ x.2, k < n
  rel := fun x d => d = .bl (x.1.all fun r => holdsB r x.2)
theorem filt_nil (rs : List (List Nat)) (p : List Nat → Bool) : decide ((rs.filter fun r => !p r).map tx = []) = rs.all p := by
  rw [Bool.eq_iff_iff, decide_eq_true_eq, List.all_eq_true, List.map_eq_nil_iff, List.filter_eq_nil_iff]
  exact forall_congr' fun r => forall_congr' fun _ => by cases p r <;> simp
def spIsOrd : Spc where
  ty := D × Nat
  args := fun x => [x.1, .int x.2]
  ok := fun x => Pv x.1 ∧ x.2 ≤ 8
  rel := fun x d => d = .bl (rkB x.1 x.2)
theorem rkB_tup {d : D} {n : Nat} (h : isTupB d = false) : rkB d n = false := by cases d <;> first | rfl | exact nomatch h
theorem rkB_no {ds : List D} {n : Nat} (h : ∀ o, ds = ordD o → o.Perm (List.range n) → False) : rkB (.tup ds) n = false := by
  cases q : rkB (.tup ds) n with
  | false => rfl
  | true =>
    obtain ⟨o, e, ho⟩ := rkB_iff.mp q
    injection e with e
    exact (h o e ho).elim
theorem ordD_inj {o p : List Nat} (h : ordD o = ordD p) : o = p := by
  have := congrArg (fun l => l.map fun d => (intOf d).toNat) h
  unfold ordD at this
  rw [List.map_map, List.map_map] at this
  have e : ((fun d => (intOf d).toNat) ∘ fun k : Nat => D.int k) = id := by funext k; exact Int.toNat_natCast k
  rw [e, List.map_id, List.map_id] at this
  exact this
end K61

namespace K61
open PySem PySem.Spec PyProof.Rows L2 Dw
/-! all rankings, and pairs of them -/
def stepO (n : Nat) (o : List Nat) : List (List Nat) := ((List.range n).filter fun k => !decide (k ∈ o)).map fun k => o ++ [k]
def ordersM (n : Nat) : Nat → List (List Nat)
  | 0 => [[]]
  | i + 1 => (ordersM n i).flatMap (stepO n)
structure OrdI (n i : Nat) (o : List Nat) : Prop where
  len : o.length = i
  nd : o.Nodup
  lt : ∀ k ∈ o, k < n
theorem stepO_ok {n i : Nat} {o : List Nat} (h : OrdI n i o) : ∀ p ∈ stepO n o, OrdI n (i + 1) p := fun p hp => by
  obtain ⟨k, hk, rfl⟩ := List.mem_map.mp hp
  obtain ⟨h1, h2⟩ := List.mem_filter.mp hk
  have h1 := List.mem_range.mp h1
  rw [Bool.not_eq_true', decide_eq_false_iff_not] at h2
  refine ⟨by rw [List.length_append, h.len]; rfl, ?_, fun j hj => ?_⟩
  · rw [List.nodup_append]
    refine ⟨h.nd, List.nodup_cons.mpr ⟨by simp, List.nodup_nil⟩, fun a ha b hb z => ?_⟩
    rw [List.mem_singleton.mp hb] at z
    exact h2 (z ▸ ha)
  · rcases List.mem_append.mp hj with hj | hj
    · exact h.lt j hj
    · rw [List.mem_singleton.mp hj]; exact h1
theorem stepO_len (n : Nat) (o : List Nat) : (stepO n o).length ≤ n := by
  unfold stepO
  rw [List.length_map]
  exact Nat.le_trans (List.length_filter_le _ _) (by rw [List.length_range]; exact Nat.le_refl _)
theorem flat_len {α : Type} {n : Nat} (f : α → List α) (h : ∀ a, (f a).length ≤ n) : ∀ l : List α, (l.flatMap f).length ≤ l.length * n
  | [] => Nat.zero_le _
  | a :: l => by
    rw [List.flatMap_cons, List.length_append, List.length_cons, Nat.add_mul, Nat.one_mul]
    have := flat_len f h l
    have := h a
    omega
theorem ordersM_ok (n : Nat) : ∀ i, ∀ o ∈ ordersM n i, OrdI n i o
  | 0, o, h => by
    rw [List.mem_singleton.mp h]
    exact ⟨rfl, List.nodup_nil, fun k h => absurd h (by simp)⟩
  | i + 1, o, h => by
    obtain ⟨p, hp, ho⟩ := List.mem_flatMap.mp h
    exact stepO_ok (ordersM_ok n i p hp) o ho
theorem ordersM_len (n : Nat) : ∀ i, (ordersM n i).length ≤ n ^ i
  | 0 => Nat.le_refl _
  | i + 1 => by
    have h1 := flat_len (stepO n) (stepO_len n) (ordersM n i)
    have h2 := ordersM_len n i
    rw [Nat.pow_succ]
    exact Nat.le_trans h1 (Nat.mul_le_mul_right n h2)
theorem pow5' {i n : Nat} (h : i ≤ 6) (hn : n ≤ 6) : n ^ i ≤ 46656 := Nat.le_trans (Nat.pow_le_pow_left hn i) (Nat.le_trans (Nat.pow_le_pow_right (by decide) h) (by decide))
theorem orders_perm {n : Nat} {o : List Nat} (h : o ∈ ordersM n n) : o.Perm (List.range n) := by
  have := ordersM_ok n n o h
  exact perm_iff.mpr ⟨this.len, this.nd, this.lt⟩
def spOrders : Spc where
  ty := Nat
  args := fun n => [.int n]
  ok := fun n => n ≤ 6
  rel := fun n d => d = .lst (ordT (ordersM n n))
def fittersM (rs : List (List Nat)) (n : Nat) : List (List Nat) := (ordersM n n).filter fun o => rs.all fun r => holdsB r o
def spFitters : Spc where
  ty := List (List Nat) × Nat
  args := fun x => [.tup (nameD x.1), .int x.2]
  ok := fun x => (∀ r ∈ x.1, RowOk r x.2) ∧ x.2 ≤ 6 ∧ x.1.length ≤ 1000
  rel := fun x d => d = .lst (ordT (fittersM x.1 x.2))
theorem fitters_len {rs : List (List Nat)} {n : Nat} (h : n ≤ 6) : (fittersM rs n).length ≤ 46656 := Nat.le_trans (List.length_filter_le _ _) (Nat.le_trans (ordersM_len n n) (pow5' h h))
theorem ev_ninT {K : PySem.W.Frag} {Γ : Gam} {ta tb : TE} {r' : R2} {c : Nat} {l : List Nat} (ha : Ev ta Γ (.int c)) (h : Ev tb Γ (.tup (ordD l))) : Ev (tOp (rOr (rIn K true) r') ta tb) Γ (.bl (!decide (c ∈ l))) := by
  have e := ev_inT (neg := true) (K := K) (r' := r') ha h rfl (sc_ord l)
  rw [show scV (.int (c : Int)) = V.int (c : Int) from rfl] at e
  have e2 : inV (.int (c : Int)) ((ordD l).map scV) = decide (c ∈ l) := inV_ord c l
  rw [e2] at e
  exact e
def spOpenDue : Spc where
  ty := List (List Nat) × List Nat × D × Nat
  args := fun x => [.tup (nameD x.1), .str (tx x.2.1), x.2.2.1, .int x.2.2.2]
  ok := fun x => (∀ r ∈ x.1, RowOk r x.2.2.2) ∧ RowOk x.2.1 x.2.2.2 ∧ x.2.2.2 ≤ 8 ∧ Pv x.2.2.1 ∧ x.1.length ≤ 900
  rel := fun x d => d = .bl (soB x.2.2.1 x.1 x.2.1 x.2.2.2)
theorem soB_not {d : D} {rs : List (List Nat)} {r : List Nat} {n : Nat} (h : isTupB d = false) : soB d rs r n = false := by cases d <;> first | rfl | exact nomatch h
theorem soB_len {ds : List D} {rs : List (List Nat)} {r : List Nat} {n : Nat} (h : ds.length ≠ 2) : soB (.tup ds) rs r n = false := by
  match ds, h with
  | [], _ => rfl
  | [_], _ => rfl
  | [_, _], h => exact absurd rfl h
  | _ :: _ :: _ :: _, _ => rfl
theorem filt2 (p : D → Bool) (a b : D) : (!(([a, b].filter fun x => !p x).map fun x => x).isEmpty) = !(p a && p b) := by
  rw [List.map_id']
  cases ha : p a <;> cases hb : p b <;> simp [ha, hb]
end K61

namespace K61
open PySem PySem.Spec PyProof.Rows L2 Dw
theorem orders_all (n : Nat) : ∀ i, ordersM n i = allM n i
  | 0 => rfl
  | i + 1 => by
    show (ordersM n i).flatMap (stepO n) = (allM n i).flatMap _
    rw [orders_all n i]; rfl
theorem fitters_mem {rs : List (List Nat)} {n : Nat} {o : List Nat} : o ∈ fittersM rs n ↔ o.Perm (List.range n) ∧ ∀ r ∈ rs, holdsB r o = true := by
  unfold fittersM
  rw [List.mem_filter, orders_all, allM_mem, List.all_eq_true, perm_iff]

end K61

namespace K61
open PySem PySem.Spec PyProof.Rows L2 Dw
/-! heads as bits -/
def headOf (l : List Nat) : Nat := (l.map fun k => 2 ^ k).sum
def hd (p : Nat → Bool) (n : Nat) : Nat := headOf ((List.range n).filter p)
theorem headOf_snoc (l : List Nat) (k : Nat) : headOf (l ++ [k]) = headOf l + 2 ^ k := by unfold headOf; rw [List.map_append, List.sum_append]; simp
theorem hd_succ (p : Nat → Bool) (n : Nat) : hd p (n + 1) = hd p n + if p n = true then 2 ^ n else 0 := by
  unfold hd
  rw [List.range_succ, List.filter_append]
  cases h : p n with
  | true => rw [List.filter_cons_of_pos h, List.filter_nil, headOf_snoc, if_pos rfl]
  | false => rw [List.filter_cons_of_neg (by rw [h]; decide), List.filter_nil, List.append_nil, if_neg (by decide)]; rfl
theorem hd_lt (p : Nat → Bool) : ∀ n, hd p n < 2 ^ n
  | 0 => by
    have : hd p 0 = 0 := rfl
    rw [this]; decide
  | n + 1 => by
    have := hd_lt p n
    rw [hd_succ, Nat.pow_succ]
    split <;> omega
theorem hd_bit (p : Nat → Bool) : ∀ n k, (hd p n).testBit k = (decide (k < n) && p k)
  | 0, k => by
    have : hd p 0 = 0 := rfl
    rw [this]; simp
  | n + 1, k => by
    have ih := hd_bit p n k
    have lt := hd_lt p n
    rw [hd_succ]
    cases h : p n with
    | false =>
      rw [if_neg (by decide), Nat.add_zero, ih]
      by_cases hk : k = n
      · subst hk; rw [h]; simp
      · have : decide (k < n + 1) = decide (k < n) := decide_eq_decide.mpr (by omega)
        rw [this]
    | true =>
      have e := Nat.two_pow_add_eq_or_of_lt lt 1
      rw [Nat.mul_one] at e
      rw [if_pos rfl, Nat.add_comm, e, Nat.testBit_or, Nat.testBit_two_pow, ih]
      by_cases hk : k = n
      · subst hk; rw [h]; simp
      · have e1 : decide (n = k) = false := decide_eq_false (by omega)
        have : decide (k < n + 1) = decide (k < n) := decide_eq_decide.mpr (by omega)
        rw [e1, this]; rfl
theorem and_zero {a b : Nat} : a &&& b = 0 ↔ ∀ k, ¬ (a.testBit k = true ∧ b.testBit k = true) := by
  constructor
  · intro h k hk
    have := congrArg (fun z => z.testBit k) h
    simp only [Nat.testBit_and, Nat.zero_testBit, hk.1, hk.2] at this
    cases this
  · intro h
    apply Nat.eq_of_testBit_eq
    intro k
    rw [Nat.testBit_and, Nat.zero_testBit]
    cases p : a.testBit k with
    | false => rfl
    | true =>
      cases q : b.testBit k with
      | false => rfl
      | true => exact absurd ⟨p, q⟩ (h k)
def sideM (c : Nat) (r : List Nat) : Nat := hd (fun k => decide (sgn r k = c)) r.length
def sidesM (r : List Nat) : Nat × Nat := (sideM 43 r, sideM 45 r)
theorem side_bit {c : Nat} {r : List Nat} {k : Nat} (hc : c ≠ 46) : (sideM c r).testBit k = decide (sgn r k = c) := by
  unfold sideM
  rw [hd_bit]
  by_cases h : k < r.length
  · simp [h]
  · have : sgn r k = 46 := by unfold sgn; rw [List.getD_eq_getElem?_getD, List.getElem?_eq_none (by omega)]; rfl
    rw [this]
    have : decide (46 = c) = false := decide_eq_false fun z => hc z.symm
    rw [this]; simp
def takenM (head : Nat) (told : List (Nat × Nat)) : Nat := told.foldl (fun t s => if s.1 &&& head = 0 then t ||| s.2 else t) head
theorem taken_bit (head k : Nat) : ∀ (told : List (Nat × Nat)) (t : Nat), (told.foldl (fun t s => if s.1 &&& head = 0 then t ||| s.2 else t) t).testBit k = (t.testBit k || told.any fun s => decide (s.1 &&& head = 0) && s.2.testBit k)
  | [], t => by simp
  | s :: told, t => by
    rw [List.foldl_cons, taken_bit head k told, List.any_cons]
    by_cases h : s.1 &&& head = 0
    · rw [if_pos h, Nat.testBit_or, decide_eq_true h, Bool.true_and, Bool.or_assoc]
    · rw [if_neg h, decide_eq_false h, Bool.false_and, Bool.false_or]
def behindM (head : Nat) (told : List (Nat × Nat)) (n : Nat) : List Nat := (List.range n).filter fun k => decide (takenM head told &&& 2 ^ k = 0)
theorem two_bit {a k : Nat} : decide (a &&& 2 ^ k = 0) = !a.testBit k := by
  rw [Bool.eq_iff_iff, decide_eq_true_eq, and_zero, Bool.not_eq_true']
  constructor
  · intro h
    cases q : a.testBit k with
    | false => rfl
    | true => exact absurd ⟨q, by rw [Nat.testBit_two_pow]; simp⟩ (h k)
  · rintro h j ⟨h1, h2⟩
    rw [Nat.testBit_two_pow] at h2
    have : k = j := of_decide_eq_true h2
    subst this
    rw [h] at h1; cases h1
/-- whether k may come right behind the head: no row has a minus for it, and no plus in the head -/
def openBit (rs : List (List Nat)) (head k : Nat) : Bool := !head.testBit k && rs.all fun r => !(decide (sideM 43 r &&& head = 0) && decide (sgn r k = 45))
theorem behind_eq (rs : List (List Nat)) (head n : Nat) : behindM head (rs.map sidesM) n = (List.range n).filter (openBit rs head) := by
  unfold behindM
  refine List.filter_congr fun k _ => ?_
  rw [two_bit]
  unfold takenM openBit
  rw [taken_bit, Bool.not_or, List.any_map]
  congr 1
  rw [List.not_any_eq_all_not]
  congr 1
  funext r
  show (!(decide (sideM 43 r &&& head = 0) && (sideM 45 r).testBit k)) = _
  rw [side_bit (by decide)]
def stepsM (rs : List (List Nat)) (n : Nat) : List (List Nat) := (List.range (2 ^ n)).map fun head => behindM head (rs.map sidesM) n
/-- the ways, head by head from the last one down -/
def endStep (behind : List (List Nat)) (ways : List Nat) (head : Nat) : List Nat := ways.set head (((behind.getD head []).map fun k => ways.getD (head ||| 2 ^ k) 0).sum)
def endTo (behind : List (List Nat)) (i : Nat) : List Nat := ((List.range (behind.length - 1)).reverse.take i).foldl (endStep behind) (List.replicate behind.length 1)
def endM (behind : List (List Nat)) : List Nat := endTo behind (behind.length - 1)
def countM (rs : List (List Nat)) (n : Nat) : Nat := (endM (stepsM rs n)).getD 0 0
theorem endTo_len (behind : List (List Nat)) : ∀ i, (endTo behind i).length = behind.length := by
  intro i
  unfold endTo
  generalize (List.range (behind.length - 1)).reverse.take i = l
  have : ∀ (l : List Nat) (w : List Nat), (l.foldl (endStep behind) w).length = w.length := fun l => by
    induction l with
    | nil => intro w; rfl
    | cons a l ih => intro w; rw [List.foldl_cons, ih]; unfold endStep; rw [List.length_set]
  rw [this, List.length_replicate]
theorem rev_get {m i : Nat} (h : i < m) : (List.range m).reverse[i]? = some (m - 1 - i) := by
  rw [List.getElem?_reverse (by simpa using h), List.length_range, List.getElem?_range (by omega)]
theorem endTo_succ {behind : List (List Nat)} {i : Nat} (h : i < behind.length - 1) : endTo behind (i + 1) = endStep behind (endTo behind i) (behind.length - 1 - 1 - i) := by
  unfold endTo
  rw [List.take_add_one, rev_get h, List.foldl_append]; rfl
theorem getD_set_ne {l : List Nat} {i j v : Nat} (h : i ≠ j) : (l.set i v).getD j 0 = l.getD j 0 := by
  rw [List.getD_eq_getElem?_getD, List.getElem?_set_ne h, ← List.getD_eq_getElem?_getD]
theorem getD_set_self {l : List Nat} {i v : Nat} (h : i < l.length) : (l.set i v).getD i 0 = v := by
  rw [List.getD_eq_getElem?_getD, List.getElem?_set_self h]; rfl
/-- what is written stays: ways from the head m - 1 - i on are final once i steps are done -/
theorem endTo_keep {behind : List (List Nat)} {i : Nat} (h : i ≤ behind.length - 1) {j : Nat} (hj : behind.length - 1 - i ≤ j) : (endM behind).getD j 0 = (endTo behind i).getD j 0 := by
  unfold endM
  obtain ⟨d, hd⟩ : ∃ d, behind.length - 1 = i + d := ⟨behind.length - 1 - i, by omega⟩
  have : ∀ d, i + d ≤ behind.length - 1 → (endTo behind (i + d)).getD j 0 = (endTo behind i).getD j 0 := fun d => by
    induction d with
    | zero => intro _; rfl
    | succ d ih =>
      intro hd
      rw [← Nat.add_assoc, endTo_succ (by omega)]
      unfold endStep
      rw [getD_set_ne (by omega)]
      exact ih (by omega)
  conv => lhs; rw [hd]
  exact this d (by omega)
theorem end_last {behind : List (List Nat)} (h : 0 < behind.length) : (endM behind).getD (behind.length - 1) 0 = 1 := by
  rw [endTo_keep (i := 0) (by omega) (by omega)]
  unfold endTo
  simp only [List.take_zero, List.foldl_nil]
  rw [List.getD_eq_getElem?_getD, List.getElem?_replicate, if_pos (by omega)]; rfl
theorem end_at {behind : List (List Nat)} {head : Nat} (h : head < behind.length - 1) (up : ∀ k ∈ behind.getD head [], head < head ||| 2 ^ k) : (endM behind).getD head 0 = ((behind.getD head []).map fun k => (endM behind).getD (head ||| 2 ^ k) 0).sum := by
  obtain ⟨i, hi⟩ : ∃ i, head = behind.length - 1 - 1 - i ∧ i < behind.length - 1 := ⟨behind.length - 1 - 1 - head, by omega, by omega⟩
  rw [endTo_keep (i := i + 1) (by omega) (j := head) (by omega), endTo_succ hi.2, ← hi.1]
  unfold endStep
  rw [getD_set_self (by rw [endTo_len]; omega)]
  congr 1
  refine List.map_congr_left fun k hk => ?_
  exact (endTo_keep (i := i) (by omega) (by have := up k hk; omega)).symm
theorem steps_len (rs : List (List Nat)) (n : Nat) : (stepsM rs n).length = 2 ^ n := by unfold stepsM; rw [List.length_map, List.length_range]
theorem steps_at {rs : List (List Nat)} {n head : Nat} (h : head < 2 ^ n) : (stepsM rs n).getD head [] = (List.range n).filter (openBit rs head) := by
  unfold stepsM
  rw [List.getD_eq_getElem?_getD, List.getElem?_map, List.getElem?_range h]
  show behindM _ _ _ = _
  rw [behind_eq]
theorem or_up {head k : Nat} (h : head.testBit k = false) : head < head ||| 2 ^ k := by
  have h1 : head ≤ head ||| 2 ^ k := Nat.left_le_or
  rcases Nat.lt_or_eq_of_le h1 with h2 | h2
  · exact h2
  · have := congrArg (fun z => z.testBit k) h2
    simp only [Nat.testBit_or, Nat.testBit_two_pow] at this
    rw [h] at this; simp at this
theorem open_bit {rs : List (List Nat)} {head k : Nat} (h : openBit rs head k = true) : head.testBit k = false := by
  unfold openBit at h
  rw [Bool.and_eq_true, Bool.not_eq_true'] at h
  exact h.1
/-- steps hang on what rows say alone -/
theorem steps_same {rs qs : List (List Nat)} {n : Nat} (h : ∀ head k, openBit rs head k = openBit qs head k) : stepsM rs n = stepsM qs n := by
  unfold stepsM
  refine List.map_congr_left fun head _ => ?_
  rw [behind_eq, behind_eq]
  exact List.filter_congr fun k _ => h head k
/-- the numbers of ways are right: where one is above 0, some order goes on from there -/
theorem end_path {rs : List (List Nat)} {n : Nat} : ∀ (m head : Nat), head < 2 ^ n → 2 ^ n - head ≤ m → 0 < (endM (stepsM rs n)).getD head 0 → ∃ o : List Nat, o.Nodup ∧ (∀ k, k ∈ o ↔ k < n ∧ head.testBit k = false) ∧ ∀ p k q, o = p ++ k :: q → openBit rs (head ||| hd (fun j => decide (j ∈ p)) n) k = true
  | 0, head, h, hm, _ => by omega
  | m + 1, head, h, hm, hp => by
    by_cases hl : head = 2 ^ n - 1
    · refine ⟨[], List.nodup_nil, fun k => ⟨fun h => absurd h (by simp), fun ⟨h1, h2⟩ => ?_⟩, fun p k q e => ?_⟩
      · rw [hl, Nat.testBit_two_pow_sub_one] at h2
        simp [h1] at h2
      · cases p <;> cases e
    · have hlt : head < (stepsM rs n).length - 1 := by rw [steps_len]; omega
      have up : ∀ k ∈ (stepsM rs n).getD head [], head < head ||| 2 ^ k := fun k hk => by
        rw [steps_at h] at hk
        exact or_up (open_bit (List.mem_filter.mp hk).2)
      rw [end_at hlt up, steps_at h] at hp
      have : ∃ k ∈ (List.range n).filter (openBit rs head), 0 < (endM (stepsM rs n)).getD (head ||| 2 ^ k) 0 := by
        apply Classical.byContradiction
        intro hx
        have z : ((List.range n).filter (openBit rs head)).map (fun k => (endM (stepsM rs n)).getD (head ||| 2 ^ k) 0) = ((List.range n).filter (openBit rs head)).map fun _ => 0 := List.map_congr_left fun k hk => by
          have : ¬ 0 < (endM (stepsM rs n)).getD (head ||| 2 ^ k) 0 := fun z => hx ⟨k, hk, z⟩
          omega
        rw [z, List.map_const', List.sum_replicate_nat, Nat.mul_zero] at hp
        omega
      obtain ⟨k, hk, hp2⟩ := this
      obtain ⟨hk1, hk2⟩ := List.mem_filter.mp hk
      have kn := List.mem_range.mp hk1
      have kb := open_bit hk2
      have h2 : head ||| 2 ^ k < 2 ^ n := Nat.or_lt_two_pow h (Nat.pow_lt_pow_right (by decide) kn)
      have lt := or_up kb
      obtain ⟨o, nd, mem, pth⟩ := end_path m (head ||| 2 ^ k) h2 (by omega) hp2
      have bit : ∀ j, (head ||| 2 ^ k).testBit j = (head.testBit j || decide (k = j)) := fun j => by rw [Nat.testBit_or, Nat.testBit_two_pow]
      have kno : k ∉ o := fun z => by
        have := ((mem k).mp z).2
        rw [bit] at this; simp at this
      refine ⟨k :: o, List.nodup_cons.mpr ⟨kno, nd⟩, fun j => ?_, fun p j q e => ?_⟩
      · rw [List.mem_cons, mem j, bit]
        constructor
        · rintro (rfl | ⟨a, b⟩)
          · exact ⟨kn, kb⟩
          · rw [Bool.or_eq_false_iff] at b
            exact ⟨a, b.1⟩
        · rintro ⟨a, b⟩
          by_cases e : j = k
          · exact .inl e
          · exact .inr ⟨a, by rw [b]; simpa using fun z => e z.symm⟩
      · cases p with
        | nil =>
          cases e
          have : hd (fun j => decide (j ∈ ([] : List Nat))) n = 0 := by
            apply Nat.eq_of_testBit_eq
            intro j
            rw [hd_bit, Nat.zero_testBit]; simp
          rw [this, Nat.or_zero]; exact hk2
        | cons a p =>
          rw [List.cons_append] at e
          injection e with e1 e2
          subst e1
          have := pth p j q e2
          have e3 : head ||| 2 ^ k ||| hd (fun j => decide (j ∈ p)) n = head ||| hd (fun j => decide (j ∈ k :: p)) n := by
            apply Nat.eq_of_testBit_eq
            intro i
            rw [Nat.testBit_or, bit, Nat.testBit_or, hd_bit, hd_bit, Bool.or_assoc]
            congr 1
            by_cases ei : k = i
            · subst ei; simp [kn]
            · have : decide (k = i) = false := decide_eq_false ei
              rw [this, Bool.false_or]
              congr 1
              exact decide_eq_decide.mpr ⟨fun z => List.mem_cons_of_mem _ z, fun z => (List.mem_cons.mp z).resolve_left fun e => ei e.symm⟩
          rw [e3] at this; exact this
theorem nd_perm' : ∀ {l m : List Nat}, l.Nodup → l.Subset m → l.length ≤ m.length
  | [], m, _, _ => Nat.zero_le _
  | a :: l, m, nd, hs => by
    have p := List.perm_cons_erase (hs List.mem_cons_self)
    obtain ⟨n1, n2⟩ := List.nodup_cons.mp nd
    have := nd_perm' (m := m.erase a) n2 fun k hk => (List.mem_erase_of_ne (fun e : k = a => n1 (by rw [← e]; exact hk))).mpr (hs (List.mem_cons_of_mem _ hk))
    have e := p.length_eq
    rw [List.length_cons] at e ⊢
    omega
/-- a number of rankings above 0: some ranking fits -/
theorem count_fit {rs : List (List Nat)} {n : Nat} (hs : ∀ r ∈ rs, ∀ c, sgn r c = 43 ∨ sgn r c = 45 ∨ sgn r c = 46) (hl : ∀ r ∈ rs, r.length = n) (h : 0 < countM rs n) : Fit rs n := by
  obtain ⟨o, nd, mem, pth⟩ := end_path (rs := rs) (n := n) (2 ^ n) 0 (Nat.two_pow_pos n) (Nat.sub_le _ _) h
  have ho : o.Perm (List.range n) := by
    refine nd_perm o _ nd (fun k hk => List.mem_range.mpr ((mem k).mp hk).1) ?_
    have : (List.range n).Subset o := fun k hk => (mem k).mpr ⟨List.mem_range.mp hk, Nat.zero_testBit k⟩
    have p := nd_perm' List.nodup_range this
    exact p
  refine ⟨o, ho, fun r hr => ?_⟩
  -- the first sign of r along o
  have go : ∀ (p q : List Nat), o = p ++ q → (∀ k ∈ p, sgn r k = 46) → holdsB r q = true := fun p q => by
    induction q generalizing p with
    | nil => intro _ _; rfl
    | cons k q ih =>
      intro e hd'
      have op := pth p k q e
      rw [Nat.zero_or] at op
      by_cases z : sgn r k = 46
      · have e2 : holdsB r ([k] ++ q) = holdsB r q := holds_pre fun j hj => by rw [List.mem_singleton.mp hj]; exact z
        rw [show k :: q = [k] ++ q from rfl, e2]
        refine ih (p ++ [k]) (by rw [e]; simp) fun j hj => ?_
        rcases List.mem_append.mp hj with hj | hj
        · exact hd' j hj
        · rw [List.mem_singleton.mp hj]; exact z
      · unfold holdsB told
        rw [List.map_cons, List.filter_cons_of_pos (by simp [z])]
        unfold openBit at op
        rw [Bool.and_eq_true, List.all_eq_true] at op
        have o2 := op.2 r hr
        have b0 : sideM 43 r &&& hd (fun j => decide (j ∈ p)) n = 0 := and_zero.mpr fun j ⟨h1, h2⟩ => by
          rw [side_bit (by decide)] at h1
          rw [hd_bit, Bool.and_eq_true] at h2
          have := hd' j (of_decide_eq_true h2.2)
          rw [this] at h1; exact absurd h1 (by decide)
        rw [decide_eq_true b0, Bool.true_and] at o2
        rcases hs r hr k with y | y | y
        · exact decide_eq_true y
        · rw [y] at o2; exact absurd o2 (by decide)
        · exact absurd y z
  exact go [] o rfl fun k hk => absurd hk (by simp)
end K61

namespace K61
open PySem PySem.Spec PyProof.Rows L2 Dw
theorem sum_cast : ∀ l : List Nat, ((l.map fun k : Nat => (k : Int)).sum : Int) = ((l.sum : Nat) : Int)
  | [] => rfl
  | a :: l => by rw [List.map_cons, List.sum_cons, List.sum_cons, sum_cast l]; omega
def natD (l : List Nat) : List D := ordN l
def lolD (l : List (List Nat)) : List D := l.map fun o => D.lst (ordN o)
def sidD (l : List (Nat × Nat)) : List D := l.map fun s => D.tup [.int (s.1 : Nat), .int (s.2 : Nat)]
theorem np_ll {o : List (List Nat)} {r : List D} (h : noPs r = true) : noPs (.lst (lolD o) :: r) = true := by
  have e : noPs (lolD o) = true := noPs_map (f := fun o => D.lst (ordN o)) (fun l => np_ord l) o
  show (noPs (lolD o) && noPs r) = true; rw [e, h]; rfl
theorem np_sd {o : List (Nat × Nat)} {r : List D} (h : noPs r = true) : noPs (.lst (sidD o) :: r) = true := by
  have e : noPs (sidD o) = true := noPs_map (f := fun s : Nat × Nat => D.tup [.int (s.1 : Nat), .int (s.2 : Nat)]) (fun l => rfl) o
  show (noPs (sidD o) && noPs r) = true; rw [e, h]; rfl
def spHeadOf : Spc where
  ty := List Nat
  args := fun l => [.lst (ordD l)]
  ok := fun l => l.length ≤ 1000 ∧ ∀ k ∈ l, k ≤ 1000
  rel := fun l d => d = .int (headOf l : Nat)
def spSides : Spc where
  ty := List Nat
  args := fun r => [.str (tx r)]
  ok := fun r => ∃ n, RowOk r n ∧ n ≤ 8
  rel := fun r d => d = .tup [.int (sideM 43 r : Nat), .int (sideM 45 r : Nat)]
theorem enum_signs (r : List Nat) : enumD (Dw.signs (tx r)) = (List.range r.length).map fun (i : Nat) => D.tup [.int i, .str (ch (sgn r i))] := by
  apply List.ext_getElem?
  intro i
  have ls : (Dw.signs (tx r)).length = r.length := by rw [signs_tx, List.length_map, List.length_map]
  by_cases hi : i < r.length
  · obtain ⟨x, hx⟩ : ∃ x, (enumD (Dw.signs (tx r)))[i]? = some x := ⟨_, List.getElem?_eq_getElem (by rw [enumD_length, ls]; exact hi)⟩
    obtain ⟨y, hy, rfl⟩ := enumD_get hx
    rw [hx, List.getElem?_map, List.getElem?_range hi]
    rw [signs_tx, List.map_map, List.getElem?_map, List.getElem?_eq_getElem hi] at hy
    cases hy
    show _ = some (D.tup [D.int i, D.str (ch (sgn r i))])
    unfold sgn
    rw [List.getD_eq_getElem?_getD, List.getElem?_eq_getElem hi]; rfl
  · rw [List.getElem?_eq_none (by rw [enumD_length, ls]; omega), List.getElem?_eq_none (by simpa using hi)]
def spBehind : Spc where
  ty := Nat × List (Nat × Nat) × Nat
  args := fun x => [.int (x.1 : Nat), .lst (sidD x.2.1), .int (x.2.2 : Nat)]
  ok := fun x => x.2.2 ≤ 8 ∧ x.2.1.length ≤ 1000
  rel := fun x d => d = .lst (ordD (behindM x.1 x.2.1 x.2.2))
def spSteps : Spc where
  ty := List (List Nat) × Nat × Bool
  args := fun x => [rowsD x.2.2 x.1, .int (x.2.1 : Nat)]
  ok := fun x => (∀ r ∈ x.1, RowOk r x.2.1) ∧ x.2.1 ≤ 8 ∧ x.1.length ≤ 1000
  rel := fun x d => d = .lst (lolD (stepsM x.1 x.2.1))
structure EndOk (b : List (List Nat)) : Prop where
  lo : 1 ≤ b.length
  hi : b.length ≤ 256
  in_ : ∀ head, head < b.length → ∀ k ∈ b.getD head [], head ||| 2 ^ k < b.length ∧ k ≤ 8
  few : ∀ head, (b.getD head []).length ≤ 8
def spEnd : Spc where
  ty := List (List Nat)
  args := fun b => [.lst (lolD b)]
  ok := fun b => EndOk b
  rel := fun b d => d = .lst (ordD (endM b))
def spCount : Spc where
  ty := List (List Nat) × Nat × Bool
  args := fun x => [rowsD x.2.2 x.1, .int (x.2.1 : Nat)]
  ok := fun x => (∀ r ∈ x.1, RowOk r x.2.1) ∧ x.2.1 ≤ 8 ∧ x.1.length ≤ 1000
  rel := fun x d => d = .int (countM x.1 x.2.1 : Nat)
theorem pow8 {n : Nat} (h : n ≤ 8) : 2 ^ n ≤ 256 := Nat.le_trans (Nat.pow_le_pow_right (by decide) h) (by decide)
theorem steps_ok {rs : List (List Nat)} {n : Nat} (h : n ≤ 8) : EndOk (stepsM rs n) := by
  refine ⟨by rw [steps_len]; exact Nat.two_pow_pos n, by rw [steps_len]; exact pow8 h, fun head hh k hk => ?_, fun head => ?_⟩
  · rw [steps_len] at hh ⊢
    rw [steps_at hh] at hk
    have kn := List.mem_range.mp (List.mem_filter.mp hk).1
    exact ⟨Nat.or_lt_two_pow hh (Nat.pow_lt_pow_right (by decide) kn), by omega⟩
  · by_cases hh : head < 2 ^ n
    · rw [steps_at hh]
      have := List.length_filter_le (openBit rs head) (List.range n)
      rw [List.length_range] at this
      omega
    · rw [List.getD_eq_getElem?_getD, List.getElem?_eq_none (by rw [steps_len]; omega)]; exact Nat.zero_le _
theorem ei_rows {K : PySem.W.Frag} {ta : TE} {Γ : Gam} {b : Bool} {rs : List (List Nat)} (ha : Ev ta Γ (rowsD b rs)) : Ei (iAnyR K ta) Γ (rs.map fun r => D.str (tx r)) := by
  cases b with
  | true => exact ej_list (Ev.b (ds := nameD rs) ha)
  | false => exact ej_tup ha
theorem lolD_at {l : List (List Nat)} {i : Nat} (h : i < l.length) : atI (lolD l) (i : Int) = some (.lst (ordD (l.getD i []))) := by
  refine atI_nat ?_
  unfold lolD
  rw [List.getElem?_map, List.getElem?_eq_getElem h, List.getD_eq_getElem?_getD, List.getElem?_eq_getElem h]; rfl
theorem ordD_at {l : List Nat} {i : Nat} (h : i < l.length) : atI (ordD l) (i : Int) = some (.int (l.getD i 0 : Nat)) := by
  refine atI_nat ?_
  unfold ordD
  rw [List.getElem?_map, List.getElem?_eq_getElem h, List.getD_eq_getElem?_getD, List.getElem?_eq_getElem h]; rfl
theorem ordD_set (l : List Nat) (i v : Nat) : (ordD l).set i (.int (v : Nat)) = ordD (l.set i v) := by unfold ordD; rw [List.map_set]
theorem rep_one (m : Nat) : (List.replicate m [D.int (1 : Nat)]).flatten = ordD (List.replicate m 1) := by
  unfold ordD
  rw [List.map_replicate]
  induction m with
  | zero => rfl
  | succ m ih => rw [List.replicate_succ, List.flatten_cons, ih, List.replicate_succ]; rfl
theorem nz_nat (a : Nat) : (!(((a : Nat) : Int) != 0)) = decide (a = 0) := by
  rw [Bool.eq_iff_iff]; simp
theorem or_lt9 {head k m : Nat} : True := trivial
end K61

namespace K61
open PySem PySem.Spec PyProof.Rows L2 Dw
def spCkRow : Spc where
  ty := List Nat × Nat
  args := fun x => [.str (tx x.1), .int x.2]
  ok := fun x => RowOk x.1 x.2 ∧ 1 ≤ x.2 ∧ x.2 ≤ 8
  rel := fun _ d => d = .non
def spWrite : Spc where
  ty := Bk
  args := fun x => [.tup (nameD x.1), .tup (nameD x.2)]
  ok := fun x => BookOk x.1 x.2
  rel := fun x d => d = .str (tx (bookTx x.1 x.2))
def spWith (C : Addr) : Spc where
  ty := Bk × List Nat
  args := fun x => [bookD C x.1.1 x.1.2, .str (tx x.2)]
  ok := fun x => BookOk x.1.1 x.1.2 ∧ RowOk x.2 x.1.1.length ∧ x.1.2.length < 20
  rel := fun x d => d = bookD C x.1.1 (x.1.2 ++ [x.2])
def spMany (C : Addr) : Spc where
  ty := Bk
  args := fun x => [bookD C x.1 x.2]
  ok := fun x => BookOk x.1 x.2
  rel := fun x d => d = .int (countM x.2 x.1.length : Nat)
def spCkFits (C : Addr) : Spc where
  ty := Bk
  args := fun x => [bookD C x.1 x.2]
  ok := fun x => BookOk x.1 x.2 ∧ Still x.2 x.1.length = []
  rel := fun _ d => d = .non
def judgeS (rs : List (List Nat)) (n : Nat) (r : List Nat) : Str := if countM (rs ++ [r]) n = 0 then "never" else if countM (rs ++ [r]) n = countM rs n then "sure" else "open"
def spJudge (C : Addr) : Spc where
  ty := Bk × List Nat
  args := fun x => [bookD C x.1.1 x.1.2, .str (tx x.2)]
  ok := fun x => BookOk x.1.1 x.1.2 ∧ RowOk x.2 x.1.1.length ∧ Still x.1.2 x.1.1.length = []
  rel := fun x d => d = .str (judgeS x.1.2 x.1.1.length x.2)
def needM (rs : List (List Nat)) (n : Nat) : List Nat := (List.range rs.length).filter fun i => decide (countM (rs.take i ++ rs.drop (i + 1)) n = countM rs n)
def spNeed (C : Addr) : Spc where
  ty := Bk
  args := fun x => [bookD C x.1 x.2]
  ok := fun x => BookOk x.1 x.2
  rel := fun x d => d = .tup (ordD (needM x.2 x.1.length))
/-- two books with the same names -/
def alikeB (rs qs : List (List Nat)) (n : Nat) : Bool := decide (countM (rs ++ qs) n = countM rs n) && decide (countM (rs ++ qs) n = countM qs n)
def spAlike (C : Addr) : Spc where
  ty := List (List Nat) × List (List Nat) × List (List Nat)
  args := fun x => [bookD C x.1 x.2.1, bookD C x.1 x.2.2]
  ok := fun x => BookOk x.1 x.2.1 ∧ BookOk x.1 x.2.2
  rel := fun x d => d = .bl (alikeB x.2.1 x.2.2 x.1.length)
theorem nameD_app (a b : List (List Nat)) : nameD a ++ nameD b = nameD (a ++ b) := by unfold nameD; rw [List.map_append]
theorem cut_to {ds : List D} {k : Nat} (h : k ≤ ds.length) : Dw.cutD ds none (some (k : Int)) = ds.take k := by
  unfold Dw.cutD
  have e1 : HT.sIx ds.length 0 none = 0 := HT.sIx_none ..
  have e2 : HT.sIx ds.length ds.length (some (k : Int)) = k := by
    show (if (k : Int) < 0 then ((k : Int) + (ds.length : Int)).toNat else min (k : Int).toNat ds.length) = k
    rw [if_neg (by omega), Int.toNat_natCast]; omega
  rw [e1, e2, List.drop_zero, Nat.sub_zero]
theorem cut_from {ds : List D} {k : Nat} (h : k ≤ ds.length) : Dw.cutD ds (some (k : Int)) none = ds.drop k := by
  unfold Dw.cutD
  have e1 : HT.sIx ds.length ds.length none = ds.length := HT.sIx_none ..
  have e2 : HT.sIx ds.length 0 (some (k : Int)) = k := by
    show (if (k : Int) < 0 then ((k : Int) + (ds.length : Int)).toNat else min (k : Int).toNat ds.length) = k
    rw [if_neg (by omega), Int.toNat_natCast]; omega
  rw [e1, e2, List.take_of_length_le (by simp)]
theorem sIx_k {n k : Nat} (d : Nat) (h : k ≤ n) : HT.sIx n d (some (k : Int)) = k := by
  show (if (k : Int) < 0 then ((k : Int) + (n : Int)).toNat else min (k : Int).toNat n) = k
  rw [if_neg (by omega), Int.toNat_natCast]; omega
theorem eq_nat {K : PySem.W.Frag} (a b : Nat) : DR2 (rEqX K) (.int (a : Nat)) (.int (b : Nat)) (.bl (decide (a = b))) := by
  have e := eq_int' (K := K) (i := (a : Int)) (j := (b : Int))
  rw [show decide ((a : Int) = (b : Int)) = decide (a = b) from decide_eq_decide.mpr (by omega)] at e
  exact e
theorem okS_name {l : List Nat} (h : NameOk l) : okS (tx l) := okS_tx fun c hc => by have := h.all c hc; omega
theorem ok_names {ls : List (List Nat)} (h : ∀ l ∈ ls, NameOk l) : dOk 1 (.tup (nameD ls)) = true := dOks_map fun l hl => okS_name (h l hl)
theorem rows_app {rs qs : List (List Nat)} {n : Nat} (h1 : ∀ r ∈ rs, RowOk r n) (h2 : ∀ r ∈ qs, RowOk r n) : ∀ r ∈ rs ++ qs, RowOk r n := fun r hr => by
  rcases List.mem_append.mp hr with h | h
  · exact h1 r h
  · exact h2 r h
theorem rows_one {r : List Nat} {n : Nat} (h : RowOk r n) : ∀ q ∈ [r], RowOk q n := fun q hq => by rw [List.mem_singleton.mp hq]; exact h
theorem BookOk.snoc {ls rs : List (List Nat)} {r : List Nat} (h : BookOk ls rs) (hr : RowOk r ls.length) (h2 : rs.length < 20) : BookOk ls (rs ++ [r]) := ⟨h.names, by rw [List.length_append]; show rs.length + 1 ≤ 20; omega, rows_app h.rows (rows_one hr)⟩
theorem sum_tx' {m : Nat} {ls : List (List Nat)} (h : ∀ p ∈ ls, p.length ≤ m) : ((ls.map tx).map (·.length)).sum ≤ ls.length * m := sum_tx ls h
end K61

namespace K61
open PySem PySem.Spec PyProof.Rows L2 Dw
/-! the numbers are those of the rankings that fit -/
theorem nodup_ext {α : Type} [DecidableEq α] : ∀ {l m : List α}, l.Nodup → m.Nodup → (∀ a, a ∈ l ↔ a ∈ m) → l.Perm m
  | [], m, _, _, h => by
    cases m with
    | nil => exact .refl _
    | cons x m => exact absurd ((h x).mpr List.mem_cons_self) (by simp)
  | x :: l, m, nl, nm, h => by
    have hx : x ∈ m := (h x).mp List.mem_cons_self
    have p := List.perm_cons_erase hx
    obtain ⟨n1, n2⟩ := List.nodup_cons.mp nl
    refine ((nodup_ext (m := m.erase x) n2 (nm.erase x) fun k => ?_).cons x).trans p.symm
    constructor
    · intro hk
      have hne : k ≠ x := fun e => n1 (by rw [← e]; exact hk)
      exact (List.mem_erase_of_ne hne).mpr ((h k).mp (List.mem_cons_of_mem _ hk))
    · intro hk
      have hk2 := List.mem_of_mem_erase hk
      have hne : k ≠ x := fun e => by
        subst e
        exact nm.not_mem_erase hk
      rcases List.mem_cons.mp ((h k).mpr hk2) with e | e
      · exact absurd e hne
      · exact e
theorem allM_nodup (n : Nat) : ∀ i, (allM n i).Nodup
  | 0 => by show [[]].Nodup; simp
  | i + 1 => by
    show (List.flatMap _ _).Nodup
    have ih := allM_nodup n i
    generalize allM n i = l at ih
    induction l with
    | nil => exact List.nodup_nil
    | cons o l ihl =>
      obtain ⟨n1, n2⟩ := List.nodup_cons.mp ih
      rw [List.flatMap_cons, List.nodup_append]
      refine ⟨?_, ihl n2, fun a ha b hb e => ?_⟩
      · rw [List.nodup_iff_pairwise_ne]
        refine List.pairwise_map.mpr (((List.nodup_iff_pairwise_ne.mp List.nodup_range).sublist List.filter_sublist).imp fun {a b} h e => h ?_)
        exact (List.cons.inj (List.append_cancel_left e)).1
      · obtain ⟨k, _, rfl⟩ := List.mem_map.mp ha
        obtain ⟨p, hp, hq⟩ := List.mem_flatMap.mp hb
        obtain ⟨j, _, rfl⟩ := List.mem_map.mp hq
        have : o = p := by
          have e2 := congrArg List.dropLast e
          simpa using e2
        subst this
        exact n1 hp
theorem fitM_nodup (rs : List (List Nat)) (n : Nat) : (fitM rs n).Nodup := (allM_nodup n n).sublist List.filter_sublist
def pathsF (rs : List (List Nat)) (n : Nat) : Nat → Nat → List (List Nat)
  | 0, _ => [[]]
  | m + 1, head => if head = 2 ^ n - 1 then [[]] else ((List.range n).filter (openBit rs head)).flatMap fun k => (pathsF rs n m (head ||| 2 ^ k)).map fun o => k :: o
theorem paths_len {rs : List (List Nat)} {n : Nat} : ∀ (m head : Nat), head < 2 ^ n → 2 ^ n - 1 - head ≤ m → (endM (stepsM rs n)).getD head 0 = (pathsF rs n m head).length
  | 0, head, h, hm => by
    have e : head = 2 ^ n - 1 := by omega
    have := end_last (behind := stepsM rs n) (by rw [steps_len]; omega)
    rw [steps_len] at this
    rw [e, this]; rfl
  | m + 1, head, h, hm => by
    by_cases hl : head = 2 ^ n - 1
    · have := end_last (behind := stepsM rs n) (by rw [steps_len]; omega)
      rw [steps_len] at this
      rw [hl, this]
      unfold pathsF
      rw [if_pos rfl]; rfl
    · have hlt : head < (stepsM rs n).length - 1 := by rw [steps_len]; omega
      have up : ∀ k ∈ (stepsM rs n).getD head [], head < head ||| 2 ^ k := fun k hk => by
        rw [steps_at h] at hk
        exact or_up (open_bit (List.mem_filter.mp hk).2)
      rw [end_at hlt up, steps_at h]
      unfold pathsF
      rw [if_neg hl, List.length_flatMap]
      congr 1
      refine List.map_congr_left fun k hk => ?_
      obtain ⟨hk1, hk2⟩ := List.mem_filter.mp hk
      have kn := List.mem_range.mp hk1
      have lt := or_up (open_bit hk2)
      rw [List.length_map]
      exact paths_len m _ (Nat.or_lt_two_pow h (Nat.pow_lt_pow_right (by decide) kn)) (by omega)
theorem paths_nodup {rs : List (List Nat)} {n : Nat} : ∀ (m head : Nat), (pathsF rs n m head).Nodup
  | 0, head => by show [[]].Nodup; simp
  | m + 1, head => by
    unfold pathsF
    split
    · simp
    · have nd : ((List.range n).filter (openBit rs head)).Nodup := List.nodup_range.sublist List.filter_sublist
      generalize (List.range n).filter (openBit rs head) = l at nd
      induction l with
      | nil => exact List.nodup_nil
      | cons k l ih =>
        obtain ⟨n1, n2⟩ := List.nodup_cons.mp nd
        rw [List.flatMap_cons, List.nodup_append]
        refine ⟨?_, ih n2, fun a ha b hb e => ?_⟩
        · rw [List.nodup_iff_pairwise_ne]
          exact List.pairwise_map.mpr ((List.nodup_iff_pairwise_ne.mp (paths_nodup m _)).imp fun {a b} h e => h (List.cons.inj e).2)
        · obtain ⟨o, _, rfl⟩ := List.mem_map.mp ha
          obtain ⟨j, hj, hq⟩ := List.mem_flatMap.mp hb
          obtain ⟨p, _, rfl⟩ := List.mem_map.mp hq
          have : k = j := (List.cons.inj e).1
          subst this
          exact n1 hj
/-- a way through the heads from head on -/
inductive Way (rs : List (List Nat)) (n : Nat) : Nat → List Nat → Prop
  | done : Way rs n (2 ^ n - 1) []
  | step (head k : Nat) (o : List Nat) (h : head ≠ 2 ^ n - 1) (hk : k < n) (ho : openBit rs head k = true) (w : Way rs n (head ||| 2 ^ k) o) : Way rs n head (k :: o)
theorem paths_way {rs : List (List Nat)} {n : Nat} : ∀ (m head : Nat) (o : List Nat), head < 2 ^ n → 2 ^ n - 1 - head ≤ m → (o ∈ pathsF rs n m head ↔ Way rs n head o)
  | 0, head, o, h, hm => by
    have e : head = 2 ^ n - 1 := by omega
    subst e
    show o ∈ [[]] ↔ _
    constructor
    · intro ho; rw [List.mem_singleton.mp ho]; exact .done
    · intro w
      cases w with
      | done => exact List.mem_singleton.mpr rfl
      | step _ k o h => exact absurd rfl h
  | m + 1, head, o, h, hm => by
    unfold pathsF
    by_cases hl : head = 2 ^ n - 1
    · subst hl
      rw [if_pos rfl]
      constructor
      · intro ho; rw [List.mem_singleton.mp ho]; exact .done
      · intro w
        cases w with
        | done => exact List.mem_singleton.mpr rfl
        | step _ k o h => exact absurd rfl h
    · rw [if_neg hl, List.mem_flatMap]
      constructor
      · rintro ⟨k, hk, ho⟩
        obtain ⟨hk1, hk2⟩ := List.mem_filter.mp hk
        obtain ⟨p, hp, rfl⟩ := List.mem_map.mp ho
        have kn := List.mem_range.mp hk1
        have lt := or_up (open_bit hk2)
        exact .step head k p hl kn hk2 ((paths_way m _ p (Nat.or_lt_two_pow h (Nat.pow_lt_pow_right (by decide) kn)) (by omega)).mp hp)
      · intro w
        cases w with
        | done => exact absurd rfl hl
        | step _ k p _ kn ho w =>
          have lt := or_up (open_bit ho)
          exact ⟨k, List.mem_filter.mpr ⟨List.mem_range.mpr kn, ho⟩, List.mem_map.mpr ⟨p, (paths_way m _ p (Nat.or_lt_two_pow h (Nat.pow_lt_pow_right (by decide) kn)) (by omega)).mpr w, rfl⟩⟩
theorem or_bit (head k j : Nat) : (head ||| 2 ^ k).testBit j = (head.testBit j || decide (k = j)) := by rw [Nat.testBit_or, Nat.testBit_two_pow]
theorem full_bit {n head : Nat} (h : head < 2 ^ n) (hb : ∀ k < n, head.testBit k = true) : head = 2 ^ n - 1 := by
  apply Nat.eq_of_testBit_eq
  intro k
  rw [Nat.testBit_two_pow_sub_one]
  by_cases hk : k < n
  · rw [hb k hk]; simp [hk]
  · rw [Nat.testBit_lt_two_pow (Nat.lt_of_lt_of_le h (Nat.pow_le_pow_right (by decide) (by omega)))]; simp [hk]
/-- ways are orders of the other rules -/
theorem way_mem {rs : List (List Nat)} {n : Nat} {head : Nat} {o : List Nat} (w : Way rs n head o) : o.Nodup ∧ ∀ k, k ∈ o ↔ k < n ∧ head.testBit k = false := by
  induction w with
  | done => exact ⟨List.nodup_nil, fun k => ⟨fun h => absurd h (by simp), fun ⟨h1, h2⟩ => by rw [Nat.testBit_two_pow_sub_one] at h2; simp [h1] at h2⟩⟩
  | step head k o h hk ho w ih =>
    obtain ⟨nd, mem⟩ := ih
    have kb := open_bit ho
    have kno : k ∉ o := fun z => by
      have := ((mem k).mp z).2
      rw [or_bit] at this; simp at this
    refine ⟨List.nodup_cons.mpr ⟨kno, nd⟩, fun j => ?_⟩
    rw [List.mem_cons, mem j, or_bit]
    constructor
    · rintro (rfl | ⟨a, b⟩)
      · exact ⟨hk, kb⟩
      · rw [Bool.or_eq_false_iff] at b
        exact ⟨a, b.1⟩
    · rintro ⟨a, b⟩
      by_cases e : j = k
      · exact .inl e
      · exact .inr ⟨a, by rw [b]; simpa using fun z => e z.symm⟩
theorem holds_cons {r : List Nat} (k : Nat) (o : List Nat) : holdsB r (k :: o) = if sgn r k = 46 then holdsB r o else decide (sgn r k = 43) := by
  by_cases z : sgn r k = 46
  · rw [if_pos z]
    have : holdsB r ([k] ++ o) = holdsB r o := holds_pre fun j hj => by rw [List.mem_singleton.mp hj]; exact z
    exact this
  · rw [if_neg z]
    unfold holdsB told
    rw [List.map_cons, List.filter_cons_of_pos (by simp [z])]
/-- rows that no plus settles yet hold along the rest of a way, and only then is it a way -/
theorem way_iff {rs : List (List Nat)} {n : Nat} (hs : ∀ r ∈ rs, ∀ c, sgn r c = 43 ∨ sgn r c = 45 ∨ sgn r c = 46) : ∀ (o : List Nat) (head : Nat), head < 2 ^ n → o.Nodup → (∀ k, k ∈ o ↔ k < n ∧ head.testBit k = false) → (Way rs n head o ↔ ∀ r ∈ rs, sideM 43 r &&& head = 0 → holdsB r o = true)
  | [], head, h, nd, mem => by
    have e : head = 2 ^ n - 1 := full_bit h fun k hk => by
      cases q : head.testBit k with
      | true => rfl
      | false => exact absurd ((mem k).mpr ⟨hk, q⟩) (by simp)
    subst e
    exact ⟨fun _ r hr _ => rfl, fun _ => .done⟩
  | k :: o, head, h, nd, mem => by
    obtain ⟨n1, n2⟩ := List.nodup_cons.mp nd
    obtain ⟨kn, kb⟩ := (mem k).mp List.mem_cons_self
    have hne : head ≠ 2 ^ n - 1 := fun e => by
      rw [e, Nat.testBit_two_pow_sub_one] at kb
      simp [kn] at kb
    have h2 : head ||| 2 ^ k < 2 ^ n := Nat.or_lt_two_pow h (Nat.pow_lt_pow_right (by decide) kn)
    have mem2 : ∀ j, j ∈ o ↔ j < n ∧ (head ||| 2 ^ k).testBit j = false := fun j => by
      rw [or_bit]
      constructor
      · intro hj
        obtain ⟨a, b⟩ := (mem j).mp (List.mem_cons_of_mem _ hj)
        have : k ≠ j := fun e => n1 (e ▸ hj)
        exact ⟨a, by rw [b]; simp [this]⟩
      · rintro ⟨a, b⟩
        rw [Bool.or_eq_false_iff] at b
        have hj := (mem j).mpr ⟨a, b.1⟩
        exact (List.mem_cons.mp hj).resolve_left fun e => by
          subst e; simp at b
    have ih := way_iff hs o (head ||| 2 ^ k) h2 n2 mem2
    have plus : ∀ r, sideM 43 r &&& (head ||| 2 ^ k) = 0 ↔ sideM 43 r &&& head = 0 ∧ sgn r k ≠ 43 := fun r => by
      rw [and_zero, and_zero]
      constructor
      · intro hx
        refine ⟨fun j ⟨a, b⟩ => hx j ⟨a, by rw [or_bit, b]; rfl⟩, fun z => hx k ⟨?_, by rw [or_bit]; simp⟩⟩
        rw [side_bit (by decide)]; exact decide_eq_true z
      · rintro ⟨hx, hz⟩ j ⟨a, b⟩
        rw [or_bit, Bool.or_eq_true] at b
        rcases b with b | b
        · exact hx j ⟨a, b⟩
        · have e : k = j := of_decide_eq_true b
          subst e
          rw [side_bit (by decide)] at a
          exact hz (of_decide_eq_true a)
    have ob : openBit rs head k = true ↔ ∀ r ∈ rs, sideM 43 r &&& head = 0 → sgn r k ≠ 45 := by
      unfold openBit
      rw [kb, Bool.not_false, Bool.true_and, List.all_eq_true]
      constructor
      · intro hx r hr hz z
        have := hx r hr
        rw [decide_eq_true hz, decide_eq_true z] at this; cases this
      · intro hx r hr
        by_cases hz : sideM 43 r &&& head = 0
        · rw [decide_eq_false (hx r hr hz)]; simp
        · rw [decide_eq_false hz]; rfl
    constructor
    · intro w
      cases w with
      | step _ _ _ _ _ ho w =>
        intro r hr hz
        rw [holds_cons]
        have h45 := ob.mp ho r hr hz
        rcases hs r hr k with z | z | z
        · rw [if_neg (by rw [z]; decide), z]; rfl
        · exact absurd z h45
        · rw [if_pos z]
          exact ih.mp w r hr ((plus r).mpr ⟨hz, by rw [z]; decide⟩)
    · intro hx
      refine .step head k o hne kn (ob.mpr fun r hr hz z => ?_) (ih.mpr fun r hr hz => ?_)
      · have := hx r hr hz
        rw [holds_cons, if_neg (by rw [z]; decide), z] at this
        exact absurd this (by decide)
      · obtain ⟨a, b⟩ := (plus r).mp hz
        have := hx r hr a
        rw [holds_cons] at this
        rcases hs r hr k with z | z | z
        · exact absurd z b
        · rw [if_neg (by rw [z]; decide), z] at this
          exact absurd this (by decide)
        · rw [if_pos z] at this; exact this
/-- THE NUMBER of rankings that fit -/
theorem count_eq {rs : List (List Nat)} {n : Nat} (hs : ∀ r ∈ rs, ∀ c, sgn r c = 43 ∨ sgn r c = 45 ∨ sgn r c = 46) : countM rs n = (fitM rs n).length := by
  have p0 : 0 < 2 ^ n := Nat.two_pow_pos n
  show (endM (stepsM rs n)).getD 0 0 = _
  rw [paths_len (2 ^ n) 0 p0 (by omega)]
  refine (nodup_ext (paths_nodup _ _) (fitM_nodup rs n) fun o => ?_).length_eq
  rw [paths_way _ _ _ p0 (by omega), fitM_mem]
  constructor
  · intro w
    obtain ⟨nd, mem⟩ := way_mem w
    refine ⟨?_, fun r hr => (way_iff hs o 0 p0 nd mem).mp w r hr (Nat.and_zero _)⟩
    exact nodup_ext nd List.nodup_range fun k => by rw [mem k, List.mem_range, Nat.zero_testBit]; simp
  · rintro ⟨p, hh⟩
    have nd : o.Nodup := p.nodup_iff.mpr List.nodup_range
    have mem : ∀ k, k ∈ o ↔ k < n ∧ Nat.testBit 0 k = false := fun k => by rw [p.mem_iff, List.mem_range, Nat.zero_testBit]; simp
    exact (way_iff hs o 0 p0 nd mem).mpr fun r hr _ => hh r hr

end K61

namespace K61
open PySem PySem.Spec PyProof.Rows L2 Dw
/-! counting rankings over lots, as the checker does -/
def sortN (l : List Nat) : List Nat := l.mergeSort (fun a b => decide (a ≤ b))
theorem sortN_perm (l : List Nat) : (sortN l).Perm l := List.mergeSort_perm l _
theorem sortN_inc (l : List Nat) : (sortN l).Pairwise (· ≤ ·) := (List.pairwise_mergeSort (le := fun a b : Nat => decide (a ≤ b)) (fun a b c h1 h2 => by
    simp only [decide_eq_true_eq] at h1 h2 ⊢
    omega) (fun a b => by
    simp only [Bool.or_eq_true, decide_eq_true_eq]
    omega) l).imp fun {a b} h => of_decide_eq_true h
theorem inc_eq {l m : List Nat} (h1 : l.Pairwise (· ≤ ·)) (h2 : m.Pairwise (· ≤ ·)) (p : l.Perm m) : l = m := List.Perm.eq_of_pairwise (le := (· ≤ ·)) (fun a b _ _ h h' => Nat.le_antisymm h h') h1 h2 p
theorem sortN_congr {l m : List Nat} (p : l.Perm m) : sortN l = sortN m := inc_eq (sortN_inc l) (sortN_inc m) ((sortN_perm l).trans (p.trans (sortN_perm m).symm))
theorem sortN_int {l : List Nat} {ns : List Int} (h1 : ns.Perm (l.map fun k : Nat => (k : Int))) (h2 : ns.Pairwise (· ≤ ·)) : ns = (sortN l).map fun k : Nat => (k : Int) := by
  refine List.Perm.eq_of_pairwise (le := (· ≤ ·)) (fun a b _ _ h h' => Int.le_antisymm h h') h2 ?_ (h1.trans ((sortN_perm l).map _).symm)
  rw [List.pairwise_map]
  exact (sortN_inc l).imp fun {a b} h => by omega
def mayB (rs : List (List Nat)) (k : Nat) (o : List Nat) : Bool := rs.all fun r => !decide (sgn r k = 45) || o.any fun j => decide (sgn r j = 43)
def okN (rs : List (List Nat)) (k : Nat) (o : List Nat) : Bool := !decide (k ∈ o) && mayB rs k o
theorem any_perm {l m : List Nat} (p : l.Perm m) (f : Nat → Bool) : l.any f = m.any f := p.any_eq
theorem okN_perm {rs : List (List Nat)} {k : Nat} {l m : List Nat} (p : l.Perm m) : okN rs k l = okN rs k m := by
  unfold okN mayB
  rw [decide_eq_decide.mpr p.mem_iff]
  congr 2
  funext r
  rw [any_perm p]
theorem holds_snoc {r : List Nat} {n : Nat} (h : RowOk r n) (o : List Nat) (k : Nat) : holdsB r (o ++ [k]) = (holdsB r o && (!decide (sgn r k = 45) || o.any fun j => decide (sgn r j = 43))) := by
  have anyE : (o.any fun j => decide (sgn r j = 43)) = decide (43 ∈ told r o) := by
    rw [Bool.eq_iff_iff, List.any_eq_true, decide_eq_true_eq]
    unfold told
    rw [List.mem_filter, List.mem_map]
    constructor
    · rintro ⟨j, hj, e⟩
      exact ⟨⟨j, hj, of_decide_eq_true e⟩, by decide⟩
    · rintro ⟨⟨j, hj, e⟩, _⟩
      exact ⟨j, hj, decide_eq_true e⟩
  rw [anyE]
  have e1 : told r (o ++ [k]) = told r o ++ told r [k] := told_app r o [k]
  have nodot : ∀ c ∈ told r o, c = 43 ∨ c = 45 := fun c hc => by
    unfold told at hc
    obtain ⟨h1, h2⟩ := List.mem_filter.mp hc
    obtain ⟨j, _, rfl⟩ := List.mem_map.mp h1
    rcases sgn_is h j with z | z | z
    · exact .inl z
    · exact .inr z
    · rw [z] at h2; exact absurd h2 (by decide)
  unfold holdsB
  rw [e1]
  cases q : told r o with
  | nil =>
    have : told r [k] = if sgn r k = 46 then [] else [sgn r k] := by
      unfold told
      by_cases z : sgn r k = 46
      · simp [z]
      · simp [z]
    rw [this]
    rcases sgn_is h k with z | z | z <;> simp [z]
  | cons c t =>
    rcases nodot c (by rw [q]; exact List.mem_cons_self) with z | z <;> simp [z]
def seqsM (rs : List (List Nat)) (n i : Nat) : List (List Nat) := (ordersM n i).filter fun o => rs.all fun r => holdsB r o
theorem all_snoc {rs : List (List Nat)} {n : Nat} (hr : ∀ r ∈ rs, RowOk r n) (o : List Nat) (k : Nat) : (rs.all fun r => holdsB r (o ++ [k])) = ((rs.all fun r => holdsB r o) && mayB rs k o) := by
  unfold mayB
  rw [Bool.eq_iff_iff, Bool.and_eq_true, List.all_eq_true, List.all_eq_true, List.all_eq_true]
  constructor
  · intro h
    refine ⟨fun r m => ?_, fun r m => ?_⟩
    · have := h r m
      rw [holds_snoc (hr r m), Bool.and_eq_true] at this
      exact this.1
    · have := h r m
      rw [holds_snoc (hr r m), Bool.and_eq_true] at this
      exact this.2
  · rintro ⟨h1, h2⟩ r m
    rw [holds_snoc (hr r m), h1 r m, h2 r m]; rfl
def outN (rs : List (List Nat)) (n : Nat) (o : List Nat) : List (List Nat) := ((List.range n).filter fun k => okN rs k o).map fun k => o ++ [k]
theorem seqs_step {rs : List (List Nat)} {n : Nat} (hr : ∀ r ∈ rs, RowOk r n) (o : List Nat) : (stepO n o).filter (fun p => rs.all fun r => holdsB r p) = if (rs.all fun r => holdsB r o) = true then outN rs n o else [] := by
  unfold stepO outN
  rw [List.filter_map, List.filter_filter]
  by_cases h : (rs.all fun r => holdsB r o) = true
  · rw [if_pos h]
    congr 1
    refine List.filter_congr fun k _ => ?_
    show ((rs.all fun r => holdsB r (o ++ [k])) && !decide (k ∈ o)) = okN rs k o
    rw [all_snoc hr, h]
    unfold okN
    cases mayB rs k o <;> cases decide (k ∈ o) <;> rfl
  · rw [if_neg h]
    have h : (rs.all fun r => holdsB r o) = false := by simpa using h
    have : (List.range n).filter (fun k => ((fun p => rs.all fun r => holdsB r p) ∘ fun k => o ++ [k]) k && !decide (k ∈ o)) = [] := by
      rw [List.filter_eq_nil_iff]
      intro k _
      show ¬ ((rs.all fun r => holdsB r (o ++ [k])) && !decide (k ∈ o)) = true
      rw [all_snoc hr, h]; simp
    rw [this]; rfl
theorem flat_if {α β : Type} (p : α → Bool) (g : α → List β) : ∀ l : List α, (l.flatMap fun a => if p a = true then g a else []) = (l.filter p).flatMap g
  | [] => rfl
  | a :: l => by
    rw [List.flatMap_cons, flat_if p g l]
    cases h : p a with
    | true => rw [List.filter_cons_of_pos h, List.flatMap_cons, if_pos rfl]
    | false => rw [List.filter_cons_of_neg (by rw [h]; decide), if_neg Bool.false_ne_true]; rfl
theorem seqs_succ {rs : List (List Nat)} {n : Nat} (hr : ∀ r ∈ rs, RowOk r n) (i : Nat) : seqsM rs n (i + 1) = (seqsM rs n i).flatMap (outN rs n) := by
  show ((ordersM n i).flatMap (stepO n)).filter _ = _
  rw [List.filter_flatMap]
  have : (ordersM n i).flatMap (fun o => (stepO n o).filter fun p => rs.all fun r => holdsB r p) = (ordersM n i).flatMap fun o => if (rs.all fun r => holdsB r o) = true then outN rs n o else [] := congrArg (fun g => (ordersM n i).flatMap g) (funext fun o => seqs_step hr o)
  rw [this, flat_if]; rfl
/-! the dict as a list of pairs -/
def encK (L : List Nat) : List L2.Key := L.map fun k : Nat => (Sum.inl (k : Int) : L2.Key)
def encT (kvs : List (List Nat × Nat)) : List (List L2.Key × V) := kvs.map fun p => (encK p.1, V.int (p.2 : Nat))
theorem encK_inj {a b : List Nat} (h : encK a = encK b) : a = b := by
  induction a generalizing b with
  | nil => cases b <;> first | rfl | cases h
  | cons x a ih =>
    cases b with
    | nil => cases h
    | cons y b =>
      injection h with h1 h2
      injection h1 with h1
      rw [ih h2, show x = y by omega]
theorem encK_kV (L : List Nat) : (encK L).map L2.kV = L.map fun k : Nat => V.int k := by unfold encK; rw [List.map_map]; rfl
def findN (kvs : List (List Nat × Nat)) (M : List Nat) : Option Nat := (kvs.find? fun p => decide (p.1 = M)).map (·.2)
def getN (kvs : List (List Nat × Nat)) (M : List Nat) : Nat := (findN kvs M).getD 0
def putN : List (List Nat × Nat) → List Nat → Nat → List (List Nat × Nat)
  | [], M, z => [(M, z)]
  | p :: r, M, z => if p.1 = M then (p.1, z) :: r else p :: putN r M z
def sumN (kvs : List (List Nat × Nat)) (f : List Nat → Nat) : Nat := (kvs.map fun p => p.2 * f p.1).sum
theorem find_cons (p : List Nat × Nat) (r : List (List Nat × Nat)) (M : List Nat) : findN (p :: r) M = if p.1 = M then some p.2 else findN r M := by
  unfold findN
  by_cases h : p.1 = M
  · rw [List.find?_cons_of_pos (by simpa using h), if_pos h]; rfl
  · rw [List.find?_cons_of_neg (by simpa using h), if_neg h]
theorem find_none {kvs : List (List Nat × Nat)} {M : List Nat} (h : M ∉ kvs.map (·.1)) : findN kvs M = none := by
  induction kvs with
  | nil => rfl
  | cons p r ih =>
    rw [List.map_cons, List.mem_cons, not_or] at h
    rw [find_cons, if_neg (fun e => h.1 e.symm), ih h.2]
theorem val_enc (kvs : List (List Nat × Nat)) (M : List Nat) : L2.valV (encT kvs) (encK M) = (findN kvs M).map fun z : Nat => V.int z := by
  induction kvs with
  | nil => rfl
  | cons p r ih =>
    rw [find_cons]
    show L2.valV ((encK p.1, V.int (p.2 : Nat)) :: encT r) (encK M) = _
    by_cases h : p.1 = M
    · rw [L2.valV_pos (by rw [h]), if_pos h]; rfl
    · rw [L2.valV_neg (fun e => h (encK_inj e)), if_neg h, ih]
theorem any_enc (kvs : List (List Nat × Nat)) (M : List Nat) : ((encT kvs).any fun kv => decide (kv.1 = encK M)) = decide (M ∈ kvs.map (·.1)) := by
  rw [Bool.eq_iff_iff, List.any_eq_true, decide_eq_true_eq, List.mem_map]
  unfold encT
  constructor
  · rintro ⟨x, hx, e⟩
    obtain ⟨p, hp, rfl⟩ := List.mem_map.mp hx
    exact ⟨p, hp, encK_inj (of_decide_eq_true e)⟩
  · rintro ⟨p, hp, rfl⟩
    exact ⟨_, List.mem_map.mpr ⟨p, hp, rfl⟩, decide_eq_true rfl⟩
theorem put_new {kvs : List (List Nat × Nat)} {M : List Nat} (h : M ∉ kvs.map (·.1)) (z : Nat) : putN kvs M z = kvs ++ [(M, z)] := by
  induction kvs with
  | nil => rfl
  | cons p r ih =>
    rw [List.map_cons, List.mem_cons, not_or] at h
    unfold putN
    rw [if_neg (fun e => h.1 e.symm), ih h.2]; rfl
theorem put_old {kvs : List (List Nat × Nat)} {M : List Nat} (nd : (kvs.map (·.1)).Nodup) (h : M ∈ kvs.map (·.1)) (z : Nat) : putN kvs M z = kvs.map fun p => if p.1 = M then (p.1, z) else p := by
  induction kvs with
  | nil => exact absurd h (by simp)
  | cons p r ih =>
    rw [List.map_cons] at nd h
    obtain ⟨n1, n2⟩ := List.nodup_cons.mp nd
    unfold putN
    rw [List.map_cons]
    by_cases e : p.1 = M
    · rw [if_pos e, if_pos e]
      congr 1
      have : ∀ q ∈ r, (fun q : List Nat × Nat => if q.1 = M then (q.1, z) else q) q = id q := fun q hq => if_neg fun e2 => n1 (by rw [e, ← e2]; exact List.mem_map.mpr ⟨q, hq, rfl⟩)
      rw [List.map_congr_left this, List.map_id]
    · rw [if_neg e, if_neg e, ih n2 ((List.mem_cons.mp h).resolve_left fun e2 => e e2.symm)]
theorem put_enc {kvs : List (List Nat × Nat)} (nd : (kvs.map (·.1)).Nodup) (M : List Nat) (z : Nat) : L2.putK (encT kvs) (encK M) (V.int (z : Nat)) = encT (putN kvs M z) := by
  unfold L2.putK
  rw [any_enc]
  by_cases h : M ∈ kvs.map (·.1)
  · rw [decide_eq_true h, if_pos rfl, put_old nd h]
    unfold encT
    rw [List.map_map, List.map_map]
    refine List.map_congr_left fun p _ => ?_
    show (if encK p.1 = encK M then (encK p.1, V.int (z : Nat)) else (encK p.1, V.int (p.2 : Nat))) = (encK (if p.1 = M then (p.1, z) else p).1, V.int ((if p.1 = M then (p.1, z) else p).2 : Nat))
    by_cases e : p.1 = M
    · rw [if_pos (by rw [e]), if_pos e]
    · rw [if_neg (fun x => e (encK_inj x)), if_neg e]
  · rw [decide_eq_false h, if_neg Bool.false_ne_true, put_new h]
    unfold encT
    rw [List.map_append]; rfl
theorem put_keys (kvs : List (List Nat × Nat)) (M : List Nat) (z : Nat) : ∀ p ∈ putN kvs M z, p.1 = M ∨ p.1 ∈ kvs.map (·.1) := by
  induction kvs with
  | nil => intro p hp; rw [List.mem_singleton.mp hp]; exact .inl rfl
  | cons q r ih =>
    intro p hp
    unfold putN at hp
    by_cases e : q.1 = M
    · rw [if_pos e] at hp
      rcases List.mem_cons.mp hp with rfl | hp
      · exact .inl e
      · exact .inr (List.mem_cons_of_mem _ (List.mem_map.mpr ⟨p, hp, rfl⟩))
    · rw [if_neg e] at hp
      rcases List.mem_cons.mp hp with rfl | hp
      · exact .inr List.mem_cons_self
      · rcases ih p hp with h | h
        · exact .inl h
        · exact .inr (List.mem_cons_of_mem _ h)
theorem put_nodup {kvs : List (List Nat × Nat)} (nd : (kvs.map (·.1)).Nodup) (M : List Nat) (z : Nat) : ((putN kvs M z).map (·.1)).Nodup := by
  induction kvs with
  | nil => exact List.nodup_cons.mpr ⟨by simp, List.nodup_nil⟩
  | cons q r ih =>
    rw [List.map_cons] at nd
    obtain ⟨n1, n2⟩ := List.nodup_cons.mp nd
    unfold putN
    by_cases e : q.1 = M
    · rw [if_pos e, List.map_cons]; exact List.nodup_cons.mpr ⟨n1, n2⟩
    · rw [if_neg e, List.map_cons]
      refine List.nodup_cons.mpr ⟨fun h => ?_, ih n2⟩
      obtain ⟨p, hp, e2⟩ := List.mem_map.mp h
      rcases put_keys r M z p hp with h | h
      · exact e (by rw [← e2, h])
      · exact n1 (e2 ▸ h)
theorem put_len (kvs : List (List Nat × Nat)) (M : List Nat) (z : Nat) : (putN kvs M z).length ≤ kvs.length + 1 := by
  induction kvs with
  | nil => exact Nat.le_refl _
  | cons q r ih =>
    unfold putN
    split
    · exact Nat.le_succ _
    · rw [List.length_cons, List.length_cons]; omega
theorem sum_put {kvs : List (List Nat × Nat)} (nd : (kvs.map (·.1)).Nodup) (M : List Nat) (w : Nat) (f : List Nat → Nat) : sumN (putN kvs M (getN kvs M + w)) f = sumN kvs f + w * f M := by
  induction kvs with
  | nil =>
    show (0 + w) * f M + 0 = 0 + w * f M
    rw [Nat.zero_add, Nat.zero_add, Nat.add_zero]
  | cons q r ih =>
    rw [List.map_cons] at nd
    obtain ⟨n1, n2⟩ := List.nodup_cons.mp nd
    unfold getN
    rw [find_cons]
    unfold putN
    by_cases e : q.1 = M
    · rw [if_pos e, if_pos e]
      show (q.2 + w) * f q.1 + sumN r f = q.2 * f q.1 + sumN r f + w * f M
      rw [e, Nat.add_mul]; omega
    · rw [if_neg e, if_neg e]
      show q.2 * f q.1 + sumN (putN r M (getN r M + w)) f = q.2 * f q.1 + sumN r f + w * f M
      rw [ih n2]; omega
theorem sum_get {kvs : List (List Nat × Nat)} (nd : (kvs.map (·.1)).Nodup) (M : List Nat) : sumN kvs (fun L => if L = M then 1 else 0) = getN kvs M := by
  induction kvs with
  | nil => rfl
  | cons q r ih =>
    rw [List.map_cons] at nd
    obtain ⟨n1, n2⟩ := List.nodup_cons.mp nd
    unfold getN
    rw [find_cons]
    have e0 : sumN (q :: r) (fun L => if L = M then 1 else 0) = q.2 * (if q.1 = M then 1 else 0) + sumN r (fun L => if L = M then 1 else 0) := rfl
    rw [e0, ih n2]
    by_cases e : q.1 = M
    · rw [if_pos e, if_pos e]
      unfold getN
      rw [find_none (by rw [← e]; exact n1)]
      show q.2 * 1 + 0 = q.2
      omega
    · rw [if_neg e, if_neg e]
      show q.2 * 0 + getN r M = getN r M
      omega
/-! the sums -/
def partN (rs : List (List Nat)) (f : List Nat → Nat) (L : List Nat) (r : Nat) : Nat := (((List.range r).filter fun k => okN rs k L).map fun k => f (sortN (L ++ [k]))).sum
theorem part_succ (rs : List (List Nat)) (f : List Nat → Nat) (L : List Nat) (r : Nat) : partN rs f L (r + 1) = partN rs f L r + if okN rs r L = true then f (sortN (L ++ [r])) else 0 := by
  unfold partN
  rw [List.range_succ, List.filter_append, List.map_append, List.sum_append_nat]
  congr 1
  by_cases h : okN rs r L = true
  · rw [if_pos h, List.filter_cons_of_pos (p := fun k => okN rs k L) h]; rfl
  · rw [if_neg h, List.filter_cons_of_neg (p := fun k => okN rs k L) h]; rfl
theorem part_sort (rs : List (List Nat)) (f : List Nat → Nat) (o : List Nat) (n : Nat) : partN rs f (sortN o) n = ((outN rs n o).map fun p => f (sortN p)).sum := by
  unfold partN outN
  rw [List.map_map, List.filter_congr (fun k _ => okN_perm (sortN_perm o))]
  congr 1
  refine List.map_congr_left fun k _ => ?_
  show f (sortN (sortN o ++ [k])) = f (sortN (o ++ [k]))
  rw [sortN_congr ((sortN_perm o).append_right [k])]
theorem sum_flat {α β : Type} (g : α → List β) (h : β → Nat) : ∀ l : List α, ((l.flatMap g).map h).sum = (l.map fun a => ((g a).map h).sum).sum
  | [] => rfl
  | a :: l => by rw [List.flatMap_cons, List.map_append, List.sum_append_nat, sum_flat g h l, List.map_cons, List.sum_cons]
structure KI (rs : List (List Nat)) (n i : Nat) (kvs : List (List Nat × Nat)) : Prop where
  nd : (kvs.map (·.1)).Nodup
  len : kvs.length ≤ n ^ i
  key : ∀ p ∈ kvs, p.1.length = i ∧ ∀ k ∈ p.1, k < n
  sum : ∀ f : List Nat → Nat, sumN kvs f = ((seqsM rs n i).map fun o => f (sortN o)).sum
theorem ki_0 (rs : List (List Nat)) (n : Nat) : KI rs n 0 [([], 1)] := ⟨List.nodup_cons.mpr ⟨by simp, List.nodup_nil⟩, Nat.le_refl _, fun p hp => by rw [List.mem_singleton.mp hp]; exact ⟨rfl, fun k h => absurd h (by simp)⟩, fun f => by
  have : seqsM rs n 0 = [[]] := by
    show ([[]] : List (List Nat)).filter _ = [[]]
    rw [List.filter_cons_of_pos (p := fun o => rs.all fun r => holdsB r o) (List.all_eq_true.mpr fun r _ => rfl)]; rfl
  rw [this]
  show 1 * f [] + 0 = f (sortN []) + 0
  rw [show sortN [] = [] from (sortN_perm []).eq_nil]; omega⟩
structure LI (rs : List (List Nat)) (n i : Nat) (kvs : List (List Nat × Nat)) (j r : Nat) (lvs : List (List Nat × Nat)) : Prop where
  nd : (lvs.map (·.1)).Nodup
  len : lvs.length ≤ j * n + r
  key : ∀ p ∈ lvs, p.1.length = i + 1 ∧ ∀ k ∈ p.1, k < n
  sum : ∀ f : List Nat → Nat, sumN lvs f = sumN (kvs.take j) (fun L => partN rs f L n) + match kvs[j]? with | some p => p.2 * partN rs f p.1 r | none => 0
theorem li_0 (rs : List (List Nat)) (n i : Nat) (kvs : List (List Nat × Nat)) : LI rs n i kvs 0 0 [] := ⟨List.nodup_nil, Nat.zero_le _, fun p h => absurd h (by simp), fun f => by
  rw [List.take_zero]
  show 0 = 0 + _
  cases kvs[0]? with
  | none => rfl
  | some p => show 0 = 0 + p.2 * 0; omega⟩
theorem LI.skip {rs n i kvs j r lvs} {p : List Nat × Nat} (h : LI rs n i kvs j r lvs) (hp : kvs[j]? = some p) (hk : okN rs r p.1 = false) : LI rs n i kvs j (r + 1) lvs := ⟨h.nd, by have := h.len; omega, h.key, fun f => by
  rw [h.sum f, hp]
  show _ + p.2 * partN rs f p.1 r = _ + p.2 * partN rs f p.1 (r + 1)
  rw [part_succ, if_neg (by rw [hk]; decide), Nat.add_zero]⟩
theorem LI.put {rs n i kvs j r lvs} {p : List Nat × Nat} (h : LI rs n i kvs j r lvs) (ki : KI rs n i kvs) (hr : r < n) (hp : kvs[j]? = some p) (hk : okN rs r p.1 = true) : LI rs n i kvs j (r + 1) (putN lvs (sortN (p.1 ++ [r])) (getN lvs (sortN (p.1 ++ [r])) + p.2)) := by
  obtain ⟨k1, k2⟩ := ki.key p (List.mem_of_getElem? hp)
  refine ⟨put_nodup h.nd _ _, ?_, fun q hq => ?_, fun f => ?_⟩
  · have := put_len lvs (sortN (p.1 ++ [r])) (getN lvs (sortN (p.1 ++ [r])) + p.2)
    have := h.len
    omega
  · rcases put_keys _ _ _ q hq with e | e
    · rw [e]
      refine ⟨by rw [(sortN_perm _).length_eq, List.length_append, k1]; rfl, fun k hk => ?_⟩
      rcases List.mem_append.mp ((sortN_perm _).subset hk) with hk | hk
      · exact k2 k hk
      · rw [List.mem_singleton.mp hk]; exact hr
    · obtain ⟨q', hq', e2⟩ := List.mem_map.mp e
      have := h.key q' hq'
      rw [e2] at this
      exact this
  · rw [sum_put h.nd, h.sum f, hp]
    show _ + p.2 * partN rs f p.1 r + p.2 * f (sortN (p.1 ++ [r])) = _ + p.2 * partN rs f p.1 (r + 1)
    rw [part_succ, if_pos hk, Nat.mul_add]; omega
theorem LI.next {rs n i kvs j lvs} {p : List Nat × Nat} (h : LI rs n i kvs j n lvs) (hp : kvs[j]? = some p) : LI rs n i kvs (j + 1) 0 lvs := ⟨h.nd, by have := h.len; rw [Nat.add_mul]; omega, h.key, fun f => by
  have hs := h.sum f
  rw [hp] at hs
  have hs : sumN lvs f = sumN (kvs.take j) (fun L => partN rs f L n) + p.2 * partN rs f p.1 n := hs
  rw [hs]
  have e : sumN (kvs.take (j + 1)) (fun L => partN rs f L n) = sumN (kvs.take j) (fun L => partN rs f L n) + p.2 * partN rs f p.1 n := by
    unfold sumN
    rw [List.take_add_one, hp, List.map_append, List.sum_append_nat]; rfl
  rw [e]
  cases kvs[j + 1]? with
  | none => rfl
  | some q => show _ = _ + q.2 * 0; rw [Nat.mul_zero, Nat.add_zero]⟩
theorem LI.done {rs n i kvs lvs} (hr : ∀ r ∈ rs, RowOk r n) (ki : KI rs n i kvs) (h : LI rs n i kvs kvs.length 0 lvs) : KI rs n (i + 1) lvs := ⟨h.nd, by
    have := h.len
    have h2 := Nat.mul_le_mul_right n ki.len
    rw [Nat.pow_succ]
    omega, h.key, fun f => by
  rw [h.sum f, List.getElem?_eq_none (Nat.le_refl _), List.take_length, ki.sum, seqs_succ hr, sum_flat]
  show _ + 0 = _
  rw [Nat.add_zero]
  congr 1
  exact List.map_congr_left fun o _ => part_sort rs f o n⟩
theorem ki_end {rs : List (List Nat)} {n : Nat} {kvs : List (List Nat × Nat)} (h : KI rs n n kvs) : getN kvs (List.range n) = (fittersM rs n).length := by
  rw [← sum_get h.nd, h.sum]
  show ((fittersM rs n).map _).sum = _
  have : ∀ o ∈ fittersM rs n, (fun o => if sortN o = List.range n then 1 else 0) o = (fun _ => 1) o := fun o ho => if_pos (inc_eq (sortN_inc o) (List.pairwise_lt_range.imp fun {a b} h => Nat.le_of_lt h) ((sortN_perm o).trans (fitters_mem.mp ho).1))
  rw [List.map_congr_left this, List.map_const', List.sum_replicate_nat, Nat.mul_one]
theorem ei_rowsR {K : PySem.W.Frag} {ta : TE} {Γ : Gam} {b : Bool} {rs : List (List Nat)} (ha : Ev ta Γ (rowsD b rs)) : Ei (iAnyR K ta) Γ (rs.map fun r => D.str (tx r)) := by
  cases b with
  | true => exact ej_list (Ev.b (ds := nameD rs) ha)
  | false => exact ej_tup ha
theorem ch_same {a b : Nat} : decide (ch a = ch b) = decide (a = b) := decide_eq_decide.mpr ⟨fun h => by
  have := congrArg (fun s : Str => s.cps.toList) h
  have e : [a] = [b] := this
  injection e, fun h => by rw [h]⟩
def spMay : Spc where
  ty := Nat × List Nat × List (List Nat) × Nat × Bool
  args := fun x => [.int x.1, .tup (ordD x.2.1), rowsD x.2.2.2.2 x.2.2.1]
  ok := fun x => (∀ r ∈ x.2.2.1, RowOk r x.2.2.2.1) ∧ x.2.2.2.1 ≤ 8 ∧ x.2.2.1.length ≤ 1000 ∧ x.1 < x.2.2.2.1 ∧ x.2.1.length ≤ 8 ∧ ∀ k ∈ x.2.1, k < x.2.2.2.1
  rel := fun x d => d = .bl (mayB x.2.2.1 x.1 x.2.1)
def spCnt : Spc where
  ty := List (List Nat) × Nat × Bool
  args := fun x => [rowsD x.2.2 x.1, .int x.2.1]
  ok := fun x => (∀ r ∈ x.1, RowOk r x.2.1) ∧ x.2.1 ≤ 8 ∧ x.1.length ≤ 1000
  rel := fun x d => d = .int (fittersM x.1 x.2.1).length
theorem may_filt (rs : List (List Nat)) (k : Nat) (o : List Nat) : ((rs.filter fun r => decide (sgn r k = 45)).map fun r => decide (43 ∈ o.map (sgn r))).all id = mayB rs k o := by
  unfold mayB
  rw [Bool.eq_iff_iff, List.all_eq_true, List.all_eq_true]
  have e : ∀ r : List Nat, (o.any fun j => decide (sgn r j = 43)) = decide (43 ∈ o.map (sgn r)) := fun r => by
    rw [Bool.eq_iff_iff, List.any_eq_true, decide_eq_true_eq, List.mem_map]
    exact exists_congr fun j => and_congr Iff.rfl decide_eq_true_iff
  constructor
  · intro h r hr
    by_cases z : sgn r k = 45
    · rw [decide_eq_true z, e]
      have := h _ (List.mem_map.mpr ⟨r, List.mem_filter.mpr ⟨hr, decide_eq_true z⟩, rfl⟩)
      exact this
    · rw [decide_eq_false z]; rfl
  · intro h b hb
    obtain ⟨r, hr, rfl⟩ := List.mem_map.mp hb
    obtain ⟨h1, h2⟩ := List.mem_filter.mp hr
    have := h r h1
    rw [h2, e] at this
    exact this
end K61

namespace K61
open PySem PySem.Spec PyProof.Rows L2 Dw
theorem d_may_follow {P : Program} {w : World} {K : PySem.W.Frag} {mg : Str → Option Value} {base : Heap} (T : Txt K w mg) : FnOk P w K mg base CX0 1 T.f_may_follow T.e_may_follow ["rule", "lot", "rows"] (toSp (spMay)) := by
  refine fn_ok T.F_may_follow sc_may_follow (fun _ => rfl) fun cdv A outer s' H E hr => ?_
  refine ⟨_, (pss_one (ps_ret (pe_callB (allA K) (by rfl) T.n_all (by decide +kernel) (pa_cons (pe_lc (own := [("row", 3)]) rfl sc_may_follow.nd (piR K (pv 2)) (blkOk_by (own := [("row", 3)]) (N := N_may_follow) (sc := (defScope s_may_follow)) (by decide +kernel)) (fun _ _ _ _ _ => pg_name (i := 3) sc_may_follow.nd rfl (Or.inr rfl)) (fun _ _ _ _ _ => pts_one (pt_cmpR (eqA K hr.units) (pe_ix (ixA K) (pv 3) (pv 0) (fun _ _ => rfl)) pe_str (nomark _))) (fun _ _ _ _ _ => (pe_cmpR (inA K) pe_str (pe_lc (own := [("one", 4)]) rfl sc_may_follow.nd (piR K (pv 1)) (blkOk_by (own := [("one", 4)]) (N := N_may_follow) (sc := (relS { kind := .function, names := [(".0", .local), ("row", .cell), ("lot", .free), ("rule", .free)], isGenerator := false, isCoroutine := false, more := [] } (defScope s_may_follow))) (by decide +kernel)) (fun _ _ _ _ _ => pg_name (i := 4) sc_may_follow.nd rfl (Or.inl rfl)) (fun _ _ _ _ _ => pts_nil) (fun _ _ _ _ _ => (pe_ix (ixA K) (pv 3) (pv 4) (fun _ _ => rfl)))) (by rfl)))) pa_nil)))), fun x hx => ?_⟩
  obtain ⟨k, o, rs, n, b⟩ := x
  obtain ⟨hr', h8, hz, hk, ol, ok⟩ := hx
  have hr' : ∀ r ∈ rs, RowOk r n := hr'
  have h8 : n ≤ 8 := h8
  have hz : rs.length ≤ 1000 := hz
  have hk : k < n := hk
  have ol : o.length ≤ 8 := ol
  have ok : ∀ k ∈ o, k < n := ok
  refine ds_ret (Ev.dl (ev_all (bs := (rs.filter fun r => decide (sgn r k = 45)).map fun r => decide (43 ∈ o.map (sgn r))) (EvN.b ?lc)) (congrArg D.bl (may_filt rs k o)))
  rw [List.map_map]
  refine evn_lc (xs := rs) (c := fun r => .str (tx r)) (p := fun r => decide (sgn r k = 45)) (f := fun r => .bl (decide (43 ∈ o.map (sgn r)))) (ei_rowsR (ev_var (d := rowsD b rs) rfl)) (by omega) fun r hr => ⟨[3], _, dg_name, fun i hi => hi, ?t, fun _ => ?e⟩
  case t => exact evt_test (ev_op (sgn_ev (hr' r hr) h8 hk (ev_var rfl) (ev_var rfl)) ev_str (by rw [ch_minus]; exact eq_sb ch_same))
  case e =>
    refine ev_in_ch (c := 43) (l := o.map (sgn r)) ch_plus (EvN.b ?_)
    have e : chD (o.map (sgn r)) = o.map fun j => D.str (ch (sgn r j)) := by unfold chD; rw [List.map_map]; rfl
    rw [e]
    exact evn_lc1 (xs := o) (c := fun j : Nat => D.int j) (ej_tup (ev_var (d := .tup (ordD o)) rfl)) (by omega) fun j hj => ⟨[4], _, dg_name, fun i hi => hi, evt_yes, sgn_ev (hr' r hr) h8 (ok j hj) (ev_var rfl) (ev_var rfl)⟩
end K61

namespace K61
open PySem PySem.Spec PyProof.Rows L2 Dw
open L2 (upd upd_same upd_ne) in
theorem gset {Γ : Gam} {i j : Nat} {s t : Sl} (h : Γ[j]? = some t) (hij : i ≠ j := by decide) : (Γ.set i s)[j]? = some t := by rw [List.getElem?_set_ne hij]; exact h
theorem gself {Γ : Gam} {i n : Nat} {s : Sl} (hl : Γ.length = n) (hi : i < n := by decide) : (Γ.set i s)[i]? = some s := List.getElem?_set_self (by rw [hl]; exact hi)
theorem glen {Γ : Gam} {i n : Nat} {s : Sl} (hl : Γ.length = n) : (Γ.set i s).length = n := by rw [List.length_set]; exact hl
theorem find_at {kvs : List (List Nat × Nat)} (nd : (kvs.map (·.1)).Nodup) {j : Nat} {p : List Nat × Nat} (h : kvs[j]? = some p) : findN kvs p.1 = some p.2 := by
  have hm := List.mem_of_getElem? h
  clear h
  induction kvs with
  | nil => cases hm
  | cons q r ih =>
    rw [List.map_cons] at nd
    obtain ⟨n1, n2⟩ := List.nodup_cons.mp nd
    rw [find_cons]
    rcases List.mem_cons.mp hm with rfl | hm
    · rw [if_pos rfl]
    · rw [if_neg (fun e => n1 (by rw [e]; exact List.mem_map.mpr ⟨p, hm, rfl⟩)), ih n2 hm]
theorem val_getD (kvs : List (List Nat × Nat)) (M : List Nat) : (L2.valV (encT kvs) (encK M)).getD (V.int 0) = V.int (getN kvs M : Nat) := by
  rw [val_enc]
  unfold getN
  cases findN kvs M <;> rfl
theorem enc_at {kvs : List (List Nat × Nat)} {j : Nat} {key : List L2.Key} {x : V} (h : (encT kvs)[j]? = some (key, x)) : ∃ p, kvs[j]? = some p ∧ key = encK p.1 ∧ x = V.int (p.2 : Nat) := by
  unfold encT at h
  rw [List.getElem?_map] at h
  cases q : kvs[j]? with
  | none => rw [q] at h; cases h
  | some p => rw [q] at h; cases h; exact ⟨p, rfl, rfl, rfl⟩
theorem enc_len (kvs : List (List Nat × Nat)) : (encT kvs).length = kvs.length := List.length_map ..
theorem puts_few {n i j r kl ll : Nat} (h8 : n ≤ 8) (hi : i < n) (hk : kl ≤ n ^ i) (hj : j < kl) (hr : r < n) (hl : ll ≤ j * n + r) : ll < sizeLine := by
  have h1 : j * n + n ≤ n ^ (i + 1) := by
    have := Nat.mul_le_mul_right n (show j + 1 ≤ n ^ i by omega)
    rw [Nat.succ_mul] at this
    rw [Nat.pow_succ]; exact this
  have h2 : n ^ (i + 1) ≤ 8 ^ 8 := Nat.le_trans (Nat.pow_le_pow_left h8 _) (Nat.pow_le_pow_right (by decide) (by omega))
  have h3 : 8 ^ 8 = sizeLine := by decide
  omega
structure OI (W0 : Wd) (rs : List (List Nat)) (n : Nat) (b : Bool) (i : Nat) (Γ : Gam) (U : Addr → Prop) (a : Addr) (kvs : List (List Nat × Nat)) (σ : L2.St) (H : Hp) : Prop where
  g : SP Γ σ H U
  no : NO Γ
  gl : Γ.length = 8
  e0 : Γ[0]? = some (.val (rowsD b rs))
  e1 : Γ[1]? = some (.val (.int n))
  e2 : Γ[2]? = some (.val (.raw (.ref a)))
  ua : U a
  ha : H a = some (.dT (encT kvs))
  uu : ∀ c, U c → ∃ u, H c = some (.dT u)
  un : ∀ c, U c → W0.H c = none
  s0 : Same W0.H H
  ki : KI rs n i kvs
structure MI (W0 : Wd) (rs : List (List Nat)) (n : Nat) (b : Bool) (i : Nat) (U : Addr → Prop) (a bb : Addr) (kvs : List (List Nat × Nat)) (od : Obj) (Γ : Gam) (lvs : List (List Nat × Nat)) (σ : L2.St) (H : Hp) : Prop where
  g : SP Γ σ H U
  no : NO Γ
  gl : Γ.length = 8
  e0 : Γ[0]? = some (.val (rowsD b rs))
  e1 : Γ[1]? = some (.val (.int n))
  e2 : Γ[2]? = some (.val (.raw (.ref a)))
  e4 : Γ[4]? = some (.val (.raw (.ref bb)))
  ha : H a = some (.frz od (.dT (encT kvs)))
  hb : H bb = some (.dT (encT lvs))
  uu : ∀ c, U c → c ≠ a → ∃ u, H c = some (.dT u)
  s0 : Same W0.H H
theorem MI.same {W0 rs n b i U a bb kvs od Γ lvs σ H H'} (m : MI W0 rs n b i U a bb kvs od Γ lvs σ H) (s : Same H H') : MI W0 rs n b i U a bb kvs od Γ lvs σ H' :=
  ⟨m.g.same' s, m.no, m.gl, m.e0, m.e1, m.e2, m.e4, s _ _ m.ha, s _ _ m.hb, fun c u ne => let ⟨u, e⟩ := m.uu c u ne; ⟨u, s _ _ e⟩, Same.trans m.s0 s⟩
theorem MI.set {W0 rs n b i U a bb kvs od Γ lvs σ H} (m : MI W0 rs n b i U a bb kvs od Γ lvs σ H) (k : Nat) {d : D} {v : V} (r : Rep (PW H U) d v) (h5 : 5 ≤ k := by decide) : MI W0 rs n b i U a bb kvs od (Γ.set k (.val d)) lvs (σ.set k (some v)) H :=
  ⟨SR.set m.g r, m.no.set k d, glen m.gl, gset m.e0 (by omega), gset m.e1 (by omega), gset m.e2 (by omega), gset m.e4 (by omega), m.ha, m.hb, m.uu, m.s0⟩
theorem spRef {Γ : Gam} {σ : L2.St} {H : Hp} {U : Addr → Prop} {i : Nat} {c : Addr} (g : SP Γ σ H U) (e : Γ[i]? = some (.val (.raw (.ref c)))) : σ[i]? = some (some (V.ref c)) := by
  obtain ⟨v, h, r⟩ := g.val i _ e
  rw [h, show v = V.ref c from r]
theorem spInt {Γ : Gam} {σ : L2.St} {H : Hp} {U : Addr → Prop} {i : Nat} {z : Int} (g : SP Γ σ H U) (e : Γ[i]? = some (.val (.int z))) : σ[i]? = some (some (V.int z)) := by
  obtain ⟨v, h, r⟩ := g.val i _ e
  rw [h, show v = V.int z from r]
theorem MI.key {W0 rs n b i U a bb kvs od Γ lvs σ H} (m : MI W0 rs n b i U a bb kvs od Γ lvs σ H) {q : Addr} {L : List Nat} (hq : H q = some (.tup ((encK L).map L2.kV))) : Rep (PW H U) (.tup (ordD L)) (V.ref q) := by
  refine ⟨q, L.map fun k : Nat => V.int k, rfl, .mk (by rw [← encK_kV]; exact hq), fun u => ?_, ord_repL L⟩
  by_cases e : q = a
  · have := m.ha
    rw [← e] at this
    exact absurd (hq.symm.trans this) (fun z => nomatch z)
  · obtain ⟨w, hw⟩ := m.uu q u e
    exact absurd (hq.symm.trans hw) (fun z => nomatch z)
theorem MI.put {W0 rs n b i U a bb kvs od Γ lvs σ H} (m : MI W0 rs n b i U a bb kvs od Γ lvs σ H) (ub : U bb) (nb : W0.H bb = none) (ne : a ≠ bb) (lvs' : List (List Nat × Nat)) : MI W0 rs n b i U a bb kvs od Γ lvs' σ (L2.upd H bb (.dT (encT lvs'))) := by
  have up : ∀ c u, c ≠ bb → H c = some u → L2.upd H bb (.dT (encT lvs')) c = some u := fun c u h e => by rw [L2.upd_ne h]; exact e
  refine ⟨m.g.move m.no (fun c u => ?_) (fun c u e nu => ⟨up c u (fun z => nu (by rw [z]; exact ub)) e, nu⟩), m.no, m.gl, m.e0, m.e1, m.e2, m.e4, up _ _ ne m.ha, L2.upd_same, fun c u na => ?_, fun c u e => up c u (fun z => by rw [z, nb] at e; cases e) (m.s0 c u e)⟩
  · by_cases h : c = bb
    · rw [h, L2.upd_same]; exact fun z => nomatch z
    · rw [L2.upd_ne h]; exact m.g.ok.dom c u
  · by_cases h : c = bb
    · exact ⟨_, by rw [h, L2.upd_same]⟩
    · obtain ⟨w, hw⟩ := m.uu c u na
      exact ⟨w, up c _ h hw⟩
end K61

namespace K61
open PySem PySem.Spec PyProof.Rows L2 Dw
theorem d_count_rankings {P : Program} {w : World} {K : PySem.W.Frag} {mg : Str → Option Value} {base : Heap} (T : Txt K w mg) : FnOk P w K mg base CX0 2 T.f_count_rankings T.e_count_rankings ["rows", "many"] (toSp (spCnt)) := by
  refine fn_ok T.F_count_rankings sc_count_rankings (fun _ => rfl) fun cdv A outer s' H E hr => ?_
  refine ⟨_, (pss_cons (ps_set (i := 2) sc_count_rankings.nd rfl (Or.inl rfl) (pe_dispT1 (hu_of hr) (pe_tup pa_nil) pe_int)) (pss_cons (ps_for PassesOwn.never rfl (pi_range1 (by rfl) T.n_range (pa_cons (pv 1) pa_nil)) (pg_name (i := 3) sc_count_rankings.nd rfl (Or.inl rfl)) (pss_cons (ps_set (i := 4) sc_count_rankings.nd rfl (Or.inl rfl) pe_dnewT) (pss_cons (ps_lock (ps_for PassesOwn.never rfl (pi_keys (pv 2)) (pg_name (i := 5) sc_count_rankings.nd rfl (Or.inl rfl)) (pss_one (ps_for PassesOwn.never rfl (pi_range1 (by rfl) T.n_range (pa_cons (pv 1) pa_nil)) (pg_name (i := 6) sc_count_rankings.nd rfl (Or.inl rfl)) (pss_one (ps_if (PW.pt (pw_and (pt_cmpR (ninA K) (pv 6) (pv 5) (by rfl)) (pw_and1 (truA K (pe_call (d_may_follow T) (hr.mono (by decide)) (by rfl) T.m_may_follow T.F_may_follow.kp T.b_may_follow .nil pass0 (pa_cons (pv 6) (pa_cons (pv 5) (pa_cons (pv 0) pa_nil)))))))) (pss_cons (ps_set (i := 7) sc_count_rankings.nd rfl (Or.inl rfl) (pe_callTy (tupleA K) (by rfl) T.n_tuple (by decide +kernel) (pa_cons (pe_callB (sortedA K) (by rfl) T.n_sorted (by decide +kernel) (pa_cons (pe_lst (starA K (pv 5) (pa_cons (pv 6) pa_nil))) pa_nil)) pa_nil))) (pss_one (ps_asg (pe_op (plusE K) (pe_dget2 (hu_of hr) (pv 4) (pv 7) pe_int ⟨by rfl, by rfl, by rfl, by rfl⟩) (pe_dget (hu_of hr) (pv 2) (pv 5) (fun _ _ => rfl))) (pg_sub (pv 4) (pv 7) (set_dict (hu_of hr)))))) pss_nil)))))) (pss_one (ps_set (i := 2) sc_count_rankings.nd rfl (Or.inl rfl) (pv 4)))))) (pss_one (ps_ret (pe_dget2 (hu_of hr) (pv 2) (pe_tupRg rfl (by rfl) T.n_tuple (prg_1 (by rfl) T.n_range (pv 1))) pe_int ⟨by rfl, by rfl, by rfl, by rfl⟩))))), fun x hx => ?_⟩
  obtain ⟨rs, n, b⟩ := x
  obtain ⟨hr', h8, hz⟩ := hx
  have hr' : ∀ r ∈ rs, RowOk r n := hr'
  have h8 : n ≤ 8 := h8
  have hz : rs.length ≤ 1000 := hz
  intro F σ0 W0 Dr g l
  have no0 : NO (Gz0 8 (spCnt.args (rs, n, b))) := fun i ds e => by
    match i, e with
    | 0, e => cases e
    | 1, e => cases e
    | 2, e => cases e
    | 3, e => cases e
    | 4, e => cases e
    | 5, e => cases e
    | 6, e => cases e
    | 7, e => cases e
    | i + 8, e => cases e
  have np0 : ∀ (i : Nat) (d : D), (Gz0 8 (spCnt.args (rs, n, b)))[i]? = some (.val d) → noP d = true := fun i d e => by
    match i, e with
    | 0, e =>
      cases e
      have := np_rd (b := b) (o := rs) (r := []) rfl
      show noP (rowsD b rs) = true
      have h : (noP (rowsD b rs) && true) = true := this
      rw [Bool.and_true] at h; exact h
    | 1, e => cases e; rfl
    | 2, e => cases e
    | 3, e => cases e
    | 4, e => cases e
    | 5, e => cases e
    | 6, e => cases e
    | 7, e => cases e
    | i + 8, e => cases e
  have fin : ∀ (z : Nat) (H : Hp), Same W0.H H → z = (fittersM rs n).length → Dr.rt (V.int (z : Nat)) H := fun z H s e => l.rt _ (W0.at H) (.int z) (Stp.of_same g.ok s) (g.ok.same s) rfl (congrArg (fun z : Nat => D.int z) e)
  refine fun a ha => ?_
  have ga : SP (Gz0 8 (spCnt.args (rs, n, b))) σ0 (L2.upd W0.H a (.dT [])) (fun c => c = a) := sp_mk (fun c h => by rw [h, L2.upd_same]; exact fun z => nomatch z) g.len (fun i d e => by
    obtain ⟨v, e1, r⟩ := g.val i d e
    exact ⟨v, e1, Rep.mono (W := ⟨W0.H, W0.U, fun _ => False⟩) (W' := PW (L2.upd W0.H a (.dT [])) (fun c => c = a)) (fun c u (h : W0.H c = some u) nu => ⟨same_upd ha c u h, fun z => by rw [show c = a from z, ha] at h; cases h⟩) (fun _ h => h) d v (Rep.delP d v (np0 i d e) r)⟩) no0
  refine (evx_tup eva_nil (Nat.zero_le _)) NoF σ0 (PW _ _) _ ga fun q vs H1 s1 hq nu rl => ?_
  obtain rfl : vs = [] := rl
  have ha1 : H1 a = some (.dT []) := s1 a _ L2.upd_same
  refine ⟨q, [], rfl, ha1, hq, ?_⟩
  have gb : SP (Gz0 8 (spCnt.args (rs, n, b))) σ0 (L2.upd H1 a (.dT [([], V.int 1)])) (fun c => c = a) := (ga.same' s1).move no0 (fun c h => by rw [h, L2.upd_same]; exact fun z => nomatch z) fun c u h nu => ⟨by rw [L2.upd_ne nu]; exact h, nu⟩
  refine for_rng1 (n := n) (spInt (i := 1) (SR.set gb (d := .raw (.ref a)) (v := V.ref a) (i := 2) rfl) (gset rfl)) (by omega) (fun i σ H => ∃ Γ U a kvs, OI W0 rs n b i Γ U a kvs σ H) ⟨_, _, a, [([], 1)], SR.set gb (d := .raw (.ref a)) rfl, no0.set 2 _, rfl, gset rfl, gset rfl, gself (n := 8) rfl, rfl, L2.upd_same, fun c h => ⟨encT [([], 1)], by rw [h, L2.upd_same]; rfl⟩, fun c h => by rw [h]; exact ha, fun c u h => ?s0, ki_0 rs n⟩ ?step ?fin
  case s0 =>
    rw [L2.upd_ne (fun z => by rw [z, ha] at h; cases h)]
    exact s1 _ _ (same_upd ha c u h)
  case fin =>
    rintro σ H ⟨Γ, U, a, kvs, m⟩
    refine ⟨V.ref a, (spRef m.g m.e2), a, rfl, .inr ⟨_, .inl m.ha⟩, ?_⟩
    refine (evx_tupRg (ev_var m.e1) (by omega)) NoF σ (PW H U) _ m.g fun q vs H1 s1 hq nu rl => ?_
    have hq : H1 q = some (.tup ((encK (List.range n)).map L2.kV)) := by rw [encK_kV, ← repL_ord rl]; exact hq
    refine ⟨_, L2.DGet.t (s1 _ _ m.ha) hq, ?_⟩
    rw [val_getD]
    exact fin _ H1 (Same.trans m.s0 s1) (ki_end m.ki)
  case step =>
    rintro i σ H E hi ⟨Γ, U, a, kvs, m⟩ hE
    refine fun bb hbb => ?_
    have ne : a ≠ bb := fun z => by have := m.ha; rw [z, hbb] at this; cases this
    have nU : ¬ U bb := fun z => by obtain ⟨u, hu⟩ := m.uu bb z; rw [hbb] at hu; cases hu
    have n0 : W0.H bb = none := by
      cases q : W0.H bb with
      | none => rfl
      | some u => have := m.s0 bb u q; rw [hbb] at this; cases this
    have g1 : SP ((Γ.set 3 (.val (.int i))).set 4 (.val (.raw (.ref bb)))) ((σ.set 3 (some (V.int i))).set 4 (some (V.ref bb))) (L2.upd H bb (.dT [])) (fun c => U c ∨ c = bb) := by
      refine SR.set (d := .raw (.ref bb)) (SP.move (H := H) (U := U) (SR.set (d := .int i) m.g rfl) (m.no.set 3 _) (fun c h => ?_) fun c u h nu => ⟨same_upd hbb c u h, fun z => z.elim nu fun z => by rw [z, hbb] at h; cases h⟩) rfl
      by_cases e : c = bb
      · rw [e, L2.upd_same]; exact fun z => nomatch z
      · rw [L2.upd_ne e]; exact m.g.ok.dom c (h.resolve_right e)
    have no1 : NO ((Γ.set 3 (.val (.int i))).set 4 (.val (.raw (.ref bb)))) := (m.no.set 3 _).set 4 _
    have E0 : ((Γ.set 3 (.val (.int i))).set 4 (.val (.raw (.ref bb))))[0]? = some (.val (rowsD b rs)) := gset (gset m.e0)
    have E1 : ((Γ.set 3 (.val (.int i))).set 4 (.val (.raw (.ref bb))))[1]? = some (.val (.int n)) := gset (gset m.e1)
    have E2 : ((Γ.set 3 (.val (.int i))).set 4 (.val (.raw (.ref bb))))[2]? = some (.val (.raw (.ref a))) := gset (gset m.e2)
    have E4 : ((Γ.set 3 (.val (.int i))).set 4 (.val (.raw (.ref bb))))[4]? = some (.val (.raw (.ref bb))) := gself (n := 8) (glen m.gl)
    have hA : L2.upd H bb (.dT []) a = some (.dT (encT kvs)) := by rw [L2.upd_ne ne]; exact m.ha
    refine for_keysT (a := a) (kvs := encT kvs) (spRef g1 E2) hA (fun od j σ H => ∃ Γ lvs, MI W0 rs n b i (fun c => U c ∨ c = bb) a bb kvs od Γ lvs σ H ∧ LI rs n i kvs j 0 lvs) (fun od => ⟨_, [], ⟨?k1, no1, glen (glen m.gl), E0, E1, E2, E4, L2.upd_same, ?k2, ?k3, ?k4⟩, li_0 rs n i kvs⟩) (fun od j σ H ⟨_, _, k, _⟩ => k.ha) ?kstep ?kfin
    case k1 => exact g1.move no1 (fun c h => by
        by_cases e : c = a
        · rw [e, L2.upd_same]; exact fun z => nomatch z
        · rw [L2.upd_ne e]; exact g1.ok.dom c h) fun c u h nu => ⟨by rw [L2.upd_ne (fun z => nu (by rw [z]; exact .inl m.ua))]; exact h, nu⟩
    case k2 => rw [L2.upd_ne (Ne.symm ne), L2.upd_same]; rfl
    case k3 =>
      intro c h na
      rw [L2.upd_ne na]
      by_cases e : c = bb
      · exact ⟨[], by rw [e, L2.upd_same]⟩
      · rw [L2.upd_ne e]; exact m.uu c (h.resolve_right e)
    case k4 =>
      intro c u h
      have h1 : c ≠ a := fun z => by rw [z, m.un a m.ua] at h; cases h
      have h2 : c ≠ bb := fun z => by rw [z, n0] at h; cases h
      rw [L2.upd_ne h1, L2.upd_ne h2]
      exact m.s0 c u h
    case kfin =>
      rintro od σ2 H2 ⟨Γ2, lvs, k, li⟩
      rw [enc_len] at li
      refine ⟨V.ref bb, (spRef k.g k.e4), hE _ _ ⟨Γ2.set 2 (.val (.raw (.ref bb))), fun c => U c ∨ c = bb, bb, lvs, SR.set (d := .raw (.ref bb)) (k.g.move k.no (fun c h => ?_) fun c u h nu => ⟨by rw [L2.upd_ne (fun z => nu (by rw [z]; exact .inl m.ua))]; exact h, nu⟩) rfl, k.no.set 2 _, glen k.gl, gset k.e0, gset k.e1, gself (n := 8) k.gl, .inr rfl, by rw [L2.upd_ne (Ne.symm ne)]; exact k.hb, fun c h => ?_, fun c h => h.elim (m.un c) fun e => by rw [e]; exact n0, fun c u h => ?_, li.done hr' m.ki⟩⟩
      · by_cases e : c = a
        · rw [e, L2.upd_same]; exact fun z => nomatch z
        · rw [L2.upd_ne e]; exact k.g.ok.dom c h
      · by_cases e : c = a
        · exact ⟨encT kvs, by rw [e, L2.upd_same]⟩
        · rw [L2.upd_ne e]; exact k.uu c h e
      · rw [L2.upd_ne (fun z => by rw [z, m.un a m.ua] at h; cases h)]
        exact k.s0 c u h
    case kstep =>
      rintro od j σ2 H2 F2 key x q hkey hq ⟨Γ2, lvs2, k, li⟩ hF2
      obtain ⟨p, hp, rfl, rfl⟩ := enc_at hkey
      obtain ⟨pl, pk⟩ := m.ki.key p (List.mem_of_getElem? hp)
      have k5 := k.set 5 (k.key hq)
      have hjl : j < kvs.length := (List.getElem?_eq_some_iff.mp hp).1
      refine for_rng1 (n := n) (spInt k5.g k5.e1) (by omega) (fun r σ H => ∃ Γ lvs, MI W0 rs n b i (fun c => U c ∨ c = bb) a bb kvs od Γ lvs σ H ∧ Γ[5]? = some (.val (.tup (ordD p.1))) ∧ σ[5]? = some (some (V.ref q)) ∧ H q = some (.tup ((encK p.1).map L2.kV)) ∧ LI rs n i kvs j r lvs) ⟨_, lvs2, k5, gself (n := 8) k.gl, List.getElem?_set_self (by rw [← k.g.len, k.gl]; decide), hq, li⟩ ?rstep fun σ3 H3 ⟨Γ3, lvs3, k3, _, _, _, li3⟩ => hF2 _ _ ⟨Γ3, lvs3, k3, li3.next hp⟩
      rintro r σ3 H3 F3 hr ⟨Γ3, lvs3, k3, e5, q5s, q5h, li3⟩ hF3
      have q6s : (σ3.set 6 (some (V.int r)))[5]? = some (some (V.ref q)) := by rw [List.getElem?_set_ne (by decide)]; exact q5s
      have nqb : q ≠ bb := fun z => by have := k3.hb; rw [← z, q5h] at this; cases this
      have k6 := k3.set 6 (d := .int r) (v := V.int r) rfl
      have e5 : (Γ3.set 6 (.val (.int r)))[5]? = some (.val (.tup (ordD p.1))) := gset e5
      have e6 : (Γ3.set 6 (.val (.int r)))[6]? = some (.val (.int r)) := gself (n := 8) k3.gl
      refine (evt_and (a := !decide (r ∈ p.1)) (b := mayB rs r p.1) (evt_test (ev_ninT (ev_var e6) (ev_var e5))) fun _ => evt_tru_bl (ev_call (s := spMay) (x := (r, p.1, rs, n, b)) (eva_cons (ev_var e6) (eva_cons (ev_var e5) (eva_cons (ev_var k6.e0) eva_nil))) (by show noPs [.tup (ordD p.1), rowsD b rs] = true; exact np_to (np_rd rfl)) ⟨hr', h8, hz, hr, by show p.1.length ≤ 8; omega, pk⟩ fun d h => h)) NoF _ (PW H3 _) _ k6.g fun H4 s4 => ?_
      have k7 := k6.same s4
      have eo : (!decide (r ∈ p.1) && mayB rs r p.1) = okN rs r p.1 := rfl
      rw [eo]
      cases ok : okN rs r p.1 with
      | false => exact hF3 _ _ ⟨_, lvs3, k7, e5, q6s, s4 _ _ q5h, li3.skip hp ok⟩
      | true =>
        have ls : (p.1 ++ [r]).length < 64 := by rw [List.length_append, pl]; show i + 1 < 64; omega
        refine (evx_tuple (EvN.b (evn_sortI (ns := (p.1 ++ [r]).map fun k : Nat => (k : Int)) (ms := (sortN (p.1 ++ [r])).map fun k : Nat => (k : Int)) ?srt (by rw [List.length_map]; exact ls) fun ns' h1 h2 => sortN_int h1 h2))) NoF _ (PW H4 _) _ k7.g fun c vs H5 s5 hc0 nu rl => ?_
        case srt =>
          refine ev_cast (d := .lst (ordD p.1 ++ [.int r])) ?_ (EvN.ev (evn_lst (eva_starX (.inl (ev_var e5)) (eva_cons (ev_var e6) eva_nil)) ?_)) |>.b
          · unfold ordD
            rw [List.map_map, List.map_append]; rfl
          · rw [List.length_append, ordD_len, pl]
            show i + 1 ≤ _
            exact small (by omega)
        have e : ((sortN (p.1 ++ [r])).map fun k : Nat => (k : Int)).map D.int = ordD (sortN (p.1 ++ [r])) := by unfold ordD; rw [List.map_map]; rfl
        rw [e] at rl
        have rv : Rep (PW H5 fun c => U c ∨ c = bb) (.tup (ordD (sortN (p.1 ++ [r])))) (V.ref c) := ⟨c, vs, rfl, .mk hc0, nu, rl⟩
        have hc2 : H5 c = some (.tup ((encK (sortN (p.1 ++ [r]))).map L2.kV)) := by rw [encK_kV, ← repL_ord rl]; exact hc0
        have k8 := (k7.same s5).set 7 rv
        have hc : ((σ3.set 6 (some (V.int r))).set 7 (some (V.ref c)))[7]? = some (some (V.ref c)) := List.getElem?_set_self (by rw [List.length_set, ← k3.g.len, k3.gl]; decide)
        have hq5 : ((σ3.set 6 (some (V.int r))).set 7 (some (V.ref c)))[5]? = some (some (V.ref q)) := by rw [List.getElem?_set_ne (by decide)]; exact q6s
        have hq52 : H5 q = some (.tup ((encK p.1).map L2.kV)) := s5 _ _ (s4 _ _ q5h)
        refine ⟨V.ref bb, (spRef k8.g k8.e4), bb, rfl, .inr ⟨_, .inl k8.hb⟩, V.ref c, hc, _, L2.DGet.t k8.hb hc2, V.ref a, (spRef k8.g k8.e2), V.ref q, hq5, a, V.int (p.2 : Nat), rfl, .inr ⟨encT kvs, encK p.1, q, .inr ⟨od, k8.ha⟩, rfl, hq52, by rw [val_enc, find_at m.ki.nd hp]; rfl⟩, ?_⟩
        rw [val_getD]
        refine pl_int (K := K) (PW H5 fun c => U c ∨ c = bb) _ _ _ k8.g.ok.dom rfl rfl fun z H6 s6 rz => ?_
        have k9 := k8.same s6
        have ez : z = V.int ((getN lvs3 (sortN (p.1 ++ [r])) + p.2 : Nat) : Int) := by rw [show z = V.int _ from rz, Int.natCast_add]
        subst ez
        refine ⟨V.ref bb, (spRef k9.g k9.e4), V.ref c, hc, bb, _, rfl, L2.DPut.t k9.hb (s6 _ _ hc2) (by rw [enc_len]; exact puts_few h8 hi m.ki.len hjl hr li3.len), ?_⟩
        rw [put_enc li3.nd]
        exact hF3 _ _ ⟨_, _, k9.put (.inr rfl) n0 ne _, gset e5, hq5, by rw [L2.upd_ne nqb]; exact s6 _ _ hq52, li3.put m.ki hr hp ok⟩

end K61

namespace K61
open PySem PySem.Spec PyProof.Rows L2 Dw
/-! claims about a book -/
inductive Cw where
  | fits | quarrels | follows (d : D) | opn (d : D) | above (a b : D) | count (d : D) | alike (d : D)
def Cw.word : Cw → Str
  | .fits => "fits" | .quarrels => "quarrels" | .follows _ => "follows" | .opn _ => "open" | .above _ _ => "above" | .count _ => "count" | .alike _ => "alike"
def Cw.parts : Cw → List D
  | .fits => [] | .quarrels => [] | .follows d => [d] | .opn d => [d] | .above a b => [a, b] | .count d => [d] | .alike d => [d]
def isNonB : D → Bool | .non => true | _ => false
theorem rep_non {W : Wd} {d : D} {v : V} (h : Pv d) (r : Rep W d v) : decide (v = V.non) = isNonB d := by
  cases d <;> first | exact absurd h Bool.false_ne_true | skip
  · rw [show v = V.non from r]; rfl
  · rw [show v = V.bl _ from r]; exact decide_eq_false fun z => nomatch z
  · rw [show v = V.int _ from r]; exact decide_eq_false fun z => nomatch z
  · rw [show v = V.str _ from r]; exact decide_eq_false fun z => nomatch z
  · obtain ⟨a, vs, rfl, _⟩ := r; exact decide_eq_false fun z => nomatch z
  · obtain ⟨a, vs, rfl, _⟩ := r; exact decide_eq_false fun z => nomatch z
  · obtain ⟨a, vs, rfl, _⟩ := r; exact decide_eq_false fun z => nomatch z
def cntB (d : D) (z : Nat) : Bool := wholeB d && decide (intOf d = (z : Int))
def natOf (d : D) : Nat := (intOf d).toNat
def pairRow (a b n : Nat) : List Nat := (List.range n).map fun k => if a = k then 43 else if b = k then 45 else 46
theorem pairRow_ok (a b n : Nat) : RowOk (pairRow a b n) n := ⟨by unfold pairRow; rw [List.length_map, List.length_range], fun c hc => by
  obtain ⟨k, _, rfl⟩ := List.mem_map.mp hc
  by_cases h1 : a = k
  · rw [if_pos h1]; exact .inl rfl
  · rw [if_neg h1]
    by_cases h2 : b = k
    · rw [if_pos h2]; exact .inr (.inl rfl)
    · rw [if_neg h2]; exact .inr (.inr rfl)⟩
def pairB (a b : D) (n : Nat) : Bool := idxB a n && idxB b n && difB a b
theorem pairB_iff {a b : D} {n : Nat} (h : pairB a b n = true) : ∃ i j : Nat, a = .int i ∧ b = .int j ∧ i < n ∧ j < n ∧ i ≠ j := by
  unfold pairB at h
  rw [Bool.and_eq_true, Bool.and_eq_true] at h
  obtain ⟨⟨h1, h2⟩, h3⟩ := h
  cases a <;> first | exact absurd h1 Bool.false_ne_true | skip
  cases b <;> first | exact absurd h2 Bool.false_ne_true | skip
  rename_i i j
  have h1 : (decide (0 ≤ i) && decide (i < (n : Int))) = true := h1
  have h2 : (decide (0 ≤ j) && decide (j < (n : Int))) = true := h2
  have h3 : (!decide (i = j)) = true := h3
  rw [Bool.and_eq_true, decide_eq_true_eq, decide_eq_true_eq] at h1 h2
  rw [Bool.not_eq_true', decide_eq_false_iff_not] at h3
  exact ⟨i.toNat, j.toNat, congrArg D.int (by omega), congrArg D.int (by omega), by omega, by omega, by omega⟩
def abB (p : D) (rs : List (List Nat)) (n : Nat) (a b : D) : Bool := pairB a b n && sfB p rs (pairRow (natOf a) (natOf b) n) n
def accB (c : Cw) (rs : List (List Nat)) (n : Nat) (p : D) : Bool := match c with
  | .fits => fitB p rs n
  | .quarrels => sqB p rs n
  | .follows d => rowB d n && sfB p rs (codesOf d) n
  | .opn d => rowB d n && soB p rs (codesOf d) n
  | .above a b => abB p rs n a b
  | .count d => isNonB p && cntB d (fittersM rs n).length
  | .alike _ => false
/-! both books with the same names, which fit the same rankings -/
theorem fit_app (rs qs : List (List Nat)) (n : Nat) : fitM (rs ++ qs) n = (fitM rs n).filter fun o => qs.all fun r => holdsB r o := by
  unfold fitM
  rw [List.filter_filter]
  refine List.filter_congr fun o _ => ?_
  rw [List.all_append, Bool.and_comm]
theorem fit_app' (rs qs : List (List Nat)) (n : Nat) : fitM (rs ++ qs) n = (fitM qs n).filter fun o => rs.all fun r => holdsB r o := by
  unfold fitM
  rw [List.filter_filter]
  refine List.filter_congr fun o _ => ?_
  rw [List.all_append]
theorem alike_eq {rs qs : List (List Nat)} {n : Nat} (h1 : ∀ r ∈ rs, RowOk r n) (h2 : ∀ r ∈ qs, RowOk r n) : alikeB rs qs n = decide (fitM rs n = fitM qs n) := by
  have s1 : ∀ r ∈ rs, ∀ c, sgn r c = 43 ∨ sgn r c = 45 ∨ sgn r c = 46 := fun r hr c => sgn_is (h1 r hr) c
  have s2 : ∀ r ∈ qs, ∀ c, sgn r c = 43 ∨ sgn r c = 45 ∨ sgn r c = 46 := fun r hr c => sgn_is (h2 r hr) c
  have s3 : ∀ r ∈ rs ++ qs, ∀ c, sgn r c = 43 ∨ sgn r c = 45 ∨ sgn r c = 46 := fun r hr c => sgn_is (rows_app h1 h2 r hr) c
  unfold alikeB
  rw [count_eq s1, count_eq s2, count_eq s3, Bool.eq_iff_iff, Bool.and_eq_true, decide_eq_true_eq, decide_eq_true_eq, decide_eq_true_eq]
  constructor
  · rintro ⟨a, b⟩
    rw [fit_app, List.length_filter_eq_length_iff] at a
    rw [fit_app', List.length_filter_eq_length_iff] at b
    unfold fitM
    refine List.filter_congr fun o ho => ?_
    rw [Bool.eq_iff_iff]
    exact ⟨fun z => a o (List.mem_filter.mpr ⟨ho, z⟩), fun z => b o (List.mem_filter.mpr ⟨ho, z⟩)⟩
  · intro e
    rw [fit_app, List.length_filter_eq_length_iff]
    refine ⟨fun o ho => ?_, ?_⟩
    · rw [e] at ho; exact (List.mem_filter.mp ho).2
    · rw [← fit_app, fit_app', List.length_filter_eq_length_iff]
      intro o ho
      rw [← e] at ho; exact (List.mem_filter.mp ho).2
theorem fitters_fitM (rs : List (List Nat)) (n : Nat) : fittersM rs n = fitM rs n := by
  unfold fittersM fitM
  rw [orders_all]
theorem count_all {rs : List (List Nat)} {n : Nat} (hr : ∀ r ∈ rs, RowOk r n) : countM rs n = (fittersM rs n).length := by
  rw [fitters_fitM]
  exact count_eq fun r h c => sgn_is (hr r h) c
def alkP (ls rs : List (List Nat)) : Option Bk → Bool
  | some b => decide (b.1 = ls) && decide (fittersM rs ls.length = fittersM b.2 ls.length)
  | none => false
def alkB (ls rs : List (List Nat)) (d : D) : Bool := alkP ls rs (bookOf d)
def accT (c : Cw) (ls rs : List (List Nat)) (p : D) : Bool := match c with
  | .alike d => isNonB p && alkB ls rs d
  | c => accB c rs ls.length p
def cwS : Cw → Bool
  | .alike d => shT d
  | _ => true
def accO (c : Cw) (p : D) : Option Bk → Bool
  | some b => accT c b.1 b.2 p
  | none => false
def accG (c : Cw) (t p : D) : Bool := accO c p (bookOf t)
theorem accG_bk {c : Cw} {ls rs : List (List Nat)} {p : D} (h : BookOk ls rs) : accG c (.str (tx (bookTx ls rs))) p = accT c ls rs p := by
  unfold accG
  rw [bookOf_tx h]; rfl
theorem sh_book {ls rs : List (List Nat)} (h : BookOk ls rs) : shT (.str (tx (bookTx ls rs))) = true := decide_eq_true (Nat.le_trans h.len (by decide))
theorem joinX_all {p : Nat → Prop} (h32 : p 32) : ∀ ls : List (List Nat), (∀ l ∈ ls, ∀ c ∈ l, p c) → ∀ c ∈ TL.joinL [32] ls, p c
  | [], _, c, hc => absurd hc (by simp [TL.joinL])
  | [l], h, c, hc => h l List.mem_cons_self c (by simpa [TL.joinL] using hc)
  | l :: m :: r, h, c, hc => by
    rw [joinX_cons l (r := m :: r) (by simp), List.mem_append, List.mem_append] at hc
    rcases hc with hc | hc | hc
    · exact h l List.mem_cons_self c hc
    · rw [List.mem_singleton.mp hc]; exact h32
    · exact joinX_all h32 (m :: r) (fun l' hl => h l' (List.mem_cons_of_mem _ hl)) c hc
theorem bookX_codes {ls rs : List (List Nat)} (h : BookOk ls rs) : ∀ c ∈ bookTx ls rs, c < 1114112 := by
  unfold bookTx
  refine joinX_all (p := fun c => c < 1114112) (by decide) _ fun l hl c hc => ?_
  rcases List.mem_cons.mp hl with rfl | hl
  · rcases List.mem_append.mp hc with hc | hc
    · refine joinX_all (p := fun c => c < 1114112) (by decide) _ (fun l hl c hc => ?_) c hc
      have := ((h.names.all l hl).all c hc).2
      omega
    · rw [List.mem_singleton.mp hc]; decide
  · exact ((h.rows l hl).all c hc).lt
theorem okX_book {ls rs : List (List Nat)} (h : BookOk ls rs) : okS (tx (bookTx ls rs)) := okS_tx (bookX_codes h)
theorem pv_book {ls rs : List (List Nat)} (h : BookOk ls rs) : Pv (.str (tx (bookTx ls rs))) := pv_strs (bookX_codes h) (by have := h.len; rw [tx_len] at this; omega)
def spAlk : Spc where
  ty := Bk × D
  args := fun x => [.tup (nameD x.1.1), .tup (nameD x.1.2), x.2]
  ok := fun x => BookOk x.1.1 x.1.2 ∧ Pv x.2 ∧ shT x.2 = true
  rel := fun x d => d = .bl (alkB x.1.1 x.1.2 x.2)
theorem namesX_eq {a b : List (List Nat)} : decide (a.map tx = b.map tx) = decide (a = b) := decide_eq_decide.mpr ⟨fun h => by
  induction a generalizing b with
  | nil => cases b with
    | nil => rfl
    | cons _ _ => cases h
  | cons x a ih => cases b with
    | nil => cases h
    | cons y b =>
      injection h with h1 h2
      rw [tx_eq.mp h1, ih h2], fun h => by rw [h]⟩
theorem okS_names {ls : List (List Nat)} (h : ∀ l ∈ ls, NameOk l) : ∀ x ∈ ls.map tx, okS x := fun x hx => by
  obtain ⟨l, hl, rfl⟩ := List.mem_map.mp hx
  exact okS_tx fun c hc => by have := (h l hl).all c hc; omega
theorem ne_namesT {K : PySem.W.Frag} {a b : List (List Nat)} (ha : ∀ l ∈ a, NameOk l) (hb : ∀ l ∈ b, NameOk l) : DR2 (rNeX K) (.tup (nameD a)) (.tup (nameD b)) (.bl (!decide (a = b))) := by
  have := ne_strsT (K := K) (okS_names ha) (okS_names hb)
  rw [namesX_eq, nameD_map, nameD_map] at this
  exact this
def spPairRow : Spc where
  ty := Nat × Nat × Nat
  args := fun x => [.int x.1, .int x.2.1, .int x.2.2]
  ok := fun x => x.1 ≠ x.2.1 ∧ x.2.2 ≤ 8
  rel := fun x d => d = .str (tx (pairRow x.1 x.2.1 x.2.2))
def spSAb : Spc where
  ty := D × List (List Nat) × Nat × D × D
  args := fun x => [x.1, .tup (nameD x.2.1), .int x.2.2.1, .lst [x.2.2.2.1, x.2.2.2.2]]
  ok := fun x => Pv x.1 ∧ (∀ r ∈ x.2.1, RowOk r x.2.2.1) ∧ x.2.2.1 ≤ 8 ∧ x.2.1.length ≤ 900 ∧ Pv x.2.2.2.1 ∧ Pv x.2.2.2.2
  rel := fun x d => d = .bl (abB x.1 x.2.1 x.2.2.1 x.2.2.2.1 x.2.2.2.2)
def spAOB : Spc where
  ty := Cw × Bk × D
  args := fun x => [.str x.1.word, .tup [.tup (nameD x.2.1.1), .tup (nameD x.2.1.2)], .lst x.1.parts, x.2.2]
  ok := fun x => BookOk x.2.1.1 x.2.1.2 ∧ Pv x.2.2 ∧ (∀ d ∈ x.1.parts, Pv d) ∧ cwS x.1 = true
  rel := fun x e => e = .bl (accT x.1 x.2.1.1 x.2.1.2 x.2.2)
def spAcc : Spc where
  ty := Cw × D × D
  args := fun x => [.tup (.str x.1.word :: x.2.1 :: x.1.parts), x.2.2]
  ok := fun x => Pv x.2.1 ∧ shT x.2.1 = true ∧ Pv x.2.2 ∧ (∀ d ∈ x.1.parts, Pv d) ∧ cwS x.1 = true
  rel := fun x e => e = .bl (accG x.1 x.2.1 x.2.2)
theorem ds_word {K : PySem.W.Frag} {x y : Str} {i : Nat} {t : TS} {Γ : Gam} {De : DE} (b : Bool) (h : decide (x = y) = b) (hv : Γ[i]? = some (.val (.str x))) (h1 : b = true → Ds t Γ De) (h2 : b = false → De.nx Γ) : Ds (tIfS (tTest (tOp (rEqX K) (tVar i) (tC (.str y)))) t tNext) Γ De :=
  ds_if (EvT.dl (evt_test (ev_op (ev_var hv) ev_str (eq_sb h))) ⟨h1, fun z => ds_next (h2 z)⟩)
theorem nps_of {ds : List D} (h : ∀ d ∈ ds, Pv d) : noPs ds = true := by
  induction ds with
  | nil => rfl
  | cons d r ih =>
    show (noP d && noPs r) = true
    rw [(h d List.mem_cons_self).np, ih fun x hx => h x (List.mem_cons_of_mem _ hx)]; rfl
theorem np_bt {ls rs : List (List Nat)} {r : List D} (h : noPs r = true) : noPs (.tup [.tup (nameD ls), .tup (nameD rs)] :: r) = true := by
  show ((noPs (nameD ls) && (noPs (nameD rs) && true)) && noPs r) = true
  rw [np_name, np_name, h]; rfl
end K61

namespace K61
open PySem PySem.Spec PyProof.Rows L2 Dw
theorem d_row_of_pair {P : Program} {w : World} {K : PySem.W.Frag} {mg : Str → Option Value} {base : Heap} (T : Txt K w mg) : FnOk P w K mg base CX0 1 T.f_row_of_pair T.e_row_of_pair ["one", "other", "many"] (toSp (spPairRow)) := by
  refine fn_ok T.F_row_of_pair sc_row_of_pair (fun _ => rfl) fun cdv A outer s' H E hr => ?_
  refine ⟨_, (pss_cons (ps_set (i := 3) sc_row_of_pair.nd rfl (Or.inr rfl) (pe_disp (pps_cons (pv 0) pe_str (pps_cons (pv 1) pe_str pps_nil)) (by rfl) (by rfl) (fun z => by cases z) (by decide))) (pss_one (ps_ret (joinA K pe_str (pe_lc (own := [("rule", 4)]) rfl sc_row_of_pair.nd (pi_range1 (by rfl) T.n_range (pa_cons (pv 2) pa_nil)) (blkOk_by (own := [("rule", 4)]) (N := N_row_of_pair) (sc := (defScope s_row_of_pair)) (by decide +kernel)) (fun _ _ _ _ _ => pg_name (i := 4) sc_row_of_pair.nd rfl (Or.inl rfl)) (fun _ _ _ _ _ => pts_nil) (fun _ _ _ _ _ => (pe_dget2 (hu_of hr) (pv 3) (pv 4) pe_str ⟨by rfl, by rfl, by rfl, by rfl⟩))))))), fun x hx => ?_⟩
  obtain ⟨a, b, n⟩ := x
  obtain ⟨hne, h8⟩ := hx
  have hne : a ≠ b := hne
  have h8 : n ≤ 8 := h8
  refine ds_seq (ds_asg (Ev.dl (ev_disp_ij (i := (a : Int)) (j := (b : Int)) rfl rfl (by omega)) ?_))
  refine ds_ret (Ev.dl (ev_join (x := Str.ofString "") (ys := (pairRow a b n).map ch) ev_str (EvN.b ?_) ?_) ?_)
  · rw [show ((pairRow a b n).map ch).map D.str = (List.range n).map fun k => D.str (ch (if a = k then 43 else if b = k then 45 else 46)) by unfold pairRow; rw [List.map_map, List.map_map]; rfl]
    refine evn_lc1 (xs := List.range n) (c := fun k : Nat => D.int k) (ei_range (n := n) (eva_cons (ev_var rfl) eva_nil) (by omega)) (by rw [List.length_range]; omega) fun k hk => ⟨[4], _, dg_name, fun i hi => hi, evt_yes, ev_cast (congrArg D.str ?_) (ev_dget_ij (i := (a : Int)) (j := (b : Int)) (r := (k : Int)) (ev_var rfl) (ev_var rfl))⟩
    by_cases h1 : a = k
    · rw [if_pos (by omega), if_pos h1]; exact ch_plus
    · rw [if_neg (by omega), if_neg h1]
      by_cases h2 : b = k
      · rw [if_pos (by omega), if_pos h2]; exact ch_minus
      · rw [if_neg (by omega), if_neg h2]; exact ch_dot
  · rw [chs_len, (pairRow_ok a b n).len, List.length_map, (pairRow_ok a b n).len]
    show n + n * 0 ≤ _
    omega
  · show D.str _ = D.str _
    rw [join_chs]
end K61

namespace K61
open PySem PySem.Spec PyProof.Rows L2 Dw
theorem d_shows_above {P : Program} {w : World} {K : PySem.W.Frag} {mg : Str → Option Value} {base : Heap} (T : Txt K w mg) : FnOk P w K mg base CX0 6 T.f_shows_above T.e_shows_above ["certificate", "rows", "many", "pair"] (toSp (spSAb)) := by
  refine fn_ok T.F_shows_above sc_shows_above (fun _ => rfl) fun cdv A outer s' H E hr => ?_
  refine ⟨_, (pss_cons (ps_asg (pv 3) (lstUA K 2 rfl (pgs_cons (pg_name (i := 4) sc_shows_above.nd rfl (Or.inl rfl)) (pgs_cons (pg_name (i := 5) sc_shows_above.nd rfl (Or.inl rfl)) pgs_nil)))) (pss_one (ps_ret (pe_and (pe_call (d_is_pair T) (hr.mono (by decide)) (by rfl) T.m_is_pair T.F_is_pair.kp T.b_is_pair .nil pass0 (pa_cons (pv 4) (pa_cons (pv 5) (pa_cons (pv 2) pa_nil)))) (pe_one (pe_call (d_shows_following T) (hr.mono (by decide)) (by rfl) T.m_shows_following T.F_shows_following.kp T.b_shows_following .nil pass0 (pa_cons (pv 0) (pa_cons (pv 1) (pa_cons (pe_call (d_row_of_pair T) (hr.mono (by decide)) (by rfl) T.m_row_of_pair T.F_row_of_pair.kp T.b_row_of_pair .nil pass0 (pa_cons (pv 4) (pa_cons (pv 5) (pa_cons (pv 2) pa_nil)))) pa_nil))))))))), fun x hx => ?_⟩
  obtain ⟨p, rs, n, a, b⟩ := x
  obtain ⟨hp, hr', h8, hz, ha, hb⟩ := hx
  have hp : Pv p := hp
  have ha : Pv a := ha
  have hb : Pv b := hb
  have h8 : n ≤ 8 := h8
  refine ds_seq (ds_asg_g (Ev.dl (ev_var (d := .lst [a, b]) rfl) ⟨[4] ++ [5], _, dg_lst2 dg_name dg_name, ?_⟩))
  refine ds_ret (Ev.dl (ev_andV (a := pairB a b n) (b := sfB p rs (pairRow (natOf a) (natOf b) n) n) (ev_call (s := spPairG) (x := (a, b, n)) (eva_cons (ev_var rfl) (eva_cons (ev_var rfl) (eva_cons (ev_var rfl) eva_nil))) (np1 (r := [_, _]) ha (np1 (r := [_]) hb rfl)) ⟨ha, hb⟩ fun d h => h) fun h => ?_) rfl)
  obtain ⟨i, j, rfl, rfl, hi, hj, hne⟩ := pairB_iff h
  exact ev_call (s := spSF) (d := .bl (sfB p rs (pairRow i j n) n)) (x := (p, rs, pairRow i j n, n)) (eva_cons (ev_var rfl) (eva_cons (ev_var rfl) (eva_cons (ev_call (s := spPairRow) (d := .str (tx (pairRow i j n))) (x := (i, j, n)) (eva_cons (ev_var rfl) (eva_cons (ev_var rfl) (eva_cons (ev_var rfl) eva_nil))) rfl ⟨hne, h8⟩ fun d h => h) eva_nil))) (np1 hp (np_tn rfl)) ⟨hp, hr', h8, hz, pairRow_ok i j n⟩ fun d h => h
end K61

namespace K61
open PySem PySem.Spec PyProof.Rows L2 Dw
theorem d_are_alike {P : Program} {w : World} {K : PySem.W.Frag} {mg : Str → Option Value} {base : Heap} (T : Txt K w mg) : FnOk P w K mg base CX0 4 T.f_are_alike T.e_are_alike ["names", "rows", "text"] (toSp (spAlk)) := by
  refine fn_ok T.F_are_alike sc_are_alike (fun _ => rfl) fun cdv A outer s' H E hr => ?_
  refine ⟨_, (pss_cons (ps_set (i := 3) sc_are_alike.nd rfl (Or.inl rfl) (pe_call (d_read_book T) (hr.mono (by decide)) (by rfl) T.m_read_book T.F_read_book.kp T.b_read_book .nil pass0 (pa_cons (pv 2) pa_nil))) (pss_cons (ps_if (PW.pt (pw_or (pt_cmpR op_isN (pv 3) pe_non (nomark _)) (pw_or1 (pt_cmpR (neA K hr.units) (pe_ix (ixA K) (pv 3) pe_int (fun _ _ => rfl)) (pv 0) (nomark _))))) (pss_one (ps_ret pe_bl)) pss_nil) (pss_cons (ps_set (i := 4) sc_are_alike.nd rfl (Or.inl rfl) (pe_call (d_count_rankings T) (hr.mono (by decide)) (by rfl) T.m_count_rankings T.F_count_rankings.kp T.b_count_rankings .nil pass0 (pa_cons (pe_op (plusE K) (pv 1) (pe_ix (ixA K) (pv 3) pe_int (fun _ _ => rfl))) (pa_cons (pe_callB (lenA K) (by rfl) T.n_len (by decide +kernel) (pa_cons (pv 0) pa_nil)) pa_nil)))) (pss_one (ps_ret (pe_and (pe_cmpR (eqA K hr.units) (pv 4) (pe_call (d_count_rankings T) (hr.mono (by decide)) (by rfl) T.m_count_rankings T.F_count_rankings.kp T.b_count_rankings .nil pass0 (pa_cons (pv 1) (pa_cons (pe_callB (lenA K) (by rfl) T.n_len (by decide +kernel) (pa_cons (pv 0) pa_nil)) pa_nil))) (nomark _)) (pe_one (pe_cmpR (eqA K hr.units) (pv 4) (pe_call (d_count_rankings T) (hr.mono (by decide)) (by rfl) T.m_count_rankings T.F_count_rankings.kp T.b_count_rankings .nil pass0 (pa_cons (pe_ix (ixA K) (pv 3) pe_int (fun _ _ => rfl)) (pa_cons (pe_callB (lenA K) (by rfl) T.n_len (by decide +kernel) (pa_cons (pv 0) pa_nil)) pa_nil))) (nomark _))))))))), fun x hx => ?_⟩
  obtain ⟨⟨ls, rs⟩, d⟩ := x
  obtain ⟨hb, hd, hsh⟩ := hx
  have hb : BookOk ls rs := hb
  have hd : Pv d := hd
  have h20 := hb.few
  have l1 : (nameD ls).length = ls.length := List.length_map ..
  refine ds_seq (ds_asg (Ev.dl (ev_call (s := spReadG) (d := optD (bookOf d)) (x := d) (eva_cons (ev_var rfl) eva_nil) (np1 (r := []) hd rfl) ⟨hd, hsh⟩ fun d h => h) ?_))
  cases eb : bookOf d with
  | none =>
    refine ds_seq (ds_if (EvT.dl (b := true) (evt_or (a := true) (b := false) (evt_test (ev_op (ev_var (d := .non) rfl) ev_non (dr2_isN fun W v h => by rw [show v = V.non from h]; rfl))) fun h => (nomatch h)) ⟨fun _ => ds_ret (Ev.dl ev_bl ?_), fun h => (nomatch h)⟩))
    show D.bl false = D.bl (alkP ls rs (bookOf d))
    rw [eb]; rfl
  | some b =>
    obtain ⟨ms, qs⟩ := b
    have hq : BookOk ms qs := (bookOf_ok eb).1
    have h20' := hq.few
    refine ds_seq (ds_if (EvT.dl (b := false || !decide (ms = ls)) (evt_or (a := false) (b := !decide (ms = ls)) (evt_test (ev_op (ev_var (d := .tup [.tup (nameD ms), .tup (nameD qs)]) rfl) ev_non (dr2_isN fun W v h => ?_))) fun _ => evt_test (ev_op (ev_ixT (ds := [.tup (nameD ms), .tup (nameD qs)]) (ev_var rfl) ev_int (atI_nat (j := 0) rfl)) (ev_var rfl) (ne_namesT hq.names.all hb.names.all))) ⟨fun h => ds_ret (Ev.dl ev_bl ?_), fun h => ds_next ?_⟩))
    · obtain ⟨q, vs, e, _⟩ := h
      rw [e]; exact decide_eq_false fun h => nomatch h
    · have hne : ms ≠ ls := by simpa using h
      show D.bl false = D.bl (alkP ls rs (bookOf d))
      rw [eb]
      show _ = D.bl (decide (ms = ls) && _)
      rw [decide_eq_false hne]; rfl
    have he : ms = ls := by simpa using h
    subst he
    have cnt : ∀ (ra : List (List Nat)) (ta : TE) (Γ : Gam), (∀ r ∈ ra, RowOk r ms.length) → ra.length ≤ 40 → Ev ta Γ (.tup (nameD ra)) → ∀ tb : TE, Ev tb Γ (.int ms.length) → Ev (tCall (toSp spCnt) [] E0 (tCons ta (tCons tb tNil))) Γ (.int ((fittersM ra ms.length).length : Nat)) := fun ra ta Γ h1 h2 e1 tb e2 => ev_call (s := spCnt) (x := (ra, ms.length, false)) (eva_cons e1 (eva_cons e2 eva_nil)) (np_rd (b := false) (r := [_]) rfl) ⟨h1, hb.n8, by show ra.length ≤ 1000; omega⟩ fun d h => h
    have l1' : Ev (tCB (Dw.rLen K) (tCons (tVar 0) tNil)) [.val (.tup (nameD ms)), .val (.tup (nameD rs)), .val d, .val (.tup [.tup (nameD ms), .tup (nameD qs)]), .unset] (.int ms.length) := ev_cast (congrArg (fun n : Nat => D.int n) l1) (ev_lenT (ds := nameD ms) (ev_var rfl))
    refine ds_seq (ds_asg (Ev.dl (cnt (rs ++ qs) _ _ (rows_app hb.rows hq.rows) (by rw [List.length_append]; omega) (ev_cast (congrArg D.tup (nameD_app rs qs)) (ev_op (ev_var rfl) (ev_ixT (ds := [.tup (nameD ms), .tup (nameD qs)]) (ev_var rfl) ev_int (atI_nat (j := 1) rfl)) (pl_tup (by rw [nameD_len, nameD_len]; show rs.length + qs.length ≤ _; exact small (by omega))))) _ l1') ?_))
    refine ds_ret (Ev.dl (ev_andV (ev_op (ev_var (d := .int ((fittersM (rs ++ qs) ms.length).length : Nat)) rfl) (cnt rs _ _ hb.rows (by omega) (ev_var rfl) _ (ev_cast (congrArg (fun n : Nat => D.int n) l1) (ev_lenT (ds := nameD ms) (ev_var rfl)))) (eq_nat _ _)) fun _ => ev_op (ev_var (d := .int ((fittersM (rs ++ qs) ms.length).length : Nat)) rfl) (cnt qs _ _ hq.rows (by omega) (ev_ixT (ds := [.tup (nameD ms), .tup (nameD qs)]) (ev_var rfl) ev_int (atI_nat (j := 1) rfl)) _ (ev_cast (congrArg (fun n : Nat => D.int n) l1) (ev_lenT (ds := nameD ms) (ev_var rfl)))) (eq_nat _ _)) ?_)
    show D.bl _ = D.bl (alkP ms rs (bookOf d))
    rw [eb]
    have e := alike_eq hb.rows hq.rows
    unfold alikeB at e
    rw [count_all hb.rows, count_all hq.rows, count_all (rows_app hb.rows hq.rows)] at e
    rw [e]
    show _ = D.bl (decide (ms = ms) && decide (fittersM rs ms.length = fittersM qs ms.length))
    rw [decide_eq_true rfl, Bool.true_and, fitters_fitM, fitters_fitM]
end K61

namespace K61
open PySem PySem.Spec PyProof.Rows L2 Dw
theorem d_accepts_of_book {P : Program} {w : World} {K : PySem.W.Frag} {mg : Str → Option Value} {base : Heap} (T : Txt K w mg) : FnOk P w K mg base CX0 7 T.f_accepts_of_book T.e_accepts_of_book ["word", "book", "parts", "certificate"] (toSp (spAOB)) := by
  refine fn_ok T.F_accepts_of_book sc_accepts_of_book (fun _ => rfl) fun cdv A outer s' H E hr => ?_
  refine ⟨_, (pss_cons (ps_asg (pv 1) (tupA K 2 rfl (pgs_cons (pg_name (i := 4) sc_accepts_of_book.nd rfl (Or.inl rfl)) (pgs_cons (pg_name (i := 5) sc_accepts_of_book.nd rfl (Or.inl rfl)) pgs_nil)))) (pss_cons (ps_set (i := 6) sc_accepts_of_book.nd rfl (Or.inl rfl) (pe_callB (lenA K) (by rfl) T.n_len (by decide +kernel) (pa_cons (pv 4) pa_nil))) (pss_cons (ps_if (pt_cmpR (eqA K hr.units) (pv 0) pe_str (nomark _)) (pss_one (ps_ret (pe_call (d_is_fitting T) (hr.mono (by decide)) (by rfl) T.m_is_fitting T.F_is_fitting.kp T.b_is_fitting .nil pass0 (pa_cons (pv 3) (pa_cons (pv 5) (pa_cons (pv 6) pa_nil)))))) pss_nil) (pss_cons (ps_if (pt_cmpR (eqA K hr.units) (pv 0) pe_str (nomark _)) (pss_one (ps_ret (pe_call (d_shows_quarrel T) (hr.mono (by decide)) (by rfl) T.m_shows_quarrel T.F_shows_quarrel.kp T.b_shows_quarrel .nil pass0 (pa_cons (pv 3) (pa_cons (pv 5) (pa_cons (pv 6) pa_nil)))))) pss_nil) (pss_cons (ps_if (pt_cmpR (eqA K hr.units) (pv 0) pe_str (nomark _)) (pss_one (ps_ret (pe_call (d_shows_above T) (hr.mono (by decide)) (by rfl) T.m_shows_above T.F_shows_above.kp T.b_shows_above .nil pass0 (pa_cons (pv 3) (pa_cons (pv 5) (pa_cons (pv 6) (pa_cons (pv 2) pa_nil))))))) pss_nil) (pss_cons (ps_if (pt_cmpR (eqA K hr.units) (pv 0) pe_str (nomark _)) (pss_one (ps_ret (pe_and (pe_cmpR op_isN (pv 3) pe_non (nomark _)) (pe_and (pe_call (d_is_whole T) (hr.mono (by decide)) (by rfl) T.m_is_whole T.F_is_whole.kp T.b_is_whole .nil pass0 (pa_cons (pe_ix (ixA K) (pv 2) pe_int (fun _ _ => rfl)) pa_nil)) (pe_one (pe_cmpR (eqA K hr.units) (pe_ix (ixA K) (pv 2) pe_int (fun _ _ => rfl)) (pe_call (d_count_rankings T) (hr.mono (by decide)) (by rfl) T.m_count_rankings T.F_count_rankings.kp T.b_count_rankings .nil pass0 (pa_cons (pv 5) (pa_cons (pv 6) pa_nil))) (nomark _))))))) pss_nil) (pss_cons (ps_if (pt_cmpR (eqA K hr.units) (pv 0) pe_str (nomark _)) (pss_one (ps_ret (pe_and (pe_cmpR op_isN (pv 3) pe_non (nomark _)) (pe_one (pe_call (d_are_alike T) (hr.mono (by decide)) (by rfl) T.m_are_alike T.F_are_alike.kp T.b_are_alike .nil pass0 (pa_cons (pv 4) (pa_cons (pv 5) (pa_cons (pe_ix (ixA K) (pv 2) pe_int (fun _ _ => rfl)) pa_nil)))))))) pss_nil) (pss_cons (ps_if (pt_not (truA K (pe_call (d_is_row T) (hr.mono (by decide)) (by rfl) T.m_is_row T.F_is_row.kp T.b_is_row .nil pass0 (pa_cons (pe_ix (ixA K) (pv 2) pe_int (fun _ _ => rfl)) (pa_cons (pv 6) pa_nil))))) (pss_one (ps_ret pe_bl)) pss_nil) (pss_cons (ps_if (pt_cmpR (eqA K hr.units) (pv 0) pe_str (nomark _)) (pss_one (ps_ret (pe_call (d_shows_following T) (hr.mono (by decide)) (by rfl) T.m_shows_following T.F_shows_following.kp T.b_shows_following .nil pass0 (pa_cons (pv 3) (pa_cons (pv 5) (pa_cons (pe_ix (ixA K) (pv 2) pe_int (fun _ _ => rfl)) pa_nil)))))) pss_nil) (pss_one (ps_ret (pe_call (d_shows_open T) (hr.mono (by decide)) (by rfl) T.m_shows_open T.F_shows_open.kp T.b_shows_open .nil pass0 (pa_cons (pv 3) (pa_cons (pv 5) (pa_cons (pe_ix (ixA K) (pv 2) pe_int (fun _ _ => rfl)) pa_nil))))))))))))))), fun x hx => ?_⟩
  obtain ⟨c, ⟨ls, rs⟩, p⟩ := x
  obtain ⟨hb, hp, hps, hcw⟩ := hx
  have hb : BookOk ls rs := hb
  have hp : Pv p := hp
  have hps : ∀ d ∈ c.parts, Pv d := hps
  have h8 := hb.names.hi
  have h1 := hb.names.lo
  have l1 : (nameD ls).length = ls.length := List.length_map ..
  have hz : rs.length ≤ 900 := Nat.le_trans hb.few (by decide)
  refine ds_seq (ds_asg_g (Ev.dl (ev_var rfl) ⟨[4] ++ [5], _, dg_tup2 dg_name dg_name, ?_⟩))
  refine ds_seq (ds_asg (Ev.dl (ev_cast (congrArg (fun n : Nat => D.int n) l1) (ev_lenT (ds := nameD ls) (ev_var rfl))) ?_))
  cases c with
  | fits =>
    refine ds_seq (ds_word (x := Str.ofString "fits") true (by decide +kernel) rfl (fun _ => ?_) fun h => (nomatch h))
    exact ds_ret (Ev.dl (ev_call (s := spFitting) (x := (p, rs, ls.length, false)) (eva_cons (ev_var rfl) (eva_cons (ev_var (d := .tup (nameD rs)) rfl) (eva_cons (ev_var rfl) eva_nil))) (np1 hp (np_rD (b := false) rfl)) ⟨hp, hb.rows, h8, Nat.le_trans hz (by decide)⟩ fun d h => h) rfl)
  | quarrels =>
    refine ds_seq (ds_word (x := Str.ofString "quarrels") false (by decide +kernel) rfl (fun h => nomatch h) fun _ => ?_)
    refine ds_seq (ds_word (x := Str.ofString "quarrels") true (by decide +kernel) rfl (fun _ => ?_) fun h => (nomatch h))
    exact ds_ret (Ev.dl (ev_call (s := spSQ) (x := (p, rs, ls.length)) (eva_cons (ev_var rfl) (eva_cons (ev_var (d := .tup (nameD rs)) rfl) (eva_cons (ev_var rfl) eva_nil))) (np1 hp (np_tn rfl)) ⟨hp, hb.rows, h8, hz⟩ fun d h => h) rfl)
  | follows d =>
    have hd : Pv d := hps d List.mem_cons_self
    refine ds_seq (ds_word (x := Str.ofString "follows") false (by decide +kernel) rfl (fun h => nomatch h) fun _ => ?_)
    refine ds_seq (ds_word (x := Str.ofString "follows") false (by decide +kernel) rfl (fun h => nomatch h) fun _ => ?_)
    refine ds_seq (ds_word (x := Str.ofString "follows") false (by decide +kernel) rfl (fun h => nomatch h) fun _ => ?_)
    refine ds_seq (ds_word (x := Str.ofString "follows") false (by decide +kernel) rfl (fun h => nomatch h) fun _ => ?_)
    refine ds_seq (ds_word (x := Str.ofString "follows") false (by decide +kernel) rfl (fun h => nomatch h) fun _ => ?_)
    refine ds_seq (ds_if (EvT.dl (b := !rowB d ls.length) (evt_not (evt_tru_bl (ev_call (s := spRowG) (x := (d, ls.length)) (eva_cons (ev_ix (ev_var (d := .lst [d]) rfl).b ev_int (atI_nat (j := 0) rfl)) (eva_cons (ev_var rfl) eva_nil)) (np1 (r := [_]) hd rfl) hd fun d h => h))) ⟨fun h => ?_, fun h => ds_next ?_⟩))
    · rw [Bool.not_eq_true'] at h
      refine ds_ret (Ev.dl ev_bl ?_)
      show D.bl false = D.bl (rowB d ls.length && _)
      rw [h]; rfl
    · rw [Bool.not_eq_false'] at h
      obtain ⟨l, rfl, hl, _, _⟩ := rowB_iff.mp h
      refine ds_seq (ds_word (x := Str.ofString "follows") true (by decide +kernel) rfl (fun _ => ?_) fun h => (nomatch h))
      refine ds_ret (Ev.dl (ev_call (s := spSF) (d := .bl (sfB p rs l ls.length)) (x := (p, rs, l, ls.length)) (eva_cons (ev_var rfl) (eva_cons (ev_var rfl) (eva_cons (ev_ix (ev_var (d := .lst [.str (tx l)]) rfl).b ev_int (atI_nat (j := 0) rfl)) eva_nil))) (np1 hp (np_tn rfl)) ⟨hp, hb.rows, h8, hz, hl⟩ fun d h => h) ?_)
      show D.bl _ = D.bl (rowB (.str (tx l)) ls.length && sfB p rs (codesOf (.str (tx l))) ls.length)
      rw [h, show codesOf (.str (tx l)) = l from tx_cps l]; rfl
  | opn d =>
    have hd : Pv d := hps d List.mem_cons_self
    refine ds_seq (ds_word (x := Str.ofString "open") false (by decide +kernel) rfl (fun h => nomatch h) fun _ => ?_)
    refine ds_seq (ds_word (x := Str.ofString "open") false (by decide +kernel) rfl (fun h => nomatch h) fun _ => ?_)
    refine ds_seq (ds_word (x := Str.ofString "open") false (by decide +kernel) rfl (fun h => nomatch h) fun _ => ?_)
    refine ds_seq (ds_word (x := Str.ofString "open") false (by decide +kernel) rfl (fun h => nomatch h) fun _ => ?_)
    refine ds_seq (ds_word (x := Str.ofString "open") false (by decide +kernel) rfl (fun h => nomatch h) fun _ => ?_)
    refine ds_seq (ds_if (EvT.dl (b := !rowB d ls.length) (evt_not (evt_tru_bl (ev_call (s := spRowG) (x := (d, ls.length)) (eva_cons (ev_ix (ev_var (d := .lst [d]) rfl).b ev_int (atI_nat (j := 0) rfl)) (eva_cons (ev_var rfl) eva_nil)) (np1 (r := [_]) hd rfl) hd fun d h => h))) ⟨fun h => ?_, fun h => ds_next ?_⟩))
    · rw [Bool.not_eq_true'] at h
      refine ds_ret (Ev.dl ev_bl ?_)
      show D.bl false = D.bl (rowB d ls.length && _)
      rw [h]; rfl
    · rw [Bool.not_eq_false'] at h
      obtain ⟨l, rfl, hl, _, _⟩ := rowB_iff.mp h
      refine ds_seq (ds_word (x := Str.ofString "open") false (by decide +kernel) rfl (fun h => nomatch h) fun _ => ?_)
      refine ds_ret (Ev.dl (ev_call (s := spSO) (d := .bl (soB p rs l ls.length)) (x := (p, rs, l, ls.length)) (eva_cons (ev_var rfl) (eva_cons (ev_var rfl) (eva_cons (ev_ix (ev_var (d := .lst [.str (tx l)]) rfl).b ev_int (atI_nat (j := 0) rfl)) eva_nil))) (np1 hp (np_tn rfl)) ⟨hp, hb.rows, h8, hz, hl⟩ fun d h => h) ?_)
      show D.bl _ = D.bl (rowB (.str (tx l)) ls.length && soB p rs (codesOf (.str (tx l))) ls.length)
      rw [h, show codesOf (.str (tx l)) = l from tx_cps l]; rfl
  | above a b =>
    have ha : Pv a := hps a (by simp [Cw.parts])
    have hb' : Pv b := hps b (by simp [Cw.parts])
    refine ds_seq (ds_word (x := Str.ofString "above") false (by decide +kernel) rfl (fun h => nomatch h) fun _ => ?_)
    refine ds_seq (ds_word (x := Str.ofString "above") false (by decide +kernel) rfl (fun h => nomatch h) fun _ => ?_)
    refine ds_seq (ds_word (x := Str.ofString "above") true (by decide +kernel) rfl (fun _ => ?_) fun h => (nomatch h))
    exact ds_ret (Ev.dl (ev_call (s := spSAb) (x := (p, rs, ls.length, a, b)) (eva_cons (ev_var rfl) (eva_cons (ev_var (d := .tup (nameD rs)) rfl) (eva_cons (ev_var rfl) (eva_cons (ev_var (d := .lst [a, b]) rfl) eva_nil)))) (np1 hp (np_tn (r := [_, .lst [a, b]]) (by show (true && ((noP a && (noP b && true)) && true)) = true; rw [ha.np, hb'.np]; rfl))) ⟨hp, hb.rows, h8, hz, ha, hb'⟩ fun d h => h) rfl)
  | count d =>
    have hd : Pv d := hps d List.mem_cons_self
    refine ds_seq (ds_word (x := Str.ofString "count") false (by decide +kernel) rfl (fun h => nomatch h) fun _ => ?_)
    refine ds_seq (ds_word (x := Str.ofString "count") false (by decide +kernel) rfl (fun h => nomatch h) fun _ => ?_)
    refine ds_seq (ds_word (x := Str.ofString "count") false (by decide +kernel) rfl (fun h => nomatch h) fun _ => ?_)
    refine ds_seq (ds_word (x := Str.ofString "count") true (by decide +kernel) rfl (fun _ => ?_) fun h => (nomatch h))
    refine ds_ret (Ev.dl (ev_andV (a := isNonB p) (b := cntB d (fittersM rs ls.length).length) (ev_op (ev_var rfl) ev_non (dr2_isN fun W v h => rep_non hp h)) fun _ => ev_andV (a := wholeB d) (b := decide (intOf d = ((fittersM rs ls.length).length : Int))) (ev_call (s := spWholeG) (x := d) (eva_cons (ev_ix (ev_var (d := .lst [d]) rfl).b ev_int (atI_nat (j := 0) rfl)) eva_nil) (np1 (r := []) hd rfl) hd fun d h => h) fun hw => ?eqc) rfl)
    case eqc =>
      obtain ⟨i, rfl⟩ := whole_of hw
      exact ev_op (ev_ix (ev_var (d := .lst [.int i]) rfl).b ev_int (atI_nat (j := 0) rfl)) (ev_call (s := spCnt) (x := (rs, ls.length, false)) (d := .int ((fittersM rs ls.length).length : Nat)) (eva_cons (ev_var (d := .tup (nameD rs)) rfl) (eva_cons (ev_var rfl) eva_nil)) (np_rd (b := false) (r := [_]) rfl) ⟨hb.rows, h8, by show rs.length ≤ 1000; omega⟩ fun d h => h) eq_int'
  | alike d =>
    have hd : Pv d := hps d List.mem_cons_self
    refine ds_seq (ds_word (x := Str.ofString "alike") false (by decide +kernel) rfl (fun h => nomatch h) fun _ => ?_)
    refine ds_seq (ds_word (x := Str.ofString "alike") false (by decide +kernel) rfl (fun h => nomatch h) fun _ => ?_)
    refine ds_seq (ds_word (x := Str.ofString "alike") false (by decide +kernel) rfl (fun h => nomatch h) fun _ => ?_)
    refine ds_seq (ds_word (x := Str.ofString "alike") false (by decide +kernel) rfl (fun h => nomatch h) fun _ => ?_)
    refine ds_seq (ds_word (x := Str.ofString "alike") true (by decide +kernel) rfl (fun _ => ?_) fun h => (nomatch h))
    exact ds_ret (Ev.dl (ev_andV (a := isNonB p) (b := alkB ls rs d) (ev_op (ev_var rfl) ev_non (dr2_isN fun W v h => rep_non hp h)) fun _ => ev_call (s := spAlk) (x := ((ls, rs), d)) (eva_cons (ev_var rfl) (eva_cons (ev_var rfl) (eva_cons (ev_ix (ev_var (d := .lst [d]) rfl).b ev_int (atI_nat (j := 0) rfl)) eva_nil))) (np_tn (np_tn (np1 (r := []) hd rfl))) ⟨hb, hd, hcw⟩ fun d h => h) rfl)
end K61

namespace K61
open PySem PySem.Spec PyProof.Rows L2 Dw
/-! cases: names with marks -/
structure NumOk (l : List Nat) (k : Nat) : Prop where
  lo : 1 ≤ l.length
  hi : l.length ≤ 2
  dig : ∀ c ∈ l, 48 ≤ c ∧ c ≤ 57
  lead : (decide (l = [48]) || !decide (sgn l 0 = 48)) = true
  val : NumText.digitsVal l = k
def numB (k : Nat) : Bool := decide (1 ≤ (TL.numL k).length) && decide ((TL.numL k).length ≤ 2) && (TL.numL k).all (fun c => decide (48 ≤ c) && decide (c ≤ 57)) && (decide (TL.numL k = [48]) || !decide (sgn (TL.numL k) 0 = 48)) && decide (NumText.digitsVal (TL.numL k) = k)
theorem num_all : (List.range 100).all numB = true := by decide +kernel
theorem num_ok {k : Nat} (h : k < 100) : NumOk (TL.numL k) k := by
  have := List.all_eq_true.mp num_all k (List.mem_range.mpr h)
  unfold numB at this
  rw [Bool.and_eq_true, Bool.and_eq_true, Bool.and_eq_true, Bool.and_eq_true, decide_eq_true_eq, decide_eq_true_eq, decide_eq_true_eq, List.all_eq_true] at this
  obtain ⟨⟨⟨⟨a, b⟩, c⟩, d⟩, e⟩ := this
  refine ⟨a, b, fun x hx => ?_, d, e⟩
  have := c x hx
  rw [Bool.and_eq_true, decide_eq_true_eq, decide_eq_true_eq] at this
  exact this
theorem digitsS : Str.ofString "0123456789" = tx ((List.range 10).map (48 + ·)) := by decide +kernel
theorem zeroS : Str.ofString "0" = ch 48 := by decide +kernel
theorem semiS : Str.ofString "; " = tx [59, 32] := by decide +kernel
def spIsNum : Spc where
  ty := List Nat × Nat
  args := fun x => [.str (tx x.1)]
  ok := fun x => NumOk x.1 x.2
  rel := fun _ d => d = .bl true
def spMark : Spc where
  ty := List Nat × Nat
  args := fun x => [.str (tx x.1)]
  ok := fun x => NumOk x.1 x.2 ∧ x.2 < 100
  rel := fun x d => d = .int x.2
def wordsL (p : List Nat × List Nat) : List (List Nat) := p.1 :: p.2.map TL.numL
def partT (p : List Nat × List Nat) : List Nat := TL.joinL [32] (wordsL p)
def caseTx (ls ms : List (List Nat)) : List Nat := TL.joinL [59, 32] ((ls.zip ms).map partT)
structure CaseOk (ls ms : List (List Nat)) (n : Nat) : Prop where
  names : NamesOk ls
  two : 2 ≤ ls.length
  same : ms.length = ls.length
  wide : ∀ m ∈ ms, m.length = n
  lo : 1 ≤ n
  hi : n ≤ 8
  marks : ∀ m ∈ ms, ∀ k ∈ m, k < 100
def caseD (ls ms : List (List Nat)) : D := .tup [.tupN (nameD ls), .tup (ms.map fun m => .tup (ordD m))]
def spReadC (f : Addr) (b : Bool) : Spc where
  ty := List (List Nat) × List (List Nat) × Nat
  args := fun x => .str (tx (caseTx x.1 x.2.1)) :: (if b then [.raw (.ref f)] else [])
  ok := fun x => CaseOk x.1 x.2.1 x.2.2
  rel := fun x d => d = caseD x.1 x.2.1
def agC (a b : Nat) : Nat := if a < b then 43 else if b < a then 45 else 46
def agR (a b : List Nat) : List Nat := (a.zip b).map fun p => agC p.1 p.2
theorem agR_ok {a b : List Nat} {n : Nat} (h1 : a.length = n) (h2 : b.length = n) : RowOk (agR a b) n := ⟨by unfold agR; rw [List.length_map, List.length_zip]; omega, fun c hc => by
  obtain ⟨p, _, rfl⟩ := List.mem_map.mp hc
  unfold agC
  by_cases h : p.1 < p.2
  · rw [if_pos h]; exact .inl rfl
  · rw [if_neg h]
    by_cases h2 : p.2 < p.1
    · rw [if_pos h2]; exact .inr (.inl rfl)
    · rw [if_neg h2]; exact .inr (.inr rfl)⟩
def spSignOf : Spc where
  ty := Nat × Nat
  args := fun x => [.int x.1, .int x.2]
  ok := fun _ => True
  rel := fun x d => d = .str (ch (agC x.1 x.2))
def spBetween : Spc where
  ty := List Nat × List Nat × Nat
  args := fun x => [.tup (ordD x.1), .tup (ordD x.2.1)]
  ok := fun x => x.1.length = x.2.2 ∧ x.2.1.length = x.2.2 ∧ x.2.2 ≤ 8
  rel := fun x d => d = .str (tx (agR x.1 x.2.1))
theorem ch_sameC {a b : Nat} : decide (ch a = ch b) = decide (a = b) := decide_eq_decide.mpr ch_eq
theorem zip_ord (a b : List Nat) : zipD (ordD a) (ordD b) = (a.zip b).map fun p => D.tup [.int (p.1 : Nat), .int (p.2 : Nat)] := by
  unfold zipD ordD
  rw [List.zip_map, List.map_map]; rfl
theorem ev_strK {Γ : Gam} {ta : TE} {i : Int} (h : Ev ta Γ (.int i)) (hz : i.natAbs.log2 < 1920) : Ev (tCB (fun xs H Q => ∃ i, xs = [.int i] ∧ i.natAbs.log2 < 1920 ∧ Q (.str (toString i)) H) (tCons ta tNil)) Γ (.str (Str.ofString (toString i))) := fun F σ W Q g k =>
  h F σ W _ g fun v H s r => ⟨i, by rw [show v = V.int i from r], hz, k _ H s rfl⟩
theorem ev_intS {Γ : Gam} {ta : TE} {a : Str} {n : Int} (h : Ev ta Γ (.str a)) (hn : PySem.intText? a = some n) (hl : a.length ≤ 640) : Ev (tCB (fun xs H Q => ∃ a n, xs = [.str a] ∧ PySem.intText? a = some n ∧ a.length ≤ 640 ∧ Q (.int n) H) (tCons ta tNil)) Γ (.int n) := fun F σ W Q g k =>
  h F σ W _ g fun v H s r => ⟨a, n, by rw [show v = V.str a from r], hn, hl, k _ H s rfl⟩
theorem NumOk.int {l : List Nat} {k : Nat} (h : NumOk l k) : PySem.intText? (tx l) = some (k : Int) := by
  have := SX.int_S (a := l) (List.all_eq_true.mpr fun c hc => by
    have := h.dig c hc
    rw [Bool.and_eq_true, decide_eq_true_eq, decide_eq_true_eq]; exact this) (fun e => by have := h.lo; rw [e] at this; cases this) (by have := h.hi; omega)
  rw [h.val] at this
  exact this
theorem names_zip {ls ms : List (List Nat)} (h : ms.length = ls.length) : (ls.zip ms).map (·.1) = ls := List.map_fst_zip (by omega)
theorem marks_zip {ls ms : List (List Nat)} (h : ms.length = ls.length) : (ls.zip ms).map (·.2) = ms := List.map_snd_zip (by omega)
theorem joinX_c {c : Nat} {sep : List Nat} (hs : c ∉ sep) : ∀ ps : List (List Nat), (∀ p ∈ ps, c ∉ p) → c ∉ TL.joinL sep ps
  | [], _, hc => absurd hc (by simp [TL.joinL])
  | [l], h, hc => h l List.mem_cons_self (by simpa [TL.joinL] using hc)
  | l :: m :: r, h, hc => by
    have e : TL.joinL sep (l :: m :: r) = l ++ (sep ++ TL.joinL sep (m :: r)) := by simp [TL.joinL]
    rw [e, List.mem_append, List.mem_append] at hc
    rcases hc with hc | hc | hc
    · exact h l List.mem_cons_self hc
    · exact hs hc
    · exact joinX_c hs (m :: r) (fun l' hl => h l' (List.mem_cons_of_mem _ hl)) hc
theorem joinL_lenB {m : Nat} (sep : List Nat) : ∀ ps : List (List Nat), (∀ p ∈ ps, p.length ≤ m) → (TL.joinL sep ps).length ≤ ps.length * (m + sep.length)
  | [], _ => by simp [TL.joinL]
  | [l], h => by
    have := h l List.mem_cons_self
    simp [TL.joinL]; omega
  | l :: q :: r, h => by
    have e : TL.joinL sep (l :: q :: r) = l ++ (sep ++ TL.joinL sep (q :: r)) := by simp [TL.joinL]
    have ih := joinL_lenB sep (q :: r) fun p hp => h p (List.mem_cons_of_mem _ hp)
    have h1 := h l List.mem_cons_self
    rw [e, List.length_append, List.length_append, List.length_cons (a := l), Nat.succ_mul]
    omega
theorem CaseOk.zip {ls ms : List (List Nat)} {n : Nat} (h : CaseOk ls ms n) {p : List Nat × List Nat} (hp : p ∈ ls.zip ms) : NameOk p.1 ∧ p.2.length = n ∧ ∀ k ∈ p.2, k < 100 :=
  ⟨h.names.all _ (List.of_mem_zip hp).1, h.wide _ (List.of_mem_zip hp).2, h.marks _ (List.of_mem_zip hp).2⟩
theorem words_no {p : List Nat × List Nat} {n c : Nat} (h : NameOk p.1 ∧ p.2.length = n ∧ ∀ k ∈ p.2, k < 100) (hc : c = 32 ∨ c = 59) : ∀ w ∈ wordsL p, c ∉ w := fun w hw hm => by
  rcases List.mem_cons.mp hw with rfl | hw
  · have := h.1.all c hm; omega
  · obtain ⟨k, hk, rfl⟩ := List.mem_map.mp hw
    have := (num_ok (h.2.2 k hk)).dig c hm; omega
theorem words_len {p : List Nat × List Nat} {n : Nat} (h : NameOk p.1 ∧ p.2.length = n ∧ ∀ k ∈ p.2, k < 100) : (wordsL p).length = n + 1 := by
  unfold wordsL
  rw [List.length_cons, List.length_map, h.2.1]
theorem words_8 {p : List Nat × List Nat} {n : Nat} (h : NameOk p.1 ∧ p.2.length = n ∧ ∀ k ∈ p.2, k < 100) : ∀ w ∈ wordsL p, w.length ≤ 8 := fun w hw => by
  rcases List.mem_cons.mp hw with rfl | hw
  · exact h.1.hi
  · obtain ⟨k, hk, rfl⟩ := List.mem_map.mp hw
    have := (num_ok (h.2.2 k hk)).hi; omega
theorem CaseOk.part {ls ms : List (List Nat)} {n : Nat} (h : CaseOk ls ms n) {q : List Nat} (hq : q ∈ (ls.zip ms).map partT) : q.length ≤ 81 ∧ 59 ∉ q := by
  obtain ⟨p, hp, rfl⟩ := List.mem_map.mp hq
  have hz := h.zip hp
  refine ⟨?_, joinX_c (by simp) _ fun w hw => words_no hz (.inr rfl) w hw⟩
  have := joinL_lenB (m := 8) [32] (wordsL p) fun w hw => words_8 hz w hw
  rw [words_len hz] at this
  have h8 := h.hi
  have : (n + 1) * (8 + [32].length) ≤ 9 * 9 := Nat.mul_le_mul (by omega) (by decide)
  show (TL.joinL [32] (wordsL p)).length ≤ 81
  omega
theorem CaseOk.zl {ls ms : List (List Nat)} {n : Nat} (h : CaseOk ls ms n) : (ls.zip ms).length = ls.length := by
  rw [List.length_zip, h.same, Nat.min_self]
theorem CaseOk.len {ls ms : List (List Nat)} {n : Nat} (h : CaseOk ls ms n) : (caseTx ls ms).length ≤ 664 := by
  have := joinL_lenB (m := 81) [59, 32] ((ls.zip ms).map partT) fun q hq => (h.part hq).1
  rw [List.length_map, h.zl] at this
  have h8 := h.names.hi
  have : ls.length * (81 + [59, 32].length) ≤ 8 * 83 := Nat.mul_le_mul h8 (by decide)
  unfold caseTx
  omega
theorem CaseOk.split {ls ms : List (List Nat)} {n : Nat} (h : CaseOk ls ms n) : (Txt.split (tx (caseTx ls ms)) (Str.ofString "; ")).map D.str = (ls.zip ms).map fun p => D.str (tx (partT p)) := by
  have hne : (ls.zip ms).map partT ≠ [] := fun e => by
    have h2 := h.two
    have := congrArg List.length e
    rw [List.length_map, h.zl] at this
    have : ls.length = 0 := this
    omega
  have e := SX.split_S (a := caseTx ls ms) (b := [59, 32]) (by simp) (by decide)
  unfold caseTx at e
  rw [SX.spl_join hne fun q hq => (h.part hq).2] at e
  rw [semiS]
  show (Txt.split (tx (TL.joinL [59, 32] ((ls.zip ms).map partT))) (tx [59, 32])).map D.str = _
  rw [show Txt.split (tx (TL.joinL [59, 32] ((ls.zip ms).map partT))) (tx [59, 32]) = ((ls.zip ms).map partT).map tx from e, List.map_map, List.map_map]; rfl
theorem words_split {p : List Nat × List Nat} {n : Nat} (h : NameOk p.1 ∧ p.2.length = n ∧ ∀ k ∈ p.2, k < 100) : (Txt.split (tx (partT p)) (Str.ofString " ")).map D.str = nameD (wordsL p) := by
  unfold partT
  rw [split_sp (by unfold wordsL; simp) (words_no h (.inl rfl)), nameD_map]
theorem inV_non (o : List Nat) : inV .non ((ordD o).map scV) = false := by
  unfold inV ordD
  rw [List.map_map, List.any_map, List.any_eq_false]
  intro k _
  show ¬ (eqV (V.int (k : Int)) V.non = true)
  exact Bool.false_ne_true
end K61

namespace K61
open PySem PySem.Spec PyProof.Rows L2 Dw
/-! any text, read as a case -/
def digC (c : Nat) : Bool := decide (c ∈ (List.range 10).map (48 + ·))
theorem digC_iff {c : Nat} : digC c = true ↔ 48 ≤ c ∧ c ≤ 57 := by
  unfold digC
  rw [decide_eq_true_eq, List.mem_map]
  constructor
  · rintro ⟨a, h, rfl⟩
    have := List.mem_range.mp h
    omega
  · rintro ⟨h1, h2⟩
    exact ⟨c - 48, List.mem_range.mpr (by omega), by omega⟩
def leadB (l : List Nat) : Bool := decide (l = [48]) || !decide (sgn l 0 = 48)
def numW (l : List Nat) : Bool := !decide (l = []) && (l.all digC && leadB l)
def markW (l : List Nat) : Option Nat := if (numW l && decide (l.length ≤ 2)) = true then some (NumText.digitsVal l) else none
def optN : Option Nat → D | some k => .int k | none => .non
theorem numW_ok {l : List Nat} (h : numW l = true) (h2 : l.length ≤ 2) : NumOk l (NumText.digitsVal l) := by
  unfold numW at h
  rw [Bool.and_eq_true, Bool.and_eq_true, Bool.not_eq_true', decide_eq_false_iff_not, List.all_eq_true] at h
  refine ⟨?_, h2, fun c hc => digC_iff.mp (h.2.1 c hc), h.2.2, rfl⟩
  cases l with
  | nil => exact absurd rfl h.1
  | cons _ _ => simp
theorem dig_two : ∀ i < 10, ∀ j < 10, NumText.digitsVal [48 + i, 48 + j] < 100 := by decide +kernel
theorem dig_one : ∀ i < 10, NumText.digitsVal [48 + i] < 100 := by decide +kernel
theorem NumOk.lt {l : List Nat} {k : Nat} (h : NumOk l k) : k < 100 := by
  have e := h.val
  have h1 := h.lo
  have h2 := h.hi
  have hd := h.dig
  match l, h1, h2 with
  | [a], _, _ =>
    have := hd a List.mem_cons_self
    rw [← e, show a = 48 + (a - 48) by omega]
    exact dig_one _ (by omega)
  | [a, b], _, _ =>
    have ha := hd a List.mem_cons_self
    have hb := hd b (by simp)
    rw [← e, show a = 48 + (a - 48) by omega, show b = 48 + (b - 48) by omega]
    exact dig_two _ (by omega) _ (by omega)
theorem markW_some {l : List Nat} {k : Nat} (h : markW l = some k) : NumOk l k ∧ k < 100 := by
  unfold markW at h
  by_cases hb : (numW l && decide (l.length ≤ 2)) = true
  · rw [if_pos hb] at h
    rw [Bool.and_eq_true, decide_eq_true_eq] at hb
    have ho := numW_ok hb.1 hb.2
    rw [Option.some.inj h] at ho
    exact ⟨ho, ho.lt⟩
  · rw [if_neg hb] at h; cases h
theorem NumOk.mark {l : List Nat} {k : Nat} (h : NumOk l k) : markW l = some k := by
  have h1 := h.lo
  have hn : numW l = true := by
    unfold numW
    rw [decide_eq_false (fun e => by rw [e] at h1; cases h1), List.all_eq_true.mpr (fun c hc => digC_iff.mpr (h.dig c hc)), show leadB l = true from h.lead]; rfl
  unfold markW
  rw [hn, decide_eq_true h.hi, h.val]; rfl
def spIsNumG : Spc where
  ty := List Nat
  args := fun l => [.str (tx l)]
  ok := fun l => l.length ≤ 15000
  rel := fun l d => d = .bl (numW l)
def spMarkG : Spc where
  ty := List Nat
  args := fun l => [.str (tx l)]
  ok := fun l => l.length ≤ 15000
  rel := fun l d => d = optN (markW l)
/-! the parts of a text -/
theorem spl_ne (S : List Nat) : ∀ (k : Nat) (acc l : List Nat), TL.spl S k acc l ≠ []
  | k, acc, [] => by rw [TL.spl_nil]; exact fun h => nomatch h
  | 0, acc, c :: r => by
    cases h : TL.pre S (c :: r) with
    | true => rw [TL.spl_hit h]; exact fun h => nomatch h
    | false => rw [TL.spl_miss h]; exact spl_ne S 0 _ r
  | k + 1, acc, _ :: r => spl_ne S k acc r
theorem spl_len (S : List Nat) : ∀ (k : Nat) (acc l : List Nat), (TL.spl S k acc l).length ≤ l.length + 1
  | k, acc, [] => by rw [TL.spl_nil]; exact Nat.le_refl _
  | 0, acc, c :: r => by
    cases h : TL.pre S (c :: r) with
    | true =>
      rw [TL.spl_hit h, List.length_cons, List.length_cons]
      have := spl_len S (S.length - 1) [] r
      omega
    | false =>
      rw [TL.spl_miss h, List.length_cons]
      have := spl_len S 0 (acc ++ [c]) r
      omega
  | k + 1, acc, _ :: r => Nat.le_trans (spl_len S k acc r) (by rw [List.length_cons]; omega)
theorem spl_sub (S : List Nat) : ∀ (k : Nat) (acc l : List Nat), ∀ p ∈ TL.spl S k acc l, p.length ≤ acc.length + l.length ∧ ∀ c ∈ p, c ∈ acc ++ l
  | k, acc, [], p, hp => by
    rw [TL.spl_nil, List.mem_singleton] at hp
    subst hp
    exact ⟨Nat.le_refl _, fun c hc => List.mem_append_left _ hc⟩
  | 0, acc, c :: r, p, hp => by
    cases h : TL.pre S (c :: r) with
    | true =>
      rw [TL.spl_hit h, List.mem_cons] at hp
      rcases hp with rfl | hp
      · exact ⟨by omega, fun c hc => List.mem_append_left _ hc⟩
      · obtain ⟨h1, h2⟩ := spl_sub S (S.length - 1) [] r p hp
        refine ⟨by simp at h1 ⊢; omega, fun d hd => ?_⟩
        have := h2 d hd
        simp at this ⊢
        exact .inr (.inr this)
    | false =>
      rw [TL.spl_miss h] at hp
      obtain ⟨h1, h2⟩ := spl_sub S 0 (acc ++ [c]) r p hp
      refine ⟨by simp at h1 ⊢; omega, fun d hd => ?_⟩
      have := h2 d hd
      simp at this ⊢
      exact this
  | k + 1, acc, c :: r, p, hp => by
    obtain ⟨h1, h2⟩ := spl_sub S k acc r p hp
    refine ⟨by rw [List.length_cons]; omega, fun d hd => ?_⟩
    have := h2 d hd
    simp at this ⊢
    rcases this with h | h
    · exact .inl h
    · exact .inr (.inr h)
def semiL (l : List Nat) : List (List Nat) := TL.spl [59, 32] 0 [] l
theorem semiS_split (l : List Nat) : Txt.split (tx l) (Str.ofString "; ") = (semiL l).map tx := by
  rw [semiS]
  exact SX.split_S (a := l) (b := [59, 32]) (by simp) (by decide)
def partsL (l : List Nat) : List (List (List Nat)) := (semiL l).map splitL
theorem parts_ne (l : List Nat) : ∀ ws ∈ partsL l, ws ≠ [] := fun ws h => by
  obtain ⟨p, _, rfl⟩ := List.mem_map.mp h
  exact splitL_ne p
theorem parts_len (l : List Nat) : (partsL l).length ≤ l.length + 1 := by
  unfold partsL
  rw [List.length_map]
  exact spl_len _ 0 [] l
theorem parts_word (l : List Nat) : ∀ ws ∈ partsL l, ws.length ≤ l.length + 1 ∧ ∀ w ∈ ws, w.length ≤ l.length ∧ ∀ c ∈ w, c ∈ l := fun ws h => by
  obtain ⟨p, hp, rfl⟩ := List.mem_map.mp h
  obtain ⟨h1, h2⟩ := spl_sub [59, 32] 0 [] l p hp
  have h1 : p.length ≤ l.length := by simpa using h1
  have := splitL_len p
  refine ⟨by omega, fun w hw => ?_⟩
  obtain ⟨s1, s2⟩ := splitL_sub p w hw
  exact ⟨by omega, fun c hc => by simpa using h2 c (s2 c hc)⟩
def headsL (ps : List (List (List Nat))) : List (List Nat) := ps.map fun ws => ws.headD []
def manyL (ps : List (List (List Nat))) : Nat := (ps.headD []).length - 1
def marksO (ws : List (List Nat)) : List (Option Nat) := (ws.drop 1).map markW
def marksN (ps : List (List (List Nat))) : List (List Nat) := ps.map fun ws => (marksO ws).map fun o => o.getD 0
def candB (ps : List (List (List Nat))) : Bool := (decide (2 ≤ ps.length) && decide (ps.length ≤ 8)) && namesB (nameD (headsL ps))
def wideB (ps : List (List (List Nat))) : Bool := (decide (1 ≤ manyL ps) && decide (manyL ps ≤ 8)) && ps.all fun ws => decide (ws.length = manyL ps + 1)
def allMB (ps : List (List (List Nat))) : Bool := ps.all fun ws => !decide (none ∈ marksO ws)
abbrev CaseV := List (List Nat) × List (List Nat) × Nat
def caseP (ps : List (List (List Nat))) : Option CaseV := if (candB ps && (wideB ps && allMB ps)) = true then some (headsL ps, marksN ps, manyL ps) else none
def caseQ (l : List Nat) : Option CaseV := caseP (partsL l)
def caseOf : D → Option CaseV
  | .str x => caseQ x.cps.toList
  | _ => none
def optC : Option CaseV → D | some c => caseD c.1 c.2.1 | none => .non
theorem caseP_ok {ps : List (List (List Nat))} {c : CaseV} (h : caseP ps = some c) : CaseOk c.1 c.2.1 c.2.2 := by
  unfold caseP at h
  by_cases hb : (candB ps && (wideB ps && allMB ps)) = true
  · rw [if_pos hb] at h
    cases h
    unfold candB wideB allMB at hb
    rw [Bool.and_eq_true, Bool.and_eq_true, Bool.and_eq_true, Bool.and_eq_true, Bool.and_eq_true, Bool.and_eq_true, decide_eq_true_eq, decide_eq_true_eq, decide_eq_true_eq, decide_eq_true_eq, List.all_eq_true, List.all_eq_true] at hb
    obtain ⟨⟨⟨a1, a2⟩, a3⟩, ⟨⟨b1, b2⟩, b3⟩, b4⟩ := hb
    have lh : (headsL ps).length = ps.length := List.length_map ..
    have mk : ∀ ws ∈ ps, (marksO ws).length = manyL ps := fun ws hw => by
      unfold marksO
      rw [List.length_map, List.length_drop, of_decide_eq_true (b3 ws hw)]; rfl
    refine ⟨names_some (fun e => by have e : headsL ps = [] := e; rw [e] at lh; have : ps.length = 0 := lh.symm; omega) (show (headsL ps).length ≤ 8 by omega) a3, by show 2 ≤ (headsL ps).length; omega, ?_, fun m hm => ?_, b1, b2, fun m hm k hk => ?_⟩
    · show (marksN ps).length = (headsL ps).length
      rw [lh]; exact List.length_map ..
    · obtain ⟨ws, hw, rfl⟩ := List.mem_map.mp hm
      rw [List.length_map]; exact mk ws hw
    · obtain ⟨ws, hw, rfl⟩ := List.mem_map.mp hm
      obtain ⟨o, ho, rfl⟩ := List.mem_map.mp hk
      have hn : none ∉ marksO ws := by simpa using b4 ws hw
      cases o with
      | none => exact absurd ho hn
      | some k =>
        obtain ⟨w, _, e⟩ := List.mem_map.mp ho
        exact (markW_some e).2
  · rw [if_neg hb] at h; cases h
theorem caseOf_ok {d : D} {c : CaseV} (h : caseOf d = some c) : CaseOk c.1 c.2.1 c.2.2 := by
  cases d with
  | str x => exact caseP_ok h
  | _ => exact absurd h (by simp [caseOf])
theorem case_no {d : D} (h : isStrB d = false) : caseOf d = none := by cases d <;> first | rfl | exact nomatch h
theorem caseQ_tx {ls ms : List (List Nat)} {n : Nat} (h : CaseOk ls ms n) : caseQ (caseTx ls ms) = some (ls, ms, n) := by
  have zl := h.zl
  have h2 := h.two
  have hne : (ls.zip ms).map partT ≠ [] := fun e => by
    have := congrArg List.length e
    rw [List.length_map, zl] at this
    have : ls.length = 0 := this
    omega
  have zz : ∀ p ∈ ls.zip ms, NameOk p.1 ∧ p.2.length = n ∧ ∀ k ∈ p.2, k < 100 := fun p hp => h.zip hp
  have e1 : semiL (caseTx ls ms) = (ls.zip ms).map partT := SX.spl_join hne fun q hq => (h.part hq).2
  have e2 : partsL (caseTx ls ms) = (ls.zip ms).map wordsL := by
    unfold partsL
    rw [e1, List.map_map]
    refine List.map_congr_left fun p hp => ?_
    exact splitL_of (by unfold wordsL; simp) fun w hw => words_no (zz p hp) (.inl rfl) w hw
  have e3 : headsL ((ls.zip ms).map wordsL) = ls := by
    unfold headsL
    rw [List.map_map]
    exact names_zip h.same
  have e5 : ∀ p ∈ ls.zip ms, marksO (wordsL p) = p.2.map some := fun p hp => by
    unfold marksO wordsL
    rw [List.drop_one, List.tail_cons, List.map_map]
    exact List.map_congr_left fun k hk => (num_ok ((zz p hp).2.2 k hk)).mark
  have e4 : marksN ((ls.zip ms).map wordsL) = ms := by
    unfold marksN
    rw [List.map_map]
    refine Eq.trans (List.map_congr_left fun p hp => ?_) (marks_zip h.same)
    show (marksO (wordsL p)).map (fun o => o.getD 0) = p.2
    rw [e5 p hp, List.map_map]
    exact List.map_id' _
  have e6 : manyL ((ls.zip ms).map wordsL) = n := by
    obtain ⟨z0, hz0⟩ : ∃ z, (ls.zip ms)[0]? = some z := ⟨_, List.getElem?_eq_getElem (by omega)⟩
    have hz0m := List.mem_of_getElem? hz0
    unfold manyL
    cases hq : ls.zip ms with
    | nil => rw [hq] at zl; have : (0 : Nat) = ls.length := zl; omega
    | cons q r =>
      have := words_len (zz q (by rw [hq]; exact List.mem_cons_self))
      show (wordsL q).length - 1 = n
      omega
  unfold caseQ caseP
  rw [e2, e3, e4, e6, if_pos]
  unfold candB wideB allMB
  rw [e3, e6, List.length_map, zl, decide_eq_true h2, decide_eq_true h.names.hi, names_ok h.names, decide_eq_true h.lo, decide_eq_true h.hi, List.all_eq_true.mpr, List.all_eq_true.mpr]
  · rfl
  · intro ws hw
    obtain ⟨p, hp, rfl⟩ := List.mem_map.mp hw
    rw [e5 p hp]
    simp
  · intro ws hw
    obtain ⟨p, hp, rfl⟩ := List.mem_map.mp hw
    exact decide_eq_true (words_len (zz p hp))
theorem caseOf_tx {ls ms : List (List Nat)} {n : Nat} (h : CaseOk ls ms n) : caseOf (.str (tx (caseTx ls ms))) = some (ls, ms, n) := by
  show caseQ (tx (caseTx ls ms)).cps.toList = _
  rw [tx_cps]; exact caseQ_tx h
theorem cs_none {l : List Nat} (h : caseQ l = none) : D.non = optC (caseOf (.str (tx l))) := by
  show _ = optC (caseQ (tx l).cps.toList)
  rw [tx_cps, h]; rfl
def spReadCG (f : Addr) (b : Bool) : Spc where
  ty := D
  args := fun d => d :: (if b then [.raw (.ref f)] else [])
  ok := fun d => Pv d ∧ shT d = true
  rel := fun d e => e = optC (caseOf d)
theorem inV_opt (r : List (Option Nat)) : inV .non ((r.map optN).map scV) = decide (none ∈ r) := by
  unfold inV
  rw [List.map_map, List.any_map, Bool.eq_iff_iff, List.any_eq_true, decide_eq_true_eq]
  constructor
  · rintro ⟨o, ho, e⟩
    cases o with
    | none => exact ho
    | some k => exact absurd (show eqV (V.int (k : Int)) V.non = true from e) Bool.false_ne_true
  · exact fun h => ⟨none, h, rfl⟩
theorem sc_opt (r : List (Option Nat)) : (r.map optN).all isSc = true := by
  rw [List.all_map, List.all_eq_true]
  intro o _
  cases o <;> rfl
theorem headD_at {ws : List (List Nat)} (h : ws ≠ []) : (nameD ws)[0]? = some (.str (tx (ws.headD []))) := by
  cases ws with
  | nil => exact absurd rfl h
  | cons w r => rfl
end K61

namespace K61
open PySem PySem.Spec PyProof.Rows L2 Dw
theorem d_is_number {P : Program} {w : World} {K : PySem.W.Frag} {mg : Str → Option Value} {base : Heap} (T : Txt K w mg) : FnOk P w K mg base CX0 1 T.f_is_number T.e_is_number ["word"] (toSp (spIsNumG)) := by
  refine fn_ok T.F_is_number sc_is_number (fun _ => rfl) fun cdv A outer s' H E hr => ?_
  refine ⟨_, (pss_cons (ps_if (PW.pt (pw_or (pt_cmpR (eqA K hr.units) (pv 0) pe_str (nomark _)) (pw_or1 (pt_not (truA K (pe_callB (allA K) (by rfl) T.n_all (by decide +kernel) (pa_cons (pe_lc (own := [("digit", 1)]) rfl sc_is_number.nd (piR K (pv 0)) (blkOk_by (own := [("digit", 1)]) (N := N_is_number) (sc := (defScope s_is_number)) (by decide +kernel)) (fun _ _ _ _ _ => pg_name (i := 1) sc_is_number.nd rfl (Or.inl rfl)) (fun _ _ _ _ _ => pts_nil) (fun _ _ _ _ _ => (pe_cmpR (inA K) (pv 1) (pe_glob (v := .str "0123456789") (by rfl) T.c_DIGITS ⟨_, rfl⟩) (by rfl)))) pa_nil))))))) (pss_one (ps_ret pe_bl)) pss_nil) (pss_one (ps_ret (pe_or (pe_cmpR (eqA K hr.units) (pv 0) pe_str (nomark _)) (pe_one (pe_cmpR (neA K hr.units) (pe_ix (ixA K) (pv 0) pe_int (fun _ _ => rfl)) pe_str (nomark _))))))), fun x hx => ?_⟩
  obtain ⟨l, rfl⟩ : ∃ l' : List Nat, l' = x := ⟨x, rfl⟩
  have hz : l.length ≤ 15000 := hx
  have e0 : decide (tx l = Str.ofString "") = decide (l = []) := by
    rw [show Str.ofString "" = tx [] by decide +kernel]
    exact decide_eq_decide.mpr tx_eq
  refine ds_seq (ds_if (EvT.dl (b := decide (l = []) || !l.all digC) (evt_or (a := decide (l = [])) (b := !l.all digC) (evt_test (ev_op (ev_var rfl) ev_str (eq_sb e0))) fun _ => evt_not (evt_tru_bl (ev_all_lc (K := K) (xs := l) (c := fun c => .str (ch c)) (b := digC) ?it (by omega) fun c hc => ⟨[1], _, dg_name, fun i hi => hi, evt_yes, ev_op (ev_var rfl) ev_str ?dg⟩))) ⟨fun h => ds_ret (Ev.dl ev_bl ?r1), fun h => ds_next ?_⟩))
  case it =>
    have := ej_str (K := K) (ta := tVar 0) (Γ := Gz0 2 (spIsNumG.args l)) (x := tx l) (ev_var rfl)
    rw [signs_tx, List.map_map] at this
    exact this
  case dg =>
    rw [digitsS]
    exact in_code
  case r1 =>
    show D.bl false = D.bl (numW l)
    unfold numW
    rw [Bool.or_eq_true, Bool.not_eq_true'] at h
    rcases h with h | h
    · rw [h]; rfl
    · rw [h, Bool.false_and, Bool.and_false]
  rw [Bool.or_eq_false_iff, Bool.not_eq_false'] at h
  have hl : 0 < l.length := by
    cases l with
    | nil => exact absurd h.1 (by decide)
    | cons _ _ => simp
  refine ds_ret (Ev.dl (ev_orV (a := decide (l = [48])) (b := !decide (sgn l 0 = 48)) (ev_op (ev_var rfl) ev_str (eq_sb ?qa)) fun _ => ev_op (ev_op (ev_var rfl) ev_int (dr2_ixS (x := tx l) (by rw [tx_len]; exact small (by omega)) (sgn_at (l := l) (k := 0) rfl hl))) ev_str (ne_sb ?qb)) ?_)
  case qa =>
    rw [zeroS]
    exact decide_eq_decide.mpr (tx_eq (b := [48]))
  case qb =>
    rw [zeroS]
    show (!decide (ch (sgn l 0) = ch 48)) = _
    rw [ch_sameC]
  show D.bl _ = D.bl (numW l)
  unfold numW leadB
  rw [h.1, h.2]; rfl
end K61

namespace K61
open PySem PySem.Spec PyProof.Rows L2 Dw
theorem d_read_mark {P : Program} {w : World} {K : PySem.W.Frag} {mg : Str → Option Value} {base : Heap} (T : Txt K w mg) : FnOk P w K mg base CX0 2 T.f_read_mark T.e_read_mark ["word"] (toSp (spMarkG)) := by
  refine fn_ok T.F_read_mark sc_read_mark (fun _ => rfl) fun cdv A outer s' H E hr => ?_
  refine ⟨_, (pss_cons (ps_if (PW.pt (pw_or (pt_not (truA K (pe_call (d_is_number T) (hr.mono (by decide)) (by rfl) T.m_is_number T.F_is_number.kp T.b_is_number .nil pass0 (pa_cons (pv 0) pa_nil)))) (pw_or (pt_cmpR opGt (pe_callB (lenA K) (by rfl) T.n_len (by decide +kernel) (pa_cons (pv 0) pa_nil)) (pe_callB (lenA K) (by rfl) T.n_len (by decide +kernel) (pa_cons (pe_callTy call_str_int (by rfl) T.n_str (by decide +kernel) (pa_cons (pe_glob (v := .int 99) (by rfl) T.c_MOST_MARKS ⟨_, rfl⟩) pa_nil)) pa_nil)) (nomark _)) (pw_or1 (pt_cmpR opGt (pe_callTy call_int_str (by rfl) T.n_int (by decide +kernel) (pa_cons (pv 0) pa_nil)) (pe_glob (v := .int 99) (by rfl) T.c_MOST_MARKS ⟨_, rfl⟩) (nomark _)))))) (pss_one (ps_ret pe_non)) pss_nil) (pss_one (ps_ret (pe_callTy call_int_str (by rfl) T.n_int (by decide +kernel) (pa_cons (pv 0) pa_nil))))), fun x hx => ?_⟩
  obtain ⟨l, rfl⟩ : ∃ l' : List Nat, l' = x := ⟨x, rfl⟩
  have hz : l.length ≤ 15000 := hx
  have s2 : (Str.ofString (toString (99 : Int))).length = 2 := by decide +kernel
  have hz2 : (tx l).length ≤ sizeLine := by rw [tx_len]; exact small (by omega)
  have en : Ev (tCall (toSp spIsNumG) [] E0 (tCons (tVar 0) tNil)) (Gz0 1 (spMarkG.args l)) (.bl (numW l)) := ev_call (s := spIsNumG) (x := l) (eva_cons (ev_var rfl) eva_nil) rfl hz fun d h => h
  by_cases h1 : numW l = true
  · rw [h1] at en
    by_cases h2 : l.length ≤ 2
    · have ho := numW_ok h1 h2
      have hk := ho.lt
      have em : markW l = some (NumText.digitsVal l) := ho.mark
      have hi : Ev (tCB (fun xs H Q => ∃ a n, xs = [.str a] ∧ PySem.intText? a = some n ∧ a.length ≤ 640 ∧ Q (.int n) H) (tCons (tVar 0) tNil)) (Gz0 1 (spMarkG.args l)) (.int (NumText.digitsVal l : Nat)) := ev_intS (ev_var rfl) ho.int (by rw [tx_len]; omega)
      refine ds_seq (ds_if (EvT.dl (b := false) (evt_or (a := false) (b := false) (evt_not (a := true) (evt_tru_bl en)) fun _ => evt_or (a := false) (b := false) (evt_test (ev_op (ev_lenS (ev_var rfl) hz2) (ev_lenS (ev_strK ev_int (by decide)) (by rw [s2]; decide)) (gt_b (decide_eq_false (by rw [s2, tx_len]; show ¬ ((2 : Nat) : Int) < (l.length : Int); omega))))) fun _ => evt_test (ev_op hi ev_int (gt_b (decide_eq_false (by omega))))) ⟨fun h => (nomatch h), fun _ => ds_next (ds_ret (Ev.dl hi ?_))⟩))
      show _ = optN (markW l)
      rw [em]; rfl
    · refine ds_seq (ds_if (EvT.dl (b := true) (evt_or (a := false) (b := true) (evt_not (a := true) (evt_tru_bl en)) fun _ => evt_or (a := true) (b := false) (evt_test (ev_op (ev_lenS (ev_var rfl) hz2) (ev_lenS (ev_strK ev_int (by decide)) (by rw [s2]; decide)) (gt_b (decide_eq_true (by rw [s2, tx_len]; show ((2 : Nat) : Int) < (l.length : Int); omega))))) fun h => (nomatch h)) ⟨fun _ => ds_ret (Ev.dl ev_non ?_), fun h => (nomatch h)⟩))
      show D.non = optN (markW l)
      unfold markW
      rw [decide_eq_false h2, Bool.and_false]; rfl
  · have h1 : numW l = false := by simpa using h1
    rw [h1] at en
    refine ds_seq (ds_if (EvT.dl (b := true) (evt_or (a := true) (b := false) (evt_not (a := false) (evt_tru_bl en)) fun h => (nomatch h)) ⟨fun _ => ds_ret (Ev.dl ev_non ?_), fun h => (nomatch h)⟩))
    show D.non = optN (markW l)
    unfold markW
    rw [h1]; rfl
end K61

namespace K61
open PySem PySem.Spec PyProof.Rows L2 Dw
theorem d_sign_of {P : Program} {w : World} {K : PySem.W.Frag} {mg : Str → Option Value} {base : Heap} (T : Txt K w mg) : FnOk P w K mg base CX0 1 T.f_sign_of T.e_sign_of ["mark", "rival"] (toSp (spSignOf)) := by
  refine fn_ok T.F_sign_of sc_sign_of (fun _ => rfl) fun cdv A outer s' H E hr => ?_
  refine ⟨_, (pss_cons (ps_if (pt_cmpR opLt (pv 0) (pv 1) (nomark _)) (pss_one (ps_ret pe_str)) pss_nil) (pss_one (ps_ret (pe_ifExp (pt_cmpR opGt (pv 0) (pv 1) (nomark _)) pe_str pe_str)))), fun x hx => ?_⟩
  obtain ⟨a, b⟩ := x
  refine ds_seq (ds_if (EvT.dl (evt_test (ev_op (ev_var rfl) (ev_var rfl) lt_int')) ⟨fun h => ds_ret (Ev.dl ev_str ?_), fun h => ds_next (ds_ret (Ev.dl (ev_if (evt_test (ev_op (ev_var rfl) (ev_var rfl) dr2_gt)) (fun _ => ev_str) fun _ => ev_str) ?_))⟩))
  · have h : decide ((a : Int) < (b : Int)) = true := h
    have h := of_decide_eq_true h
    show D.str (Str.ofString "+") = D.str (ch (agC a b))
    rw [ch_plus, show agC a b = 43 from if_pos (by omega)]
  · have h : decide ((a : Int) < (b : Int)) = false := h
    have h := of_decide_eq_false h
    by_cases h2 : b < a
    · have e : agC a b = 45 := (if_neg (by omega)).trans (if_pos h2)
      refine (if_pos (decide_eq_true (show (b : Int) < (a : Int) by omega))).trans ?_
      show D.str (Str.ofString "-") = D.str (ch (agC a b))
      rw [ch_minus, e]
    · have e : agC a b = 46 := (if_neg (by omega)).trans (if_neg h2)
      refine (if_neg (by rw [decide_eq_true_eq]; show ¬ (b : Int) < (a : Int); omega)).trans ?_
      show D.str (Str.ofString ".") = D.str (ch (agC a b))
      rw [ch_dot, e]
end K61

namespace K61
open PySem PySem.Spec PyProof.Rows L2 Dw
theorem d_row_between {P : Program} {w : World} {K : PySem.W.Frag} {mg : Str → Option Value} {base : Heap} (T : Txt K w mg) : FnOk P w K mg base CX0 2 T.f_row_between T.e_row_between ["mine", "theirs"] (toSp (spBetween)) := by
  refine fn_ok T.F_row_between sc_row_between (fun _ => rfl) fun cdv A outer s' H E hr => ?_
  refine ⟨_, (pss_one (ps_ret (joinA K pe_str (pe_lc (own := [("mark", 2), ("rival", 3)]) rfl sc_row_between.nd (zipA K (by rfl) T.n_zip (pa_cons (pv 0) (pa_cons (pv 1) pa_nil))) (blkOk_by (own := [("mark", 2), ("rival", 3)]) (N := N_row_between) (sc := (defScope s_row_between)) (by decide +kernel)) (fun _ _ _ _ _ => tupA K 2 rfl (pgs_cons (pg_name (i := 2) sc_row_between.nd rfl (Or.inl rfl)) (pgs_cons (pg_name (i := 3) sc_row_between.nd rfl (Or.inl rfl)) pgs_nil))) (fun _ _ _ _ _ => pts_nil) (fun _ _ _ _ _ => (pe_call (d_sign_of T) (hr.mono (by decide)) (by rfl) T.m_sign_of T.F_sign_of.kp T.b_sign_of .nil pass0 (pa_cons (pv 2) (pa_cons (pv 3) pa_nil)))))))), fun x hx => ?_⟩
  obtain ⟨a, b, n⟩ := x
  obtain ⟨ha, hb, h8⟩ := hx
  have ha : a.length = n := ha
  have hb : b.length = n := hb
  have h8 : n ≤ 8 := h8
  have hl : (agR a b).length = n := (agR_ok ha hb).len
  refine ds_ret (Ev.dl (ev_join (x := Str.ofString "") (ys := (agR a b).map ch) ev_str (EvN.b ?_) ?_) ?_)
  · have e1 : ((agR a b).map ch).map D.str = (a.zip b).map fun p => D.str (ch (agC p.1 p.2)) := by
      unfold agR
      rw [List.map_map, List.map_map]; rfl
    rw [e1]
    refine evn_lc1 (xs := a.zip b) (c := fun p => .tup [.int (p.1 : Nat), .int (p.2 : Nat)]) (by rw [← zip_ord]; exact ei_zipT (ev_var rfl) (ev_var rfl)) (by rw [List.length_zip]; omega) fun p hp => ⟨[2] ++ [3], _, dg_tup2 dg_name dg_name, fun i hi => hi, evt_yes, ev_call (s := spSignOf) (x := (p.1, p.2)) (eva_cons (ev_var rfl) (eva_cons (ev_var rfl) eva_nil)) rfl trivial fun d h => h⟩
  · rw [chs_len, List.length_map, hl]
    show n + n * 0 ≤ _
    omega
  · show D.str _ = D.str _
    rw [join_chs]
end K61

namespace K61
open PySem PySem.Spec PyProof.Rows L2 Dw
theorem d_read_candidates {P : Program} {w : World} {K : PySem.W.Frag} {mg : Str → Option Value} {base : Heap} (T : Txt K w mg) : FnOk P w K mg base CX0 3 T.f_read_candidates T.e_read_candidates ["text", "read_word"] (toSp (spReadCG T.f_read_mark true)) := by
  refine fn_ok T.F_read_candidates sc_read_candidates (fun _ => rfl) fun cdv A outer s' H E hr => ?_
  refine ⟨_, (pss_cons (ps_if (pt_not (truA K (pe_callB (isiA K) (by rfl) T.n_isinstance (by decide +kernel) (pa_cons (pv 0) (pa_cons (pe_bltn (v := .ty "str") (by rfl) T.n_str (by decide +kernel) rfl) pa_nil))))) (pss_one (ps_ret pe_non)) pss_nil) (pss_cons (ps_setLc (i := 2) (own := [("part", 6)]) rfl sc_read_candidates.nd rfl rfl (sw_true rfl rfl rfl (by decide +kernel)) (piR K (pe_split (pv 0) pe_str)) (blkOk_by (own := [("part", 6)]) (N := N_read_candidates) (sc := (defScope s_read_candidates)) (by decide +kernel)) (fun _ _ _ _ _ => pg_name (i := 6) sc_read_candidates.nd rfl (Or.inl rfl)) (fun _ _ _ _ _ => pts_nil) (fun _ _ _ _ _ => (pe_split (pv 6) pe_str))) (pss_cons (ps_set (i := 3) sc_read_candidates.nd rfl (Or.inl rfl) (pe_callTy (tupleFA K) (by rfl) T.n_tuple (by decide +kernel) (pa_cons (pe_lc (own := [("words", 7)]) rfl sc_read_candidates.nd (piR K (pv 2)) (blkOk_by (own := [("words", 7)]) (N := N_read_candidates) (sc := (defScope s_read_candidates)) (by decide +kernel)) (fun _ _ _ _ _ => pg_name (i := 7) sc_read_candidates.nd rfl (Or.inl rfl)) (fun _ _ _ _ _ => pts_nil) (fun _ _ _ _ _ => (pe_ix (ixA K) (pv 7) pe_int (fun _ _ => rfl)))) pa_nil))) (pss_cons (ps_if (PW.pt (pw_or (pt_not (pt_chain opLe opLe (pe_glob (v := .int 2) (by rfl) T.c_LEAST_CANDIDATES ⟨_, rfl⟩) (pe_callB (lenA K) (by rfl) T.n_len (by decide +kernel) (pa_cons (pv 3) pa_nil)) (pe_glob (v := .int 8) (by rfl) T.c_MOST_CANDIDATES ⟨_, rfl⟩))) (pw_or1 (pt_not (truA K (pe_call (d_are_names T) (hr.mono (by decide)) (by rfl) T.m_are_names T.F_are_names.kp T.b_are_names .nil pass0 (pa_cons (pv 3) pa_nil))))))) (pss_one (ps_ret pe_non)) pss_nil) (pss_cons (ps_set (i := 4) sc_read_candidates.nd rfl (Or.inr rfl) (pe_op op_sub (pe_callB (lenA K) (by rfl) T.n_len (by decide +kernel) (pa_cons (pe_ix (ixA K) (pv 2) pe_int (fun _ _ => rfl)) pa_nil)) pe_int)) (pss_cons (ps_if (PW.pt (pw_or (pt_not (pt_chain opLe opLe pe_int (pv 4) (pe_glob (v := .int 8) (by rfl) T.c_MOST_RULES ⟨_, rfl⟩))) (pw_or1 (pt_not (truA K (pe_callB (allA K) (by rfl) T.n_all (by decide +kernel) (pa_cons (pe_lc (own := [("words", 7)]) rfl sc_read_candidates.nd (piR K (pv 2)) (blkOk_by (own := [("words", 7)]) (N := N_read_candidates) (sc := (defScope s_read_candidates)) (by decide +kernel)) (fun _ _ _ _ _ => pg_name (i := 7) sc_read_candidates.nd rfl (Or.inl rfl)) (fun _ _ _ _ _ => pts_nil) (fun _ _ _ _ _ => (pe_cmpR (eqA K hr.units) (pe_callB (lenA K) (by rfl) T.n_len (by decide +kernel) (pa_cons (pv 7) pa_nil)) (pe_op (plusF K) (pv 4) pe_int) (nomark _)))) pa_nil))))))) (pss_one (ps_ret pe_non)) pss_nil) (pss_cons (ps_set (i := 5) sc_read_candidates.nd rfl (Or.inl rfl) (pe_callTy (tupleFA K) (by rfl) T.n_tuple (by decide +kernel) (pa_cons (pe_lc (own := [("words", 7)]) rfl sc_read_candidates.nd (piR K (pv 2)) (blkOk_by (own := [("words", 7)]) (N := N_read_candidates) (sc := (defScope s_read_candidates)) (by decide +kernel)) (fun _ _ _ _ _ => pg_name (i := 7) sc_read_candidates.nd rfl (Or.inl rfl)) (fun _ _ _ _ _ => pts_nil) (fun _ _ _ _ _ => (pe_callTy (tupleFA K) (by rfl) T.n_tuple (by decide +kernel) (pa_cons (pe_lc (own := [("word", 9)]) rfl sc_read_candidates.nd (piR K (pe_slice (slXA K) (pv 7) (po_some pe_int) po_none)) (blkOk_by (own := [("word", 9)]) (N := N_read_candidates) (sc := (relS { kind := .function, names := [(".0", .local), ("words", .local), ("tuple", .globalImplicit), ("read_word", .free)], isGenerator := false, isCoroutine := false, more := [] } (defScope s_read_candidates))) (by decide +kernel)) (fun _ _ _ _ _ => pg_name (i := 9) sc_read_candidates.nd rfl (Or.inl rfl)) (fun _ _ _ _ _ => pts_nil) (fun _ _ _ _ _ => (pe_callL (i := 1) (d_read_mark T) (hr.mono (by decide)) (by rfl) (Or.inr (Or.inl (by rfl))) T.F_read_mark.kp T.b_read_mark .nil pass0 (pa_cons (pv 9) pa_nil)))) pa_nil)))) pa_nil))) (pss_cons (ps_if (pt_not (truA K (pe_callB (allA K) (by rfl) T.n_all (by decide +kernel) (pa_cons (pe_lc (own := [("row", 8)]) rfl sc_read_candidates.nd (piR K (pv 5)) (blkOk_by (own := [("row", 8)]) (N := N_read_candidates) (sc := (defScope s_read_candidates)) (by decide +kernel)) (fun _ _ _ _ _ => pg_name (i := 8) sc_read_candidates.nd rfl (Or.inl rfl)) (fun _ _ _ _ _ => pts_nil) (fun _ _ _ _ _ => (pe_cmpR (ninA K) pe_non (pv 8) (by rfl)))) pa_nil)))) (pss_one (ps_ret pe_non)) pss_nil) (pss_one (ps_ret (pe_tupF (pa_cons (pv 3) (pa_cons (pv 5) pa_nil))))))))))))), fun x hx => ?_⟩
  obtain ⟨d, rfl⟩ : ∃ l : D, l = x := ⟨x, rfl⟩
  obtain ⟨hd, hsh⟩ := hx
  have hd : Pv d := hd
  by_cases hs : isStrB d = true
  · obtain ⟨s, rfl⟩ := str_of hs
    obtain ⟨l, rfl⟩ : ∃ l, s = tx l := ⟨_, of_tx s⟩
    have hcd := okS_codes hd.str.1
    have hl : l.length ≤ 15000 := by
      have : decide ((tx l).length ≤ 15000) = true := hsh
      rw [tx_len] at this
      exact of_decide_eq_true this
    have pn := parts_ne l
    have pl := parts_len l
    have pw := parts_word l
    have sl := spl_sub [59, 32] 0 [] l
    obtain ⟨ps, hps⟩ : ∃ ps, partsL l = ps := ⟨_, rfl⟩
    have eps : (semiL l).map (fun p => D.lst (nameD (splitL p))) = ps.map fun ws => D.lst (nameD ws) := by rw [← hps]; unfold partsL; rw [List.map_map]; rfl
    rw [hps] at pn pl pw
    have lh : (nameD (headsL ps)).length = ps.length := by unfold nameD headsL; rw [List.length_map, List.length_map]
    have en : ps.map (fun ws => D.str (tx (ws.headD []))) = nameD (headsL ps) := by unfold nameD headsL; rw [List.map_map]; rfl
    have eq : caseQ l = caseP ps := by unfold caseQ; rw [hps]
    refine ds_seq (ds_if (EvT.dl (b := false) (evt_not (a := true) (evt_tru_bl (ev_isi (ev_var rfl) ev_raw (.inl rfl) (.ty "str") rfl))) ⟨fun h => (nomatch h), fun _ => ds_next ?_⟩))
    refine ds_seq (ds_asg (Ev.dl (ev_cast (congrArg D.lst eps) (EvN.ev (evn_lc1 (xs := semiL l) (c := fun p => .str (tx p)) (f := fun p => .lst (nameD (splitL p))) ?it0 ?z0 fun p hp => ⟨[6], _, dg_name, fun i hi => hi, evt_yes, ev_cast (congrArg D.lst ?w0) (EvN.ev (evn_split (a := tx p) (ev_var rfl) ev_str (by decide +kernel) ?z1))⟩))) ?_))
    case it0 =>
      have := ej_list (K := K) (EvN.b (evn_split (Γ := [.val (.str (tx l)), .val (.raw (.ref T.f_read_mark)), .unset, .unset, .unset, .unset, .unset, .unset, .unset, .unset]) (a := tx l) (b := Str.ofString "; ") (ta := tVar 0) (tb := tC (.str "; ")) (ev_var rfl) ev_str (by decide +kernel) (by rw [tx_len]; exact small (by omega))))
      rw [semiS_split, List.map_map] at this
      exact this
    case z0 =>
      have := spl_len [59, 32] 0 [] l
      show (semiL l).length ≤ _
      unfold semiL
      omega
    case w0 => rw [splitS, nameD_map]
    case z1 =>
      have := (sl p hp).1
      rw [tx_len]
      exact small (by simp at this; omega)
    have pv : ∀ Γ : Gam, Γ[2]? = some (.val (.lst (ps.map fun ws => D.lst (nameD ws)))) → Ei (iAnyR K (tVar 2)) Γ (ps.map fun ws => D.lst (nameD ws)) := fun Γ h => ej_list (ev_var h).b
    refine ds_seq (ds_asg (Ev.dl (ev_cast (congrArg D.tupN en) (ev_tupleN (EvN.b (evn_lc1 (xs := ps) (c := fun ws => .lst (nameD ws)) (f := fun ws => .str (tx (ws.headD []))) (pv _ rfl) (by omega) fun ws hw => ⟨[7], _, dg_name, fun i hi => hi, evt_yes, ev_ix (ev_var (d := .lst (nameD ws)) rfl).b ev_int (atI_nat (j := 0) (headD_at (pn ws hw)))⟩)))) ?_))
    have ec : (!candB ps) = (!(decide (2 ≤ ps.length) && decide (ps.length ≤ 8)) || !namesB (nameD (headsL ps))) := by unfold candB; rw [Bool.not_and]
    refine ds_seq (ds_if (EvT.dl (b := !candB ps) ?hd ⟨fun h2 => ds_ret (Ev.dl ev_non (cs_none ?no2)), fun h2 => ds_next ?_⟩))
    case hd =>
      rw [ec]
      refine evt_or (evt_not (evt_chain (p := decide (2 ≤ ps.length)) (q := decide (ps.length ≤ 8)) ev_int (ev_lenT (ds := nameD (headsL ps)) (ev_dn (ev_var rfl))) (fun _ => ev_int) (le_b (by rw [lh]; exact decide_eq_decide.mpr (by omega))) fun _ => le_b (by rw [lh]; exact decide_eq_decide.mpr (by omega)))) fun h9 => evt_not (evt_tru_bl (ev_call (s := spNamesG) (x := nameD (headsL ps)) (eva_cons (ev_dn (ev_var rfl)) eva_nil) (np_tup (np_name _)) ?pv fun d h => h))
      have h9 : ps.length ≤ 8 := by
        rw [Bool.not_eq_false', Bool.and_eq_true] at h9
        exact of_decide_eq_true h9.2
      show (decide ((nameD (headsL ps)).length ≤ 60) && plBs 11 (nameD (headsL ps))) = true
      rw [lh, decide_eq_true (by omega), Bool.true_and, plBs_iff]
      intro d hd'
      obtain ⟨w, hw, rfl⟩ := List.mem_map.mp hd'
      obtain ⟨ws, hws, rfl⟩ := List.mem_map.mp hw
      have hm : ws.headD [] ∈ ws := by
        cases ws with
        | nil => exact absurd rfl (pn _ hws)
        | cons a r => exact List.mem_cons_self
      obtain ⟨s1, s2⟩ := (pw ws hws).2 _ hm
      exact pv_strs (fun c hc' => hcd c (s2 c hc')) (by omega)
    case no2 =>
      rw [Bool.not_eq_true'] at h2
      rw [eq]; unfold caseP
      rw [h2]; rfl
    rw [Bool.not_eq_false'] at h2
    have h2' := h2
    unfold candB at h2'
    rw [Bool.and_eq_true, Bool.and_eq_true, decide_eq_true_eq, decide_eq_true_eq] at h2'
    obtain ⟨⟨p2, p8⟩, _⟩ := h2'
    obtain ⟨w0, r0, rfl⟩ : ∃ w r, ps = w :: r := by
      cases ps with
      | nil => exact absurd p2 (by simp)
      | cons w r => exact ⟨w, r, rfl⟩
    have hw0 : 0 < w0.length := by
      cases w0 with
      | nil => exact absurd rfl (pn [] List.mem_cons_self)
      | cons _ _ => simp
    have em : manyL (w0 :: r0) = w0.length - 1 := rfl
    have hn15 := (pw w0 List.mem_cons_self).1
    obtain ⟨n, hn⟩ : ∃ n, manyL (w0 :: r0) = n := ⟨_, rfl⟩
    refine ds_seq (ds_asg (Ev.dl (ev_cast (d' := .int (n : Nat)) (congrArg D.int (by rw [nameD_len]; omega)) (ev_op (ev_len (ds := nameD w0) (Ev.b (ev_ix (ev_var (d := .lst ((w0 :: r0).map fun ws => D.lst (nameD ws))) rfl).b ev_int (atI_nat (j := 0) rfl)))) ev_int dr2_sub)) ?_))
    have ew : (!wideB (w0 :: r0)) = (!(decide (1 ≤ n) && decide (n ≤ 8)) || !((w0 :: r0).all fun ws => decide (ws.length = n + 1))) := by unfold wideB; rw [Bool.not_and, hn]
    refine ds_seq (ds_if (EvT.dl (b := !wideB (w0 :: r0)) ?wd ⟨fun h3 => ds_ret (Ev.dl ev_non (cs_none ?no3)), fun h3 => ds_next ?_⟩))
    case wd =>
      rw [ew]
      exact evt_or (evt_not (evt_chain (p := decide (1 ≤ n)) (q := decide (n ≤ 8)) ev_int (ev_var rfl) (fun _ => ev_int) (le_b (decide_eq_decide.mpr (by omega))) fun _ => le_b (decide_eq_decide.mpr (by omega)))) fun _ => evt_not (evt_tru_bl (ev_all_lc (K := K) (xs := w0 :: r0) (c := fun ws => .lst (nameD ws)) (b := fun ws => decide (ws.length = n + 1)) (pv _ rfl) (by omega) fun ws hw => ⟨[7], _, dg_name, fun i hi => hi, evt_yes, ev_op (ev_len (ds := nameD ws) (ev_var rfl).b) (ev_op (ev_var rfl) ev_int (plF_of (pl_int (i := (n : Int)) (j := 1)))) (eq_ib (by rw [nameD_len]; exact decide_eq_decide.mpr (by omega)))⟩))
    case no3 =>
      rw [Bool.not_eq_true'] at h3
      rw [eq]; unfold caseP
      rw [h3]; simp
    rw [Bool.not_eq_false'] at h3
    have h3' := h3
    unfold wideB at h3'
    rw [hn, Bool.and_eq_true, Bool.and_eq_true, decide_eq_true_eq, decide_eq_true_eq, List.all_eq_true] at h3'
    obtain ⟨⟨n1, n8⟩, hwl⟩ := h3'
    have hwl : ∀ ws ∈ w0 :: r0, ws.length = n + 1 := fun ws hw => of_decide_eq_true (hwl ws hw)
    refine ds_seq (ds_asg (Ev.dl (ev_tupleF (ds := (w0 :: r0).map fun ws => D.tup ((marksO ws).map optN)) (EvN.b (evn_lc1 (xs := w0 :: r0) (c := fun ws => .lst (nameD ws)) (f := fun ws => .tup ((marksO ws).map optN)) (pv _ rfl) (by omega) fun ws hw => ⟨[7], _, dg_name, fun i hi => hi, evt_yes, ev_cast (d := .tup ((ws.drop 1).map fun w => optN (markW w))) (by unfold marksO; rw [List.map_map]; rfl) (ev_tupleF (EvN.b (evn_lc1 (xs := ws.drop 1) (c := fun w => .str (tx w)) (f := fun w => optN (markW w)) ?sl (by rw [List.length_drop]; have := hwl ws hw; omega) fun w hwm => ⟨[9], _, dg_name, fun i hi => hi, evt_yes, ev_callL (s := spMarkG) (x := w) rfl (eva_cons (ev_var rfl) eva_nil) rfl (by
      have := ((pw ws hw).2 w (List.mem_of_mem_drop hwm)).1
      show w.length ≤ 15000
      omega) fun d h => h⟩)))⟩))) ?_))
    case sl =>
      have e : Dw.cutD (nameD ws) (some 1) none = (ws.drop 1).map fun w => D.str (tx w) := by
        rw [cut_tail]
        unfold nameD
        rw [List.map_drop]
      exact e ▸ ej_list (EvN.b (evn_sliceY (ds := nameD ws) (ev_var rfl).b (eo_some ev_int) eo_none))
    refine ds_seq (ds_if (EvT.dl (b := !allMB (w0 :: r0)) (evt_not (evt_tru_bl (ev_all_lc (K := K) (xs := w0 :: r0) (c := fun ws => .tup ((marksO ws).map optN)) (b := fun ws => !decide (none ∈ marksO ws)) (ej_tup (ev_var rfl)) (by omega) fun ws hw => ⟨[8], _, dg_name, fun i hi => hi, evt_yes, ev_cast (congrArg D.bl (congrArg not (inV_opt (marksO ws)))) (ev_inT (K := K) (neg := true) (d := .non) (ds := (marksO ws).map optN) ev_non (ev_var rfl) rfl (sc_opt _))⟩))) ⟨fun h4 => ds_ret (Ev.dl ev_non (cs_none ?no4)), fun h4 => ds_next ?_⟩))
    case no4 =>
      rw [Bool.not_eq_true'] at h4
      rw [eq]; unfold caseP
      rw [h4]; simp
    rw [Bool.not_eq_false'] at h4
    refine ds_ret (Ev.dl (ev_tupF (eva_cons (ev_var rfl) (eva_cons (ev_var rfl) eva_nil)) (small (show 2 ≤ 100000 by decide))) ?_)
    show _ = optC (caseQ (tx l).cps.toList)
    rw [tx_cps, eq]
    unfold caseP
    rw [h2, h3, h4]
    show _ = caseD _ _
    unfold caseD
    have em : (marksN (w0 :: r0)).map (fun m => D.tup (ordD m)) = (w0 :: r0).map fun ws => D.tup ((marksO ws).map optN) := by
      unfold marksN
      rw [List.map_map]
      refine List.map_congr_left fun ws hw => ?_
      show D.tup (ordD ((marksO ws).map fun o => o.getD 0)) = _
      unfold ordD
      rw [List.map_map]
      refine congrArg D.tup (List.map_congr_left fun o ho => ?_)
      have hno : none ∉ marksO ws := by
        unfold allMB at h4
        have := List.all_eq_true.mp h4 ws hw
        simpa using this
      cases o with
      | none => exact absurd ho hno
      | some k => rfl
    rw [em]
  · have hs : isStrB d = false := by simpa using hs
    refine ds_seq (ds_if (EvT.dl (b := true) (evt_not (a := false) (evt_tru_bl (ev_isi (ev_var rfl) ev_raw (.inl hd.ty) (.ty "str") (by rw [kit_str hd.ty, hs])))) ⟨fun _ => ds_ret (Ev.dl ev_non ?_), fun h => (nomatch h)⟩))
    show D.non = optC (caseOf d)
    rw [case_no hs]; rfl
end K61

namespace K61
open PySem PySem.Spec PyProof.Rows L2 Dw
theorem d_read_case {P : Program} {w : World} {K : PySem.W.Frag} {mg : Str → Option Value} {base : Heap} (T : Txt K w mg) : FnOk P w K mg base CX0 4 T.f_read_case T.e_read_case ["text"] (toSp (spReadCG T.f_read_mark false)) := by
  refine fn_ok T.F_read_case sc_read_case (fun _ => rfl) fun cdv A outer s' H E hr => ?_
  refine ⟨_, (pss_one (ps_ret (pe_call (d_read_candidates T) (hr.mono (by decide)) (by rfl) T.m_read_candidates T.F_read_candidates.kp T.b_read_candidates .nil pass0 (pa_cons (pv 0) (pa_cons (pe_glob (v := .ref T.f_read_mark) (by rfl) T.m_read_mark rfl) pa_nil))))), fun x hx => ?_⟩
  obtain ⟨d, rfl⟩ : ∃ l : D, l = x := ⟨x, rfl⟩
  obtain ⟨hd, hsh⟩ := hx
  have hd : Pv d := hd
  exact ds_ret (Ev.dl (ev_call (s := spReadCG T.f_read_mark true) (x := d) (eva_cons (ev_var rfl) (eva_cons ev_raw eva_nil)) (np1 (r := [_]) hd rfl) ⟨hd, hsh⟩ fun d h => h) rfl)

end K61

namespace K61
open PySem PySem.Spec PyProof.Rows L2 Dw
theorem inc_pair : ∀ {ls : List (List Nat)}, (∀ p ∈ ls.zip (ls.drop 1), p.1 < p.2) → ls.Pairwise (· < ·)
  | [], _ => .nil
  | [a], _ => List.pairwise_singleton ..
  | a :: b :: r, h => by
    have hab : a < b := h (a, b) List.mem_cons_self
    have ih := inc_pair (ls := b :: r) fun p hp => h p (List.mem_cons_of_mem _ hp)
    refine List.pairwise_cons.mpr ⟨fun x hx => ?_, ih⟩
    rcases List.mem_cons.mp hx with rfl | hx
    · exact hab
    · exact List.lt_trans hab ((List.pairwise_cons.mp ih).1 x hx)
theorem pair_inc : ∀ {ls : List (List Nat)}, ls.Pairwise (· < ·) → ∀ p ∈ ls.zip (ls.drop 1), p.1 < p.2
  | [], _, p, hp => absurd hp (by simp)
  | [a], _, p, hp => absurd hp (by simp)
  | a :: b :: r, h, p, hp => by
    obtain ⟨h1, h2⟩ := List.pairwise_cons.mp h
    rcases List.mem_cons.mp hp with rfl | hp
    · exact h1 b List.mem_cons_self
    · exact pair_inc h2 p hp
theorem NamesOk.pw {ls : List (List Nat)} (h : NamesOk ls) : ls.Pairwise (· < ·) := inc_pair h.inc
theorem rowAt_get {ls : List (List Nat)} {a : Nat} (h : a < ls.length) : rowAt ls a = ls[a] := by
  unfold rowAt
  rw [List.getD_eq_getElem?_getD, List.getElem?_eq_getElem h]; rfl
theorem rowAt_lt {ls : List (List Nat)} (h : ls.Pairwise (· < ·)) {a b : Nat} (hb : b < ls.length) (hab : a < b) : rowAt ls a < rowAt ls b := by
  rw [rowAt_get hb, rowAt_get (by omega)]
  exact List.pairwise_iff_getElem.mp h a b (by omega) hb hab
theorem rowAt_inj {ls : List (List Nat)} (h : ls.Pairwise (· < ·)) {a b : Nat} (ha : a < ls.length) (hb : b < ls.length) (e : rowAt ls a = rowAt ls b) : a = b := by
  rcases Nat.lt_trichotomy a b with h1 | h1 | h1
  · have := rowAt_lt h hb h1
    rw [e] at this
    exact absurd this (List.lt_irrefl _)
  · exact h1
  · have := rowAt_lt h ha h1
    rw [e] at this
    exact absurd this (List.lt_irrefl _)
theorem rowAt_mem {ls : List (List Nat)} {a : Nat} (h : a < ls.length) : rowAt ls a ∈ ls := by rw [rowAt_get h]; exact List.getElem_mem h
theorem inV_name (c : List Nat) : ∀ ls : List (List Nat), inV (.str (tx c)) ((nameD ls).map scV) = decide (c ∈ ls)
  | [] => rfl
  | b :: l => by
    show ((tx b == tx c) || inV (.str (tx c)) ((nameD l).map scV)) = _
    rw [inV_name c l, Bool.eq_iff_iff]
    simp only [Bool.or_eq_true, beq_iff_eq, tx_eq, decide_eq_true_eq, List.mem_cons]
    constructor
    · rintro (h | h)
      · exact .inl h.symm
      · exact .inr h
    · rintro (h | h)
      · exact .inl h.symm
      · exact .inr h
theorem sc_names (ls : List (List Nat)) : (nameD ls).all isSc = true := by
  unfold nameD
  rw [List.all_map, List.all_eq_true]
  exact fun _ _ => rfl
theorem idx_notB {α : Type} [BEq α] [LawfulBEq α] {o : List α} {c : α} {m : Nat} (h : m < o.idxOf c) (hm : m < o.length) : o[m] ≠ c := fun e => by
  have h2 : m < o.findIdx (· == c) := h
  have := List.not_of_lt_findIdx h2
  simp [e] at this
theorem idx_atB {α : Type} [BEq α] [LawfulBEq α] {o : List α} {c : α} (h : c ∈ o) : o[o.idxOf c]? = some c := by
  have hl : o.idxOf c < o.length := List.idxOf_lt_length_iff.mpr h
  rw [List.getElem?_eq_getElem hl, List.getElem_idxOf hl]
def idxM (m i : Nat) : List Nat := (List.range m).filter fun k => !decide (k = i)
def osM (ls : List (List Nat)) (i : Nat) : List (List Nat) := (idxM ls.length i).map (rowAt ls)
def rwM (ms : List (List Nat)) (i : Nat) : List (List Nat) := (idxM ms.length i).map fun k => agR (rowAt ms i) (rowAt ms k)
def losB (os rs : List (List Nat)) (n : Nat) : D → Bool
  | .tup ds => namesB ds && (ds.all fun d => decide (codesOf d ∈ os)) && quB (pick rs (ds.map fun d => os.idxOf (codesOf d))) n
  | _ => false
theorem idxM_lt {m i k : Nat} (h : k ∈ idxM m i) : k < m ∧ k ≠ i := by
  obtain ⟨h1, h2⟩ := List.mem_filter.mp h
  exact ⟨List.mem_range.mp h1, by simpa using h2⟩
theorem idxM_len (m i : Nat) : (idxM m i).length ≤ m := by
  refine Nat.le_trans (List.length_filter_le _ _) ?_
  rw [List.length_range]; exact Nat.le_refl _
theorem rwM_ok {ls ms : List (List Nat)} {n i : Nat} (h : CaseOk ls ms n) (hi : i < ls.length) : ∀ r ∈ rwM ms i, RowOk r n := fun r hr => by
  obtain ⟨k, hk, rfl⟩ := List.mem_map.mp hr
  have := idxM_lt hk
  have e := h.same
  exact agR_ok (h.wide _ (rowAt_mem (by omega))) (h.wide _ (rowAt_mem this.1))
theorem os_rw {ls ms : List (List Nat)} {n i : Nat} (h : CaseOk ls ms n) : (osM ls i).length = (rwM ms i).length := by
  unfold osM rwM
  rw [List.length_map, List.length_map, h.same]
theorem osM_pw {ls : List (List Nat)} (h : ls.Pairwise (· < ·)) (i : Nat) : (osM ls i).Pairwise (· < ·) := by
  unfold osM
  rw [List.pairwise_map]
  have : (idxM ls.length i).Pairwise (· < ·) := List.pairwise_lt_range.filter _
  refine List.Pairwise.imp_of_mem ?_ this
  intro a b ha hb hab
  exact rowAt_lt h (idxM_lt hb).1 hab
theorem osM_mem {ls : List (List Nat)} {i : Nat} {c : List Nat} (h : c ∈ osM ls i) : c ∈ ls := by
  obtain ⟨k, hk, rfl⟩ := List.mem_map.mp h
  exact rowAt_mem (idxM_lt hk).1
theorem zip_case (ls ms : List (List Nat)) (h : ms.length = ls.length) : zipD (nameD ls) (ms.map fun m => D.tup (ordD m)) = (List.range ls.length).map fun k => D.tup [.str (tx (rowAt ls k)), .tup (ordD (rowAt ms k))] := by
  unfold zipD nameD
  rw [List.zip_map, List.map_map]
  refine List.ext_getElem (by simp [h]) fun k h1 h2 => ?_
  have hk : k < ls.length := by simpa using h2
  rw [List.getElem_map, List.getElem_map, List.getElem_range, List.getElem_zip, rowAt_get hk, rowAt_get (by omega)]; rfl
def spAOC : Spc where
  ty := (List (List Nat) × List (List Nat) × Nat) × Nat × D
  args := fun x => [.str "loses", caseD x.1.1 x.1.2.1, .str (tx (rowAt x.1.1 x.2.1)), x.2.2]
  ok := fun x => CaseOk x.1.1 x.1.2.1 x.1.2.2 ∧ x.2.1 < x.1.1.length ∧ Pv x.2.2
  rel := fun x d => d = .bl (losB (osM x.1.1 x.2.1) (rwM x.1.2.1 x.2.1) x.1.2.2 x.2.2)
def spAccL : Spc where
  ty := (List (List Nat) × List (List Nat) × Nat) × Nat × D
  args := fun x => [.tup [.str "loses", .str (tx (caseTx x.1.1 x.1.2.1)), .str (tx (rowAt x.1.1 x.2.1))], x.2.2]
  ok := fun x => CaseOk x.1.1 x.1.2.1 x.1.2.2 ∧ x.2.1 < x.1.1.length ∧ Pv x.2.2
  rel := fun x d => d = .bl (losB (osM x.1.1 x.2.1) (rwM x.1.2.1 x.2.1) x.1.2.2 x.2.2)
theorem losB_no {os rs : List (List Nat)} {n : Nat} {p : D} (h : isTupB p = false) : losB os rs n p = false := by cases p <;> first | rfl | exact nomatch h
theorem losB_nn {os rs : List (List Nat)} {n : Nat} {ds : List D} (h : namesB ds = false) : losB os rs n (.tup ds) = false := by
  show (namesB ds && _ && _) = false
  rw [h]; rfl
theorem losB_cs {os rs : List (List Nat)} {n : Nat} {cs : List (List Nat)} (h : namesB (nameD cs) = true) : losB os rs n (.tup (nameD cs)) = ((cs.all fun c => decide (c ∈ os)) && quB (pick rs (cs.map fun c => os.idxOf c)) n) := by
  show (namesB (nameD cs) && ((nameD cs).all fun d => decide (codesOf d ∈ os)) && quB (pick rs ((nameD cs).map fun d => os.idxOf (codesOf d))) n) = _
  rw [h, Bool.true_and]
  unfold nameD
  rw [List.all_map, List.map_map]
  have e : ∀ c, codesOf (.str (tx c)) = c := fun c => tx_cps c
  have e1 : (codesOf ∘ fun l => D.str (tx l)) = id := funext e
  have e2 : (fun d => decide (codesOf d ∈ os)) ∘ (fun l => D.str (tx l)) = fun c => decide (c ∈ os) := funext fun c => by show decide (codesOf (.str (tx c)) ∈ os) = _; rw [e]
  have e3 : (fun d => os.idxOf (codesOf d)) ∘ (fun l => D.str (tx l)) = fun c => os.idxOf c := funext fun c => by show os.idxOf (codesOf (.str (tx c))) = _; rw [e]
  rw [e2, e3]
theorem ds_wordC {K : PySem.W.Frag} {x y : Str} {i : Nat} {t : TS} {Γ : Gam} {De : DE} (b : Bool) (h : decide (x = y) = b) (hv : Γ[i]? = some (.val (.str x))) (h1 : b = true → Ds t Γ De) (h2 : b = false → De.nx Γ) : Ds (tIfS (tTest (tOp (rEqX K) (tVar i) (tC (.str y)))) t tNext) Γ De :=
  ds_if (EvT.dl (evt_test (ev_op (ev_var hv) ev_str (eq_sb h))) ⟨h1, fun z => ds_next (h2 z)⟩)
theorem np_case {ls ms : List (List Nat)} {r : List D} (h : noPs r = true) : noPs (caseD ls ms :: r) = true := by
  have e : noPs (ms.map fun m => D.tup (ordD m)) = true := noPs_map (f := fun m => D.tup (ordD m)) (fun m => np_ord m) ms
  show ((noPs (nameD ls) && (noPs (ms.map fun m => D.tup (ordD m)) && true)) && noPs r) = true
  rw [np_name, e, h]; rfl
end K61

namespace K61
open PySem PySem.Spec PyProof.Rows L2 Dw
/-! the law's own draws -/
theorem dr2_mulX {i j : Int} (h : CMulX i j) : DR2 (rI CMulX fun i j => .int (i * j)) (.int i) (.int j) (.int (i * j)) := dr2_rI h fun _ => rfl
def spAnyOf : Spc where
  ty := Bool × List D
  args := fun x => [.purse, if x.1 then .lst x.2 else .tup x.2]
  ok := fun x => 0 < x.2.length ∧ x.2.length < 100000
  rel := fun x d => d ∈ x.2
def spHas : Spc where
  ty := List Nat × List Nat
  args := fun x => [.str (tx x.1), .tup (ordD x.2)]
  ok := fun x => ∃ n, RowOk x.1 n ∧ n ≤ 8 ∧ ∀ k ∈ x.2, k < n
  rel := fun x d => d = .bl (holdsB x.1 x.2)
def spOrder : Spc where
  ty := Nat
  args := fun n => [.purse, .int n]
  ok := fun n => n ≤ 8
  rel := fun n d => ∃ o, d = .tup (ordD o) ∧ o.Perm (List.range n)
def spLRows : Spc where
  ty := Nat × Nat
  args := fun x => [.purse, .int x.1, .int x.2]
  ok := fun x => 1 ≤ x.1 ∧ x.1 ≤ 8 ∧ x.2 < 1000
  rel := fun x d => ∃ rs, d = .tup (nameD rs) ∧ rs.length ≤ x.2 ∧ ∀ r ∈ rs, RowOk r x.1
def spWords : Spc where
  ty := Nat
  args := fun n => [.purse, .int n]
  ok := fun n => 1 ≤ n ∧ n ≤ 8
  rel := fun n d => ∃ ls, d = .tup (nameD ls) ∧ NamesOk ls ∧ ls.length = n
def spLBook : Spc where
  ty := Nat × Nat
  args := fun x => [.purse, .int x.1, .int x.2]
  ok := fun x => 1 ≤ x.1 ∧ x.1 ≤ 8 ∧ x.2 ≤ 20
  rel := fun x d => ∃ ls rs, d = .tup [.tup (nameD ls), .tup (nameD rs)] ∧ BookOk ls rs ∧ rs.length ≤ x.2 ∧ ls.length ≤ x.1
def spSaid : Spc where
  ty := Bk
  args := fun x => [.tup (nameD x.1), .tup (nameD x.2)]
  ok := fun x => BookOk x.1 x.2
  rel := fun x d => d = .str (tx (bookTx x.1 x.2))
def spThing : Spc where
  ty := Unit
  args := fun _ => [.purse]
  ok := fun _ => True
  rel := fun _ d => plW 2 2 d = true
def spBent (n : Nat) : Spc where
  ty := Nat × Nat × D
  args := fun x => [.purse, x.2.2]
  ok := fun x => plW x.2.1 x.1 x.2.2 = true ∧ x.1 < n ∧ 2 ≤ x.2.1 ∧ x.2.1 ≤ 40
  rel := fun x d => plW (x.2.1 + 1) (x.1 + 2) d = true
def strs1 : List Str := ["a", "ab", "abc", "b", "cost", "d", "ever", "fits", "k", "near", "row", "s", "safe", "z", "zzzzzzzz"]
def lab1 : List (List Nat) := strs1.map fun s => s.cps.toList
theorem lab1_D : nameD lab1 = strs1.map D.str := by
  unfold nameD lab1
  rw [List.map_map]
  exact List.map_congr_left fun s _ => congrArg D.str (of_tx s).symm
theorem lab1_ok : ∀ l ∈ lab1, NameOk l := by
  have h : lab1.all nameB = true := by decide +kernel
  exact fun l hl => nameB_ok (List.all_eq_true.mp h l hl)
theorem lab1_nd : lab1.Nodup := by decide +kernel
theorem lab1_len : lab1.length = 15 := rfl
theorem names_ofG {lab : List (List Nat)} (hok : ∀ l ∈ lab, NameOk l) (hnd : lab.Nodup) {zs : List Str} {acc left : List (List Nat)} {n : Nat} (hp : (acc ++ left).Perm lab) (hz : zs.Perm (acc.map tx)) (hs : sortedS zs = true) (hl : acc.length = n) (h1 : 1 ≤ n) (h8 : n ≤ 8) :
    NamesOk (zs.map fun s => s.cps.toList) := by
  have ln : zs.length = n := by rw [hz.length_eq, List.length_map, hl]
  have nd : zs.Nodup := hz.nodup_iff.mpr (nodup_tx (List.nodup_append.mp (hp.nodup_iff.mpr hnd)).1)
  refine ⟨by rw [List.length_map]; omega, by rw [List.length_map]; omega, fun l h => ?_, ?_⟩
  · obtain ⟨s, h1, rfl⟩ := List.mem_map.mp h
    obtain ⟨m, h2, rfl⟩ := List.mem_map.mp (hz.mem_iff.mp h1)
    show NameOk (tx m).cps.toList
    rw [tx_cps]
    exact hok m (hp.mem_iff.mp (List.mem_append_left _ h2))
  · cases zs with
    | nil => exact fun p hp => by cases hp
    | cons x r => exact rising_inc x r hs nd
theorem joinL_cons (s a : List Nat) : ∀ rs : List (List Nat), TL.joinL s (a :: rs) = a ++ (rs.map (s ++ ·)).flatten
  | [] => by simp [TL.joinL]
  | q :: r => by
    show a ++ (s ++ TL.joinL s (q :: r)) = a ++ ((s ++ q) ++ (r.map (s ++ ·)).flatten)
    rw [joinL_cons s q r, List.append_assoc]
theorem said_eq (ls rs : List (List Nat)) : tx (TL.joinL [32] ls) ++ Str.ofString ":" ++ Txt.join (Str.ofString "") ((rs.map ([32] ++ ·)).map tx) = tx (bookTx ls rs) := by
  rw [colonS, tx_append, show Str.ofString "" = tx [] by decide +kernel, join_tx, joinL_nil, tx_append]
  congr 1
  exact (joinL_cons [32] (TL.joinL [32] ls ++ [58]) rs).symm
theorem plW_tup {z k : Nat} {ds : List D} (h1 : ds.length ≤ z) (h2 : ∀ d ∈ ds, plW z k d = true) : plW z (k + 1) (.tup ds) = true := by
  show (decide (ds.length ≤ z) && plWs z k ds) = true
  rw [decide_eq_true h1, Bool.true_and]
  exact plWs_iff.mpr h2
theorem plW_lst {z k : Nat} {ds : List D} (h1 : ds.length ≤ z) (h2 : ∀ d ∈ ds, plW z k d = true) : plW z (k + 1) (.lst ds) = true := by
  show (decide (ds.length ≤ z) && plWs z k ds) = true
  rw [decide_eq_true h1, Bool.true_and]
  exact plWs_iff.mpr h2
theorem plW_of_tup {z k : Nat} {ds : List D} (h : plW z k (.tup ds) = true) : ∃ m, k = m + 1 ∧ ds.length ≤ z ∧ ∀ d ∈ ds, plW z m d = true := by
  cases k with
  | zero => exact nomatch h
  | succ m =>
    have h : (decide (ds.length ≤ z) && plWs z m ds) = true := h
    rw [Bool.and_eq_true, decide_eq_true_eq] at h
    exact ⟨m, rfl, h.1, plWs_iff.mp h.2⟩
theorem plW_ty {z k : Nat} {d : D} (h : plW z k d = true) : hasTy d = true := by
  cases d <;> first | rfl | (cases k <;> exact nomatch h)
theorem plW_int (z k : Nat) (i : Int) : plW z k (.int i) = true := by cases k <;> rfl
theorem plW_pv {z k : Nat} {d : D} (h : plW z k d = true) (hz : z ≤ 60) (hk : k ≤ 12) : Pv d := plW_mono hz k 12 d hk h
theorem plW_ord {o : List Nat} {z : Nat} (h : o.length ≤ z) : plW z 1 (.tup (ordD o)) = true := plW_tup (by rw [ordD_len]; exact h) fun d hd => by
  obtain ⟨k, _, rfl⟩ := List.mem_map.mp hd
  exact plW_int _ _ _
def menu1 : List D := [.non, .bl true, .bl false, .int 0, .int 1, .int (-1), .int 2, .int ((10 : Int) ^ (30 : Int).toNat), .str "", .str "a", .str "a:", .str "+", .str "+-", .str "cost near: +-", .tup [], .tup [.int 0], .tup [.int 1, .int 0]]
def menu2 : List D := [.tup [.int 0, .int 1], .lst [], .lst [.int 0], .dct [] [], .dct [Sum.inr "a"] [.int 1], .tup [.str "fits", .str "a:"], .tup [.tup [.int 0], .tup [.int 0]], .tup [.non], .tup [.str "a"], .str "a 0; b 1"]
def menu3 : List D := [.tup [.int 0, .int 0], .tup [.bl true]]
theorem menu_ok : ∀ d ∈ menu1 ++ menu2 ++ menu3, plW 2 2 d = true := List.all_eq_true.mp (by decide +kernel)
end K61

namespace K61
open PySem PySem.Spec PyProof.Rows L2 Dw
/-! lots, quarrels and the rows that stay open, by the law's own look -/
theorem evt_castB {t : TT} {Γ : Gam} {b b' : Bool} (h : b = b') (e : EvT t Γ b) : EvT t Γ b' := h ▸ e
def colsM (rs : List (List Nat)) (n : Nat) : List (List Nat) := (List.range n).map fun k => rs.map fun r => sgn r k
theorem fz_cols (rs : List (List Nat)) (n : Nat) : fz rs n = (colsM rs n).map fuse := by unfold fz colsM; rw [List.map_map]; rfl
theorem fuse45 (l : List Nat) : fuse l = 45 ↔ 45 ∈ l := by
  unfold fuse
  by_cases h : 45 ∈ l
  · simp [h]
  · rw [if_neg h]
    by_cases h2 : 43 ∈ l <;> simp [h, h2]
theorem fuse43 (l : List Nat) : fuse l = 43 ↔ 43 ∈ l ∧ 45 ∉ l := by
  unfold fuse
  by_cases h : 45 ∈ l
  · simp [h]
  · rw [if_neg h]
    by_cases h2 : 43 ∈ l <;> simp [h, h2]
theorem filt_isE {α : Type} (p : α → Bool) (l : List α) : (l.filter p).isEmpty = !l.any p := by
  rw [Bool.eq_iff_iff, List.isEmpty_iff, List.filter_eq_nil_iff, Bool.not_eq_true', List.any_eq_false]
theorem quB_cols (rs : List (List Nat)) (n : Nat) : quB rs n = (!((colsM rs n).filter fun c => decide (45 ∈ c)).isEmpty && ((colsM rs n).filter fun c => decide (43 ∈ c) && !decide (45 ∈ c)).isEmpty) := by
  unfold quB
  rw [fz_cols, filt_isE, filt_isE, Bool.not_not]
  congr 1
  · rw [Bool.eq_iff_iff, decide_eq_true_eq, List.mem_map, List.any_eq_true]
    exact exists_congr fun c => and_congr Iff.rfl (by rw [fuse45, decide_eq_true_eq])
  · congr 1
    rw [Bool.eq_iff_iff, decide_eq_true_eq, List.mem_map, List.any_eq_true]
    exact exists_congr fun c => and_congr Iff.rfl (by rw [fuse43, Bool.and_eq_true, Bool.not_eq_true', decide_eq_true_eq, decide_eq_false_iff_not])
theorem quB_nil (n m : Nat) : quB [] n = quB [] m := by
  have h : ∀ n, quB [] n = false := fun n => by
    unfold quB
    have : 45 ∉ fz [] n := fun h => by
      obtain ⟨k, _, e⟩ := List.mem_map.mp h
      exact absurd ((fuse45 _).mp e) (by simp)
    rw [decide_eq_false this]; rfl
  rw [h, h]
def lolC (cs : List (List Nat)) : List D := cs.map fun c => .lst (chD c)
theorem ok_chL {c : List Nat} (h : ∀ x ∈ c, isSign x) : dOk 1 (.lst (chD c)) = true := dOks_map fun x hx => okS_ch (h x hx).lt
theorem ok_lolC {cs : List (List Nat)} (h : ∀ c ∈ cs, ∀ x ∈ c, isSign x) : dOk 2 (.lst (lolC cs)) = true := dOks_map fun c hc => ok_chL (h c hc)
theorem ok_nameL {rs : List (List Nat)} (h : ∀ r ∈ rs, ∀ c ∈ r, isSign c) : dOk 1 (.lst (nameD rs)) = true := dOks_map fun r hr => okS_tx fun c hc => (h r hr c hc).lt
theorem ev_nin_ch {K : PySem.W.Frag} {t : TE} {Γ : Gam} {r' : R2} {s : Str} {c : Nat} {l : List Nat} (hs : s = ch c) (h : EvB t Γ (chD l)) : Ev (tOp (rOr (rIn K true) r') (tC (.str s)) t) Γ (.bl (!decide (c ∈ l))) := by
  have e := ev_in (neg := true) (K := K) (r' := r') (ev_str (z := s) (Γ := Γ)) h rfl (sc_ch l)
  rw [hs] at e ⊢
  rw [show (if true = true then !inV (scV (.str (ch c))) ((chD l).map scV) else inV (scV (.str (ch c))) ((chD l).map scV)) = !decide (c ∈ l) from congrArg not (inV_ch c l)] at e
  exact e
def spClash : Spc where
  ty := List (List Nat) × Nat
  args := fun x => [.lst (nameD x.1)]
  ok := fun x => (∀ r ∈ x.1, RowOk r x.2) ∧ x.2 ≤ 8 ∧ x.1.length ≤ 1000
  rel := fun x d => d = .bl (quB x.1 x.2)
theorem isE_map {α β : Type} (f : α → β) (l : List α) : (l.map f).isEmpty = l.isEmpty := by cases l <;> rfl
def spLLot : Spc where
  ty := Nat
  args := fun n => [.purse, .int n]
  ok := fun n => n ≤ 20
  rel := fun n d => ∃ o, d = .tup (ordD o) ∧ o.length ≤ n
def spStuck : Spc where
  ty := List (List Nat) × Nat
  args := fun x => [.tup (nameD x.1), .int x.2]
  ok := fun x => (∀ r ∈ x.1, RowOk r x.2) ∧ x.2 ≤ 8 ∧ x.1.length ≤ 100
  rel := fun x d => ∃ o, d = .tup (ordD o) ∧ o.length ≤ x.1.length ∧ ∀ k ∈ o, k < x.1.length
theorem lotB_tup {d : D} {m : Nat} (h : isTupB d = false) : lotB d m = false := by cases d <;> first | rfl | exact nomatch h
theorem lotB_no {ds : List D} {m : Nat} (h : ∀ o, ds = ordD o → LotOk o m → False) : lotB (.tup ds) m = false := by
  cases q : lotB (.tup ds) m with
  | false => rfl
  | true =>
    obtain ⟨o, e, ho⟩ := lotB_iff.mp q
    injection e with e
    exact (h o e ho).elim
theorem ordD_inj2 {o p : List Nat} (h : ordD o = ordD p) : o = p := by
  have := congrArg (fun l => l.map fun d => (intOf d).toNat) h
  unfold ordD at this
  rw [List.map_map, List.map_map] at this
  have e : ((fun d => (intOf d).toNat) ∘ fun k : Nat => D.int k) = id := by funext k; exact Int.toNat_natCast k
  rw [e, List.map_id, List.map_id] at this
  exact this
theorem take_ord {ds : List D} {o : List Nat} {i : Nat} {y : D} (tk : ds.take i = ordD o) (hy : ds[i]? = some y) (o' : List Nat) (e' : ds = ordD o') : ∃ k, o'[i]? = some k ∧ y = .int k ∧ o'.take i = o := by
  have h3 : (o'.map fun k : Nat => D.int k)[i]? = some y := by rw [← show ds = o'.map _ from e']; exact hy
  rw [List.getElem?_map] at h3
  cases q : o'[i]? with
  | none => rw [q] at h3; cases h3
  | some k =>
    rw [q] at h3; cases h3
    refine ⟨k, rfl, rfl, ordD_inj2 ?_⟩
    rw [← tk, e']
    unfold ordD
    rw [List.map_take]
theorem lot_snoc {o : List Nat} {m i k : Nat} (h : LotOk o m) (hl : o.length = i) (hk : k < m) (hlast : ∀ (h : 0 < i), o[i - 1]'(by omega) < k) : LotOk (o ++ [k]) m := by
  refine ⟨fun j hj => ?_, List.pairwise_append.mpr ⟨h.inc, List.pairwise_singleton .., fun a ha b hb => ?_⟩⟩
  · rcases List.mem_append.mp hj with hj | hj
    · exact h.lt j hj
    · rw [List.mem_singleton.mp hj]; exact hk
  · rw [List.mem_singleton.mp hb]
    obtain ⟨j, hj, rfl⟩ := List.getElem_of_mem ha
    have hi : 0 < i := by omega
    have hl2 := hlast hi
    by_cases e : j = i - 1
    · subst e; exact hl2
    · exact Nat.lt_trans (List.pairwise_iff_getElem.mp h.inc j (i - 1) hj (by omega) (by omega)) hl2
end K61

namespace K61
open PySem PySem.Spec PyProof.Rows L2 Dw
/-! claims of any sort: what the checker tells of them -/
def wdB : Bool → Str | true => "wins" | false => "loses"
def accX : Bool → List (List Nat) → List (List Nat) → Nat → D → Bool
  | true, _, rs, n, p => fitB p rs n
  | false, os, rs, n, p => losB os rs n p
theorem accX_f {os rs : List (List Nat)} {n : Nat} {p : D} : accX false os rs n p = losB os rs n p := rfl
def accN (b : Bool) (ls ms : List (List Nat)) (n : Nat) : D → D → Bool
  | .str x, p => decide (x.cps.toList ∈ ls) && accX b (osM ls (ls.idxOf x.cps.toList)) (rwM ms (ls.idxOf x.cps.toList)) n p
  | _, _ => false
theorem accN_no {b : Bool} {ls ms : List (List Nat)} {n : Nat} {d p : D} (h : isStrB d = false) : accN b ls ms n d p = false := by cases d <;> first | rfl | exact nomatch h
theorem accN_out {b : Bool} {ls ms : List (List Nat)} {n : Nat} {c : List Nat} {p : D} (h : c ∉ ls) : accN b ls ms n (.str (tx c)) p = false := by
  show (decide ((tx c).cps.toList ∈ ls) && _) = false
  rw [tx_cps, decide_eq_false h]; rfl
theorem rowAt_idx {ls : List (List Nat)} {c : List Nat} (h : c ∈ ls) : ls.idxOf c < ls.length ∧ rowAt ls (ls.idxOf c) = c := by
  have hl := List.idxOf_lt_length_iff.mpr h
  refine ⟨hl, ?_⟩
  rw [rowAt_get hl]
  have := idx_atB h
  rw [List.getElem?_eq_getElem hl] at this
  exact Option.some.inj this
theorem idx_rowAt {ls : List (List Nat)} (h : ls.Pairwise (· < ·)) {i : Nat} (hi : i < ls.length) : ls.idxOf (rowAt ls i) = i := by
  obtain ⟨h1, h2⟩ := rowAt_idx (rowAt_mem hi)
  exact rowAt_inj h h1 hi h2
theorem accN_at {b : Bool} {ls ms : List (List Nat)} {n i : Nat} {p : D} (h : ls.Pairwise (· < ·)) (hi : i < ls.length) : accN b ls ms n (.str (tx (rowAt ls i))) p = accX b (osM ls i) (rwM ms i) n p := by
  show (decide ((tx (rowAt ls i)).cps.toList ∈ ls) && accX b (osM ls (ls.idxOf (tx (rowAt ls i)).cps.toList)) (rwM ms (ls.idxOf (tx (rowAt ls i)).cps.toList)) n p) = _
  rw [tx_cps, idx_rowAt h hi, decide_eq_true (rowAt_mem hi), Bool.true_and]
def spAOCU : Spc where
  ty := CaseV × D × D × Bool
  args := fun x => [.str (wdB x.2.2.2), caseD x.1.1 x.1.2.1, x.2.1, x.2.2.1]
  ok := fun x => CaseOk x.1.1 x.1.2.1 x.1.2.2 ∧ Pv x.2.1 ∧ Pv x.2.2.1
  rel := fun x d => d = .bl (accN x.2.2.2 x.1.1 x.1.2.1 x.1.2.2 x.2.1 x.2.2.1)
def accK (b : Bool) (t one p : D) : Bool := match caseOf t with
  | some c => accN b c.1 c.2.1 c.2.2 one p
  | none => false
theorem nsIn_unknown {K : PySem.W.Frag} {w : World} {a : Addr} {es : Array DictEntry} {n : Nat} {ks : List Str} (hl : K.lookup a = some ⟨.type "dict", none, .dict es n, #[]⟩) (hk : es.toList.map He.keyOf = He.keysIn w.params ks) {x : Str} (hx : x ∉ ks) : PySem.W.nsIn K a x = some none := by
  have key : ∀ e ∈ es.toList, ∃ k t, k ∈ ks ∧ e.key = .str k t := fun e he => by
    have h1 : He.keyOf e ∈ es.toList.map He.keyOf := List.mem_map_of_mem he
    rw [hk] at h1
    obtain ⟨k, hk1, hk2⟩ := List.mem_map.mp h1
    have hk2 : some (k, PyData.keyHash w.params k) = He.keyOf e := hk2
    unfold He.keyOf at hk2
    cases hq : e.key with
    | str y t =>
      rw [hq] at hk2
      have hk2 : some (k, PyData.keyHash w.params k) = some (y, e.hash) := hk2
      injection hk2 with hk2
      injection hk2 with h2 h3
      exact ⟨y, t, h2 ▸ hk1, rfl⟩
    | _ => rw [hq] at hk2; exact nomatch hk2
  have h1 : es.toList.find? (·.key.isStr x) = none := by
    rw [List.find?_eq_none]
    intro e he h
    obtain ⟨k, t, hk1, hk2⟩ := key e he
    rw [hk2] at h
    have h : (k == x) = true := h
    rw [beq_iff_eq] at h
    exact hx (h ▸ hk1)
  have h2 : es.toList.any (·.refKey) = false := by
    rw [List.any_eq_false]
    intro e he h
    obtain ⟨k, t, hk1, hk2⟩ := key e he
    unfold DictEntry.refKey at h
    rw [hk2] at h
    exact nomatch h
  unfold PySem.W.nsIn
  rw [hl]
  show (match es.toList.find? (·.key.isStr x) with
      | some e => some (some e.val)
      | none => if es.toList.any (·.refKey) then none else some none) = _
  rw [h1, h2]; rfl
def words9 : List Str := ["fits", "quarrels", "follows", "above", "open", "count", "alike", "wins", "loses"]
def cwOf (w : Str) : List D → Option Cw
  | [] => if w = "fits" then some .fits else if w = "quarrels" then some .quarrels else none
  | [d] => if w = "follows" then some (.follows d) else if w = "open" then some (.opn d) else if w = "count" then some (.count d) else if w = "alike" then some (.alike d) else none
  | [a, b] => if w = "above" then some (.above a b) else none
  | _ => none
theorem cwOf_word (c : Cw) : cwOf c.word c.parts = some c := by
  cases c with
  | fits => show (if (Str.ofString "fits" : Str) = (Str.ofString "fits" : Str) then some Cw.fits else if (Str.ofString "fits" : Str) = (Str.ofString "quarrels" : Str) then some Cw.quarrels else none) = some Cw.fits; rw [if_pos rfl]
  | quarrels => show (if (Str.ofString "quarrels" : Str) = (Str.ofString "fits" : Str) then some Cw.fits else if (Str.ofString "quarrels" : Str) = (Str.ofString "quarrels" : Str) then some Cw.quarrels else none) = some Cw.quarrels; rw [if_neg (by decide +kernel), if_pos rfl]
  | follows d => show (if (Str.ofString "follows" : Str) = (Str.ofString "follows" : Str) then some (Cw.follows d) else if (Str.ofString "follows" : Str) = (Str.ofString "open" : Str) then some (Cw.opn d) else if (Str.ofString "follows" : Str) = (Str.ofString "count" : Str) then some (Cw.count d) else if (Str.ofString "follows" : Str) = (Str.ofString "alike" : Str) then some (Cw.alike d) else none) = some (Cw.follows d); rw [if_pos rfl]
  | opn d => show (if (Str.ofString "open" : Str) = (Str.ofString "follows" : Str) then some (Cw.follows d) else if (Str.ofString "open" : Str) = (Str.ofString "open" : Str) then some (Cw.opn d) else if (Str.ofString "open" : Str) = (Str.ofString "count" : Str) then some (Cw.count d) else if (Str.ofString "open" : Str) = (Str.ofString "alike" : Str) then some (Cw.alike d) else none) = some (Cw.opn d); rw [if_neg (by decide +kernel), if_pos rfl]
  | above a b => show (if (Str.ofString "above" : Str) = (Str.ofString "above" : Str) then some (Cw.above a b) else none) = some (Cw.above a b); rw [if_pos rfl]
  | count d => show (if (Str.ofString "count" : Str) = (Str.ofString "follows" : Str) then some (Cw.follows d) else if (Str.ofString "count" : Str) = (Str.ofString "open" : Str) then some (Cw.opn d) else if (Str.ofString "count" : Str) = (Str.ofString "count" : Str) then some (Cw.count d) else if (Str.ofString "count" : Str) = (Str.ofString "alike" : Str) then some (Cw.alike d) else none) = some (Cw.count d); rw [if_neg (by decide +kernel), if_neg (by decide +kernel), if_pos rfl]
  | alike d => show (if (Str.ofString "alike" : Str) = (Str.ofString "follows" : Str) then some (Cw.follows d) else if (Str.ofString "alike" : Str) = (Str.ofString "open" : Str) then some (Cw.opn d) else if (Str.ofString "alike" : Str) = (Str.ofString "count" : Str) then some (Cw.count d) else if (Str.ofString "alike" : Str) = (Str.ofString "alike" : Str) then some (Cw.alike d) else none) = some (Cw.alike d); rw [if_neg (by decide +kernel), if_neg (by decide +kernel), if_neg (by decide +kernel), if_pos rfl]
theorem cwOf_some {w : Str} {ps : List D} {c : Cw} (h : cwOf w ps = some c) : c.word = w ∧ c.parts = ps := by
  unfold cwOf at h
  split at h
  · split at h
    · cases h; rename_i e; exact ⟨e.symm, rfl⟩
    · split at h
      · cases h; rename_i e; exact ⟨e.symm, rfl⟩
      · cases h
  · split at h
    · cases h; rename_i e; exact ⟨e.symm, rfl⟩
    · split at h
      · cases h; rename_i e; exact ⟨e.symm, rfl⟩
      · split at h
        · cases h; rename_i e; exact ⟨e.symm, rfl⟩
        · split at h
          · cases h; rename_i e; exact ⟨e.symm, rfl⟩
          · cases h
  · split at h
    · cases h; rename_i e; exact ⟨e.symm, rfl⟩
    · cases h
  · cases h
/-- how many parts, by the word -/
def sizeW (w : Str) : Nat := if w = "fits" then 0 else if w = "quarrels" then 0 else if w = "above" then 2 else 1
theorem size_cw (c : Cw) : c.parts.length = sizeW c.word := by
  cases c
  · exact (by decide +kernel : 0 = sizeW (Str.ofString "fits"))
  · exact (by decide +kernel : 0 = sizeW (Str.ofString "quarrels"))
  · exact (by decide +kernel : 1 = sizeW (Str.ofString "follows"))
  · exact (by decide +kernel : 1 = sizeW (Str.ofString "open"))
  · exact (by decide +kernel : 2 = sizeW (Str.ofString "above"))
  · exact (by decide +kernel : 1 = sizeW (Str.ofString "count"))
  · exact (by decide +kernel : 1 = sizeW (Str.ofString "alike"))
/-- with other parts -/
theorem cw_with (c : Cw) {ps : List D} (h : ps.length = c.parts.length) : ∃ c' : Cw, c'.word = c.word ∧ c'.parts = ps := by
  cases c
  · have h : ps.length = 0 := h
    exact ⟨.fits, rfl, (List.length_eq_zero_iff.mp h).symm⟩
  · have h : ps.length = 0 := h
    exact ⟨.quarrels, rfl, (List.length_eq_zero_iff.mp h).symm⟩
  · obtain ⟨d, rfl⟩ := List.length_eq_one_iff.mp (show ps.length = 1 from h)
    exact ⟨.follows d, rfl, rfl⟩
  · obtain ⟨d, rfl⟩ := List.length_eq_one_iff.mp (show ps.length = 1 from h)
    exact ⟨.opn d, rfl, rfl⟩
  · match ps, h with
    | [a, b], _ => exact ⟨.above a b, rfl, rfl⟩
  · obtain ⟨d, rfl⟩ := List.length_eq_one_iff.mp (show ps.length = 1 from h)
    exact ⟨.count d, rfl, rfl⟩
  · obtain ⟨d, rfl⟩ := List.length_eq_one_iff.mp (show ps.length = 1 from h)
    exact ⟨.alike d, rfl, rfl⟩
theorem word_split (w : Str) : (∃ c : Cw, c.word = w) ∨ (∃ b, wdB b = w) ∨ w ∉ words9 := by
  by_cases h : w ∈ words9
  · simp only [words9, List.mem_cons, List.not_mem_nil, or_false] at h
    rcases h with rfl | rfl | rfl | rfl | rfl | rfl | rfl | rfl | rfl
    · exact .inl ⟨.fits, rfl⟩
    · exact .inl ⟨.quarrels, rfl⟩
    · exact .inl ⟨.follows .non, rfl⟩
    · exact .inl ⟨.above .non .non, rfl⟩
    · exact .inl ⟨.opn .non, rfl⟩
    · exact .inl ⟨.count .non, rfl⟩
    · exact .inl ⟨.alike .non, rfl⟩
    · exact .inr (.inl ⟨true, rfl⟩)
    · exact .inr (.inl ⟨false, rfl⟩)
  · exact .inr (.inr h)
theorem word_not (c : Cw) (b : Bool) : c.word ≠ wdB b := by
  cases b
  · cases c
    · exact (by decide +kernel : Str.ofString "fits" ≠ Str.ofString "loses")
    · exact (by decide +kernel : Str.ofString "quarrels" ≠ Str.ofString "loses")
    · exact (by decide +kernel : Str.ofString "follows" ≠ Str.ofString "loses")
    · exact (by decide +kernel : Str.ofString "open" ≠ Str.ofString "loses")
    · exact (by decide +kernel : Str.ofString "above" ≠ Str.ofString "loses")
    · exact (by decide +kernel : Str.ofString "count" ≠ Str.ofString "loses")
    · exact (by decide +kernel : Str.ofString "alike" ≠ Str.ofString "loses")
  · cases c
    · exact (by decide +kernel : Str.ofString "fits" ≠ Str.ofString "wins")
    · exact (by decide +kernel : Str.ofString "quarrels" ≠ Str.ofString "wins")
    · exact (by decide +kernel : Str.ofString "follows" ≠ Str.ofString "wins")
    · exact (by decide +kernel : Str.ofString "open" ≠ Str.ofString "wins")
    · exact (by decide +kernel : Str.ofString "above" ≠ Str.ofString "wins")
    · exact (by decide +kernel : Str.ofString "count" ≠ Str.ofString "wins")
    · exact (by decide +kernel : Str.ofString "alike" ≠ Str.ofString "wins")
theorem wdB_inj : ∀ {a b : Bool}, wdB a = wdB b → a = b
  | true, true, _ => rfl
  | false, false, _ => rfl
  | true, false, h => absurd h (by decide +kernel : Str.ofString "wins" ≠ Str.ofString "loses")
  | false, true, h => absurd h (by decide +kernel : Str.ofString "loses" ≠ Str.ofString "wins")
theorem cw_in (c : Cw) : c.word ∈ words9 := by
  cases c
  · exact (by decide +kernel : Str.ofString "fits" ∈ words9)
  · exact (by decide +kernel : Str.ofString "quarrels" ∈ words9)
  · exact (by decide +kernel : Str.ofString "follows" ∈ words9)
  · exact (by decide +kernel : Str.ofString "open" ∈ words9)
  · exact (by decide +kernel : Str.ofString "above" ∈ words9)
  · exact (by decide +kernel : Str.ofString "count" ∈ words9)
  · exact (by decide +kernel : Str.ofString "alike" ∈ words9)
theorem wdB_in (b : Bool) : wdB b ∈ words9 := by
  cases b
  · exact (by decide +kernel : Str.ofString "loses" ∈ words9)
  · exact (by decide +kernel : Str.ofString "wins" ∈ words9)
def winOf (w : Str) : List D → Option (Bool × D)
  | [one] => if w = "wins" then some (true, one) else if w = "loses" then some (false, one) else none
  | _ => none
theorem winOf_b (b : Bool) (one : D) : winOf (wdB b) [one] = some (b, one) := by
  cases b with
  | false => show (if (Str.ofString "loses" : Str) = (Str.ofString "wins" : Str) then some (true, one) else if (Str.ofString "loses" : Str) = (Str.ofString "loses" : Str) then some (false, one) else none) = some (false, one); rw [if_neg (by decide +kernel), if_pos rfl]
  | true => show (if (Str.ofString "wins" : Str) = (Str.ofString "wins" : Str) then some (true, one) else if (Str.ofString "wins" : Str) = (Str.ofString "loses" : Str) then some (false, one) else none) = some (true, one); rw [if_pos rfl]
theorem winOf_some {w : Str} {ps : List D} {x : Bool × D} (h : winOf w ps = some x) : w = wdB x.1 ∧ ps = [x.2] := by
  unfold winOf at h
  split at h
  · split at h
    · cases h; rename_i e; exact ⟨e, rfl⟩
    · split at h
      · cases h; rename_i e; exact ⟨e, rfl⟩
      · cases h
  · cases h
/-- what the checker tells -/
def accU : D → D → Bool
  | .tup (.str w :: t :: ps), p => match cwOf w ps with
    | some c => accG c t p
    | none => match winOf w ps with
      | some x => accK x.1 t x.2 p
      | none => false
  | _, _ => false
theorem accU_cw (c : Cw) (t p : D) : accU (.tup (.str c.word :: t :: c.parts)) p = accG c t p := by
  show (match cwOf c.word c.parts with | some c => accG c t p | none => match winOf c.word c.parts with | some x => accK x.1 t x.2 p | none => false) = _
  rw [cwOf_word]
theorem accU_no {w : Str} {t : D} {ps : List D} {p : D} (h1 : cwOf w ps = none) (h2 : winOf w ps = none) : accU (.tup (.str w :: t :: ps)) p = false := by
  show (match cwOf w ps with | some c => accG c t p | none => match winOf w ps with | some x => accK x.1 t x.2 p | none => false) = _
  rw [h1, h2]
theorem cwOf_wd (b : Bool) (ps : List D) : cwOf (wdB b) ps = none := by
  cases h : cwOf (wdB b) ps with
  | none => rfl
  | some c => exact absurd (cwOf_some h).1 (word_not c b)
theorem accU_wd (b : Bool) (t one p : D) : accU (.tup [.str (wdB b), t, one]) p = accK b t one p := by
  show (match cwOf (wdB b) [one] with | some c => accG c t p | none => match winOf (wdB b) [one] with | some x => accK x.1 t x.2 p | none => false) = _
  rw [cwOf_wd, winOf_b]
theorem accU_word {w : Str} (h : w ∉ words9) (t : D) (ps : List D) (p : D) : accU (.tup (.str w :: t :: ps)) p = false := by
  refine accU_no ?_ ?_
  · cases e : cwOf w ps with
    | none => rfl
    | some c => exact absurd (cw_in c) ((cwOf_some e).1 ▸ h)
  · cases e : winOf w ps with
    | none => rfl
    | some x => exact absurd (wdB_in x.1) ((winOf_some e).1 ▸ h)
theorem accU_size {c : Cw} {t : D} {ps : List D} {p : D} (h : ps.length ≠ c.parts.length) : accU (.tup (.str c.word :: t :: ps)) p = false := by
  refine accU_no ?_ ?_
  · cases e : cwOf c.word ps with
    | none => rfl
    | some c' =>
      obtain ⟨h1, h2⟩ := cwOf_some e
      exact absurd (by rw [← h2, size_cw, size_cw, h1]) h
  · cases e : winOf c.word ps with
    | none => rfl
    | some x => exact absurd (winOf_some e).1 (word_not c x.1)
theorem accU_size2 {b : Bool} {t : D} {ps : List D} {p : D} (h : ps.length ≠ 1) : accU (.tup (.str (wdB b) :: t :: ps)) p = false := by
  refine accU_no (cwOf_wd b ps) ?_
  cases e : winOf (wdB b) ps with
  | none => rfl
  | some x => exact absurd (by rw [(winOf_some e).2]; rfl) h
def shU : D → Bool | .tup ds => ds.all shT | _ => true
def spAccU : Spc where
  ty := D × D
  args := fun x => [x.1, x.2]
  ok := fun x => Pv x.1 ∧ shU x.1 = true ∧ Pv x.2
  rel := fun x d => d = .bl (accU x.1 x.2)
theorem cw_known {K : PySem.W.Frag} {w : World} {a : Addr} (c : Cw) (h1 : ∃ r : Value, PySem.W.nsIn K a "fits" = some (some r)) (h2 : ∃ r : Value, PySem.W.nsIn K a "quarrels" = some (some r)) (h3 : ∃ r : Value, PySem.W.nsIn K a "follows" = some (some r)) (h4 : ∃ r : Value, PySem.W.nsIn K a "open" = some (some r)) (h5 : ∃ r : Value, PySem.W.nsIn K a "above" = some (some r)) (h6 : ∃ r : Value, PySem.W.nsIn K a "count" = some (some r)) (h7 : ∃ r : Value, PySem.W.nsIn K a "alike" = some (some r)) : ∃ r : Value, PySem.W.nsIn K a c.word = some (some r) := by
  cases c
  · exact h1
  · exact h2
  · exact h3
  · exact h4
  · exact h5
  · exact h6
  · exact h7
theorem cw_len {K : PySem.W.Frag} {w : World} {a : Addr} (c : Cw) (h1 : KDct K w a "fits" (.int 2)) (h2 : KDct K w a "quarrels" (.int 2)) (h3 : KDct K w a "follows" (.int 3)) (h4 : KDct K w a "open" (.int 3)) (h5 : KDct K w a "above" (.int 4)) (h6 : KDct K w a "count" (.int 3)) (h7 : KDct K w a "alike" (.int 3)) : KDct K w a c.word (.int ((2 + c.parts.length : Nat) : Int)) := by
  cases c
  · exact h1
  · exact h2
  · exact h3
  · exact h4
  · exact h5
  · exact h6
  · exact h7
theorem cw_few (c : Cw) : c.parts.length ≤ 2 := by
  cases c
  · exact Nat.zero_le _
  · exact Nat.zero_le _
  · exact Nat.le_succ 1
  · exact Nat.le_succ 1
  · exact Nat.le_refl 2
  · exact Nat.le_succ 1
  · exact Nat.le_succ 1
theorem cw_book (c : Cw) : inV (.str c.word) [.str "wins", .str "loses"] = false := by
  cases c
  · exact (by decide +kernel : inV (.str (Str.ofString "fits")) [.str "wins", .str "loses"] = false)
  · exact (by decide +kernel : inV (.str (Str.ofString "quarrels")) [.str "wins", .str "loses"] = false)
  · exact (by decide +kernel : inV (.str (Str.ofString "follows")) [.str "wins", .str "loses"] = false)
  · exact (by decide +kernel : inV (.str (Str.ofString "open")) [.str "wins", .str "loses"] = false)
  · exact (by decide +kernel : inV (.str (Str.ofString "above")) [.str "wins", .str "loses"] = false)
  · exact (by decide +kernel : inV (.str (Str.ofString "count")) [.str "wins", .str "loses"] = false)
  · exact (by decide +kernel : inV (.str (Str.ofString "alike")) [.str "wins", .str "loses"] = false)
theorem wd_case (b : Bool) : inV (.str (wdB b)) [.str "wins", .str "loses"] = true := by
  cases b
  · exact (by decide +kernel : inV (.str (Str.ofString "loses")) [.str "wins", .str "loses"] = true)
  · exact (by decide +kernel : inV (.str (Str.ofString "wins")) [.str "wins", .str "loses"] = true)
theorem wd_known {K : PySem.W.Frag} {a : Addr} (b : Bool) (h1 : ∃ r : Value, PySem.W.nsIn K a "wins" = some (some r)) (h2 : ∃ r : Value, PySem.W.nsIn K a "loses" = some (some r)) : ∃ r : Value, PySem.W.nsIn K a (wdB b) = some (some r) := by
  cases b
  · exact h2
  · exact h1
theorem wd_len {K : PySem.W.Frag} {w : World} {a : Addr} (b : Bool) (h1 : KDct K w a "wins" (.int 3)) (h2 : KDct K w a "loses" (.int 3)) : KDct K w a (wdB b) (.int 3) := by
  cases b
  · exact h2
  · exact h1
theorem shU_parts {w : Str} {t : D} {ps : List D} (h : shU (.tup (.str w :: t :: ps)) = true) : shT t = true ∧ ∀ d ∈ ps, shT d = true := by
  have h : ((.str w :: t :: ps : List D).all shT) = true := h
  rw [List.all_eq_true] at h
  exact ⟨h t (by simp), fun d hd => h d (by simp [hd])⟩
theorem cwS_of {c : Cw} (h : ∀ d ∈ c.parts, shT d = true) : cwS c = true := by
  cases c
  case alike d => exact h d List.mem_cons_self
  all_goals rfl
end K61

namespace K61
open PySem PySem.Spec PyProof.Rows L2 Dw
theorem d_accepts_of_case {P : Program} {w : World} {K : PySem.W.Frag} {mg : Str → Option Value} {base : Heap} (T : Txt K w mg) : FnOk P w K mg base CX0 4 T.f_accepts_of_case T.e_accepts_of_case ["word", "case", "one", "certificate"] (toSp (spAOCU)) := by
  refine fn_ok T.F_accepts_of_case sc_accepts_of_case (fun _ => rfl) fun cdv A outer s' H E hr => ?_
  refine ⟨_, (pss_cons (ps_asg (pv 1) (tupA K 2 rfl (pgs_cons (pg_name (i := 4) sc_accepts_of_case.nd rfl (Or.inl rfl)) (pgs_cons (pg_name (i := 5) sc_accepts_of_case.nd rfl (Or.inl rfl)) pgs_nil)))) (pss_cons (ps_if (PW.pt (pw_or (pt_not (truA K (pe_callB (isiA K) (by rfl) T.n_isinstance (by decide +kernel) (pa_cons (pv 2) (pa_cons (pe_bltn (v := .ty "str") (by rfl) T.n_str (by decide +kernel) rfl) pa_nil))))) (pw_or1 (pt_cmpR (ninA K) (pv 2) (pv 4) (by rfl))))) (pss_one (ps_ret pe_bl)) pss_nil) (pss_cons (ps_set (i := 6) sc_accepts_of_case.nd rfl (Or.inr rfl) (pe_ix (ixA K) (pv 5) (pe_tm PySem.F.slot_tuple_index PySem.F.type_tuple_index (tidxA K) (pv 4) (pa_cons (pv 2) pa_nil)) (fun _ _ => rfl))) (pss_cons (ps_set (i := 7) sc_accepts_of_case.nd rfl (Or.inr rfl) (pe_dc (own := [("name", 8), ("theirs", 9)]) rfl sc_accepts_of_case.nd (zipA K (by rfl) T.n_zip (pa_cons (pv 4) (pa_cons (pv 5) pa_nil))) (blkOk_by (own := [("name", 8), ("theirs", 9)]) (N := N_accepts_of_case) (sc := (defScope s_accepts_of_case)) (by decide +kernel)) (fun _ _ _ _ _ => tupA K 2 rfl (pgs_cons (pg_name (i := 8) sc_accepts_of_case.nd rfl (Or.inl rfl)) (pgs_cons (pg_name (i := 9) sc_accepts_of_case.nd rfl (Or.inl rfl)) pgs_nil))) (fun _ _ _ _ _ => pts_one (pt_cmpR (neA K hr.units) (pv 8) (pv 2) (nomark _))) (fun _ _ _ _ _ => (pv 8)) (fun _ _ _ _ _ => (pe_call (d_row_between T) (hr.mono (by decide)) (by rfl) T.m_row_between T.F_row_between.kp T.b_row_between .nil pass0 (pa_cons (pv 6) (pa_cons (pv 9) pa_nil)))))) (pss_cons (ps_if (pt_cmpR (eqA K hr.units) (pv 0) pe_str (nomark _)) (pss_one (ps_ret (pe_call (d_is_fitting T) (hr.mono (by decide)) (by rfl) T.m_is_fitting T.F_is_fitting.kp T.b_is_fitting .nil pass0 (pa_cons (pv 3) (pa_cons (pe_listVals rfl (by rfl) T.n_list (pv 7)) (pa_cons (pe_callB (lenA K) (by rfl) T.n_len (by decide +kernel) (pa_cons (pv 6) pa_nil)) pa_nil)))))) pss_nil) (pss_cons (ps_if (PW.pt (pw_or (pt_not (truA K (pe_callB (isiA K) (by rfl) T.n_isinstance (by decide +kernel) (pa_cons (pv 3) (pa_cons (pe_bltn (v := .ty "tuple") (by rfl) T.n_tuple (by decide +kernel) rfl) pa_nil))))) (pw_or1 (pt_not (truA K (pe_call (d_are_names T) (hr.mono (by decide)) (by rfl) T.m_are_names T.F_are_names.kp T.b_are_names .nil pass0 (pa_cons (pv 3) pa_nil))))))) (pss_one (ps_ret pe_bl)) pss_nil) (pss_cons (ps_if (pt_not (truA K (pe_callB (allA K) (by rfl) T.n_all (by decide +kernel) (pa_cons (pe_lc (own := [("name", 8)]) rfl sc_accepts_of_case.nd (piR K (pv 3)) (blkOk_by (own := [("name", 8)]) (N := N_accepts_of_case) (sc := (defScope s_accepts_of_case)) (by decide +kernel)) (fun _ _ _ _ _ => pg_name (i := 8) sc_accepts_of_case.nd rfl (Or.inl rfl)) (fun _ _ _ _ _ => pts_nil) (fun _ _ _ _ _ => (pe_cmp (pc_din (hu_of hr) (pv 8) (pv 7))))) pa_nil)))) (pss_one (ps_ret pe_bl)) pss_nil) (pss_one (ps_ret (pe_call (d_do_quarrel T) (hr.mono (by decide)) (by rfl) T.m_do_quarrel T.F_do_quarrel.kp T.b_do_quarrel .nil pass0 (pa_cons (pe_lc (own := [("name", 8)]) rfl sc_accepts_of_case.nd (piR K (pv 3)) (blkOk_by (own := [("name", 8)]) (N := N_accepts_of_case) (sc := (defScope s_accepts_of_case)) (by decide +kernel)) (fun _ _ _ _ _ => pg_name (i := 8) sc_accepts_of_case.nd rfl (Or.inl rfl)) (fun _ _ _ _ _ => pts_nil) (fun _ _ _ _ _ => (pe_dget (hu_of hr) (pv 7) (pv 8) (fun _ _ => rfl)))) (pa_cons (pe_callB (lenA K) (by rfl) T.n_len (by decide +kernel) (pa_cons (pv 6) pa_nil)) pa_nil)))))))))))), fun x hx => ?_⟩
  obtain ⟨⟨ls, ms, n⟩, one, p, b⟩ := x
  obtain ⟨hc, ho, hp⟩ := hx
  have hc : CaseOk ls ms n := hc
  have ho : Pv one := ho
  have hp : Pv p := hp
  by_cases hs : isStrB one = true
  · obtain ⟨s, rfl⟩ := str_of hs
    obtain ⟨c, rfl⟩ : ∃ c, s = tx c := ⟨_, of_tx s⟩
    by_cases hm : c ∈ ls
    · obtain ⟨i, hi, rfl⟩ : ∃ i, i < ls.length ∧ rowAt ls i = c := ⟨_, (rowAt_idx hm).1, (rowAt_idx hm).2⟩
      have hc : CaseOk ls ms n := hc
      have hp : Pv p := hp
      have erel : spAOCU.rel ((ls, ms, n), .str (tx (rowAt ls i)), p, b) = fun d => d = D.bl (accX b (osM ls i) (rwM ms i) n p) := by
        show (fun d => d = D.bl (accN b ls ms n (.str (tx (rowAt ls i))) p)) = _
        rw [accN_at hc.names.pw hi]
      rw [erel]
      have h8 := hc.names.hi
      have n8 := hc.hi
      have sm := hc.same
      have pw := hc.names.pw
      have orl := os_rw (i := i) hc
      have rok := rwM_ok (i := i) hc hi
      have hmi : (rowAt ms i).length = n := hc.wide _ (rowAt_mem (by omega))
      have e_p : ∀ k ∈ List.range ls.length, (!decide (tx (rowAt ls k) = tx (rowAt ls i))) = !decide (k = i) := fun k hk => congrArg not (decide_eq_decide.mpr ⟨fun e => rowAt_inj pw (List.mem_range.mp hk) hi (tx_eq.mp e), fun e => by rw [e]⟩)
      refine ds_seq (ds_asg_g (Ev.dl (ev_var (d := .tup [.tupN (nameD ls), .tup (ms.map fun m => .tup (ordD m))]) rfl) ⟨[4] ++ [5], _, dg_tup2 dg_name dg_name, ?_⟩))
      have ein : inV (.str (tx (rowAt ls i))) ((nameD ls).map scV) = true := by rw [inV_name]; exact decide_eq_true (rowAt_mem hi)
      refine ds_seq (ds_if (EvT.dl (b := false) (evt_or (a := false) (b := false) (evt_not (a := true) (evt_tru_bl (ev_isi (ev_var rfl) ev_raw (.inl rfl) (.ty "str") rfl))) fun _ => evt_test (ev_cast (congrArg D.bl (congrArg not ein)) (ev_inT (K := K) (neg := true) (d := .str (tx (rowAt ls i))) (ds := nameD ls) (ev_var rfl) (ev_dn (ev_var rfl)) rfl (sc_names ls)))) ⟨fun h => (nomatch h), fun _ => ds_next ?_⟩))
      have eix : (ls.map tx).idxOf (tx (rowAt ls i)) = i := by
        have hm : tx (rowAt ls i) ∈ ls.map tx := List.mem_map_of_mem (rowAt_mem hi)
        have h1 := idx_at hm
        have hlt : (ls.map tx).idxOf (tx (rowAt ls i)) < ls.length := by
          have := List.idxOf_lt_length_iff.mpr hm
          rw [List.length_map] at this
          exact this
        generalize (ls.map tx).idxOf (tx (rowAt ls i)) = j at h1 hlt
        rw [List.getElem?_map, List.getElem?_eq_getElem hlt] at h1
        have h1 : tx ls[j] = tx (rowAt ls i) := Option.some.inj h1
        exact rowAt_inj pw hlt hi (by rw [rowAt_get hlt]; exact tx_eq.mp h1)
      refine ds_seq (ds_asg (Ev.dl (ev_ixT (d := .tup (ordD (rowAt ms i))) (ds := ms.map fun m => D.tup (ordD m)) (ev_var rfl) (ev_cast (congrArg (fun j : Nat => D.int j) eix) (ev_tidxS (o := ls.map tx) (c := tx (rowAt ls i)) (ev_cast (congrArg D.tupN (nameD_map ls).symm) (ev_var rfl)) (ev_var rfl) (List.mem_map_of_mem (rowAt_mem hi)))) (atI_nat (j := i) (by rw [List.getElem?_map, List.getElem?_eq_getElem (by omega), rowAt_get (by omega)]; rfl))) ?_))
      have edc := fun (Γ : Gam) (h4 : Γ[4]? = some (.val (.tupN (nameD ls)))) (h5 : Γ[5]? = some (.val (.tup (ms.map fun m => D.tup (ordD m))))) => (zip_case ls ms sm) ▸ ei_zipT (K := K) (Γ := Γ) (ev_dn (ev_var h4)) (ev_var h5)
      have ekeys : ((List.range ls.length).filter fun k => !decide (k = i)).map (fun k => (Sum.inr (tx (rowAt ls k)) : Key)) = (osM ls i).map fun c => Sum.inr (tx c) := by unfold osM idxM; rw [List.map_map]; rfl
      have evals : ((List.range ls.length).filter fun k => !decide (k = i)).map (fun k => D.str (tx (agR (rowAt ms i) (rowAt ms k)))) = nameD (rwM ms i) := by unfold rwM idxM nameD; rw [List.map_map, sm]; rfl
      refine ds_seq (ds_asg (Ev.dl (ev_cast (d' := .dct ((osM ls i).map fun c => Sum.inr (tx c)) (nameD (rwM ms i))) (by rw [← ekeys, ← evals]) (ev_dcS (xs := List.range ls.length) (c := fun k => .tup [.str (tx (rowAt ls k)), .tup (ordD (rowAt ms k))]) (p := fun k => !decide (k = i)) (kf := fun k => tx (rowAt ls k)) (vf := fun k => .str (tx (agR (rowAt ms i) (rowAt ms k)))) (edc _ rfl rfl) (by rw [List.length_range]; omega) ?nd fun k hk => ⟨[8] ++ [9], _, dg_tup2 dg_name dg_name, fun i hi => hi, evt_test (ev_op (ev_var rfl) (ev_var rfl) (ne_sb (e_p k hk))), fun _ => ⟨ev_var rfl, ev_call (s := spBetween) (x := (rowAt ms i, rowAt ms k, n)) (eva_cons (ev_var rfl) (eva_cons (ev_var rfl) eva_nil)) ?np ⟨hmi, hc.wide _ (rowAt_mem (by have := List.mem_range.mp hk; omega)), n8⟩ fun d h => h⟩⟩)) ?_))
      case nd =>
        have : ((List.range ls.length).filter fun k => !decide (k = i)).Pairwise (· < ·) := List.pairwise_lt_range.filter _
        refine List.Pairwise.imp_of_mem ?_ this
        intro a b ha hb hab e
        have := rowAt_lt pw (idxM_lt hb).1 hab
        rw [tx_eq.mp e] at this
        exact List.lt_irrefl _ this
      case np => exact np_to (np_to (r := []) rfl)
      cases b with
      | true =>
        refine ds_seq (ds_wordC (x := Str.ofString "wins") true (by decide +kernel) rfl (fun _ => ?_) fun h => (nomatch h))
        refine ds_ret (Ev.dl (ev_call (s := spFitting) (x := (p, rwM ms i, n, true)) (eva_cons (ev_var rfl) (eva_cons (EvN.ev (evn_listVals (ev_var (d := .dct ((osM ls i).map fun c => Sum.inr (tx c)) (nameD (rwM ms i))) rfl))) (eva_cons (ev_cast (congrArg (fun n : Nat => D.int n) ((ordD_len (rowAt ms i)).trans hmi)) (ev_lenT (ds := ordD (rowAt ms i)) (ev_var rfl))) eva_nil))) (np1 hp (np_rD (b := true) (r := [_]) rfl)) ⟨hp, rok, n8, by show (rwM ms i).length ≤ 1000; rw [← orl]; unfold osM; rw [List.length_map]; have := idxM_len ls.length i; omega⟩ fun d h => h) rfl)
      | false =>
        refine ds_seq (ds_wordC (x := Str.ofString "loses") false (by decide +kernel) rfl (fun h => nomatch h) fun _ => ?_)
        by_cases ht : isTupB p = true
        · obtain ⟨ds, rfl⟩ := tup_of ht
          refine ds_seq (ds_if (EvT.dl (b := !namesB ds) (evt_or (a := false) (b := !namesB ds) (evt_not (a := true) (evt_tru_bl (ev_isi (ev_var rfl) ev_raw (.inl rfl) (.ty "tuple") rfl))) fun _ => evt_not (evt_tru_bl (ev_call (s := spNamesG) (x := ds) (eva_cons (ev_var rfl) eva_nil) (np1 (r := []) hp rfl) hp fun d h => h))) ⟨fun h => ?_, fun h => ds_next ?_⟩))
          · rw [Bool.not_eq_true'] at h
            refine ds_ret (Ev.dl ev_bl ?_)
            show D.bl false = D.bl (accX false (osM ls i) (rwM ms i) n _)
            rw [accX_f]
            rw [losB_nn h]
          rw [Bool.not_eq_false'] at h
          obtain ⟨cs, rfl, hn, _⟩ := namesB_iff.mp h
          have hz : cs.length ≤ 60 := by
            have := hp.tup.1
            rw [nameD_len] at this
            exact this
          have eany : ∀ c, ((osM ls i).map fun c => (Sum.inr (tx c) : Key)).any (fun a => decide (a = Sum.inr (tx c))) = decide (c ∈ osM ls i) := fun c => by
            rw [List.any_map, Bool.eq_iff_iff, decide_eq_true_eq, List.any_eq_true]
            constructor
            · rintro ⟨x, hx, e⟩
              have e : (Sum.inr (tx x) : Key) = Sum.inr (tx c) := of_decide_eq_true e
              rw [← tx_eq.mp (Sum.inr.inj e)]; exact hx
            · exact fun hx => ⟨c, hx, decide_eq_true rfl⟩
          refine ds_seq (ds_if (EvT.dl (b := !cs.all fun c => decide (c ∈ osM ls i)) (evt_not (evt_tru_bl (ev_all_lc (K := K) (xs := cs) (c := fun c => .str (tx c)) (b := fun c => decide (c ∈ osM ls i)) (ej_tup (ev_var (d := .tup (nameD cs)) rfl)) (by omega) fun c hcm => ⟨[8], _, dg_name, fun i hi => hi, evt_yes, ev_cast (congrArg D.bl (eany c)) (ev_dinS (ev_var rfl) (ev_var rfl))⟩))) ⟨fun h2 => ?_, fun h2 => ds_next ?_⟩))
          · rw [Bool.not_eq_true'] at h2
            refine ds_ret (Ev.dl ev_bl ?_)
            show D.bl false = D.bl (accX false (osM ls i) (rwM ms i) n _)
            rw [accX_f]
            rw [losB_cs h, h2]; rfl
          rw [Bool.not_eq_false'] at h2
          have hall := List.all_eq_true.mp h2
          have hin : ∀ c ∈ cs, c ∈ osM ls i := fun c hcm => of_decide_eq_true (hall c hcm)
          have hix : ∀ c ∈ cs, (osM ls i).idxOf c < (rwM ms i).length := fun c hcm => by rw [← orl]; exact List.idxOf_lt_length_iff.mpr (hin c hcm)
          refine ds_ret (Ev.dl (ev_call (s := spDoQ) (d := .bl (quB (pick (rwM ms i) (cs.map fun c => (osM ls i).idxOf c)) n)) (x := (pick (rwM ms i) (cs.map fun c => (osM ls i).idxOf c), n)) (eva_cons (ev_cast (d' := .lst (nameD (pick (rwM ms i) (cs.map fun c => (osM ls i).idxOf c)))) ?pk (EvN.ev (evn_lc1 (xs := cs) (c := fun c => .str (tx c)) (f := fun c => .str (tx (rowAt (rwM ms i) ((osM ls i).idxOf c)))) (ej_tup (ev_var (d := .tup (nameD cs)) rfl)) (by omega) fun c hcm => ⟨[8], _, dg_name, fun i hi => hi, evt_yes, ev_dgetS (i := (osM ls i).idxOf c) (ev_var (d := .dct ((osM ls i).map fun c => Sum.inr (tx c)) (nameD (rwM ms i))) rfl) (ev_var rfl) ?k1 ?k2 ?k3⟩))) (eva_cons (ev_cast (congrArg (fun n : Nat => D.int n) ((ordD_len (rowAt ms i)).trans hmi)) (ev_lenT (ds := ordD (rowAt ms i)) (ev_var rfl))) eva_nil)) (np_ln (r := [_]) rfl) ⟨pick_ok rok fun k hk => ?_, n8, by show (pick _ _).length ≤ 1000; unfold pick; rw [List.length_map, List.length_map]; omega⟩ fun d h => h) ?_)
          case pk => rw [pick_D, List.map_map]; rfl
          case k1 => rw [List.getElem?_map, idx_atB (hin c hcm)]; rfl
          case k2 =>
            have := hix c hcm
            unfold nameD
            rw [List.getElem?_map, List.getElem?_eq_getElem this, rowAt_get this]; rfl
          case k3 =>
            intro j hj e
            have hjl : j < (osM ls i).length := Nat.lt_trans hj (List.idxOf_lt_length_iff.mpr (hin c hcm))
            rw [List.getElem?_map, List.getElem?_eq_getElem hjl] at e
            exact idx_notB hj hjl (tx_eq.mp (Sum.inr.inj (Option.some.inj e)))
          · obtain ⟨c, hcm, rfl⟩ := List.mem_map.mp hk
            exact hix c hcm
          · show D.bl _ = D.bl (accX false (osM ls i) (rwM ms i) n _)
            rw [accX_f]
            rw [losB_cs h, h2, Bool.true_and]
        · have ht : isTupB p = false := by simpa using ht
          refine ds_seq (ds_if (EvT.dl (b := true) (evt_or (a := true) (b := false) (evt_not (a := false) (evt_tru_bl (ev_isi (ev_var rfl) ev_raw (.inl hp.ty) (.ty "tuple") (by rw [kit_tup hp.ty, ht])))) fun h => (nomatch h)) ⟨fun _ => ds_ret (Ev.dl ev_bl ?_), fun h => (nomatch h)⟩))
          show D.bl false = D.bl (accX false (osM ls i) (rwM ms i) n _)
          rw [accX_f]
          rw [losB_no ht]
    · refine ds_seq (ds_asg_g (Ev.dl (ev_var (d := .tup [.tupN (nameD ls), .tup (ms.map fun m => .tup (ordD m))]) rfl) ⟨[4] ++ [5], _, dg_tup2 dg_name dg_name, ?_⟩))
      have ein : inV (.str (tx c)) ((nameD ls).map scV) = false := by rw [inV_name]; exact decide_eq_false hm
      refine ds_seq (ds_if (EvT.dl (b := true) (evt_or (a := false) (b := true) (evt_not (a := true) (evt_tru_bl (ev_isi (ev_var rfl) ev_raw (.inl rfl) (.ty "str") rfl))) fun _ => evt_test (ev_cast (congrArg D.bl (congrArg not ein)) (ev_inT (K := K) (neg := true) (d := .str (tx c)) (ds := nameD ls) (ev_var rfl) (ev_dn (ev_var rfl)) rfl (sc_names ls)))) ⟨fun _ => ds_ret (Ev.dl ev_bl ?_), fun h => (nomatch h)⟩))
      show D.bl false = D.bl (accN b ls ms n (.str (tx c)) p)
      rw [accN_out hm]
  · have hs : isStrB one = false := by simpa using hs
    refine ds_seq (ds_asg_g (Ev.dl (ev_var (d := .tup [.tupN (nameD ls), .tup (ms.map fun m => .tup (ordD m))]) rfl) ⟨[4] ++ [5], _, dg_tup2 dg_name dg_name, ?_⟩))
    refine ds_seq (ds_if (EvT.dl (b := true) (evt_or (a := true) (b := false) (evt_not (a := false) (evt_tru_bl (ev_isi (ev_var rfl) ev_raw (.inl ho.ty) (.ty "str") (by rw [kit_str ho.ty, hs])))) fun h => (nomatch h)) ⟨fun _ => ds_ret (Ev.dl ev_bl ?_), fun h => (nomatch h)⟩))
    show D.bl false = D.bl (accN b ls ms n one p)
    rw [accN_no hs]
end K61

namespace K61
open PySem PySem.Spec PyProof.Rows L2 Dw
theorem d_accepts {P : Program} {w : World} {K : PySem.W.Frag} {mg : Str → Option Value} {base : Heap} (T : Txt K w mg) : FnOk P w K mg base CX0 8 T.f_accepts T.e_accepts ["claim", "certificate"] (toSp (spAccU)) := by
  refine fn_ok T.F_accepts sc_accepts (fun _ => rfl) fun cdv A outer s' H E hr => ?_
  refine ⟨_, (pss_cons (ps_if (PW.pt (pw_or (pt_not (truA K (pe_callB (isiA K) (by rfl) T.n_isinstance (by decide +kernel) (pa_cons (pv 0) (pa_cons (pe_bltn (v := .ty "tuple") (by rfl) T.n_tuple (by decide +kernel) rfl) pa_nil))))) (pw_or (pt_not (truA K (pv 0))) (pw_or1 (pt_not (truA K (pe_callB (isiA K) (by rfl) T.n_isinstance (by decide +kernel) (pa_cons (pe_ix (ixA K) (pv 0) pe_int (fun _ _ => rfl)) (pa_cons (pe_bltn (v := .ty "str") (by rfl) T.n_str (by decide +kernel) rfl) pa_nil))))))))) (pss_one (ps_ret pe_bl)) pss_nil) (pss_cons (ps_asg (pv 0) (star1XA K rfl (pg_name (i := 2) sc_accepts.nd rfl (Or.inl rfl)) (pg_name (i := 3) sc_accepts.nd rfl (Or.inl rfl)))) (pss_cons (ps_if (PW.pt (pw_or (pt_cmpR (ninKd K w T.kd_LENGTHS) (pv 2) (pe_glob (v := .ref T.a_LENGTHS) (by rfl) T.c_LENGTHS rfl) (by rfl)) (pw_or1 (pt_cmpR (neA K hr.units) (pe_callB (lenA K) (by rfl) T.n_len (by decide +kernel) (pa_cons (pv 0) pa_nil)) (pe_ix (ixD K w) (pe_glob (v := .ref T.a_LENGTHS) (by rfl) T.c_LENGTHS rfl) (pv 2) (fun _ _ => rfl)) (nomark _))))) (pss_one (ps_ret pe_bl)) pss_nil) (pss_cons (ps_asg (pv 3) (star1XA K rfl (pg_name (i := 4) sc_accepts.nd rfl (Or.inl rfl)) (pg_name (i := 5) sc_accepts.nd rfl (Or.inl rfl)))) (pss_cons (ps_if (pt_cmpR (inA K) (pv 2) (pe_tup (pa_cons pe_str (pa_cons pe_str pa_nil))) (by rfl)) (pss_cons (ps_set (i := 6) sc_accepts.nd rfl (Or.inl rfl) (pe_call (d_read_case T) (hr.mono (by decide)) (by rfl) T.m_read_case T.F_read_case.kp T.b_read_case .nil pass0 (pa_cons (pv 4) pa_nil))) (pss_one (ps_ret (pe_and (pe_cmpR op_notN (pv 6) pe_non (nomark _)) (pe_one (pe_call (d_accepts_of_case T) (hr.mono (by decide)) (by rfl) T.m_accepts_of_case T.F_accepts_of_case.kp T.b_accepts_of_case .nil pass0 (pa_cons (pv 2) (pa_cons (pv 6) (pa_cons (pe_ix (ixA K) (pv 5) pe_int (fun _ _ => rfl)) (pa_cons (pv 1) pa_nil)))))))))) pss_nil) (pss_cons (ps_set (i := 7) sc_accepts.nd rfl (Or.inl rfl) (pe_call (d_read_book T) (hr.mono (by decide)) (by rfl) T.m_read_book T.F_read_book.kp T.b_read_book .nil pass0 (pa_cons (pv 4) pa_nil))) (pss_one (ps_ret (pe_and (pe_cmpR op_notN (pv 7) pe_non (nomark _)) (pe_one (pe_call (d_accepts_of_book T) (hr.mono (by decide)) (by rfl) T.m_accepts_of_book T.F_accepts_of_book.kp T.b_accepts_of_book .nil pass0 (pa_cons (pv 2) (pa_cons (pv 7) (pa_cons (pv 5) (pa_cons (pv 1) pa_nil))))))))))))))), fun x hx => ?_⟩
  obtain ⟨cl, p⟩ := x
  obtain ⟨hcl, hsh, hp⟩ := hx
  have hcl : Pv cl := hcl
  have hsh : shU cl = true := hsh
  have hp : Pv p := hp
  obtain ht | ht : isTupB cl = false ∨ isTupB cl = true := by cases isTupB cl <;> simp
  · have ht : isTupB cl = false := ht
    refine ds_seq (ds_if (EvT.dl (b := true) (evt_or (a := true) (b := false) (evt_not (a := false) (evt_tru_bl (ev_isi (ev_var rfl) ev_raw (.inl hcl.ty) (.ty "tuple") (by rw [kit_tup hcl.ty, ht])))) fun h => (nomatch h)) ⟨fun _ => ds_ret (Ev.dl ev_bl ?_), fun h => (nomatch h)⟩))
    show D.bl false = D.bl (accU cl p)
    cases cl <;> first | rfl | exact nomatch ht
  obtain ⟨ds, rfl⟩ := tup_of ht
  obtain rfl | ⟨d0, r, rfl⟩ : ds = [] ∨ ∃ d0 r, ds = d0 :: r := by
    cases ds with
    | nil => exact .inl rfl
    | cons d0 r => exact .inr ⟨d0, r, rfl⟩
  · refine ds_seq (ds_if (EvT.dl (b := true) (evt_or (a := false) (b := true) (evt_not (a := true) (evt_tru_bl (ev_isi (ev_var rfl) ev_raw (.inl rfl) (.ty "tuple") rfl))) fun _ => evt_or (a := true) (b := false) (evt_not (a := false) (evt_tru_tup (ds := []) (ev_var rfl))) fun h => (nomatch h)) ⟨fun _ => ds_ret (Ev.dl ev_bl rfl), fun h => (nomatch h)⟩))
  have hlen := hcl.tup.1
  rw [List.length_cons] at hlen
  have hd0 : Pv d0 := hcl.tup.2 d0 List.mem_cons_self
  obtain hs | hs : isStrB d0 = false ∨ isStrB d0 = true := by cases isStrB d0 <;> simp
  · have hs : isStrB d0 = false := hs
    refine ds_seq (ds_if (EvT.dl (b := true) (evt_or (a := false) (b := true) (evt_not (a := true) (evt_tru_bl (ev_isi (ev_var rfl) ev_raw (.inl rfl) (.ty "tuple") rfl))) fun _ => evt_or (a := false) (b := true) (evt_not (a := true) (evt_tru_tup (ds := d0 :: r) (ev_var rfl))) fun _ => evt_not (a := false) (evt_tru_bl (ev_isi (d := d0) (ev_ixT (ds := d0 :: r) (ev_var rfl) ev_int (atI_nat (j := 0) rfl)) ev_raw (.inl hd0.ty) (.ty "str") (by rw [kit_str hd0.ty, hs])))) ⟨fun _ => ds_ret (Ev.dl ev_bl ?_), fun h => (nomatch h)⟩))
    show D.bl false = D.bl (accU (.tup (d0 :: r)) p)
    cases d0 <;> first | rfl | exact nomatch hs
  obtain ⟨wd, rfl⟩ := str_of hs
  refine ds_seq (ds_if (EvT.dl (b := false) (evt_or (a := false) (b := false) (evt_not (a := true) (evt_tru_bl (ev_isi (ev_var rfl) ev_raw (.inl rfl) (.ty "tuple") rfl))) fun _ => evt_or (a := false) (b := false) (evt_not (a := true) (evt_tru_tup (ds := .str wd :: r) (ev_var rfl))) fun _ => evt_not (a := true) (evt_tru_bl (ev_isi (d := .str wd) (ev_ixT (ds := .str wd :: r) (ev_var rfl) ev_int (atI_nat (j := 0) rfl)) ev_raw (.inl rfl) (.ty "str") rfl))) ⟨fun h => (nomatch h), fun _ => ds_next ?_⟩))
  refine ds_seq (ds_starL (Ev.dl (ev_var rfl) ⟨.str wd, r, .inr rfl, by omega, ?_⟩))
  have lneI : ∀ (m : Nat) (b : Bool), (!decide ((.str wd :: r : List D).length = m)) = b → DR2 (rNeX K) (.int (((.str wd :: r : List D).length : Nat) : Int)) (.int (m : Int)) (.bl b) := fun m b e => by
    have e2 := ne_int' (K := K) (i := (((.str wd :: r : List D).length : Nat) : Int)) (j := (m : Int))
    rw [show decide ((((.str wd :: r : List D).length : Nat) : Int) = (m : Int)) = decide ((.str wd :: r : List D).length = m) from decide_eq_decide.mpr (by omega), e] at e2
    exact e2
  rcases word_split wd with ⟨c0, rfl⟩ | ⟨b, rfl⟩ | hw
  · have few := cw_few c0
    obtain ⟨r0, hk⟩ := cw_known (w := w) c0 T.v_LENGTHS_fits T.v_LENGTHS_quarrels T.v_LENGTHS_follows T.v_LENGTHS_open T.v_LENGTHS_above T.v_LENGTHS_count T.v_LENGTHS_alike
    have hl := cw_len c0 T.w_LENGTHS_fits T.w_LENGTHS_quarrels T.w_LENGTHS_follows T.w_LENGTHS_open T.w_LENGTHS_above T.w_LENGTHS_count T.w_LENGTHS_alike
    obtain hr0 | hr0 : r.length ≠ 1 + c0.parts.length ∨ r.length = 1 + c0.parts.length := by omega
    · refine ds_seq (ds_if (EvT.dl (b := true) (evt_or (a := false) (b := true) (evt_test (ev_inKd (neg := true) (r := some r0) (ev_var rfl) ev_raw hk)) fun _ => evt_test (ev_op (ev_lenT (ds := .str c0.word :: r) (ev_var rfl)) (ev_ixKi (ev_var rfl) hl) (lneI _ _ (by rw [decide_eq_false (by rw [List.length_cons]; omega)]; rfl)))) ⟨fun _ => ds_ret (Ev.dl ev_bl ?_), fun h => (nomatch h)⟩))
      show D.bl false = D.bl (accU (.tup (.str c0.word :: r)) p)
      cases r with
      | nil => rfl
      | cons t ps => rw [accU_size (by rw [List.length_cons] at hr0; omega)]
    refine ds_seq (ds_if (EvT.dl (b := false) (evt_or (a := false) (b := false) (evt_test (ev_inKd (neg := true) (r := some r0) (ev_var rfl) ev_raw hk)) fun _ => evt_test (ev_op (ev_lenT (ds := .str c0.word :: r) (ev_var rfl)) (ev_ixKi (ev_var rfl) hl) (lneI _ _ (by rw [decide_eq_true (by rw [List.length_cons]; omega)]; rfl)))) ⟨fun h => (nomatch h), fun _ => ds_next ?_⟩))
    obtain ⟨tt, ps, rfl⟩ : ∃ t ps, r = t :: ps := by
      cases r with
      | nil => rw [List.length_nil] at hr0; omega
      | cons t ps => exact ⟨t, ps, rfl⟩
    obtain ⟨c, hcw, rfl⟩ := cw_with c0 (ps := ps) (by rw [List.length_cons] at hr0; omega)
    rw [← hcw] at hcl hsh ⊢
    have few := cw_few c
    obtain ⟨sh1, sh2⟩ := shU_parts hsh
    have htt : Pv tt := hcl.tup.2 tt (by simp)
    have hps : ∀ d ∈ c.parts, Pv d := fun d hd => hcl.tup.2 d (by simp [hd])
    have erel : spAccU.rel (.tup (.str c.word :: tt :: c.parts), p) = fun d => d = D.bl (accG c tt p) := by
      show (fun d => d = D.bl (accU (.tup (.str c.word :: tt :: c.parts)) p)) = _
      rw [accU_cw]
    rw [erel]
    refine ds_seq (ds_starL (Ev.dl (ev_var rfl) ⟨tt, c.parts, .inl rfl, by omega, ?_⟩))
    have ein := ev_inT (K := K) (neg := false) (r' := rInS) (d := .str c.word) (ds := [.str "wins", .str "loses"]) (ta := tVar 2) (tb := tTup (tCons (tC (.str "wins")) (tCons (tC (.str "loses")) tNil))) (Γ := [.val (.tup (.str c.word :: tt :: c.parts)), .val p, .val (.str c.word), .val (.lst (tt :: c.parts)), .val (tt), .val (.lst c.parts), .unset, .unset]) (ev_var rfl) (ev_tup (eva_cons ev_str (eva_cons ev_str eva_nil)) (small (show 2 ≤ 100000 by decide))) rfl rfl
    rw [show (if false = true then !inV (scV (.str c.word)) (List.map scV [.str "wins", .str "loses"]) else inV (scV (.str c.word)) (List.map scV [.str "wins", .str "loses"])) = false from cw_book c] at ein
    refine ds_seq (ds_if (EvT.dl (b := false) (evt_test ein) ⟨fun h => (nomatch h), fun _ => ds_next ?_⟩))
    refine ds_seq (ds_asg (Ev.dl (ev_call (s := spReadG) (d := optD (bookOf tt)) (x := tt) (eva_cons (ev_var rfl) eva_nil) (np1 (r := []) htt rfl) ⟨htt, sh1⟩ fun d h => h) ?_))
    cases eb : bookOf tt with
    | none =>
      refine ds_ret (Ev.dl (ev_andV (a := false) (b := false) (ev_op (ev_var (d := .non) rfl) ev_non (dr2_notN fun W v h => by rw [show v = V.non from h]; rfl)) fun h => (nomatch h)) ?_)
      show D.bl false = D.bl (accO c p (bookOf tt))
      rw [eb]; rfl
    | some bk =>
      obtain ⟨ls, rs⟩ := bk
      have hb : BookOk ls rs := (bookOf_ok eb).1
      refine ds_ret (Ev.dl (ev_andV (a := true) (b := accT c ls rs p) (ev_op (ev_var (d := .tup [.tup (nameD ls), .tup (nameD rs)]) rfl) ev_non (dr2_notN fun W v h => ?_)) fun _ => ev_call (s := spAOB) (x := (c, (ls, rs), p)) (eva_cons (ev_var rfl) (eva_cons (ev_var rfl) (eva_cons (ev_var rfl) (eva_cons (ev_var rfl) eva_nil)))) ?np ⟨hb, hp, hps, cwS_of sh2⟩ fun d h => h) ?_)
      · obtain ⟨q, vs, e, _⟩ := h
        rw [e]; exact congrArg not (decide_eq_false fun h => nomatch h)
      case np =>
        refine np_bt ?_
        show (noPs c.parts && (noP p && true)) = true
        rw [nps_of hps, hp.np]; rfl
      · show D.bl _ = D.bl (accO c p (bookOf tt))
        rw [eb, Bool.true_and]; rfl
  · obtain ⟨r0, hk⟩ := wd_known b T.v_LENGTHS_wins T.v_LENGTHS_loses
    have hl := wd_len b T.w_LENGTHS_wins T.w_LENGTHS_loses
    obtain hr0 | hr0 : r.length ≠ 2 ∨ r.length = 2 := by omega
    · refine ds_seq (ds_if (EvT.dl (b := true) (evt_or (a := false) (b := true) (evt_test (ev_inKd (neg := true) (r := some r0) (ev_var rfl) ev_raw hk)) fun _ => evt_test (ev_op (ev_lenT (ds := .str (wdB b) :: r) (ev_var rfl)) (ev_ixKi (ev_var rfl) hl) (lneI 3 _ (by rw [decide_eq_false (by rw [List.length_cons]; omega)]; rfl)))) ⟨fun _ => ds_ret (Ev.dl ev_bl ?_), fun h => (nomatch h)⟩))
      show D.bl false = D.bl (accU (.tup (.str (wdB b) :: r)) p)
      cases r with
      | nil => rfl
      | cons t ps => rw [accU_size2 (by rw [List.length_cons] at hr0; omega)]
    refine ds_seq (ds_if (EvT.dl (b := false) (evt_or (a := false) (b := false) (evt_test (ev_inKd (neg := true) (r := some r0) (ev_var rfl) ev_raw hk)) fun _ => evt_test (ev_op (ev_lenT (ds := .str (wdB b) :: r) (ev_var rfl)) (ev_ixKi (ev_var rfl) hl) (lneI 3 _ (by rw [decide_eq_true (by rw [List.length_cons]; omega)]; rfl)))) ⟨fun h => (nomatch h), fun _ => ds_next ?_⟩))
    obtain ⟨tt, one, rfl⟩ : ∃ t o, r = [t, o] := by
      match r, hr0 with
      | [t, o], _ => exact ⟨t, o, rfl⟩
    obtain ⟨sh1, sh2⟩ := shU_parts hsh
    have htt : Pv tt := hcl.tup.2 tt (by simp)
    have hone : Pv one := hcl.tup.2 one (by simp)
    have erel : spAccU.rel (.tup [.str (wdB b), tt, one], p) = fun d => d = D.bl (accK b tt one p) := by
      show (fun d => d = D.bl (accU (.tup [.str (wdB b), tt, one]) p)) = _
      rw [accU_wd]
    rw [erel]
    refine ds_seq (ds_starL (Ev.dl (ev_var rfl) ⟨tt, [one], .inl rfl, (show 1 ≤ 16000 by decide), ?_⟩))
    have ein := ev_inT (K := K) (neg := false) (r' := rInS) (d := .str (wdB b)) (ds := [.str "wins", .str "loses"]) (ta := tVar 2) (tb := tTup (tCons (tC (.str "wins")) (tCons (tC (.str "loses")) tNil))) (Γ := [.val (.tup [.str (wdB b), tt, one]), .val p, .val (.str (wdB b)), .val (.lst [tt, one]), .val tt, .val (.lst [one]), .unset, .unset]) (ev_var rfl) (ev_tup (eva_cons ev_str (eva_cons ev_str eva_nil)) (small (show 2 ≤ 100000 by decide))) rfl rfl
    rw [show (if false = true then !inV (scV (.str (wdB b))) (List.map scV [.str "wins", .str "loses"]) else inV (scV (.str (wdB b))) (List.map scV [.str "wins", .str "loses"])) = true from wd_case b] at ein
    refine ds_seq (ds_if (EvT.dl (b := true) (evt_test ein) ⟨fun _ => ?_, fun h => (nomatch h)⟩))
    refine ds_seq (ds_asg (Ev.dl (ev_call (s := spReadCG T.f_read_mark false) (d := optC (caseOf tt)) (x := tt) (eva_cons (ev_var rfl) eva_nil) (np1 (r := []) htt rfl) ⟨htt, sh1⟩ fun d h => h) ?_))
    cases eb : caseOf tt with
    | none =>
      refine ds_ret (Ev.dl (ev_andV (a := false) (b := false) (ev_op (ev_var (d := .non) rfl) ev_non (dr2_notN fun W v h => by rw [show v = V.non from h]; rfl)) fun h => (nomatch h)) ?_)
      show D.bl false = D.bl (accK b tt one p)
      unfold accK
      rw [eb]
    | some cs =>
      obtain ⟨ls, ms, n⟩ := cs
      have hc : CaseOk ls ms n := caseOf_ok eb
      refine ds_ret (Ev.dl (ev_andV (a := true) (b := accN b ls ms n one p) (ev_op (ev_var (d := caseD ls ms) rfl) ev_non (dr2_notN fun W v h => ?_)) fun _ => ev_call (s := spAOCU) (x := ((ls, ms, n), one, p, b)) (eva_cons (ev_var rfl) (eva_cons (ev_var rfl) (eva_cons (ev_ix (ev_var (d := .lst [one]) rfl).b ev_int (atI_nat (j := 0) rfl)) (eva_cons (ev_var rfl) eva_nil)))) (np_case (np1 (r := [_]) hone (np1 (r := []) hp rfl))) ⟨hc, hone, hp⟩ fun d h => h) ?_)
      · obtain ⟨q, vs, e, _⟩ := id h
        rw [e]; exact congrArg not (decide_eq_false fun h => nomatch h)
      · show D.bl _ = D.bl (accK b tt one p)
        unfold accK
        rw [eb, Bool.true_and]
  · have hk := T.un_LENGTHS wd hw
    refine ds_seq (ds_if (EvT.dl (b := true) (evt_or (a := true) (b := false) (evt_test (ev_inKd (neg := true) (r := none) (ev_var rfl) ev_raw hk)) fun h => (nomatch h)) ⟨fun _ => ds_ret (Ev.dl ev_bl ?_), fun h => (nomatch h)⟩))
    show D.bl false = D.bl (accU (.tup (.str wd :: r)) p)
    cases r with
    | nil => rfl
    | cons t ps => rw [accU_word hw]

end K61

namespace K61
open PySem PySem.Spec PyProof.Rows L2 Dw
/-! claims by hand: what is accepted can be worked out -/
def spToldU : Spc where
  ty := D × D
  args := fun x => [x.1, x.2]
  ok := fun x => Pv x.1 ∧ shU x.1 = true ∧ Pv x.2
  rel := fun x d => d = .lst [.bl (accU x.1 x.2), .bl (accU x.1 x.2)]
def rkE : D → Nat → Bool | .tup ds, n => ds.all wholeB && (ds.map intOf).isPerm (rangeI n) | _, _ => false
theorem range_sorted (n : Nat) : (rangeI n).Pairwise (· ≤ ·) := by
  unfold rangeI
  rw [List.pairwise_map]
  exact List.pairwise_lt_range.imp fun h => by omega
theorem rk_E (d : D) (n : Nat) : rkB d n = rkE d n := by
  cases d <;> first | rfl | skip
  rename_i ds
  show (ds.all wholeB && decide ((ds.map intOf).mergeSort (fun a b => decide (a ≤ b)) = rangeI n)) = (ds.all wholeB && (ds.map intOf).isPerm (rangeI n))
  congr 1
  rw [Bool.eq_iff_iff, decide_eq_true_eq, List.isPerm_iff]
  constructor
  · intro h
    rw [← h]
    exact (List.mergeSort_perm _ _).symm
  · intro h
    exact (sort_u h.symm (range_sorted n)).symm
def fitE (d : D) (rs : List (List Nat)) (n : Nat) : Bool := rkE d n && rs.all fun r => holdsB r (ordOf d)
theorem fit_E (d : D) (rs : List (List Nat)) (n : Nat) : fitB d rs n = fitE d rs n := by unfold fitB fitE; rw [rk_E]
def soE (d : D) (rs : List (List Nat)) (r : List Nat) (n : Nat) : Bool := match d with
  | .tup [a, b] => fitE a rs n && fitE b rs n && (holdsB r (ordOf a) && !holdsB r (ordOf b))
  | _ => false
theorem so_E (d : D) (rs : List (List Nat)) (r : List Nat) (n : Nat) : soB d rs r n = soE d rs r n := by
  have key : ∀ ds : List D, soB (.tup ds) rs r n = soE (.tup ds) rs r n := fun ds => by
    match ds with
    | [] => rfl
    | [a] => rfl
    | [a, b] =>
      show (fitB a rs n && fitB b rs n && _) = (fitE a rs n && fitE b rs n && _)
      rw [fit_E, fit_E]
    | a :: b :: c :: ds => rfl
  cases d <;> first | rfl | exact key _
def accE (c : Cw) (rs : List (List Nat)) (n : Nat) (p : D) : Bool := match c with
  | .fits => fitE p rs n
  | .opn d => rowB d n && soE p rs (codesOf d) n
  | c => accB c rs n p
theorem acc_E (c : Cw) (rs : List (List Nat)) (n : Nat) (p : D) : accB c rs n p = accE c rs n p := by
  cases c <;> first | rfl | skip
  · exact fit_E p rs n
  · show (rowB _ n && soB p rs _ n) = _
    rw [so_E]; rfl
abbrev ItmT := D × D × Bool
def itemD (x : ItmT) : D := .tup [x.1, x.2.1, .bl x.2.2]
def GoodI (x : ItmT) : Prop := Pv x.1 ∧ shU x.1 = true ∧ Pv x.2.1 ∧ accU x.1 x.2.1 = x.2.2
/-! of books -/
abbrev BkI := Cw × List (List Nat) × D × Bool
def itemB (ls : List (List Nat)) (y : BkI) : ItmT := (.tup (.str y.1.word :: .str (tx (bookTx ls y.2.1)) :: y.1.parts), y.2.2.1, y.2.2.2)
def noAlk : Cw → Bool | .alike _ => false | _ => true
def partB (d : D) : Bool := plW 60 2 d && shT d
def rowsB (rs : List (List Nat)) (n : Nat) : Bool := decide (rs.length ≤ 20) && rs.all fun r => decide (r.length = n) && r.all fun c => decide (c = 43) || (decide (c = 45) || decide (c = 46))
def checkB (n : Nat) (y : BkI) : Bool := noAlk y.1 && y.1.parts.all partB && rowsB y.2.1 n && plW 60 3 y.2.2.1 && (accE y.1 y.2.1 n y.2.2.1 == y.2.2.2)
theorem rowsB_ok {rs : List (List Nat)} {n : Nat} (h : rowsB rs n = true) : rs.length ≤ 20 ∧ ∀ r ∈ rs, RowOk r n := by
  unfold rowsB at h
  rw [Bool.and_eq_true, decide_eq_true_eq, List.all_eq_true] at h
  refine ⟨h.1, fun r hr => ?_⟩
  have := h.2 r hr
  rw [Bool.and_eq_true, decide_eq_true_eq, List.all_eq_true] at this
  refine ⟨this.1, fun c hc => ?_⟩
  have := this.2 c hc
  rw [Bool.or_eq_true, Bool.or_eq_true, decide_eq_true_eq, decide_eq_true_eq, decide_eq_true_eq] at this
  exact this
theorem pv_claim {w : Str} {t : D} {ps : List D} (hw : Pv (.str w)) (ht : ∃ x, t = .str x ∧ Pv (.str x)) (hp : ∀ d ∈ ps, plW 60 2 d = true) (hl : ps.length ≤ 50) : Pv (.tup (.str w :: t :: ps)) := by
  obtain ⟨x, rfl, hx⟩ := ht
  have s1 : ∀ {x : Str}, Pv (.str x) → plW 60 2 (.str x) = true := fun h => h
  refine plW_mono (Nat.le_refl _) 3 12 _ (by decide) (plW_tup (by simp; omega) fun d hd => ?_)
  rcases List.mem_cons.mp hd with rfl | hd
  · exact s1 hw
  rcases List.mem_cons.mp hd with rfl | hd
  · exact s1 hx
  · exact hp d hd
theorem pv_word (c : Cw) : Pv (.str c.word) := by
  cases c
  · exact (by decide +kernel : plB 12 (.str (Str.ofString "fits")) = true)
  · exact (by decide +kernel : plB 12 (.str (Str.ofString "quarrels")) = true)
  · exact (by decide +kernel : plB 12 (.str (Str.ofString "follows")) = true)
  · exact (by decide +kernel : plB 12 (.str (Str.ofString "open")) = true)
  · exact (by decide +kernel : plB 12 (.str (Str.ofString "above")) = true)
  · exact (by decide +kernel : plB 12 (.str (Str.ofString "count")) = true)
  · exact (by decide +kernel : plB 12 (.str (Str.ofString "alike")) = true)
theorem pv_wdB (b : Bool) : Pv (.str (wdB b)) := by
  cases b
  · exact (by decide +kernel : plB 12 (.str (Str.ofString "loses")) = true)
  · exact (by decide +kernel : plB 12 (.str (Str.ofString "wins")) = true)
theorem sh_word (c : Cw) : shT (.str c.word) = true := by
  cases c
  · exact (by decide +kernel : shT (.str (Str.ofString "fits")) = true)
  · exact (by decide +kernel : shT (.str (Str.ofString "quarrels")) = true)
  · exact (by decide +kernel : shT (.str (Str.ofString "follows")) = true)
  · exact (by decide +kernel : shT (.str (Str.ofString "open")) = true)
  · exact (by decide +kernel : shT (.str (Str.ofString "above")) = true)
  · exact (by decide +kernel : shT (.str (Str.ofString "count")) = true)
  · exact (by decide +kernel : shT (.str (Str.ofString "alike")) = true)
theorem sh_wdB (b : Bool) : shT (.str (wdB b)) = true := by
  cases b
  · exact (by decide +kernel : shT (.str (Str.ofString "loses")) = true)
  · exact (by decide +kernel : shT (.str (Str.ofString "wins")) = true)
theorem shU_of {w : Str} {t : D} {ps : List D} (h0 : shT (.str w) = true) (h1 : shT t = true) (h2 : ∀ d ∈ ps, shT d = true) : shU (.tup (.str w :: t :: ps)) = true := by
  show ((.str w :: t :: ps : List D).all shT) = true
  rw [List.all_eq_true]
  intro d hd
  rcases List.mem_cons.mp hd with rfl | hd
  · exact h0
  rcases List.mem_cons.mp hd with rfl | hd
  · exact h1
  · exact h2 d hd
theorem good_book {ls : List (List Nat)} {y : BkI} (hn : NamesOk ls) (h : checkB ls.length y = true) : GoodI (itemB ls y) := by
  unfold checkB at h
  rw [Bool.and_eq_true, Bool.and_eq_true, Bool.and_eq_true, Bool.and_eq_true, List.all_eq_true, beq_iff_eq] at h
  obtain ⟨⟨⟨⟨ha, hps⟩, hrs⟩, hp⟩, he⟩ := h
  obtain ⟨h20, hr⟩ := rowsB_ok hrs
  have hb : BookOk ls y.2.1 := ⟨hn, h20, hr⟩
  have hps : ∀ d ∈ y.1.parts, plW 60 2 d = true ∧ shT d = true := fun d hd => by
    have := hps d hd
    unfold partB at this
    rw [Bool.and_eq_true] at this
    exact this
  have few : y.1.parts.length ≤ 2 := cw_few y.1
  refine ⟨pv_claim (pv_word _) ⟨_, rfl, pv_book hb⟩ (fun d hd => (hps d hd).1) (by omega), shU_of (sh_word _) (sh_book hb) fun d hd => (hps d hd).2, plW_mono (Nat.le_refl _) 3 12 _ (by decide) hp, ?_⟩
  show accU (.tup (.str y.1.word :: .str (tx (bookTx ls y.2.1)) :: y.1.parts)) y.2.2.1 = y.2.2.2
  rw [accU_cw, accG_bk hb, ← he, ← acc_E]
  obtain ⟨c, rs, p, b⟩ := y
  cases c <;> first | rfl | exact absurd ha Bool.false_ne_true
/-! alike -/
abbrev AlI := List (List Nat) × List (List Nat) × D × Bool
def itemA (ls : List (List Nat)) (y : AlI) : ItmT := (.tup [.str "alike", .str (tx (bookTx ls y.1)), .str (tx (bookTx ls y.2.1))], y.2.2.1, y.2.2.2)
def checkA (n : Nat) (y : AlI) : Bool := rowsB y.1 n && rowsB y.2.1 n && plW 60 3 y.2.2.1 && ((isNonB y.2.2.1 && decide (fittersM y.1 n = fittersM y.2.1 n)) == y.2.2.2)
theorem good_alike {ls : List (List Nat)} {y : AlI} (hn : NamesOk ls) (h : checkA ls.length y = true) : GoodI (itemA ls y) := by
  unfold checkA at h
  rw [Bool.and_eq_true, Bool.and_eq_true, Bool.and_eq_true, beq_iff_eq] at h
  obtain ⟨⟨⟨h1, h2⟩, hp⟩, he⟩ := h
  obtain ⟨l1, r1⟩ := rowsB_ok h1
  obtain ⟨l2, r2⟩ := rowsB_ok h2
  have b1 : BookOk ls y.1 := ⟨hn, l1, r1⟩
  have b2 : BookOk ls y.2.1 := ⟨hn, l2, r2⟩
  have e1 : ∀ d ∈ (Cw.alike (.str (tx (bookTx ls y.2.1)))).parts, plW 60 2 d = true ∧ shT d = true := fun d hd => by
    obtain rfl := List.mem_singleton.mp hd
    exact ⟨pv_book b2, sh_book b2⟩
  refine ⟨pv_claim (pv_word (.alike .non)) ⟨_, rfl, pv_book b1⟩ (fun d hd => (e1 d hd).1) (show 1 ≤ 50 by decide), shU_of (sh_word (.alike .non)) (sh_book b1) fun d hd => (e1 d hd).2, plW_mono (Nat.le_refl _) 3 12 _ (by decide) hp, ?_⟩
  refine (accU_cw (.alike (.str (tx (bookTx ls y.2.1)))) _ _).trans ?_
  rw [accG_bk b1, show (itemA ls y).2.2 = y.2.2.2 from rfl, ← he]
  show (isNonB y.2.2.1 && alkP ls y.1 (bookOf (.str (tx (bookTx ls y.2.1))))) = _
  rw [bookOf_tx b2]
  show (_ && (decide (ls = ls) && _)) = _
  rw [decide_eq_true rfl, Bool.true_and]
/-! of cases -/
abbrev CsI := Bool × Nat × List Nat × Bool
def itemC (ls ms : List (List Nat)) (y : CsI) : ItmT := (.tup [.str (wdB y.1), .str (tx (caseTx ls ms)), .str (tx (rowAt ls y.2.1))], .tup (if y.1 = true then ordD y.2.2.1 else nameD (y.2.2.1.map (rowAt ls))), y.2.2.2)
def incN (js : List Nat) : Bool := decide (js.Pairwise (· < ·))
def losE (ms : List (List Nat)) (i n : Nat) (js : List Nat) : Bool := incN js && ((js.all fun j => !decide (j = i)) && quB (js.map fun j => agR (rowAt ms i) (rowAt ms j)) n)
def checkC (ms : List (List Nat)) (n : Nat) (y : CsI) : Bool := decide (y.2.1 < ms.length) && decide (y.2.2.1.length ≤ 8) && (y.1 || y.2.2.1.all fun j => decide (j < ms.length)) && ((if y.1 = true then fitE (.tup (ordD y.2.2.1)) (rwM ms y.2.1) n else losE ms y.2.1 n y.2.2.1) == y.2.2.2)
theorem names_js {ls : List (List Nat)} (hn : NamesOk ls) {js : List Nat} (hj : ∀ j ∈ js, j < ls.length) : namesB (nameD (js.map (rowAt ls))) = incN js := by
  unfold incN
  rw [Bool.eq_iff_iff, decide_eq_true_eq]
  have pw := hn.pw
  constructor
  · intro h
    obtain ⟨cs, e, _, inc⟩ := namesB_iff.mp h
    have e : js.map (rowAt ls) = cs := by
      have := congrArg (fun ds => ds.map codesOf) e
      rw [codes_name, codes_name] at this
      exact this
    subst e
    have hp := inc_pair inc
    rw [List.pairwise_map] at hp
    refine hp.imp_of_mem fun {a b} ha hb hab => ?_
    rcases Nat.lt_trichotomy a b with h | h | h
    · exact h
    · rw [h] at hab; exact absurd hab (List.lt_irrefl _)
    · exact absurd (List.lt_trans hab (rowAt_lt pw (hj a ha) h)) (List.lt_irrefl _)
  · intro h
    refine namesB_iff.mpr ⟨_, rfl, fun l hl => ?_, pair_inc ?_⟩
    · obtain ⟨j, hjm, rfl⟩ := List.mem_map.mp hl
      exact hn.all _ (rowAt_mem (hj j hjm))
    · rw [List.pairwise_map]
      exact h.imp_of_mem fun {a b} ha hb hab => rowAt_lt pw (hj b hb) hab
theorem osM_at {ls : List (List Nat)} (pw : ls.Pairwise (· < ·)) {i j : Nat} (hj : j < ls.length) : rowAt ls j ∈ osM ls i ↔ j ≠ i := by
  unfold osM
  rw [List.mem_map]
  constructor
  · rintro ⟨k, hk, e⟩
    obtain ⟨h1, h2⟩ := idxM_lt hk
    rw [← rowAt_inj pw h1 hj e]; exact h2
  · intro h
    refine ⟨j, ?_, rfl⟩
    unfold idxM
    rw [List.mem_filter]
    exact ⟨List.mem_range.mpr hj, by rw [decide_eq_false h]; rfl⟩
theorem rwM_at {ls ms : List (List Nat)} (pw : ls.Pairwise (· < ·)) (hs : ms.length = ls.length) {i j : Nat} (hj : j < ls.length) (hne : j ≠ i) : rowAt (rwM ms i) ((osM ls i).idxOf (rowAt ls j)) = agR (rowAt ms i) (rowAt ms j) := by
  have hm := (osM_at pw hj).mpr hne
  have hl := List.idxOf_lt_length_iff.mpr hm
  have hg := idx_atB hm
  generalize (osM ls i).idxOf (rowAt ls j) = k at hl hg
  have lo : (osM ls i).length = (idxM ls.length i).length := List.length_map ..
  have hk : k < (idxM ls.length i).length := by omega
  have hg : ((idxM ls.length i).map (rowAt ls))[k]? = some (rowAt ls j) := hg
  rw [List.getElem?_map, List.getElem?_eq_getElem hk] at hg
  have h3 := rowAt_inj pw (idxM_lt (List.getElem_mem hk)).1 hj (Option.some.inj hg)
  have hr : (rwM ms i)[k]? = some (agR (rowAt ms i) (rowAt ms j)) := by
    show ((idxM ms.length i).map fun k => agR (rowAt ms i) (rowAt ms k))[k]? = _
    rw [hs, List.getElem?_map, List.getElem?_eq_getElem hk]
    show some (agR (rowAt ms i) (rowAt ms (idxM ls.length i)[k])) = _
    rw [h3]
  unfold rowAt
  rw [List.getD_eq_getElem?_getD, show (rwM ms i)[k]? = _ from hr]; rfl
theorem los_js {ls ms : List (List Nat)} {n i : Nat} {js : List Nat} (hc : CaseOk ls ms n) (hj : ∀ j ∈ js, j < ls.length) : losB (osM ls i) (rwM ms i) n (.tup (nameD (js.map (rowAt ls)))) = losE ms i n js := by
  have pw := hc.names.pw
  have en := names_js hc.names hj
  unfold losE
  cases h : incN js with
  | false =>
    rw [h] at en
    rw [losB_nn en]; rfl
  | true =>
    rw [h] at en
    rw [losB_cs en, Bool.true_and]
    have e1 : ((js.map (rowAt ls)).all fun c => decide (c ∈ osM ls i)) = js.all fun j => !decide (j = i) := by
      rw [List.all_map, Bool.eq_iff_iff, List.all_eq_true, List.all_eq_true]
      refine ⟨fun h j hjm => ?_, fun h j hjm => ?_⟩
      · have := (osM_at pw (hj j hjm)).mp (of_decide_eq_true (h j hjm))
        rw [decide_eq_false this]; rfl
      · have : j ≠ i := by simpa using h j hjm
        exact decide_eq_true ((osM_at pw (hj j hjm)).mpr this)
    rw [e1]
    cases h2 : js.all fun j => !decide (j = i) with
    | false => rfl
    | true =>
      rw [Bool.true_and, Bool.true_and]
      congr 1
      unfold pick
      rw [List.map_map, List.map_map]
      refine List.map_congr_left fun j hjm => ?_
      have : j ≠ i := by simpa using List.all_eq_true.mp h2 j hjm
      exact rwM_at pw hc.same (hj j hjm) this
theorem case_codes {ls ms : List (List Nat)} {n : Nat} (hc : CaseOk ls ms n) : ∀ c ∈ caseTx ls ms, c < 1114112 := fun c hm => by
  have sub : ∀ (sep : List Nat) (ps : List (List Nat)) (c : Nat), c ∈ TL.joinL sep ps → c ∈ sep ∨ ∃ p ∈ ps, c ∈ p := by
    intro sep ps
    induction ps with
    | nil => intro c h; exact absurd h (by simp [TL.joinL])
    | cons p r ih =>
      intro c h
      cases r with
      | nil => exact .inr ⟨p, List.mem_cons_self, h⟩
      | cons q r =>
        have h : c ∈ p ++ (sep ++ TL.joinL sep (q :: r)) := h
        rw [List.mem_append, List.mem_append] at h
        rcases h with h | h | h
        · exact .inr ⟨p, List.mem_cons_self, h⟩
        · exact .inl h
        · rcases ih c h with h | ⟨p', h1, h2⟩
          · exact .inl h
          · exact .inr ⟨p', List.mem_cons_of_mem _ h1, h2⟩
  rcases sub _ _ _ hm with h | ⟨q, hq, h⟩
  · simp at h; omega
  · obtain ⟨p, hp, rfl⟩ := List.mem_map.mp hq
    have hz := hc.zip hp
    rcases sub _ _ _ h with h | ⟨w, hw, h⟩
    · simp at h; omega
    · unfold wordsL at hw
      rcases List.mem_cons.mp hw with rfl | hw
      · have := (hz.1.all c h).2; omega
      · obtain ⟨k, hk, rfl⟩ := List.mem_map.mp hw
        have := ((num_ok (hz.2.2 k hk)).dig c h).2; omega
theorem pv_case {ls ms : List (List Nat)} {n : Nat} (hc : CaseOk ls ms n) : Pv (.str (tx (caseTx ls ms))) := pv_strs (case_codes hc) (Nat.le_trans hc.len (by decide))
theorem sh_case {ls ms : List (List Nat)} {n : Nat} (hc : CaseOk ls ms n) : shT (.str (tx (caseTx ls ms))) = true := decide_eq_true (by rw [tx_len]; exact Nat.le_trans hc.len (by decide))
theorem pv_name {l : List Nat} (h : NameOk l) : Pv (.str (tx l)) ∧ shT (.str (tx l)) = true := by
  have := h.hi
  exact ⟨pv_strs (fun c hc => by have := h.all c hc; omega) (by omega), decide_eq_true (by rw [tx_len]; omega)⟩
theorem good_case {ls ms : List (List Nat)} {n : Nat} {y : CsI} (hc : CaseOk ls ms n) (h : checkC ms n y = true) : GoodI (itemC ls ms y) := by
  unfold checkC at h
  rw [Bool.and_eq_true, Bool.and_eq_true, Bool.and_eq_true, decide_eq_true_eq, decide_eq_true_eq, beq_iff_eq] at h
  obtain ⟨⟨⟨hi, hl⟩, hj⟩, he⟩ := h
  have hi : y.2.1 < ls.length := by rw [← hc.same]; exact hi
  obtain ⟨p1, p2⟩ := pv_name (hc.names.all _ (rowAt_mem hi))
  have e1 : ∀ d ∈ [D.str (tx (rowAt ls y.2.1))], plW 60 2 d = true ∧ shT d = true := fun d hd => by
    obtain rfl := List.mem_singleton.mp hd
    exact ⟨p1, p2⟩
  obtain ⟨b, i, o, r⟩ := y
  have hl : o.length ≤ 8 := hl
  have ea : accU (itemC ls ms (b, i, o, r)).1 (itemC ls ms (b, i, o, r)).2.1 = accX b (osM ls i) (rwM ms i) n (.tup (if b = true then ordD o else nameD (o.map (rowAt ls)))) := by
    refine (accU_wd b _ _ _).trans ?_
    unfold accK
    rw [caseOf_tx hc]
    exact accN_at hc.names.pw hi
  refine ⟨pv_claim (pv_wdB b) ⟨_, rfl, pv_case hc⟩ (fun d hd => (e1 d hd).1) (show 1 ≤ 50 by decide), shU_of (sh_wdB b) (sh_case hc) fun d hd => (e1 d hd).2, ?_, ?_⟩
  · cases b with
    | true => exact plW_mono (by decide) 1 12 _ (by decide) (plW_ord (o := o) (z := 60) (by omega))
    | false =>
      have hj : (o.all fun j => decide (j < ms.length)) = true := hj
      show Pv (.tup (nameD (o.map (rowAt ls))))
      refine plW_mono (Nat.le_refl _) 1 12 _ (by decide) (plW_tup (by rw [nameD_len, List.length_map]; omega) fun d hd => ?_)
      obtain ⟨l, hlm, rfl⟩ := List.mem_map.mp hd
      obtain ⟨j, hjm, rfl⟩ := List.mem_map.mp hlm
      have := of_decide_eq_true (List.all_eq_true.mp hj j hjm)
      exact (pv_name (hc.names.all _ (rowAt_mem (by rw [← hc.same]; exact this)))).1
  · refine ea.trans ?_
    rw [show (itemC ls ms (b, i, o, r)).2.2 = r from rfl, ← show _ = r from he]
    cases b with
    | true => exact fit_E (.tup (ordD o)) (rwM ms i) n
    | false =>
      have hj : (o.all fun j => decide (j < ms.length)) = true := hj
      exact los_js hc fun j hjm => by
        have := of_decide_eq_true (List.all_eq_true.mp hj j hjm)
        rw [← hc.same]; exact this
theorem nameD_ix {ls : List (List Nat)} {k : Nat} (h : k < ls.length) : (nameD ls)[k]? = some (.str (tx (rowAt ls k))) := by
  unfold nameD
  rw [List.getElem?_map, List.getElem?_eq_getElem h, rowAt_get h]; rfl
theorem two_ok (a b : Bool) : dOk 1 (.lst [.bl a, .bl b]) = true := rfl
theorem two_sh (a b : Bool) : shOk (.lst [.bl a, .bl b]) = true := rfl
theorem two_len (a b : Bool) : (PyData.shown (py (.lst [.bl a, .bl b]))).length ≤ sizeLine := by
  have : (PyData.shown (py (.lst [.bl a, .bl b]))).length ≤ 100 := by cases a <;> cases b <;> decide +kernel
  exact Nat.le_trans this (by decide)
theorem npP {d : D} {r : List D} (h : Pv d) (h2 : noPs r = true) : noPs (d :: r) = true := np1 h h2
end K61

namespace K61
open PySem PySem.Spec PyProof.Rows L2 Dw
theorem d__law_told {P : Program} {w : World} {K : PySem.W.Frag} {mg : Str → Option Value} {base : Heap} (T : Txt K w mg) : FnOk P w K mg base CX0 9 T.f__law_told T.e__law_told ["_law_claim_here", "_law_paper"] (toSp (spToldU)) := by
  refine fn_ok T.F__law_told sc__law_told (fun _ => rfl) fun cdv A outer s' H E hr => ?_
  refine ⟨_, (pss_one (ps_ret (pe_lst (pa_cons (pe_call (d_accepts T) (hr.mono (by decide)) (by rfl) T.m_accepts T.F_accepts.kp T.b_accepts .nil pass0 (pa_cons (pv 0) (pa_cons (pv 1) pa_nil))) (pa_cons (pe_callK0 (d_accepts T) (hr.mono (by decide)) (by rfl) T.m_accepts T.F_accepts.kp T.k_accepts_certificate_claim pass0 (pk_cons (pv 1) (pk_cons (pv 0) pk_nil))) pa_nil))))), fun x hx => ?_⟩
  obtain ⟨cl, p⟩ := x
  obtain ⟨h1, h2, h3⟩ := hx
  have h1 : Pv cl := h1
  have h3 : Pv p := h3
  have np : noPs (spAccU.args (cl, p)) = true := np1 h1 (np1 (r := []) h3 rfl)
  refine ds_ret (Ev.dl (EvN.ev (evn_lst (eva_cons (ev_call (s := spAccU) (x := (cl, p)) (eva_cons (ev_var rfl) (eva_cons (ev_var rfl) eva_nil)) np ⟨h1, h2, h3⟩ fun d h => h) (eva_cons (ev_callK (s := spAccU) (x := (cl, p)) eva_nil (eva_cons (ev_var rfl) (eva_cons (ev_var rfl) eva_nil)) (fun W vs zs h1 h2 => ?_) np ⟨h1, h2, h3⟩ fun d h => h) eva_nil)) (small (show 2 ≤ 100000 by decide)))) rfl)
  obtain rfl : vs = [] := h1
  obtain ⟨v, _, rfl, r1, v2, _, rfl, r2, rfl⟩ := h2
  exact ⟨v2, [v], rfl, r2, v, [], rfl, r1, rfl⟩

end K61

namespace K61
open PySem PySem.Spec PyProof.Rows L2 Dw
theorem d__law_begun {P : Program} {w : World} {K : PySem.W.Frag} {mg : Str → Option Value} {base : Heap} (T : Txt K w mg) : FnOk P w K mg base CX0 1 T.f__law_begun T.e__law_begun ["_law_script", "_law_turn"] (toPurse K) := by
  refine T.F__law_begun.ok sc__law_begun (fun vs H Q E ⟨F, W, ns, spot, _, _, r, _⟩ => by rw [← r.length]; rfl) fun cdv A outer s' H vs Q E hr h => ?_
  refine ⟨_, (pss_cons (ps_set (i := 2) sc__law_begun.nd rfl (Or.inl rfl) (pe_ifExp (pt_cmpR opLt (pv 1) (pe_callB (lenA K) (by rfl) T.n_len (by decide +kernel) (pa_cons (pv 0) pa_nil)) (nomark _)) (pe_ix (ixA K) (pv 0) (pv 1) (fun _ _ => rfl)) pe_int)) (pss_cons (ps_set (i := 3) sc__law_begun.nd rfl (Or.inl rfl) (pe_op (plusE K) pe_int (pe_op opTimes pe_int (pv 1)))) (pss_cons (ps_for PassesOwn.never rfl (piR K (pe_slice (slXA K) (pv 0) po_none (po_some pe_int))) (pg_name (i := 4) sc__law_begun.nd rfl (Or.inl rfl)) (pss_one (ps_set (i := 3) sc__law_begun.nd rfl (Or.inl rfl) (pe_op op_mod (pe_callTy call_int1 (by rfl) T.n_int (by decide +kernel) (pa_cons (pe_op (plusE K) (pe_op (plusE K) (pe_op opTimes (pv 3) pe_int) (pe_op opTimes (pv 4) pe_int)) pe_int) pa_nil)) pe_int)))) (pss_one (ps_ret (pe_lst (pa_cons (pe_ifExp (PW.pt (pw_or (pt_cmpR opLt (pv 2) pe_int (nomark _)) (pw_or1 (pt_cmpR opGe (pv 2) (pe_op op_pow pe_int pe_int) (nomark _))))) (pe_callB call_abs (by rfl) T.n_abs (by decide +kernel) (pa_cons (pv 2) pa_nil)) pe_int) (pa_cons (pe_op op_mod (pe_callTy call_int1 (by rfl) T.n_int (by decide +kernel) (pa_cons (pe_op (plusE K) (pe_op (plusE K) (pe_op opTimes (pv 3) pe_int) (pe_op op_mulX (pv 2) (pv 2))) (pe_op opTimes pe_int (pv 1))) pa_nil)) pe_int) (pa_cons pe_int pa_nil))))))))), ?_⟩
  obtain ⟨F, W, ns, spot, rfl, ok, r, hz, hs, hbit, k⟩ := h
  have g0 : SR F (Gz0 5 [.scr K (ns.map V.int), .int spot]) (L2.start N__law_begun vs) W := sr_start (N := N__law_begun) ok r
  have l0 : (ns.map V.int).length = ns.length := List.length_map ..
  refine ds_runS (Γ' := fun Γ => ∃ cell : Int, Γ = [.val (.scr K (ns.map V.int)), .val (.int spot), .val (.int cell), .unset, .unset] ∧ Builtin.Int.intBits cell ≤ 1048576) (ds_asg (Ev.dl (ev_if (a := decide ((spot : Int) < ((ns.map V.int).length : Int))) (evt_test (ev_op (ev_var rfl) (ev_lenX (ev_var rfl)) lt_int')) (fun h => ev_ixX (z := ns.getD spot 0) (ev_var rfl) (ev_var rfl) (scr_at ?_)) fun h => ev_int) ?_)) g0 fun σ1 W1 Γ1 st1 g1 ⟨cell, e1, hc⟩ => ?_
  · have := of_decide_eq_true h
    rw [l0] at this; omega
  · by_cases h : (spot : Int) < ((ns.map V.int).length : Int)
    · rw [if_pos (decide_eq_true h)]
      refine ⟨_, rfl, ?_⟩
      rw [l0] at h
      have h : spot < ns.length := by omega
      rw [List.getD_eq_getElem?_getD, List.getElem?_eq_getElem h]
      exact hbit _ (List.getElem_mem h)
    · rw [if_neg (fun z => h (of_decide_eq_true z))]; exact ⟨0, rfl, by decide⟩
  subst e1
  refine ds_runS (Γ' := fun Γ => ∃ seed : Int, Γ = [.val (.scr K (ns.map V.int)), .val (.int spot), .val (.int cell), .val (.int seed), .unset]) (ds_asg (Ev.dl (ev_op ev_int (ev_op ev_int (ev_var rfl) (times_int (.inl ⟨by decide, by decide⟩))) pl_int) ⟨_, rfl⟩)) g1 fun σ2 W2 Γ2 st2 g2 ⟨seed, e2⟩ => ?_
  subst e2
  refine ds_runS (Γ' := fun Γ => ∃ (seed : Int) (s4 : Sl), Γ = [.val (.scr K (ns.map V.int)), .val (.int spot), .val (.int cell), .val (.int seed), s4])
    (ds_for (fun xs i Γ' => (∀ x ∈ xs, ∃ z : Int, x = .int z) ∧ ∃ (seed : Int) (s4 : Sl), Γ' = [.val (.scr K (ns.map V.int)), .val (.int spot), .val (.int cell), .val (.int seed), s4])
      (dj_list (Ev.dl (EvN.ev (evn_sliceXY (hi := some 6) (ev_var rfl) eo_none (eo_some ev_int))) ⟨_, rfl, ⟨fun x hx => ?_, seed, _, rfl⟩, fun i x Γ' hx' ⟨hx0, seed', s4, e⟩ => ?_, fun Γ' ⟨hx0, seed', s4, e⟩ => ⟨seed', s4, e⟩⟩))) g2 fun σ3 W3 Γ3 st3 g3 ⟨seed', s4, e3⟩ => ?_
  · obtain ⟨z, _, rfl⟩ := List.mem_map.mp hx
    exact ⟨z, rfl⟩
  · subst e
    obtain ⟨z, rfl⟩ := hx0 x (List.mem_of_getElem? hx')
    refine ⟨[4], _, dg_name, ds_asg (Ev.dl (ev_op (ev_int1 (ev_op (ev_op (ev_op (ev_var rfl) ev_int (times_int (.inr ⟨by decide, by decide⟩))) (ev_op (ev_var rfl) ev_int (times_int (.inr ⟨by decide, by decide⟩))) pl_int) ev_int pl_int)) ev_int (dr2_mod (by decide))) ⟨hx0, _, _, rfl⟩)⟩
  subst e3
  have st := st1.trans (st2.trans st3)
  have ep : (10 : Int) ^ (18 : Int).toNat = 1000000000000000000 := by decide +kernel
  have cm : CMulX cell cell := by
    unfold CMulX
    omega
  refine evn_lst (ds := [.int (if (decide (cell < 0) || decide ((10 : Int) ^ (18 : Int).toNat ≤ cell)) = true then (if cell < 0 then -cell else cell) else 0), .int ((seed' * 53 + cell * cell + 17 * (spot : Int)) % 2147483629), .int 0]) (eva_cons (ev_cast ?_ (ev_if (a := (decide (cell < 0) || decide ((10 : Int) ^ (18 : Int).toNat ≤ cell))) (evt_or (evt_test (ev_op (ev_var rfl) ev_int lt_int')) fun _ => evt_test (ev_op (ev_var rfl) (ev_op ev_int ev_int (dr2_pow ?_)) dr2_ge)) (fun _ => ev_abs (ev_var rfl)) fun _ => ev_int)) (eva_cons (ev_op (ev_int1 (ev_op (ev_op (ev_op (ev_var rfl) ev_int (times_int (.inr ⟨by decide, by decide⟩))) (ev_op (ev_var rfl) (ev_var rfl) (dr2_mulX cm)) pl_int) (ev_op ev_int (ev_var rfl) (times_int (.inl ⟨by decide, by decide⟩))) pl_int)) ev_int (dr2_mod (by decide))) (eva_cons ev_int eva_nil))) (small (show 3 ≤ 100000 by decide)) F σ3 W3 _ g3 fun a vs H' sm hn ha rl => ?_
  · cases (decide (cell < 0) || decide ((10 : Int) ^ (18 : Int).toNat ≤ cell)) <;> rfl
  · exact ⟨by decide, by decide, by decide⟩
  · have ev := RepL.ints (ns := [_, _, _]) |>.mp rl
    rw [ev] at ha
    refine k a _ _ _ W3 H' st g3.ok sm hn ha ?_ (Int.emod_nonneg _ (by decide)) (Int.lt_trans (Int.emod_lt_of_pos _ (by decide)) (by decide))
    by_cases hq : (decide (cell < 0) || decide ((10 : Int) ^ (18 : Int).toNat ≤ cell)) = true
    · rw [if_pos hq]
      by_cases h : cell < 0 <;> simp [h] <;> omega
    · rw [if_neg hq]; exact Int.le_refl _

end K61

namespace K61
open PySem PySem.Spec PyProof.Rows L2 Dw
theorem d__law_cast {P : Program} {w : World} {K : PySem.W.Frag} {mg : Str → Option Value} {base : Heap} (T : Txt K w mg) : FnOk P w K mg base CX0 1 T.f__law_cast T.e__law_cast ["_law_pail", "_law_many"] (toSp (spDraw)) := by
  refine fn_ok T.F__law_cast sc__law_cast (fun _ => rfl) fun cdv A outer s' H E hr => ?_
  refine ⟨_, (pss_cons (ps_if (pt_cmpR opGt (pe_ix (ixA K) (pv 0) pe_int (fun _ _ => rfl)) pe_int (nomark _)) (pss_cons (ps_asg (pe_callB call_divmod (by rfl) T.n_divmod (by decide +kernel) (pa_cons (pe_ix (ixA K) (pv 0) pe_int (fun _ _ => rfl)) (pa_cons (pv 1) pa_nil))) (tupA K 2 rfl (pgs_cons (pg_sub (pv 0) pe_int set_list) (pgs_cons (pg_name (i := 2) sc__law_cast.nd rfl (Or.inl rfl)) pgs_nil)))) (pss_one (ps_ret (pv 2)))) pss_nil) (pss_cons (ps_asg (pe_op (plusE K) (pe_ix (ixA K) (pv 0) pe_int (fun _ _ => rfl)) pe_int) (pg_sub (pv 0) pe_int set_list)) (pss_cons (ps_set (i := 3) sc__law_cast.nd rfl (Or.inl rfl) (pe_op op_mod (pe_callTy call_int1 (by rfl) T.n_int (by decide +kernel) (pa_cons (pe_op (plusE K) (pe_op (plusE K) (pe_op opTimes (pe_ix (ixA K) (pv 0) pe_int (fun _ _ => rfl)) (pe_op (plusE K) pe_int (pe_op opTimes pe_int (pe_ix (ixA K) (pv 0) pe_int (fun _ _ => rfl))))) (pe_op opTimes pe_int (pe_ix (ixA K) (pv 0) pe_int (fun _ _ => rfl)))) pe_int) pa_nil)) pe_int)) (pss_cons (ps_asg (pe_op op_mod (pe_callTy call_int1 (by rfl) T.n_int (by decide +kernel) (pa_cons (pe_op (plusE K) (pe_op (plusE K) (pe_op opTimes (pv 3) pe_int) (pe_op opTimes pe_int (pe_ix (ixA K) (pv 0) pe_int (fun _ _ => rfl)))) pe_int) pa_nil)) pe_int) (pg_sub (pv 0) pe_int set_list)) (pss_one (ps_ret (pe_op op_mod (pe_callTy call_int1 (by rfl) T.n_int (by decide +kernel) (pa_cons (pe_op op_fdiv (pe_ix (ixA K) (pv 0) pe_int (fun _ _ => rfl)) pe_int) pa_nil)) (pv 1)))))))), fun x hx => ?_⟩
  obtain ⟨x, rfl⟩ : ∃ n : Nat, n = x := ⟨x, rfl⟩
  obtain ⟨hn0, hn1⟩ := hx
  have hn0 : 0 < x := hn0
  have hn1 : x < 100000 := hn1
  refine fun F σ W Dr g l => ?_
  obtain ⟨v0, e0, a, ev, hp⟩ := g.val 0 .purse rfl
  obtain ⟨v1, e1, r1⟩ := g.val 1 (.int x) rfl
  subst ev
  rw [show v1 = V.int x from r1] at e1
  have l2 : 2 < σ.length := by rw [← g.len]; exact (show 2 < 4 by decide)
  have l3 : 3 < σ.length := by rw [← g.len]; exact (show 3 < 4 by decide)
  obtain ⟨u, f, ⟨p, c⟩, q, hp0, hq0, hq1, hH⟩ := g.ok.pu a hp
  have hp0 : 0 ≤ p := hp0
  have hH : W.H a = some (.lst [.int p, .int q, .int c]) := hH
  have i0 : atI [V.int p, V.int q, V.int c] 0 = some (V.int p) := atI_nat (j := 0) rfl
  have i1 : ∀ c : Int, atI [V.int p, V.int q, V.int c] 1 = some (V.int q) := fun c => atI_nat (j := 1) rfl
  have i2 : ∀ q c : Int, atI [V.int p, V.int q, V.int c] 2 = some (V.int c) := fun q c => atI_nat (j := 2) rfl
  have md : ∀ z : Int, (x : Int) ≠ 0 → ∃ r : Nat, r < x ∧ V.int (z % (x : Int)) = V.int r := fun z hz => ⟨(z % (x : Int)).toNat, by
    have h1 := Int.emod_nonneg z hz
    have h2 := Int.emod_lt_of_pos z (show (0 : Int) < x by omega)
    omega, by
    have h1 := Int.emod_nonneg z hz
    rw [Int.toNat_of_nonneg h1]⟩
  refine ⟨.ref a, e0, .inl ⟨a, _, 0, .int p, rfl, rfl, .of hH, i0, p, 0, rfl, rfl, _, rfl, ite2 (fun hpos => ?_) (fun _ => ?_)⟩⟩
  · refine ⟨.ref a, e0, .inl ⟨a, _, 0, .int p, rfl, rfl, .of hH, i0, .int x, e1, p, x, rfl, ⟨by omega, by omega⟩, fun t ht => ?_⟩⟩
    have na : a ≠ t := ne_of_none hH ht
    have s1 : Same W.H (upd W.H t (.tup [.int (p / x), .int (p % x)])) := same_upd ht
    obtain ⟨st, ok'⟩ := purse_step (x := p / x) (c := c) (g.ok.same s1) hp (Int.ediv_nonneg hp0 (by omega)) hq0 hq1
    obtain ⟨r, hr1, hr2⟩ := md p (by omega)
    refine ⟨t, _, rfl, .of upd_same, rfl, .int (p / x), [.int (p % x)], rfl, .ref a, e0, ⟨a, _, 0, 0, rfl, rfl, (upd_ne na).trans hH, rfl, .int (p % x), [], rfl, rfl, ?_⟩⟩
    refine ⟨.int (p % x), List.getElem?_set_self l2, ?_⟩
    exact l.rt _ (Wd.at _ _) (.int r) ((Stp.of_same g.ok s1).trans st) ok' hr2 ⟨r, hr1, rfl⟩
  · refine ⟨.ref a, e0, .inl ⟨a, _, 2, .int c, rfl, rfl, .of hH, i2 q c, .inl (.inl ⟨c, 1, rfl, rfl, ?_⟩)⟩⟩
    obtain ⟨st1, ok1⟩ := purse_step (x := p) (y := q) (c := c + 1) g.ok hp hp0 hq0 hq1
    refine ⟨.ref a, e0, a, _, 2, 2, rfl, rfl, hH, rfl, ?_⟩
    refine ⟨.ref a, e0, .inl ⟨a, [.int p, .int q, .int (c + 1)], 1, .int q, rfl, rfl, .of upd_same, i1 _, ?_⟩⟩
    refine ⟨.ref a, e0, .inl ⟨a, [.int p, .int q, .int (c + 1)], 2, .int (c + 1), rfl, rfl, .of upd_same, i2 _ _, .inl ⟨2, c + 1, rfl, rfl, .inl ⟨by decide, by decide⟩, ?_⟩⟩⟩
    refine .inl (.inl ⟨36809, 2 * (c + 1), rfl, rfl, .inl ⟨q, 36809 + 2 * (c + 1), rfl, rfl, .inl ⟨by omega, by omega⟩, ?_⟩⟩)
    refine ⟨.ref a, e0, .inl ⟨a, [.int p, .int q, .int (c + 1)], 2, .int (c + 1), rfl, rfl, .of upd_same, i2 _ _, .inl ⟨5303, c + 1, rfl, rfl, .inl ⟨by decide, by decide⟩, ?_⟩⟩⟩
    refine .inl (.inl ⟨_, _, rfl, rfl, .inl (.inl ⟨_, 7, rfl, rfl, .inl ⟨_, rfl, _, _, rfl, rfl, (show (0 : Int) < 2147483629 by decide), ?_⟩⟩)⟩)
    obtain ⟨sv, hsv⟩ : ∃ sv : Int, (q * (36809 + 2 * (c + 1)) + 5303 * (c + 1) + 7) % 2147483629 = sv := ⟨_, rfl⟩
    refine (show gName 3 (V.int ((q * (36809 + 2 * (c + 1)) + 5303 * (c + 1) + 7) % 2147483629)) σ _ _ from ?_)
    rw [hsv]
    have e0' : (σ.set 3 (some (V.int sv)))[0]? = some (some (.ref a)) := (List.getElem?_set_ne (by decide)).trans e0
    have e1' : (σ.set 3 (some (V.int sv)))[1]? = some (some (.int x)) := (List.getElem?_set_ne (by decide)).trans e1
    refine ⟨.int sv, List.getElem?_set_self l3, .inl ⟨sv, 45413, rfl, rfl, .inr ⟨by decide, by decide⟩, ?_⟩⟩
    refine ⟨.ref a, e0', .inl ⟨a, [.int p, .int q, .int (c + 1)], 2, .int (c + 1), rfl, rfl, .of upd_same, i2 _ _, .inl ⟨3, c + 1, rfl, rfl, .inl ⟨by decide, by decide⟩, ?_⟩⟩⟩
    refine .inl (.inl ⟨_, _, rfl, rfl, .inl (.inl ⟨_, 1, rfl, rfl, .inl ⟨_, rfl, _, _, rfl, rfl, (show (0 : Int) < 2147483587 by decide), ?_⟩⟩)⟩)
    have b0 := Int.emod_nonneg (sv * 45413 + 3 * (c + 1) + 1) (show (2147483587 : Int) ≠ 0 by decide)
    have b1 := Int.emod_lt_of_pos (sv * 45413 + 3 * (c + 1) + 1) (show (0 : Int) < 2147483587 by decide)
    obtain ⟨st2, ok2⟩ := purse_step (x := p) (y := (sv * 45413 + 3 * (c + 1) + 1) % 2147483587) (c := c + 1) ok1 hp hp0 b0 (Int.lt_trans b1 (by decide))
    obtain ⟨r, hr1, hr2⟩ := md ((sv * 45413 + 3 * (c + 1) + 1) % 2147483587 / 256) (by omega)
    refine ⟨.ref a, e0', a, _, 1, 1, rfl, rfl, upd_same, rfl, ?_⟩
    refine ⟨.ref a, e0', .inl ⟨a, [.int p, .int ((sv * 45413 + 3 * (c + 1) + 1) % 2147483587), .int (c + 1)], 1, .int ((sv * 45413 + 3 * (c + 1) + 1) % 2147483587), rfl, rfl, .of upd_same, atI_nat (j := 1) rfl, _, 256, rfl, rfl, ⟨by decide, by decide⟩, .inl ⟨_, rfl, .int x, e1', _, _, rfl, rfl, (show (0 : Int) < x by omega), ?_⟩⟩⟩
    exact l.rt _ (Wd.at _ _) (.int r) (st1.trans st2) ok2 hr2 ⟨r, hr1, rfl⟩
end K61

namespace K61
open PySem PySem.Spec PyProof.Rows L2 Dw
theorem d__law_any_of {P : Program} {w : World} {K : PySem.W.Frag} {mg : Str → Option Value} {base : Heap} (T : Txt K w mg) : FnOk P w K mg base CX0 2 T.f__law_any_of T.e__law_any_of ["_law_pail", "_law_some"] (toSp (spAnyOf)) := by
  refine fn_ok T.F__law_any_of sc__law_any_of (fun _ => rfl) fun cdv A outer s' H E hr => ?_
  refine ⟨_, (pss_one (ps_ret (pe_ix (ixA K) (pv 1) (pe_call (d__law_cast T) (hr.mono (by decide)) (by rfl) T.m__law_cast T.F__law_cast.kp T.b__law_cast .nil pass0 (pa_cons (pv 0) (pa_cons (pe_callB (lenA K) (by rfl) T.n_len (by decide +kernel) (pa_cons (pv 1) pa_nil)) pa_nil))) (fun _ _ => rfl)))), fun x hx => ?_⟩
  obtain ⟨b, ds⟩ := x
  obtain ⟨h0, h1⟩ := hx
  have h0 : 0 < ds.length := h0
  have h1 : ds.length < 100000 := h1
  cases b with
  | true =>
    refine ds_ret (dl_op (Ev.dl (ev_var rfl) (dl_call (s := spDraw) (dla_cons (Ev.dl (ev_var rfl) (dla_cons (Ev.dl (ev_len (ds := ds) (ev_var rfl).b) (dla_nil ⟨ds.length, rfl, ⟨h0, h1⟩, fun d hd => ?_⟩))))))))
    obtain ⟨r, hr1, rfl⟩ := hd
    exact ⟨_, dr2_ixL (atI_nat (List.getElem?_eq_getElem hr1)), List.getElem_mem hr1⟩
  | false =>
    refine ds_ret (dl_op (Ev.dl (ev_var rfl) (dl_call (s := spDraw) (dla_cons (Ev.dl (ev_var rfl) (dla_cons (Ev.dl (ev_lenT (ds := ds) (ev_var rfl)) (dla_nil ⟨ds.length, rfl, ⟨h0, h1⟩, fun d hd => ?_⟩))))))))
    obtain ⟨r, hr1, rfl⟩ := hd
    exact ⟨_, dr2_ixT (atI_nat (List.getElem?_eq_getElem hr1)), List.getElem_mem hr1⟩
end K61

namespace K61
open PySem PySem.Spec PyProof.Rows L2 Dw
theorem d__law_words {P : Program} {w : World} {K : PySem.W.Frag} {mg : Str → Option Value} {base : Heap} (T : Txt K w mg) : FnOk P w K mg base CX0 2 T.f__law_words T.e__law_words ["_law_pail", "_law_many"] (toSp (spWords)) := by
  refine fn_ok T.F__law_words sc__law_words (fun _ => rfl) fun cdv A outer s' H E hr => ?_
  refine ⟨_, (pss_cons (ps_set (i := 2) sc__law_words.nd rfl (Or.inl rfl) (pe_lst (pa_cons pe_str (pa_cons pe_str (pa_cons pe_str (pa_cons pe_str (pa_cons pe_str (pa_cons pe_str (pa_cons pe_str (pa_cons pe_str (pa_cons pe_str (pa_cons pe_str (pa_cons pe_str (pa_cons pe_str (pa_cons pe_str (pa_cons pe_str (pa_cons pe_str pa_nil))))))))))))))))) (pss_cons (ps_set (i := 3) sc__law_words.nd rfl (Or.inl rfl) (pe_lst pa_nil)) (pss_cons (ps_for PassesOwn.never rfl (pi_range1 (by rfl) T.n_range (pa_cons (pv 1) pa_nil)) (pg_name (i := 4) sc__law_words.nd rfl (Or.inl rfl)) (pss_one (ps_expr (bmA K PySem.F.plainAttrs_list PySem.F.slot_list_append PySem.F.type_list_append mt_append (pv 3) (pa_cons (bmA K PySem.F.plainAttrs_list PySem.F.slot_list_pop PySem.F.type_list_pop mt_popAt (pv 2) (pa_cons (pe_call (d__law_cast T) (hr.mono (by decide)) (by rfl) T.m__law_cast T.F__law_cast.kp T.b__law_cast .nil pass0 (pa_cons (pv 0) (pa_cons (pe_callB (lenA K) (by rfl) T.n_len (by decide +kernel) (pa_cons (pv 2) pa_nil)) pa_nil))) pa_nil)) pa_nil))))) (pss_one (ps_ret (pe_callTy (tupleA K) (by rfl) T.n_tuple (by decide +kernel) (pa_cons (pe_callB (sortedA K) (by rfl) T.n_sorted (by decide +kernel) (pa_cons (pv 3) pa_nil)) pa_nil))))))), fun x hx => ?_⟩
  obtain ⟨n, rfl⟩ : ∃ l : Nat, l = x := ⟨x, rfl⟩
  obtain ⟨h1, h8⟩ := hx
  have h1 : 1 ≤ n := h1
  have h8 : n ≤ 8 := h8
  refine ds_seq (ds_asg_own (ds := nameD lab1) ?_ ?_)
  · rw [lab1_D]
    exact evn_lst (eva_cons ev_str (eva_cons ev_str (eva_cons ev_str (eva_cons ev_str (eva_cons ev_str (eva_cons ev_str (eva_cons ev_str (eva_cons ev_str (eva_cons ev_str (eva_cons ev_str (eva_cons ev_str (eva_cons ev_str (eva_cons ev_str (eva_cons ev_str (eva_cons ev_str eva_nil))))))))))))))) (small (show 15 ≤ 100000 by decide))
  refine ds_seq (ds_asg_own (evn_lst eva_nil (Nat.zero_le _)) ?_)
  refine ds_seq (ds_for (fun xs i Γ' => xs = rng n ∧ ∃ (ys left : List (List Nat)) (s4 : Sl), Γ' = [.val .purse, .val (.int n), .own (nameD left), .own (nameD ys), s4] ∧ (ys ++ left).Perm lab1 ∧ ys.length = i)
    (di_range (dla_cons (Ev.dl (ev_var rfl) (dla_nil ⟨n, rfl, by omega, ⟨rfl, [], lab1, _, rfl, .refl _, rfl⟩, fun i x Γ' hx' ⟨exs, ys, left, s4, e, hp, hl⟩ => ?_, fun Γ' ⟨exs, ys, left, s4, e, hp, hl⟩ => ?_⟩)))))
  · subst e
    obtain ⟨hi, rfl⟩ := rng_get hx'
    have hlen : left.length = 15 - i := by
      have := hp.length_eq
      rw [List.length_append, hl, lab1_len] at this
      omega
    refine ⟨[4], _, dg_name, ds_drop (dl_append ⟨_, rfl⟩ (dla_cons (dl_popAt ⟨_, rfl⟩ (dla_cons (dl_call (s := spDraw) (dla_cons (Ev.dl (ev_var rfl) (dla_cons (Ev.dl (ev_len (evb_own (ds := nameD left) rfl)) (dla_nil ⟨(nameD left).length, rfl, ⟨by rw [nameD_len]; omega, by rw [nameD_len]; omega⟩, fun d hd => ?_⟩))))))))))⟩
    obtain ⟨r, hr1, rfl⟩ := hd
    rw [nameD_len] at hr1
    have hg : left[r]? = some left[r] := List.getElem?_eq_getElem hr1
    refine dla_nil ⟨r, r, nameD left, .str (tx left[r]), rfl, rfl, by omega, by omega, ?_, ?_, dla_nil ⟨_, nameD ys, rfl, rfl, ?_, exs, ys ++ [left[r]], left.eraseIdx r, .val (.int i), ?_, ?_, ?_⟩⟩
    · rw [nameD_len]
      unfold seqIndex?
      have : ¬ ((r : Int) < 0) := by omega
      simp only [this, if_false]
      rw [if_pos (by simp; omega)]
      rfl
    · unfold nameD
      rw [List.getElem?_map, hg]; rfl
    · rw [nameD_len, hl]; exact Nat.lt_of_lt_of_le (by omega : i < 9) (by decide)
    · show [Sl.val .purse, .val (.int n), .own ((nameD left).eraseIdx r), .own (nameD ys ++ [.str (tx left[r])]), .val (.int i)] = _
      rw [show (nameD left).eraseIdx r = nameD (left.eraseIdx r) from erase_map _ left r]
      unfold nameD; rw [List.map_append]; rfl
    · rw [List.append_assoc]
      exact (List.Perm.append_left ys (perm_erase hg)).trans hp
    · rw [List.length_append, hl]; rfl
  · subst e
    rw [rng_length] at hl
    refine ds_freeze 3 rfl (ds_ret (dl_tuple (dl_sortedS (Ev.dl (ev_var rfl) ⟨ys.map tx, ?_, by rw [List.length_map]; omega, fun zs hz hs => ⟨_, rfl, zs.map fun s => s.cps.toList, ?_, names_ofG lab1_ok lab1_nd hp hz hs hl h1 h8, ?_⟩⟩))))
    · rw [nameD_map]
    · unfold nameD
      rw [List.map_map]
      exact congrArg D.tup (List.map_congr_left fun s _ => congrArg D.str (of_tx s))
    · rw [List.length_map, hz.length_eq, List.length_map, hl]
end K61

namespace K61
open PySem PySem.Spec PyProof.Rows L2 Dw
theorem d__law_said {P : Program} {w : World} {K : PySem.W.Frag} {mg : Str → Option Value} {base : Heap} (T : Txt K w mg) : FnOk P w K mg base CX0 1 T.f__law_said T.e__law_said ["_law_words_here", "_law_rows"] (toSp (spSaid)) := by
  refine fn_ok T.F__law_said sc__law_said (fun _ => rfl) fun cdv A outer s' H E hr => ?_
  refine ⟨_, (pss_one (ps_ret (pe_op (plusE K) (pe_op (plusE K) (joinA K pe_str (pv 0)) pe_str) (joinA K pe_str (pe_lc (own := [("_law_row", 2)]) rfl sc__law_said.nd (piR K (pv 1)) (blkOk_by (own := [("_law_row", 2)]) (N := N__law_said) (sc := (defScope s__law_said)) (by decide +kernel)) (fun _ _ _ _ _ => pg_name (i := 2) sc__law_said.nd rfl (Or.inl rfl)) (fun _ _ _ _ _ => pts_nil) (fun _ _ _ _ _ => (pe_op (plusE K) pe_str (pv 2)))))))), fun x hx => ?_⟩
  obtain ⟨ls, rs⟩ := x
  have hb : BookOk ls rs := hx
  have h8 := hb.names.hi
  have h20 := hb.few
  have hl := hb.hl
  have s1 := sum_tx (m := 8) ls fun p hp => (hb.names.all p hp).hi
  have s2 := sum_tx (m := 9) (rs.map ([32] ++ ·)) fun p hp => by
    obtain ⟨q, hq, rfl⟩ := List.mem_map.mp hp
    rw [List.length_append, (hb.rows q hq).len]
    show 1 + _ ≤ 9
    omega
  have l2 : (tx (TL.joinL [32] ls)).length ≤ 72 := by rw [tx_len]; exact hl
  have l3 : (tx (TL.joinL [32] ls) ++ Str.ofString ":").length ≤ 73 := by rw [colonS, tx_append, tx_len, List.length_append]; show _ + 1 ≤ 73; omega
  rw [List.length_map] at s2
  have lb := hb.len
  have e2 := said_eq ls rs
  refine ds_ret (Ev.dl (ev_cast (congrArg D.str e2) (ev_op (ev_op (ev_cast (d := .str (Txt.join (Str.ofString " ") (ls.map tx))) (by rw [join_sp]) (ev_joinT (ys := ls.map tx) ev_str (ev_cast (d := .tup (nameD ls)) (by rw [nameD_map]) (ev_var rfl)) ?z1)) ev_str (pl_str ?z2)) (ev_join (ys := (rs.map ([32] ++ ·)).map tx) ev_str (EvN.b ?lc) ?z3) (pl_str ?z4))) rfl)
  case z1 =>
    rw [List.length_map, spaceS, tx_len]
    show _ + ls.length * 1 ≤ _
    omega
  case z2 => rw [colonS, tx_len]; show _ + 1 ≤ _; exact small (by omega)
  case lc =>
    have e1 : (((rs.map ([32] ++ ·)).map tx).map D.str) = rs.map fun r => D.str (Str.ofString " " ++ tx r) := by
      rw [List.map_map, List.map_map]
      refine List.map_congr_left fun r _ => ?_
      show D.str (tx ([32] ++ r)) = _
      rw [spaceS, tx_append]
    rw [e1]
    exact evn_lc1 (xs := rs) (c := fun r => .str (tx r)) (ej_tup (ev_var (d := .tup (nameD rs)) rfl)) (by omega) fun r hr => ⟨[2], _, dg_name, fun i hi => hi, evt_yes, ev_op ev_str (ev_var rfl) (pl_str (by rw [spaceS, tx_len, tx_len, (hb.rows r hr).len]; show 1 + _ ≤ _; exact small (by omega)))⟩
  case z3 =>
    rw [List.length_map, List.length_map]
    show _ + rs.length * 0 ≤ _
    omega
  case z4 =>
    have : (Txt.join (Str.ofString "") ((rs.map ([32] ++ ·)).map tx)).length ≤ 180 := by
      rw [show Str.ofString "" = tx [] by decide +kernel, join_tx, joinL_nil, tx_len, List.length_flatten]
      have e : ((rs.map ([32] ++ ·)).map List.length).sum = (((rs.map ([32] ++ ·)).map tx).map (·.length)).sum := by
        rw [List.map_map, List.map_map, List.map_map]
        exact congrArg List.sum (List.map_congr_left fun r _ => (tx_len _).symm)
      rw [e]
      omega
    exact small (by omega)
end K61

namespace K61
open PySem PySem.Spec PyProof.Rows L2 Dw
/-! plain data with short texts -/
mutual
def plS (z : Nat) : Nat → D → Bool
  | _, .non => true | _, .bl _ => true | _, .int _ => true | _, .str x => PyData.strOk x && decide (x.length ≤ 15000)
  | k + 1, .tup ds => decide (ds.length ≤ z) && plSs z k ds
  | k + 1, .lst ds => decide (ds.length ≤ z) && plSs z k ds
  | k + 1, .dct ks ds => decide (ds.length ≤ z) && plSs z k ds
  | 0, .tup _ => false | 0, .lst _ => false | 0, .dct _ _ => false
  | _, .obj _ _ _ => false | _, .raw _ => false | _, .purse => false | _, .rng _ _ => false | _, .scr _ _ => false | _, .tupN _ => false
def plSs (z : Nat) : Nat → List D → Bool
  | _, [] => true
  | k, d :: ds => plS z k d && plSs z k ds
end
theorem plSs_iff {z k : Nat} : ∀ {ds : List D}, plSs z k ds = true ↔ ∀ d ∈ ds, plS z k d = true
  | [] => by simp [plSs]
  | d :: ds => by
    have e : plSs z k (d :: ds) = (plS z k d && plSs z k ds) := by cases k <;> rfl
    rw [e, Bool.and_eq_true, plSs_iff (ds := ds)]
    simp
mutual
theorem plS_mono {z z' : Nat} (hz : z ≤ z') : ∀ (k m : Nat) (d : D), k ≤ m → plS z k d = true → plS z' m d = true
  | _, _, .non, _, _ => by unfold plS; rfl
  | _, _, .bl _, _, _ => by unfold plS; rfl
  | _, _, .int _, _, _ => by unfold plS; rfl
  | k, m, .str x, _, h => by
    have e : plS z k (.str x) = (PyData.strOk x && decide (x.length ≤ 15000)) := by cases k <;> rfl
    have e2 : plS z' m (.str x) = (PyData.strOk x && decide (x.length ≤ 15000)) := by cases m <;> rfl
    rw [e2, ← e, h]
  | k + 1, m + 1, .tup ds, hm, h => by
    have h : (decide (ds.length ≤ z) && plSs z k ds) = true := h
    show (decide (ds.length ≤ z') && plSs z' m ds) = true
    rw [Bool.and_eq_true] at h ⊢
    exact ⟨decide_eq_true (Nat.le_trans (of_decide_eq_true h.1) hz), plSs_mono hz k m ds (by omega) h.2⟩
  | k + 1, m + 1, .lst ds, hm, h => by
    have h : (decide (ds.length ≤ z) && plSs z k ds) = true := h
    show (decide (ds.length ≤ z') && plSs z' m ds) = true
    rw [Bool.and_eq_true] at h ⊢
    exact ⟨decide_eq_true (Nat.le_trans (of_decide_eq_true h.1) hz), plSs_mono hz k m ds (by omega) h.2⟩
  | k + 1, m + 1, .dct ks ds, hm, h => by
    have h : (decide (ds.length ≤ z) && plSs z k ds) = true := h
    show (decide (ds.length ≤ z') && plSs z' m ds) = true
    rw [Bool.and_eq_true] at h ⊢
    exact ⟨decide_eq_true (Nat.le_trans (of_decide_eq_true h.1) hz), plSs_mono hz k m ds (by omega) h.2⟩
  | 0, _, .tup _, _, h => nomatch h
  | 0, _, .lst _, _, h => nomatch h
  | 0, _, .dct _ _, _, h => nomatch h
  | k + 1, 0, .tup _, hm, _ => absurd hm (by omega)
  | k + 1, 0, .lst _, hm, _ => absurd hm (by omega)
  | k + 1, 0, .dct _ _, hm, _ => absurd hm (by omega)
  | k, _, .obj _ _ _, _, h => by cases k <;> exact nomatch h
  | k, _, .raw _, _, h => by cases k <;> exact nomatch h
  | k, _, .purse, _, h => by cases k <;> exact nomatch h
  | k, _, .rng _ _, _, h => by cases k <;> exact nomatch h
  | k, _, .scr _ _, _, h => by cases k <;> exact nomatch h
  | k, _, .tupN _, _, h => by cases k <;> exact nomatch h
theorem plSs_mono {z z' : Nat} (hz : z ≤ z') : ∀ (k m : Nat) (ds : List D), k ≤ m → plSs z k ds = true → plSs z' m ds = true
  | _, _, [], _, _ => by unfold plSs; rfl
  | k, m, d :: ds, hm, h => by
    have e : plSs z k (d :: ds) = (plS z k d && plSs z k ds) := by cases k <;> rfl
    have e2 : plSs z' m (d :: ds) = (plS z' m d && plSs z' m ds) := by cases m <;> rfl
    rw [e, Bool.and_eq_true] at h
    rw [e2, plS_mono hz k m d hm h.1, plSs_mono hz k m ds hm h.2]; rfl
end
theorem plS_tup {z k : Nat} {ds : List D} (h1 : ds.length ≤ z) (h2 : ∀ d ∈ ds, plS z k d = true) : plS z (k + 1) (.tup ds) = true := by
  show (decide (ds.length ≤ z) && plSs z k ds) = true
  rw [decide_eq_true h1, Bool.true_and]
  exact plSs_iff.mpr h2
theorem plS_lst {z k : Nat} {ds : List D} (h1 : ds.length ≤ z) (h2 : ∀ d ∈ ds, plS z k d = true) : plS z (k + 1) (.lst ds) = true := by
  show (decide (ds.length ≤ z) && plSs z k ds) = true
  rw [decide_eq_true h1, Bool.true_and]
  exact plSs_iff.mpr h2
theorem plS_of_tup {z k : Nat} {ds : List D} (h : plS z k (.tup ds) = true) : ∃ m, k = m + 1 ∧ ds.length ≤ z ∧ ∀ d ∈ ds, plS z m d = true := by
  cases k with
  | zero => exact nomatch h
  | succ m =>
    have h : (decide (ds.length ≤ z) && plSs z m ds) = true := h
    rw [Bool.and_eq_true, decide_eq_true_eq] at h
    exact ⟨m, rfl, h.1, plSs_iff.mp h.2⟩
theorem plS_ty {z k : Nat} {d : D} (h : plS z k d = true) : hasTy d = true := by
  cases d <;> first | rfl | (cases k <;> exact nomatch h)
theorem plS_int (z k : Nat) (i : Int) : plS z k (.int i) = true := by cases k <;> rfl
mutual
theorem plS_W {z : Nat} : ∀ (k : Nat) (d : D), plS z k d = true → plW z k d = true
  | _, .non, _ => by unfold plW; rfl
  | _, .bl _, _ => by unfold plW; rfl
  | _, .int _, _ => by unfold plW; rfl
  | k, .str x, h => by
    have e : plS z k (.str x) = (PyData.strOk x && decide (x.length ≤ 15000)) := by cases k <;> rfl
    have e2 : plW z k (.str x) = (PyData.strOk x && decide (x.length ≤ 100000)) := by cases k <;> rfl
    rw [e, Bool.and_eq_true, decide_eq_true_eq] at h
    rw [e2, h.1, decide_eq_true (by have := h.2; omega)]; rfl
  | k + 1, .tup ds, h => by
    have h : (decide (ds.length ≤ z) && plSs z k ds) = true := h
    show (decide (ds.length ≤ z) && plWs z k ds) = true
    rw [Bool.and_eq_true] at h ⊢
    exact ⟨h.1, plSs_W k ds h.2⟩
  | k + 1, .lst ds, h => by
    have h : (decide (ds.length ≤ z) && plSs z k ds) = true := h
    show (decide (ds.length ≤ z) && plWs z k ds) = true
    rw [Bool.and_eq_true] at h ⊢
    exact ⟨h.1, plSs_W k ds h.2⟩
  | k + 1, .dct ks ds, h => by
    have h : (decide (ds.length ≤ z) && plSs z k ds) = true := h
    show (decide (ds.length ≤ z) && plWs z k ds) = true
    rw [Bool.and_eq_true] at h ⊢
    exact ⟨h.1, plSs_W k ds h.2⟩
  | 0, .tup _, h => nomatch h
  | 0, .lst _, h => nomatch h
  | 0, .dct _ _, h => nomatch h
  | k, .obj _ _ _, h => by cases k <;> exact nomatch h
  | k, .raw _, h => by cases k <;> exact nomatch h
  | k, .purse, h => by cases k <;> exact nomatch h
  | k, .rng _ _, h => by cases k <;> exact nomatch h
  | k, .scr _ _, h => by cases k <;> exact nomatch h
  | k, .tupN _, h => by cases k <;> exact nomatch h
theorem plSs_W {z : Nat} : ∀ (k : Nat) (ds : List D), plSs z k ds = true → plWs z k ds = true
  | _, [], _ => by unfold plWs; rfl
  | k, d :: ds, h => by
    have e : plSs z k (d :: ds) = (plS z k d && plSs z k ds) := by cases k <;> rfl
    have e2 : plWs z k (d :: ds) = (plW z k d && plWs z k ds) := by cases k <;> rfl
    rw [e, Bool.and_eq_true] at h
    rw [e2, plS_W k d h.1, plSs_W k ds h.2]; rfl
end
theorem plS_sh {z k : Nat} {d : D} (h : plS z k d = true) : shT d = true := by
  cases d <;> first | rfl | skip
  rename_i x
  have e : plS z k (.str x) = (PyData.strOk x && decide (x.length ≤ 15000)) := by cases k <;> rfl
  rw [e, Bool.and_eq_true] at h
  exact h.2
theorem plS_pv {z k : Nat} {d : D} (h : plS z k d = true) (hz : z ≤ 60) (hk : k ≤ 12) : Pv d ∧ shU d = true := by
  refine ⟨plW_mono hz k 12 d hk (plS_W k d h), ?_⟩
  cases d <;> first | rfl | skip
  rename_i ds
  obtain ⟨m, rfl, _, h2⟩ := plS_of_tup h
  show ds.all shT = true
  exact List.all_eq_true.mpr fun e he => plS_sh (h2 e he)
def spThingP : Spc where
  ty := Unit
  args := fun _ => [.purse]
  ok := fun _ => True
  rel := fun _ d => plS 2 2 d = true
def spBentP (n : Nat) : Spc where
  ty := Nat × Nat × D
  args := fun x => [.purse, x.2.2]
  ok := fun x => plS x.2.1 x.1 x.2.2 = true ∧ x.1 < n ∧ 2 ≤ x.2.1 ∧ x.2.1 ≤ 40
  rel := fun x d => plS (x.2.1 + 1) (x.1 + 2) d = true
theorem menuS_ok : ∀ d ∈ menu1 ++ menu2 ++ menu3, plS 2 2 d = true := List.all_eq_true.mp (by decide +kernel)
end K61

namespace K61
open PySem PySem.Spec PyProof.Rows L2 Dw
theorem d__law_thing {P : Program} {w : World} {K : PySem.W.Frag} {mg : Str → Option Value} {base : Heap} (T : Txt K w mg) : FnOk P w K mg base CX0 3 T.f__law_thing T.e__law_thing ["_law_pail"] (toSp (spThingP)) := by
  refine fn_ok T.F__law_thing sc__law_thing (fun _ => rfl) fun cdv A outer s' H E hr => ?_
  refine ⟨_, (pss_cons (ps_set (i := 1) sc__law_thing.nd rfl (Or.inl rfl) (pe_lst (pa_cons pe_non (pa_cons pe_bl (pa_cons pe_bl (pa_cons pe_int (pa_cons pe_int (pa_cons (pe_un un_neg pe_int) (pa_cons pe_int (pa_cons (pe_op op_pow pe_int pe_int) (pa_cons pe_str (pa_cons pe_str (pa_cons pe_str (pa_cons pe_str (pa_cons pe_str (pa_cons pe_str (pa_cons (pe_tup pa_nil) (pa_cons (pe_tup (pa_cons pe_int pa_nil)) (pa_cons (pe_tup (pa_cons pe_int (pa_cons pe_int pa_nil))) pa_nil))))))))))))))))))) (pss_cons (ps_set (i := 1) sc__law_thing.nd rfl (Or.inl rfl) (pe_op (plusE K) (pv 1) (pe_lst (pa_cons (pe_tup (pa_cons pe_int (pa_cons pe_int pa_nil))) (pa_cons (pe_lst pa_nil) (pa_cons (pe_lst (pa_cons pe_int pa_nil)) (pa_cons pe_dnewK (pa_cons (pe_disp (pps_cons pe_str pe_int pps_nil) (by rfl) (by rfl) (fun z => by cases z) (by decide)) (pa_cons (pe_tup (pa_cons pe_str (pa_cons pe_str pa_nil))) (pa_cons (pe_tup (pa_cons (pe_tup (pa_cons pe_int pa_nil)) (pa_cons (pe_tup (pa_cons pe_int pa_nil)) pa_nil))) (pa_cons (pe_tup (pa_cons pe_non pa_nil)) (pa_cons (pe_tup (pa_cons pe_str pa_nil)) (pa_cons pe_str pa_nil))))))))))))) (pss_cons (ps_set (i := 1) sc__law_thing.nd rfl (Or.inl rfl) (pe_op (plusE K) (pv 1) (pe_lst (pa_cons (pe_tup (pa_cons pe_int (pa_cons pe_int pa_nil))) (pa_cons (pe_tup (pa_cons pe_bl pa_nil)) pa_nil))))) (pss_one (ps_ret (pe_call (d__law_any_of T) (hr.mono (by decide)) (by rfl) T.m__law_any_of T.F__law_any_of.kp T.b__law_any_of .nil pass0 (pa_cons (pv 0) (pa_cons (pv 1) pa_nil)))))))), fun x hx => ?_⟩
  refine ds_seq (ds_asg (Ev.dl (EvN.ev (evn_lst (ds := menu1) (eva_cons ev_non (eva_cons ev_bl (eva_cons ev_bl (eva_cons ev_int (eva_cons ev_int (eva_cons (ev_neg ev_int) (eva_cons ev_int (eva_cons (ev_op ev_int ev_int (dr2_pow ⟨by decide, by decide, by decide⟩)) (eva_cons ev_str (eva_cons ev_str (eva_cons ev_str (eva_cons ev_str (eva_cons ev_str (eva_cons ev_str (eva_cons (ev_tup eva_nil (Nat.zero_le _)) (eva_cons (ev_tup (eva_cons ev_int eva_nil) (small (show 1 ≤ 100000 by decide))) (eva_cons (ev_tup (eva_cons ev_int (eva_cons ev_int eva_nil)) (small (show 2 ≤ 100000 by decide))) eva_nil))))))))))))))))) (small (show 17 ≤ 100000 by decide)))) ?_))
  refine ds_seq (ds_asg (Ev.dl (EvN.ev (pl_evn (es := menu2) (ev_var (d := .lst menu1) rfl).b (EvN.b (evn_lst (eva_cons (ev_tup (eva_cons ev_int (eva_cons ev_int eva_nil)) (small (show 2 ≤ 100000 by decide))) (eva_cons (evn_lst eva_nil (Nat.zero_le _)).ev (eva_cons (evn_lst (eva_cons ev_int eva_nil) (small (show 1 ≤ 100000 by decide))).ev (eva_cons ev_dnew (eva_cons ev_disp1 (eva_cons (ev_tup (eva_cons ev_str (eva_cons ev_str eva_nil)) (small (show 2 ≤ 100000 by decide))) (eva_cons (ev_tup (eva_cons (ev_tup (eva_cons ev_int eva_nil) (small (show 1 ≤ 100000 by decide))) (eva_cons (ev_tup (eva_cons ev_int eva_nil) (small (show 1 ≤ 100000 by decide))) eva_nil)) (small (show 2 ≤ 100000 by decide))) (eva_cons (ev_tup (eva_cons ev_non eva_nil) (small (show 1 ≤ 100000 by decide))) (eva_cons (ev_tup (eva_cons ev_str eva_nil) (small (show 1 ≤ 100000 by decide))) (eva_cons ev_str eva_nil)))))))))) (small (show 10 ≤ 100000 by decide)))) (small (show 27 ≤ 100000 by decide)))) ?_))
  refine ds_seq (ds_asg (Ev.dl (EvN.ev (pl_evn (es := menu3) (ev_var (d := .lst (menu1 ++ menu2)) rfl).b (EvN.b (evn_lst (eva_cons (ev_tup (eva_cons ev_int (eva_cons ev_int eva_nil)) (small (show 2 ≤ 100000 by decide))) (eva_cons (ev_tup (eva_cons ev_bl eva_nil) (small (show 1 ≤ 100000 by decide))) eva_nil)) (small (show 2 ≤ 100000 by decide)))) (small (show 29 ≤ 100000 by decide)))) ?_))
  exact ds_ret (dl_call (s := spAnyOf) (dla_cons (Ev.dl (ev_var rfl) (dla_cons (Ev.dl (ev_var rfl) (dla_nil ⟨(true, menu1 ++ menu2 ++ menu3), rfl, ⟨by decide, by decide⟩, fun d hd => menuS_ok d hd⟩))))))
end K61

namespace K61
open PySem PySem.Spec PyProof.Rows L2 Dw
/-! right claims of all nine words -/
def smallR : List (List Nat) := [[43, 45, 46], [46, 43, 45]]
def wideR : List (List Nat) := [[43, 43, 45]]
def badR : List (List Nat) := [[43, 45, 46], [45, 43, 46]]
def otherR : List (List Nat) := [[43, 45, 45], [46, 43, 45]]
def goodB : List BkI := [(.fits, smallR, .tup [.int 0, .int 1, .int 2], true),
  (.quarrels, badR, .tup [.int 0, .int 1], true),
  (.follows (.str "+.-"), smallR, .tup [.int 0, .int 1], true),
  (.above (.int 0) (.int 1), smallR, .tup [.int 0], true),
  (.opn (.str "+.-"), wideR, .tup [.tup [.int 0, .int 2, .int 1], .tup [.int 1, .int 2, .int 0]], true),
  (.count (.int 4), wideR, .non, true)]
def goodA : List AlI := [(smallR, otherR, .non, true)]
def goodC : List CsI := [(true, 0, [0, 1], true), (false, 1, [0, 2], true)]
def msW : List (List Nat) := [[0, 2], [1, 1], [2, 0]]
theorem goodB_ok : goodB.all (checkB 3) = true := by decide +kernel
theorem goodA_ok : goodA.all (checkA 3) = true := by decide +kernel
theorem goodC_ok : goodC.all (checkC msW 2) = true := by decide +kernel
def bkS (ls rs : List (List Nat)) : D := .str (tx (bookTx ls rs))
def goods (ls ks : List (List Nat)) : List ItmT := goodB.map (itemB ls) ++ goodA.map (itemA ls) ++ goodC.map (itemC ks msW)
def goodD (x : ItmT) : D := .tup [x.1, x.2.1]
theorem partT_eq (l m : List Nat) : partT (l, m) = l ++ (m.map fun k => 32 :: TL.numL k).flatten := by
  unfold partT wordsL
  rw [joinL_cons, List.map_map]; rfl
theorem text_three (a b c : List Nat) : tx a ++ Str.ofString " 0 2; " ++ tx b ++ Str.ofString " 1 1; " ++ tx c ++ Str.ofString " 2 0" = tx (caseTx [a, b, c] msW) := by
  rw [show Str.ofString " 0 2; " = tx [32, 48, 32, 50, 59, 32] by decide +kernel, show Str.ofString " 1 1; " = tx [32, 49, 32, 49, 59, 32] by decide +kernel, show Str.ofString " 2 0" = tx [32, 50, 32, 48] by decide +kernel, tx_append, tx_append, tx_append, tx_append, tx_append]
  unfold caseTx msW
  show _ = tx (TL.joinL [59, 32] [partT (a, _), partT (b, _), partT (c, _)])
  rw [partT_eq, partT_eq, partT_eq, show (([0, 2] : List Nat).map fun k => 32 :: TL.numL k).flatten = [32, 48, 32, 50] by decide +kernel, show (([1, 1] : List Nat).map fun k => 32 :: TL.numL k).flatten = [32, 49, 32, 49] by decide +kernel, show (([2, 0] : List Nat).map fun k => 32 :: TL.numL k).flatten = [32, 50, 32, 48] by decide +kernel]
  simp [TL.joinL]
theorem case_of {ls ms : List (List Nat)} {n : Nat} (h : NamesOk ls) (h2 : 2 ≤ ls.length) (hs : ms.length = ls.length) (hm : (ms.all fun m => decide (m.length = n) && m.all fun k => decide (k < 100)) = true) (n1 : 1 ≤ n) (n8 : n ≤ 8) : CaseOk ls ms n := by
  have hm := List.all_eq_true.mp hm
  refine ⟨h, h2, hs, fun m h => ?_, n1, n8, fun m h k hk => ?_⟩
  · have := hm m h
    rw [Bool.and_eq_true] at this
    exact of_decide_eq_true this.1
  · have := hm m h
    rw [Bool.and_eq_true, List.all_eq_true] at this
    exact of_decide_eq_true (this.2 k hk)
theorem all_good {α : Type} {f : α → ItmT} {p : α → Bool} {l : List α} (h : l.all p = true) (k : ∀ y, p y = true → GoodI (f y)) : ∀ x ∈ l.map f, GoodI x := fun x hx => by
  obtain ⟨y, hy, rfl⟩ := List.mem_map.mp hx
  exact k y (List.all_eq_true.mp h y hy)
theorem book_three {ls rs : List (List Nat)} (h : NamesOk ls) (h3 : ls.length = 3) (hr : rowsB rs 3 = true) : BookOk ls rs := ⟨h, (rowsB_ok hr).1, by rw [h3]; exact (rowsB_ok hr).2⟩
def ShortI (x : ItmT) : Prop := plS 4 2 x.1 = true ∧ plS 4 2 x.2.1 = true
theorem bk_short {ls rs : List (List Nat)} (h : BookOk ls rs) : plS 4 1 (.str (tx (bookTx ls rs))) = true := by
  have h1 := (pv_book h).str
  have h2 := sh_book h
  have h2 : decide ((tx (bookTx ls rs)).length ≤ 15000) = true := h2
  show (PyData.strOk (tx (bookTx ls rs)) && decide ((tx (bookTx ls rs)).length ≤ 15000)) = true
  rw [h2, Bool.and_true]
  exact h1.1
theorem cs_short {ls ms : List (List Nat)} {n : Nat} (h : CaseOk ls ms n) : plS 4 1 (.str (tx (caseTx ls ms))) = true := by
  have h1 := (pv_case h).str
  have h2 : decide ((tx (caseTx ls ms)).length ≤ 15000) = true := sh_case h
  show (PyData.strOk (tx (caseTx ls ms)) && decide ((tx (caseTx ls ms)).length ≤ 15000)) = true
  rw [h2, Bool.and_true]
  exact h1.1
theorem nm_short {l : List Nat} (h : NameOk l) : plS 4 1 (.str (tx l)) = true := by
  obtain ⟨h1, h2⟩ := pv_name h
  have h2 : decide ((tx l).length ≤ 15000) = true := h2
  show (PyData.strOk (tx l) && decide ((tx l).length ≤ 15000)) = true
  rw [h2, Bool.and_true]
  exact h1.str.1
def shortB (y : BkI) : Bool := decide (y.1.parts.length ≤ 2) && (plS 4 1 (.str y.1.word) && (y.1.parts.all (plS 4 1) && plS 4 2 y.2.2.1))
theorem goodB_short : goodB.all shortB = true := by decide +kernel
theorem goods_ok {ls ks : List (List Nat)} (h1 : NamesOk ls) (h2 : NamesOk ks) (l1 : ls.length = 3) (l2 : ks.length = 3) : ∀ x ∈ goods ls ks, GoodI x ∧ ShortI x := fun x hx => by
  have hc : CaseOk ks msW 2 := case_of h2 (by omega) (by rw [l2]; rfl) (by decide) (by decide) (by decide)
  unfold goods at hx
  rw [List.mem_append, List.mem_append] at hx
  rcases hx with (hx | hx) | hx
  · obtain ⟨y, hy, rfl⟩ := List.mem_map.mp hx
    have ck := List.all_eq_true.mp goodB_ok y hy
    refine ⟨good_book h1 (by rw [l1]; exact ck), ?_⟩
    have sh := List.all_eq_true.mp goodB_short y hy
    unfold shortB at sh
    rw [Bool.and_eq_true, Bool.and_eq_true, Bool.and_eq_true, decide_eq_true_eq, List.all_eq_true] at sh
    unfold checkB at ck
    rw [Bool.and_eq_true, Bool.and_eq_true, Bool.and_eq_true, Bool.and_eq_true] at ck
    obtain ⟨r1, r2⟩ := rowsB_ok ck.1.1.2
    have hb : BookOk ls y.2.1 := ⟨h1, r1, by rw [l1]; exact r2⟩
    refine ⟨plS_tup (k := 1) (by show y.1.parts.length + 1 + 1 ≤ 4; have := sh.1; omega) fun d hd => ?_, sh.2.2.2⟩
    rcases List.mem_cons.mp hd with rfl | hd
    · exact sh.2.1
    rcases List.mem_cons.mp hd with rfl | hd
    · exact bk_short hb
    · exact sh.2.2.1 d hd
  · obtain ⟨y, hy, rfl⟩ := List.mem_map.mp hx
    have ck := List.all_eq_true.mp goodA_ok y hy
    refine ⟨good_alike h1 (by rw [l1]; exact ck), ?_⟩
    obtain rfl := List.mem_singleton.mp hy
    have b1 : BookOk ls smallR := book_three h1 l1 (by decide)
    have b2 : BookOk ls otherR := book_three h1 l1 (by decide)
    refine ⟨plS_tup (k := 1) (show 3 ≤ 4 by decide) fun d hd => ?_, rfl⟩
    rcases List.mem_cons.mp hd with rfl | hd
    · exact (by decide +kernel : plS 4 1 (.str (Str.ofString "alike")) = true)
    rcases List.mem_cons.mp hd with rfl | hd
    · exact bk_short b1
    · rw [List.mem_singleton.mp hd]; exact bk_short b2
  · obtain ⟨y, hy, rfl⟩ := List.mem_map.mp hx
    have ck := List.all_eq_true.mp goodC_ok y hy
    refine ⟨good_case hc ck, ?_⟩
    have nm : ∀ k, k < 3 → NameOk (rowAt ks k) := fun k hk => h2.all _ (rowAt_mem (by omega))
    have hy : y = (true, 0, [0, 1], true) ∨ y = (false, 1, [0, 2], true) := by
      rcases List.mem_cons.mp hy with h | h
      · exact .inl h
      · exact .inr (List.mem_singleton.mp h)
    obtain rfl | rfl := hy
    · refine ⟨plS_tup (k := 1) (show 3 ≤ 4 by decide) fun d hd => ?_, (by decide : plS 4 2 (.tup [.int 0, .int 1]) = true)⟩
      rcases List.mem_cons.mp hd with rfl | hd
      · exact (by decide +kernel : plS 4 1 (.str (Str.ofString "wins")) = true)
      rcases List.mem_cons.mp hd with rfl | hd
      · exact cs_short hc
      · rw [List.mem_singleton.mp hd]; exact nm_short (nm 0 (by decide))
    · refine ⟨plS_tup (k := 1) (show 3 ≤ 4 by decide) fun d hd => ?_, plS_tup (k := 1) (show 2 ≤ 4 by decide) fun d hd => ?_⟩
      · rcases List.mem_cons.mp hd with rfl | hd
        · exact (by decide +kernel : plS 4 1 (.str (Str.ofString "loses")) = true)
        rcases List.mem_cons.mp hd with rfl | hd
        · exact cs_short hc
        · rw [List.mem_singleton.mp hd]; exact nm_short (nm 1 (by decide))
      · rcases List.mem_cons.mp hd with rfl | hd
        · exact nm_short (nm 0 (by decide))
        · rw [List.mem_singleton.mp hd]; exact nm_short (nm 2 (by decide))
theorem goods_len (ls ks : List (List Nat)) : (goods ls ks).length = 9 := rfl
def spGoods : Spc where
  ty := Unit
  args := fun _ => [.purse]
  ok := fun _ => True
  rel := fun _ d => ∃ ls ks, d = .lst ((goods ls ks).map goodD) ∧ NamesOk ls ∧ NamesOk ks ∧ ls.length = 3 ∧ ks.length = 3
theorem smallR_D : D.tup [.str "+-.", .str ".+-"] = .tup (nameD smallR) := by
  show D.tup [D.str (Str.ofString "+-."), D.str (Str.ofString ".+-")] = D.tup [D.str (tx [43, 45, 46]), D.str (tx [46, 43, 45])]
  rw [show Str.ofString "+-." = tx [43, 45, 46] by decide +kernel, show Str.ofString ".+-" = tx [46, 43, 45] by decide +kernel]
theorem wideR_D : D.tup [.str "++-"] = .tup (nameD wideR) := by
  show D.tup [D.str (Str.ofString "++-")] = D.tup [D.str (tx [43, 43, 45])]
  rw [show Str.ofString "++-" = tx [43, 43, 45] by decide +kernel]
theorem badR_D : D.tup [.str "+-.", .str "-+."] = .tup (nameD badR) := by
  show D.tup [D.str (Str.ofString "+-."), D.str (Str.ofString "-+.")] = D.tup [D.str (tx [43, 45, 46]), D.str (tx [45, 43, 46])]
  rw [show Str.ofString "+-." = tx [43, 45, 46] by decide +kernel, show Str.ofString "-+." = tx [45, 43, 46] by decide +kernel]
theorem otherR_D : D.tup [.str "+--", .str ".+-"] = .tup (nameD otherR) := by
  show D.tup [D.str (Str.ofString "+--"), D.str (Str.ofString ".+-")] = D.tup [D.str (tx [43, 45, 45]), D.str (tx [46, 43, 45])]
  rw [show Str.ofString "+--" = tx [43, 45, 45] by decide +kernel, show Str.ofString ".+-" = tx [46, 43, 45] by decide +kernel]
def gF0 (ls : List (List Nat)) : List D := [.tup [.tup [.str "fits", bkS ls smallR], .tup [.int 0, .int 1, .int 2]], .tup [.tup [.str "quarrels", bkS ls badR], .tup [.int 0, .int 1]], .tup [.tup [.str "follows", bkS ls smallR, .str "+.-"], .tup [.int 0, .int 1]]]
def gF1 (ls : List (List Nat)) : List D := gF0 ls ++ [.tup [.tup [.str "above", bkS ls smallR, .int 0, .int 1], .tup [.int 0]], .tup [.tup [.str "open", bkS ls wideR, .str "+.-"], .tup [.tup [.int 0, .int 2, .int 1], .tup [.int 1, .int 2, .int 0]]]]
def gF2 (ls : List (List Nat)) : List D := gF1 ls ++ [.tup [.tup [.str "count", bkS ls wideR, .int 4], .non], .tup [.tup [.str "alike", bkS ls smallR, bkS ls otherR], .non]]
theorem goods_eq (ls : List (List Nat)) (a b c : List Nat) : gF2 ls ++ [D.tup [.tup [.str "wins", .str (tx (caseTx [a, b, c] msW)), .str (tx a)], .tup [.int 0, .int 1]]] ++ [D.tup [.tup [.str "loses", .str (tx (caseTx [a, b, c] msW)), .str (tx b)], .tup [.str (tx a), .str (tx c)]]] = (goods ls [a, b, c]).map goodD := rfl
end K61

namespace K61
open PySem PySem.Spec PyProof.Rows L2 Dw
theorem d__law_goods {P : Program} {w : World} {K : PySem.W.Frag} {mg : Str → Option Value} {base : Heap} (T : Txt K w mg) : FnOk P w K mg base CX0 3 T.f__law_goods T.e__law_goods ["_law_pail"] (toSp (spGoods)) := by
  refine fn_ok T.F__law_goods sc__law_goods (fun _ => rfl) fun cdv A outer s' H E hr => ?_
  refine ⟨_, (pss_cons (ps_par (i := 1) (j := 2) (by rfl) sc__law_goods.nd rfl rfl (by decide) rfl rfl (pa_cons (pe_call (d__law_words T) (hr.mono (by decide)) (by rfl) T.m__law_words T.F__law_words.kp T.b__law_words .nil pass0 (pa_cons (pv 0) (pa_cons pe_int pa_nil))) (pa_cons (pe_call (d__law_words T) (hr.mono (by decide)) (by rfl) T.m__law_words T.F__law_words.kp T.b__law_words .nil pass0 (pa_cons (pv 0) (pa_cons pe_int pa_nil))) pa_nil)) (by rfl)) (pss_cons (ps_par (i := 3) (j := 4) (by rfl) sc__law_goods.nd rfl rfl (by decide) rfl rfl (pa_cons (pe_call (d__law_said T) (hr.mono (by decide)) (by rfl) T.m__law_said T.F__law_said.kp T.b__law_said .nil pass0 (pa_cons (pv 1) (pa_cons (pe_tup (pa_cons pe_str (pa_cons pe_str pa_nil))) pa_nil))) (pa_cons (pe_call (d__law_said T) (hr.mono (by decide)) (by rfl) T.m__law_said T.F__law_said.kp T.b__law_said .nil pass0 (pa_cons (pv 1) (pa_cons (pe_tup (pa_cons pe_str pa_nil)) pa_nil))) pa_nil)) (by rfl)) (pss_cons (ps_par (i := 5) (j := 6) (by rfl) sc__law_goods.nd rfl rfl (by decide) rfl rfl (pa_cons (pe_call (d__law_said T) (hr.mono (by decide)) (by rfl) T.m__law_said T.F__law_said.kp T.b__law_said .nil pass0 (pa_cons (pv 1) (pa_cons (pe_tup (pa_cons pe_str (pa_cons pe_str pa_nil))) pa_nil))) (pa_cons (pe_call (d__law_said T) (hr.mono (by decide)) (by rfl) T.m__law_said T.F__law_said.kp T.b__law_said .nil pass0 (pa_cons (pv 1) (pa_cons (pe_tup (pa_cons pe_str (pa_cons pe_str pa_nil))) pa_nil))) pa_nil)) (by rfl)) (pss_cons (ps_set (i := 7) sc__law_goods.nd rfl (Or.inl rfl) (pe_op (plusE K) (pe_op (plusE K) (pe_op (plusE K) (pe_op (plusE K) (pe_op (plusE K) (pe_ix (ixA K) (pv 2) pe_int (fun _ _ => rfl)) pe_str) (pe_ix (ixA K) (pv 2) pe_int (fun _ _ => rfl))) pe_str) (pe_ix (ixA K) (pv 2) pe_int (fun _ _ => rfl))) pe_str)) (pss_cons (ps_set (i := 8) sc__law_goods.nd rfl (Or.inl rfl) (pe_lst (pa_cons (pe_tup (pa_cons (pe_tup (pa_cons pe_str (pa_cons (pv 3) pa_nil))) (pa_cons (pe_tup (pa_cons pe_int (pa_cons pe_int (pa_cons pe_int pa_nil)))) pa_nil))) (pa_cons (pe_tup (pa_cons (pe_tup (pa_cons pe_str (pa_cons (pv 5) pa_nil))) (pa_cons (pe_tup (pa_cons pe_int (pa_cons pe_int pa_nil))) pa_nil))) (pa_cons (pe_tup (pa_cons (pe_tup (pa_cons pe_str (pa_cons (pv 3) (pa_cons pe_str pa_nil)))) (pa_cons (pe_tup (pa_cons pe_int (pa_cons pe_int pa_nil))) pa_nil))) pa_nil))))) (pss_cons (ps_set (i := 8) sc__law_goods.nd rfl (Or.inl rfl) (pe_op (plusE K) (pv 8) (pe_lst (pa_cons (pe_tup (pa_cons (pe_tup (pa_cons pe_str (pa_cons (pv 3) (pa_cons pe_int (pa_cons pe_int pa_nil))))) (pa_cons (pe_tup (pa_cons pe_int pa_nil)) pa_nil))) (pa_cons (pe_tup (pa_cons (pe_tup (pa_cons pe_str (pa_cons (pv 4) (pa_cons pe_str pa_nil)))) (pa_cons (pe_tup (pa_cons (pe_tup (pa_cons pe_int (pa_cons pe_int (pa_cons pe_int pa_nil)))) (pa_cons (pe_tup (pa_cons pe_int (pa_cons pe_int (pa_cons pe_int pa_nil)))) pa_nil))) pa_nil))) pa_nil))))) (pss_cons (ps_set (i := 8) sc__law_goods.nd rfl (Or.inl rfl) (pe_op (plusE K) (pv 8) (pe_lst (pa_cons (pe_tup (pa_cons (pe_tup (pa_cons pe_str (pa_cons (pv 4) (pa_cons pe_int pa_nil)))) (pa_cons pe_non pa_nil))) (pa_cons (pe_tup (pa_cons (pe_tup (pa_cons pe_str (pa_cons (pv 3) (pa_cons (pv 6) pa_nil)))) (pa_cons pe_non pa_nil))) pa_nil))))) (pss_cons (ps_expr (bmA K PySem.F.plainAttrs_list PySem.F.slot_list_append PySem.F.type_list_append mt_append (pv 8) (pa_cons (pe_tup (pa_cons (pe_tup (pa_cons pe_str (pa_cons (pv 7) (pa_cons (pe_ix (ixA K) (pv 2) pe_int (fun _ _ => rfl)) pa_nil)))) (pa_cons (pe_tup (pa_cons pe_int (pa_cons pe_int pa_nil))) pa_nil))) pa_nil))) (pss_one (ps_ret (pe_op (plusE K) (pv 8) (pe_lst (pa_cons (pe_tup (pa_cons (pe_tup (pa_cons pe_str (pa_cons (pv 7) (pa_cons (pe_ix (ixA K) (pv 2) pe_int (fun _ _ => rfl)) pa_nil)))) (pa_cons (pe_tup (pa_cons (pe_ix (ixA K) (pv 2) pe_int (fun _ _ => rfl)) (pa_cons (pe_ix (ixA K) (pv 2) pe_int (fun _ _ => rfl)) pa_nil))) pa_nil))) pa_nil))))))))))))), fun x hx => ?_⟩
  refine ds_seq (ds_par (dla_cons (dl_call (s := spWords) (dla_cons (Ev.dl (ev_var rfl) (dla_cons (Ev.dl ev_int (dla_nil ⟨(3 : Nat), rfl, ⟨by decide, by decide⟩, fun d hd => ?_⟩))))))))
  obtain ⟨ls, rfl, hls, h3⟩ := hd
  have h3 : ls.length = 3 := h3
  refine dla_cons (dl_call (s := spWords) (dla_cons (Ev.dl (ev_var rfl) (dla_cons (Ev.dl ev_int (dla_nil ⟨(3 : Nat), rfl, ⟨by decide, by decide⟩, fun d hd => ?_⟩))))))
  obtain ⟨ks, rfl, hks, h4⟩ := hd
  have h4 : ks.length = 3 := h4
  obtain ⟨a, b, c, rfl⟩ : ∃ a b c, ks = [a, b, c] := by
    match ks, h4 with
    | [a, b, c], _ => exact ⟨a, b, c, rfl⟩
  have la : a.length ≤ 8 := (hks.all a (by simp)).hi
  have lb : b.length ≤ 8 := (hks.all b (by simp)).hi
  have lc : c.length ≤ 8 := (hks.all c (by simp)).hi
  refine dla_nil ⟨_, _, rfl, ?_⟩
  refine ds_seq (ds_par (dla_cons (Ev.dl (ev_call (s := spSaid) (x := (ls, smallR)) (eva_cons (ev_var rfl) (eva_cons (ev_cast smallR_D (ev_tup (eva_cons ev_str (eva_cons ev_str eva_nil)) (small (show 2 ≤ 100000 by decide)))) eva_nil)) (np_tn (np_tn (r := []) rfl)) (book_three hls h3 (show rowsB smallR 3 = true by decide)) fun d h => h) (dla_cons (Ev.dl (ev_call (s := spSaid) (x := (ls, wideR)) (eva_cons (ev_var rfl) (eva_cons (ev_cast wideR_D (ev_tup (eva_cons ev_str eva_nil) (small (show 1 ≤ 100000 by decide)))) eva_nil)) (np_tn (np_tn (r := []) rfl)) (book_three hls h3 (show rowsB wideR 3 = true by decide)) fun d h => h) (dla_nil ⟨bkS ls smallR, bkS ls wideR, rfl, ?_⟩))))))
  refine ds_seq (ds_par (dla_cons (Ev.dl (ev_call (s := spSaid) (x := (ls, badR)) (eva_cons (ev_var rfl) (eva_cons (ev_cast badR_D (ev_tup (eva_cons ev_str (eva_cons ev_str eva_nil)) (small (show 2 ≤ 100000 by decide)))) eva_nil)) (np_tn (np_tn (r := []) rfl)) (book_three hls h3 (show rowsB badR 3 = true by decide)) fun d h => h) (dla_cons (Ev.dl (ev_call (s := spSaid) (x := (ls, otherR)) (eva_cons (ev_var rfl) (eva_cons (ev_cast otherR_D (ev_tup (eva_cons ev_str (eva_cons ev_str eva_nil)) (small (show 2 ≤ 100000 by decide)))) eva_nil)) (np_tn (np_tn (r := []) rfl)) (book_three hls h3 (show rowsB otherR 3 = true by decide)) fun d h => h) (dla_nil ⟨bkS ls badR, bkS ls otherR, rfl, ?_⟩))))))
  show Ds _ [.val .purse, .val (.tup (nameD ls)), .val (.tup (nameD [a, b, c])), .val (bkS ls smallR), .val (bkS ls wideR), .val (bkS ls badR), .val (bkS ls otherR), .unset, .unset] _
  refine ds_seq (ds_asg (Ev.dl (ev_cast (congrArg D.str (text_three a b c)) (ev_op (ev_op (ev_op (ev_op (ev_op (ev_ixT (d := .str (tx a)) (ds := nameD [a, b, c]) (ev_var rfl) ev_int (atI_nat (j := 0) rfl)) ev_str (pl_str ?_)) (ev_ixT (d := .str (tx b)) (ds := nameD [a, b, c]) (ev_var rfl) ev_int (atI_nat (j := 1) rfl)) (pl_str ?_)) ev_str (pl_str ?_)) (ev_ixT (d := .str (tx c)) (ds := nameD [a, b, c]) (ev_var rfl) ev_int (atI_nat (j := 2) rfl)) (pl_str ?_)) ev_str (pl_str ?_))) ?_))
  · rw [tx_len, show (Str.ofString " 0 2; ").length = 6 by decide +kernel]; exact small (by omega)
  · rw [show Str.ofString " 0 2; " = tx [32, 48, 32, 50, 59, 32] by decide +kernel, tx_append, tx_len, tx_len, List.length_append]; exact small (by show _ + 6 + _ ≤ _; omega)
  · rw [show Str.ofString " 0 2; " = tx [32, 48, 32, 50, 59, 32] by decide +kernel, tx_append, tx_append, tx_len, List.length_append, List.length_append, show (Str.ofString " 1 1; ").length = 6 by decide +kernel]; exact small (by show _ + 6 + _ + 6 ≤ _; omega)
  · rw [show Str.ofString " 0 2; " = tx [32, 48, 32, 50, 59, 32] by decide +kernel, show Str.ofString " 1 1; " = tx [32, 49, 32, 49, 59, 32] by decide +kernel, tx_append, tx_append, tx_append, tx_len, tx_len, List.length_append, List.length_append, List.length_append]; exact small (by show _ + 6 + _ + 6 + _ ≤ _; omega)
  · rw [show Str.ofString " 0 2; " = tx [32, 48, 32, 50, 59, 32] by decide +kernel, show Str.ofString " 1 1; " = tx [32, 49, 32, 49, 59, 32] by decide +kernel, tx_append, tx_append, tx_append, tx_append, tx_len, List.length_append, List.length_append, List.length_append, List.length_append, show (Str.ofString " 2 0").length = 4 by decide +kernel]; exact small (by show _ + 6 + _ + 6 + _ + 4 ≤ _; omega)
  refine ds_seq (ds_asg (Ev.dl (ev_cast (d' := .lst (gF0 ls)) rfl (EvN.ev ((evn_lst (eva_cons (ev_tup (eva_cons (ev_tup (eva_cons ev_str (eva_cons (ev_var rfl) eva_nil)) (small (show 2 ≤ 100000 by decide))) (eva_cons (ev_tup (eva_cons ev_int (eva_cons ev_int (eva_cons ev_int eva_nil))) (small (show 3 ≤ 100000 by decide))) eva_nil)) (small (show 2 ≤ 100000 by decide))) (eva_cons (ev_tup (eva_cons (ev_tup (eva_cons ev_str (eva_cons (ev_var rfl) eva_nil)) (small (show 2 ≤ 100000 by decide))) (eva_cons (ev_tup (eva_cons ev_int (eva_cons ev_int eva_nil)) (small (show 2 ≤ 100000 by decide))) eva_nil)) (small (show 2 ≤ 100000 by decide))) (eva_cons (ev_tup (eva_cons (ev_tup (eva_cons ev_str (eva_cons (ev_var rfl) (eva_cons ev_str eva_nil))) (small (show 3 ≤ 100000 by decide))) (eva_cons (ev_tup (eva_cons ev_int (eva_cons ev_int eva_nil)) (small (show 2 ≤ 100000 by decide))) eva_nil)) (small (show 2 ≤ 100000 by decide))) eva_nil))) (small (show 3 ≤ 100000 by decide)))))) ?_))
  show Ds _ [.val .purse, .val (.tup (nameD ls)), .val (.tup (nameD [a, b, c])), .val (bkS ls smallR), .val (bkS ls wideR), .val (bkS ls badR), .val (bkS ls otherR), .val (.str (tx (caseTx [a, b, c] msW))), .val (.lst (gF0 ls))] _
  refine ds_seq (ds_asg (Ev.dl (ev_cast (d' := .lst (gF1 ls)) rfl (EvN.ev (pl_evn (ds := gF0 ls) (Ev.b (ev_var rfl)) (EvN.b (evn_lst (eva_cons (ev_tup (eva_cons (ev_tup (eva_cons ev_str (eva_cons (ev_var rfl) (eva_cons ev_int (eva_cons ev_int eva_nil)))) (small (show 4 ≤ 100000 by decide))) (eva_cons (ev_tup (eva_cons ev_int eva_nil) (small (show 1 ≤ 100000 by decide))) eva_nil)) (small (show 2 ≤ 100000 by decide))) (eva_cons (ev_tup (eva_cons (ev_tup (eva_cons ev_str (eva_cons (ev_var rfl) (eva_cons ev_str eva_nil))) (small (show 3 ≤ 100000 by decide))) (eva_cons (ev_tup (eva_cons (ev_tup (eva_cons ev_int (eva_cons ev_int (eva_cons ev_int eva_nil))) (small (show 3 ≤ 100000 by decide))) (eva_cons (ev_tup (eva_cons ev_int (eva_cons ev_int (eva_cons ev_int eva_nil))) (small (show 3 ≤ 100000 by decide))) eva_nil)) (small (show 2 ≤ 100000 by decide))) eva_nil)) (small (show 2 ≤ 100000 by decide))) eva_nil)) (small (show 2 ≤ 100000 by decide)))) (by exact small (show 3 + 2 ≤ 100000 by decide))))) ?_))
  show Ds _ [.val .purse, .val (.tup (nameD ls)), .val (.tup (nameD [a, b, c])), .val (bkS ls smallR), .val (bkS ls wideR), .val (bkS ls badR), .val (bkS ls otherR), .val (.str (tx (caseTx [a, b, c] msW))), .val (.lst (gF1 ls))] _
  refine ds_seq (ds_asg_own (ds := gF2 ls) (pl_evn (ds := gF1 ls) (Ev.b (ev_var rfl)) (EvN.b (evn_lst (eva_cons (ev_tup (eva_cons (ev_tup (eva_cons ev_str (eva_cons (ev_var rfl) (eva_cons ev_int eva_nil))) (small (show 3 ≤ 100000 by decide))) (eva_cons ev_non eva_nil)) (small (show 2 ≤ 100000 by decide))) (eva_cons (ev_tup (eva_cons (ev_tup (eva_cons ev_str (eva_cons (ev_var rfl) (eva_cons (ev_var rfl) eva_nil))) (small (show 3 ≤ 100000 by decide))) (eva_cons ev_non eva_nil)) (small (show 2 ≤ 100000 by decide))) eva_nil)) (small (show 2 ≤ 100000 by decide)))) (by exact small (show 5 + 2 ≤ 100000 by decide))) ?_)
  show Ds _ [.val .purse, .val (.tup (nameD ls)), .val (.tup (nameD [a, b, c])), .val (bkS ls smallR), .val (bkS ls wideR), .val (bkS ls badR), .val (bkS ls otherR), .val (.str (tx (caseTx [a, b, c] msW))), .own (gF2 ls)] _
  refine ds_seq (ds_drop (dl_append ⟨_, rfl⟩ (dla_cons (Ev.dl (ev_cast (d' := D.tup [.tup [.str "wins", .str (tx (caseTx [a, b, c] msW)), .str (tx a)], .tup [.int 0, .int 1]]) rfl (ev_tup (eva_cons (ev_tup (eva_cons ev_str (eva_cons (ev_var rfl) (eva_cons (ev_ixT (d := .str (tx a)) (ds := nameD [a, b, c]) (ev_var rfl) ev_int (atI_nat (j := 0) rfl)) eva_nil))) (small (show 3 ≤ 100000 by decide))) (eva_cons (ev_tup (eva_cons ev_int (eva_cons ev_int eva_nil)) (small (show 2 ≤ 100000 by decide))) eva_nil)) (small (show 2 ≤ 100000 by decide)))) (dla_nil ⟨_, gF2 ls, rfl, rfl, small (show 8 ≤ 100000 by decide), ?_⟩)))))
  show Ds _ [.val .purse, .val (.tup (nameD ls)), .val (.tup (nameD [a, b, c])), .val (bkS ls smallR), .val (bkS ls wideR), .val (bkS ls badR), .val (bkS ls otherR), .val (.str (tx (caseTx [a, b, c] msW))), .own (gF2 ls ++ [D.tup [.tup [.str "wins", .str (tx (caseTx [a, b, c] msW)), .str (tx a)], .tup [.int 0, .int 1]]])] _
  exact ds_ret (Ev.dl (EvN.ev (pl_evn (ds := gF2 ls ++ [D.tup [.tup [.str "wins", .str (tx (caseTx [a, b, c] msW)), .str (tx a)], .tup [.int 0, .int 1]]]) (evb_own rfl) (EvN.b (evn_lst (eva_cons (ev_tup (eva_cons (ev_tup (eva_cons ev_str (eva_cons (ev_var rfl) (eva_cons (ev_ixT (d := .str (tx b)) (ds := nameD [a, b, c]) (ev_var rfl) ev_int (atI_nat (j := 1) rfl)) eva_nil))) (small (show 3 ≤ 100000 by decide))) (eva_cons (ev_tup (eva_cons (ev_ixT (d := .str (tx a)) (ds := nameD [a, b, c]) (ev_var rfl) ev_int (atI_nat (j := 0) rfl)) (eva_cons (ev_ixT (d := .str (tx c)) (ds := nameD [a, b, c]) (ev_var rfl) ev_int (atI_nat (j := 2) rfl)) eva_nil)) (small (show 2 ≤ 100000 by decide))) eva_nil)) (small (show 2 ≤ 100000 by decide))) eva_nil) (small (show 1 ≤ 100000 by decide)))) (by exact small (show 8 + 1 ≤ 100000 by decide)))) ⟨ls, [a, b, c], congrArg D.lst (goods_eq ls a b c), hls, hks, h3, h4⟩)

end K61

namespace K61
open PySem PySem.Spec PyProof.Rows L2 Dw
/-! what is right nowhere -/
def spRight : Spc where
  ty := Unit
  args := fun _ => [.purse]
  ok := fun _ => True
  rel := fun _ d => d = .bl true
theorem ds_via {t : TS} {Γ : Gam} {De : DE} (P : Gam → Prop) (h : Ds t Γ { De with nx := P }) (hq : ∀ Γ', P Γ' → De.nx Γ') : Ds t Γ De := fun F σ W Dr g l => h F σ W Dr g ⟨fun σ1 W1 Γ1 s g1 q => l.nx σ1 W1 Γ1 s g1 (hq Γ1 q), l.rt, l.bk, l.ct⟩
def oddL : List D := [.bl true, .dct [] [], .lst [], .str "X", .tup [.lst []], .tup [.dct [] []], .lst [.str "a"], .str " ", .lst [.int 1, .int 2], .bl false, .dct [Sum.inr "a"] [.int 1], .tup [.bl true], .int (-1), .str "+ "]
def menuW : List D := [.non, .int 5, .str "", .str "Fits", .str "fits ", .tup [.str "fits"], .bl true, .lst [], .dct [] [], .str "counts", .str "sure", .str "never"]
def wA (ds : List D) : List D := [.lst ds, .tup (ds ++ [.non]), .tup (Dw.cutD ds none (some (-1))), .tup (ds ++ [.int 1]), .tup [.tup ds], .tup (ds.drop 1)]
def putL (ds : List D) (k : Nat) (o : D) : List D := ds.take k ++ [o] ++ ds.drop (k + 1)
def WrongP (ds : List D) (q : D) : Prop := q ∈ wA ds ∨ (∃ m ∈ menuW, q = .tup ([m] ++ ds.drop 1)) ∨ ∃ k o, k + 1 < ds.length ∧ o ∈ oddL ∧ q = .tup (putL ds (k + 1) o)
def BadP (p q : D) : Prop := q ∈ oddL ∨ ∃ ps, p = .tup ps ∧ (q = .lst ps ∨ (∃ o ∈ oddL, q = .tup (ps ++ [o])) ∨ ∃ k o, k < ps.length ∧ o ∈ oddL ∧ q = .tup (putL ps k o))
def badL (p : D) : List D := oddL ++ match p with
  | .tup ps => (.lst ps :: oddL.map fun o => .tup (ps ++ [o])) ++ ((List.range ps.length).flatMap fun k => oddL.map fun o => .tup (putL ps k o))
  | _ => []
theorem bad_mem {p q : D} (h : BadP p q) : q ∈ badL p := by
  unfold badL
  rcases h with h | ⟨ps, rfl, h⟩
  · exact List.mem_append_left _ h
  · refine List.mem_append_right _ ?_
    show q ∈ (.lst ps :: oddL.map fun o => .tup (ps ++ [o])) ++ ((List.range ps.length).flatMap fun k => oddL.map fun o => .tup (putL ps k o))
    rcases h with rfl | ⟨o, ho, rfl⟩ | ⟨k, o, hk, ho, rfl⟩
    · exact List.mem_append_left _ List.mem_cons_self
    · exact List.mem_append_left _ (List.mem_cons_of_mem _ (List.mem_map.mpr ⟨o, ho, rfl⟩))
    · exact List.mem_append_right _ (List.mem_flatMap.mpr ⟨k, List.mem_range.mpr hk, List.mem_map.mpr ⟨o, ho, rfl⟩⟩)
def tupOf : D → List D | .tup ds => ds | _ => []
structure RightP (x : ItmT) : Prop where
  good : GoodI x
  tru : x.2.2 = true
  short : ShortI x
  bad : ∀ q, BadP x.2.1 q → accU x.1 q = false
  wr : ∀ q, WrongP (tupOf x.1) q → accU q x.2.1 = false
  tup : ∃ ds, x.1 = .tup ds ∧ 2 ≤ ds.length ∧ ds.length ≤ 4
  pap : ∀ ps, x.2.1 = .tup ps → 0 < ps.length ∧ ps.length ≤ 4
theorem odd_short : ∀ o ∈ oddL, plS 2 2 o = true := List.all_eq_true.mp (by decide +kernel)
theorem menuW_short : ∀ o ∈ menuW, plS 2 2 o = true := List.all_eq_true.mp (by decide +kernel)
theorem odd_bk : ∀ o ∈ oddL, bookOf o = none := fun o ho => by
  have h : oddL.all (fun o => (bookOf o).isNone) = true := by decide +kernel
  exact Option.isNone_iff_eq_none.mp (List.all_eq_true.mp h o ho)
theorem odd_cs : ∀ o ∈ oddL, caseOf o = none := fun o ho => by
  have h : oddL.all (fun o => (caseOf o).isNone) = true := by decide +kernel
  exact Option.isNone_iff_eq_none.mp (List.all_eq_true.mp h o ho)
theorem odd_nm : ∀ o ∈ oddL, nmB o = false := fun o ho => by
  have h : oddL.all (fun o => !nmB o) = true := by decide +kernel
  simpa using List.all_eq_true.mp h o ho
theorem odd_no {o : D} (h : o ∈ oddL) (p : D) : accU o p = false := by
  have h : o ∈ [.bl true, .dct [] [], .lst [], .str "X", .tup [.lst []], .tup [.dct [] []], .lst [.str "a"], .str " ", .lst [.int 1, .int 2], .bl false, .dct [Sum.inr "a"] [.int 1], .tup [.bl true], .int (-1), .str "+ "] := h
  simp only [List.mem_cons, List.not_mem_nil, or_false] at h
  rcases h with rfl | rfl | rfl | rfl | rfl | rfl | rfl | rfl | rfl | rfl | rfl | rfl | rfl | rfl <;> rfl
theorem putL_short {ds : List D} {k : Nat} {o : D} (h1 : ds.length ≤ 5) (hk : k < ds.length) (h : ∀ d ∈ ds, plS 4 1 d = true) (ho : o ∈ oddL) : plS 6 3 (.tup (putL ds k o)) = true := by
  refine plS_tup (k := 2) (by unfold putL; rw [List.length_append, List.length_append, List.length_take, List.length_drop]; show _ + 1 + _ ≤ 6; omega) fun d hd => ?_
  unfold putL at hd
  rcases List.mem_append.mp hd with hd | hd
  · rcases List.mem_append.mp hd with hd | hd
    · exact plS_mono (by decide) 1 2 d (by decide) (h d (List.mem_of_mem_take hd))
    · rw [List.mem_singleton.mp hd]; exact plS_mono (by decide) 2 2 o (by decide) (odd_short o ho)
  · exact plS_mono (by decide) 1 2 d (by decide) (h d (List.mem_of_mem_drop hd))
theorem app_short {ds : List D} {o : D} (h1 : ds.length ≤ 5) (h : ∀ d ∈ ds, plS 4 2 d = true) (ho : plS 2 2 o = true) : plS 6 3 (.tup (ds ++ [o])) = true := by
  refine plS_tup (k := 2) (by rw [List.length_append]; show _ + 1 ≤ 6; omega) fun d hd => ?_
  rcases List.mem_append.mp hd with hd | hd
  · exact plS_mono (by decide) 2 2 d (by decide) (h d hd)
  · rw [List.mem_singleton.mp hd]; exact plS_mono (by decide) 2 2 o (by decide) ho
theorem all_up {ds : List D} (h : ∀ d ∈ ds, plS 4 1 d = true) : ∀ d ∈ ds, plS 4 2 d = true := fun d hd => plS_mono (by decide) 1 2 d (by decide) (h d hd)
theorem sub_short {ds es : List D} (h1 : es.length ≤ 6) (h : ∀ d ∈ ds, plS 4 1 d = true) (hs : ∀ d ∈ es, d ∈ ds) : plS 6 3 (.tup es) = true :=
  plS_tup (k := 2) h1 fun d hd => plS_mono (by decide) 1 2 d (by decide) (h d (hs d hd))
theorem cutD_mem {ds : List D} {lo hi : Option Int} : ∀ d ∈ Dw.cutD ds lo hi, d ∈ ds := fun d hd => List.mem_of_mem_drop (List.mem_of_mem_take hd)
theorem cutD_le (ds : List D) (lo hi : Option Int) : (Dw.cutD ds lo hi).length ≤ ds.length := by
  unfold Dw.cutD
  rw [List.length_take, List.length_drop]
  omega
theorem wrong_short {ds : List D} {q : D} (h : plS 4 2 (.tup ds) = true) (hw : WrongP ds q) : plS 6 3 q = true := by
  obtain ⟨m, em, hl, he⟩ := plS_of_tup h
  obtain rfl : m = 1 := by omega
  have hl : ds.length ≤ 4 := hl
  rcases hw with hw | ⟨m, hm, rfl⟩ | ⟨k, o, hk, ho, rfl⟩
  · unfold wA at hw
    simp only [List.mem_cons, List.not_mem_nil, or_false] at hw
    rcases hw with rfl | rfl | rfl | rfl | rfl | rfl
    · exact plS_lst (k := 2) (by show _ ≤ 6; omega) fun d hd => plS_mono (by decide) 1 2 d (by decide) (he d hd)
    · exact app_short (by omega) (all_up he) (by decide)
    · exact sub_short (by have := cutD_le ds none (some (-1)); omega) he cutD_mem
    · exact app_short (by omega) (all_up he) (by decide)
    · exact plS_tup (k := 2) (show 1 ≤ 6 by decide) fun d hd => by rw [List.mem_singleton.mp hd]; exact plS_mono (by decide) 2 2 _ (by decide) h
    · exact sub_short (by rw [List.length_drop]; omega) he fun d hd => List.mem_of_mem_drop hd
  · refine plS_tup (k := 2) (by rw [List.length_append, List.length_drop]; show 1 + _ ≤ 6; omega) fun d hd => ?_
    rcases List.mem_append.mp hd with hd | hd
    · rw [List.mem_singleton.mp hd]; exact plS_mono (by decide) 2 2 m (by decide) (menuW_short m hm)
    · exact plS_mono (by decide) 1 2 d (by decide) (he d (List.mem_of_mem_drop hd))
  · exact putL_short (by omega) (by omega) he ho
theorem putL_short2 {ds : List D} {k : Nat} {o : D} (h1 : ds.length ≤ 5) (hk : k < ds.length) (h : ∀ d ∈ ds, plS 4 2 d = true) (ho : o ∈ oddL) : plS 6 3 (.tup (putL ds k o)) = true := by
  refine plS_tup (k := 2) (by unfold putL; rw [List.length_append, List.length_append, List.length_take, List.length_drop]; show _ + 1 + _ ≤ 6; omega) fun d hd => ?_
  unfold putL at hd
  rcases List.mem_append.mp hd with hd | hd
  · rcases List.mem_append.mp hd with hd | hd
    · exact plS_mono (by decide) 2 2 d (by decide) (h d (List.mem_of_mem_take hd))
    · rw [List.mem_singleton.mp hd]; exact plS_mono (by decide) 2 2 o (by decide) (odd_short o ho)
  · exact plS_mono (by decide) 2 2 d (by decide) (h d (List.mem_of_mem_drop hd))
theorem bad_short {p q : D} (h : plS 4 2 p = true) (hb : BadP p q) : plS 6 3 q = true := by
  rcases hb with ho | ⟨ps, rfl, hb⟩
  · exact plS_mono (by decide) 2 3 q (by decide) (odd_short q ho)
  obtain ⟨m, em, hl, he⟩ := plS_of_tup h
  have he : ∀ d ∈ ps, plS 4 2 d = true := fun d hd => plS_mono (by decide) m 2 d (by omega) (he d hd)
  rcases hb with rfl | ⟨o, ho, rfl⟩ | ⟨k, o, hk, ho, rfl⟩
  · exact plS_lst (k := 2) (by show _ ≤ 6; omega) fun d hd => plS_mono (by decide) 2 2 d (by decide) (he d hd)
  · exact app_short (by omega) he (odd_short o ho)
  · exact putL_short2 (by omega) hk he ho
/-! a claim of a wrong form -/
theorem words9_colon : ∀ w ∈ words9, 58 ∉ w.cps.toList ∧ 59 ∉ w.cps.toList := by decide +kernel
theorem bk_word (ls rs : List (List Nat)) : tx (bookTx ls rs) ∉ words9 := fun h => by
  refine (words9_colon _ h).1 ?_
  rw [tx_cps]
  unfold bookTx
  rw [joinL_cons]
  simp
theorem cs_word (a b c : List Nat) : tx (caseTx [a, b, c] msW) ∉ words9 := fun h => by
  refine (words9_colon _ h).2 ?_
  rw [tx_cps]
  show 59 ∈ partT (a, [0, 2]) ++ ([59, 32] ++ TL.joinL [59, 32] [partT (b, [1, 1]), partT (c, [2, 0])])
  simp
theorem wrong_no {w T : Str} {ps : List D} {p : D} (hT : T ∉ words9) (few : ps.length ≤ 2)
    (hsz : ∀ es : List D, es.length ≠ ps.length → accU (.tup (.str w :: .str T :: es)) p = false)
    (h1 : ∀ o ∈ oddL, accU (.tup (.str w :: o :: ps)) p = false)
    (h2 : ∀ k o, k < ps.length → o ∈ oddL → accU (.tup (.str w :: .str T :: putL ps k o)) p = false) :
    ∀ q, WrongP (.str w :: .str T :: ps) q → accU q p = false := fun q hq => by
  rcases hq with hw | ⟨m, hm, rfl⟩ | ⟨k, o, hk, ho, rfl⟩
  · unfold wA at hw
    simp only [List.mem_cons, List.not_mem_nil, or_false] at hw
    rcases hw with rfl | rfl | rfl | rfl | rfl | rfl
    · rfl
    · exact hsz (ps ++ [.non]) (by rw [List.length_append]; show _ + 1 ≠ _; omega)
    · match ps, few with
      | [], _ =>
        rw [show Dw.cutD [.str w, .str T] none (some (-1)) = [.str w] from rfl]; rfl
      | [a], _ =>
        rw [show Dw.cutD [.str w, .str T, a] none (some (-1)) = [.str w, .str T] from rfl]
        exact hsz [] (by simp)
      | [a, b], _ =>
        rw [show Dw.cutD [.str w, .str T, a, b] none (some (-1)) = [.str w, .str T, a] from rfl]
        exact hsz [a] (by simp)
    · exact hsz (ps ++ [.int 1]) (by rw [List.length_append]; show _ + 1 ≠ _; omega)
    · rfl
    · match ps with
      | [] => rfl
      | a :: r => exact accU_word hT a r p
  · have hm : m ∈ [.non, .int 5, .str "", .str "Fits", .str "fits ", .tup [.str "fits"], .bl true, .lst [], .dct [] [], .str "counts", .str "sure", .str "never"] := hm
    simp only [List.mem_cons, List.not_mem_nil, or_false] at hm
    rcases hm with rfl | rfl | rfl | rfl | rfl | rfl | rfl | rfl | rfl | rfl | rfl | rfl
    · rfl
    · rfl
    · exact accU_word (by decide +kernel) (.str T) ps p
    · exact accU_word (by decide +kernel) (.str T) ps p
    · exact accU_word (by decide +kernel) (.str T) ps p
    · rfl
    · rfl
    · rfl
    · rfl
    · exact accU_word (by decide +kernel) (.str T) ps p
    · exact accU_word (by decide +kernel) (.str T) ps p
    · exact accU_word (by decide +kernel) (.str T) ps p
  · match k with
    | 0 => exact h1 o ho
    | k + 1 => exact h2 k o (by have : k + 1 + 1 < ps.length + 1 + 1 := hk; omega) ho
def isAlk : Cw → Bool | .alike _ => true | _ => false
theorem accT_E {c : Cw} {ls rs : List (List Nat)} {p : D} (h : isAlk c = false) : accT c ls rs p = accE c rs ls.length p := by
  rw [← acc_E]
  cases c <;> first | rfl | exact nomatch h
def badB (y : BkI) : Bool := (badL y.2.2.1).all fun q => !accE y.1 y.2.1 3 q
def partsB (y : BkI) : Bool := (List.range y.1.parts.length).all fun k => oddL.all fun o => match cwOf y.1.word (putL y.1.parts k o) with
  | some c => !isAlk c && !accE c y.2.1 3 y.2.2.1
  | none => true
theorem goodB_bad : goodB.all badB = true := by decide +kernel
theorem goodB_parts : goodB.all partsB = true := by decide +kernel
def papB (p : D) : Bool := match p with | .tup ps => decide (0 < ps.length) && decide (ps.length ≤ 4) | _ => true
theorem papB_ok {p : D} (h : papB p = true) : ∀ ps, p = .tup ps → 0 < ps.length ∧ ps.length ≤ 4 := fun ps e => by
  subst e
  have h : (decide (0 < ps.length) && decide (ps.length ≤ 4)) = true := h
  rw [Bool.and_eq_true, decide_eq_true_eq, decide_eq_true_eq] at h
  exact h
theorem goodB_more : goodB.all (fun y => y.2.2.2 && (papB y.2.2.1 && !isAlk y.1)) = true := by decide +kernel
theorem accO_none {c : Cw} {p : D} : accO c p none = false := rfl
theorem right_book {ls : List (List Nat)} (h1 : NamesOk ls) (l1 : ls.length = 3) {y : BkI} (hy : y ∈ goodB) (hg : GoodI (itemB ls y)) (hs : ShortI (itemB ls y)) : RightP (itemB ls y) := by
  have ck := List.all_eq_true.mp goodB_ok y hy
  unfold checkB at ck
  rw [Bool.and_eq_true, Bool.and_eq_true, Bool.and_eq_true, Bool.and_eq_true] at ck
  obtain ⟨r1, r2⟩ := rowsB_ok ck.1.1.2
  have hb : BookOk ls y.2.1 := ⟨h1, r1, by rw [l1]; exact r2⟩
  have hm := List.all_eq_true.mp goodB_more y hy
  rw [Bool.and_eq_true, Bool.and_eq_true] at hm
  have hk : isAlk y.1 = false := by simpa using hm.2.2
  have few := cw_few y.1
  refine ⟨hg, hm.1, hs, fun q hq => ?_, ?_, ⟨_, rfl, by show 2 ≤ y.1.parts.length + 1 + 1; omega, by show y.1.parts.length + 1 + 1 ≤ 4; omega⟩, papB_ok hm.2.1⟩
  · have := List.all_eq_true.mp (List.all_eq_true.mp goodB_bad y hy) q (bad_mem hq)
    refine (accU_cw y.1 _ q).trans ?_
    rw [accG_bk hb, accT_E hk, l1]
    simpa using this
  · refine wrong_no (bk_word ls y.2.1) few (fun es he => accU_size he) (fun o ho => ?_) fun k o hk2 ho => ?_
    · refine (accU_cw y.1 o _).trans ?_
      unfold accG
      rw [odd_bk o ho]; rfl
    · have hp := List.all_eq_true.mp (List.all_eq_true.mp (List.all_eq_true.mp goodB_parts y hy) k (List.mem_range.mpr hk2)) o ho
      show (match cwOf y.1.word (putL y.1.parts k o) with | some c => accG c (.str (tx (bookTx ls y.2.1))) (itemB ls y).2.1 | none => match winOf y.1.word (putL y.1.parts k o) with | some x => accK x.1 (.str (tx (bookTx ls y.2.1))) x.2 (itemB ls y).2.1 | none => false) = false
      cases e : cwOf y.1.word (putL y.1.parts k o) with
      | some c =>
        rw [e] at hp
        have hp : (!isAlk c && !accE c y.2.1 3 y.2.2.1) = true := hp
        rw [Bool.and_eq_true] at hp
        show accG c (.str (tx (bookTx ls y.2.1))) y.2.2.1 = false
        rw [accG_bk hb, accT_E (by simpa using hp.1), l1]
        simpa using hp.2
      | none =>
        cases e2 : winOf y.1.word (putL y.1.parts k o) with
        | none => rfl
        | some x => exact absurd (winOf_some e2).1 (word_not y.1 x.1)
theorem odd_non : ∀ o ∈ oddL, isNonB o = false := fun o ho => by
  have h : oddL.all (fun o => !isNonB o) = true := by decide +kernel
  simpa using List.all_eq_true.mp h o ho
theorem right_alike {ls : List (List Nat)} (h1 : NamesOk ls) (l1 : ls.length = 3) {y : AlI} (hy : y ∈ goodA) (hg : GoodI (itemA ls y)) (hs : ShortI (itemA ls y)) : RightP (itemA ls y) := by
  obtain rfl := List.mem_singleton.mp hy
  have b1 : BookOk ls smallR := book_three h1 l1 (by decide)
  refine ⟨hg, rfl, hs, fun q hq => ?_, ?_, ⟨_, rfl, (show 2 ≤ 3 by decide), (show 3 ≤ 4 by decide)⟩, fun ps e => nomatch e⟩
  · have hq : BadP .non q := hq
    rcases hq with ho | ⟨ps, e, _⟩
    · refine (accU_cw (.alike (.str (tx (bookTx ls otherR)))) (.str (tx (bookTx ls smallR))) q).trans ?_
      rw [accG_bk b1]
      show (isNonB q && _) = false
      rw [odd_non q ho]; rfl
    · exact nomatch e
  · refine wrong_no (w := "alike") (ps := [.str (tx (bookTx ls otherR))]) (bk_word ls smallR) (show 1 ≤ 2 by decide) (fun es he => accU_size (c := .alike .non) he) (fun o ho => ?_) fun k o hk2 ho => ?_
    · refine (accU_cw (.alike (.str (tx (bookTx ls otherR)))) o .non).trans ?_
      unfold accG
      rw [odd_bk o ho]; rfl
    · obtain rfl : k = 0 := by have : k < 1 := hk2; omega
      refine (accU_cw (.alike o) (.str (tx (bookTx ls smallR))) .non).trans ?_
      rw [accG_bk b1]
      show (true && alkP ls smallR (bookOf o)) = false
      rw [odd_bk o ho]; rfl
theorem acc_case {ls ms : List (List Nat)} {n i : Nat} {b : Bool} {q : D} (hc : CaseOk ls ms n) (hi : i < ls.length) : accU (.tup [.str (wdB b), .str (tx (caseTx ls ms)), .str (tx (rowAt ls i))]) q = accX b (osM ls i) (rwM ms i) n q := by
  refine (accU_wd b _ _ _).trans ?_
  unfold accK
  rw [caseOf_tx hc]
  exact accN_at hc.names.pw hi
theorem odd_name {b : Bool} {ls ms : List (List Nat)} {n : Nat} (hn : NamesOk ls) {o p : D} (ho : o ∈ oddL) : accN b ls ms n o p = false := by
  cases hs : isStrB o with
  | false => exact accN_no hs
  | true =>
    have h : oddL.all (fun o => match o with | .str x => x.cps.toList.any fun c => decide (c < 97) | _ => true) = true := by decide +kernel
    have h := List.all_eq_true.mp h o ho
    obtain ⟨x, rfl⟩ := str_of hs
    have h : (x.cps.toList.any fun c => decide (c < 97)) = true := h
    rw [List.any_eq_true] at h
    obtain ⟨c, hc, hlt⟩ := h
    have hlt := of_decide_eq_true hlt
    show (decide (x.cps.toList ∈ ls) && _) = false
    rw [decide_eq_false fun hm => ?_]
    · rfl
    · have := (hn.all _ hm).all c hc
      omega
theorem los_bad {os rs : List (List Nat)} {n : Nat} {ds : List D} (h : ∃ d ∈ ds, nmB d = false) : losB os rs n (.tup ds) = false := by
  refine losB_nn ?_
  unfold namesB
  obtain ⟨d, hd, e⟩ := h
  have : ds.all nmB = false := by
    cases hq : ds.all nmB with
    | false => rfl
    | true => exact absurd (List.all_eq_true.mp hq d hd) (by rw [e]; exact Bool.false_ne_true)
  rw [this]; rfl
theorem putL_mem {ds : List D} {k : Nat} {o : D} : o ∈ putL ds k o := by unfold putL; simp
theorem los_odd {os rs : List (List Nat)} {n : Nat} {p q : D} (h : BadP p q) : losB os rs n q = false := by
  rcases h with ho | ⟨ps, rfl, rfl | ⟨o, ho, rfl⟩ | ⟨k, o, hk, ho, rfl⟩⟩
  · have h : oddL.all (fun o => match o with | .tup es => es.any fun e => !nmB e | _ => true) = true := by decide +kernel
    have h := List.all_eq_true.mp h q ho
    cases q <;> first | rfl | skip
    rename_i es
    have h : (es.any fun e => !nmB e) = true := h
    rw [List.any_eq_true] at h
    obtain ⟨d, hd, e⟩ := h
    exact los_bad ⟨d, hd, by simpa using e⟩
  · rfl
  · exact los_bad ⟨o, by simp, odd_nm o ho⟩
  · exact los_bad ⟨o, putL_mem, odd_nm o ho⟩
theorem winP_bad : (badL (.tup [.int 0, .int 1])).all (fun q => !fitE q (rwM msW 0) 2) = true := by decide +kernel
theorem right_case {a b c : List Nat} (h2 : NamesOk [a, b, c]) {y : CsI} (hy : y ∈ goodC) (hg : GoodI (itemC [a, b, c] msW y)) (hs : ShortI (itemC [a, b, c] msW y)) : RightP (itemC [a, b, c] msW y) := by
  have hc : CaseOk [a, b, c] msW 2 := case_of h2 (show 2 ≤ 3 by decide) rfl (by decide) (by decide) (by decide)
  have wr : ∀ (b2 : Bool) (nm : D) (p : D) (q : D), WrongP [.str (wdB b2), .str (tx (caseTx [a, b, c] msW)), nm] q → accU q p = false := fun b2 nm p => by
    refine wrong_no (ps := [nm]) (cs_word a b c) (show 1 ≤ 2 by decide) (fun es he => accU_size2 he) (fun o ho => ?_) fun k o hk2 ho => ?_
    · refine (accU_wd b2 o nm p).trans ?_
      unfold accK
      rw [odd_cs o ho]
    · obtain rfl : k = 0 := by have : k < 1 := hk2; omega
      refine (accU_wd b2 (.str (tx (caseTx [a, b, c] msW))) o p).trans ?_
      unfold accK
      rw [caseOf_tx hc]
      exact odd_name h2 ho
  have hy : y = (true, 0, [0, 1], true) ∨ y = (false, 1, [0, 2], true) := by
    rcases List.mem_cons.mp hy with h | h
    · exact .inl h
    · exact .inr (List.mem_singleton.mp h)
  obtain rfl | rfl := hy
  · refine ⟨hg, rfl, hs, fun q hq => ?_, wr true _ _, ⟨_, rfl, (show 2 ≤ 3 by decide), (show 3 ≤ 4 by decide)⟩, papB_ok (p := .tup [.int 0, .int 1]) rfl⟩
    refine (acc_case (b := true) (i := 0) hc (show 0 < 3 by decide)).trans ?_
    have hq : BadP (.tup [.int 0, .int 1]) q := hq
    have := List.all_eq_true.mp winP_bad q (bad_mem hq)
    show fitB q _ _ = false
    rw [fit_E]
    simpa using this
  · refine ⟨hg, rfl, hs, fun q hq => ?_, wr false _ _, ⟨_, rfl, (show 2 ≤ 3 by decide), (show 3 ≤ 4 by decide)⟩, papB_ok (p := .tup (nameD [a, c])) rfl⟩
    refine (acc_case (b := false) (i := 1) hc (show 1 < 3 by decide)).trans ?_
    exact los_odd hq
theorem goods_right {ls ks : List (List Nat)} (h1 : NamesOk ls) (h2 : NamesOk ks) (l1 : ls.length = 3) (l2 : ks.length = 3) : ∀ x ∈ goods ls ks, RightP x := fun x hx => by
  obtain ⟨hg, hs⟩ := goods_ok h1 h2 l1 l2 x hx
  obtain ⟨a, b, c, rfl⟩ : ∃ a b c, ks = [a, b, c] := by
    match ks, l2 with
    | [a, b, c], _ => exact ⟨a, b, c, rfl⟩
  unfold goods at hx
  rw [List.mem_append, List.mem_append] at hx
  rcases hx with (hx | hx) | hx
  · obtain ⟨y, hy, rfl⟩ := List.mem_map.mp hx
    exact right_book h1 l1 hy hg hs
  · obtain ⟨y, hy, rfl⟩ := List.mem_map.mp hx
    exact right_alike h1 l1 hy hg hs
  · obtain ⟨y, hy, rfl⟩ := List.mem_map.mp hx
    exact right_case h2 hy hg hs
def spOdd : Spc where
  ty := Unit
  args := fun _ => [.purse]
  ok := fun _ => True
  rel := fun _ d => d ∈ oddL
def spWrong : Spc where
  ty := List D
  args := fun ds => [.purse, .tup ds]
  ok := fun ds => 2 ≤ ds.length ∧ ds.length ≤ 10
  rel := fun ds d => WrongP ds d
end K61

namespace K61
open PySem PySem.Spec PyProof.Rows L2 Dw
theorem d__law_odd {P : Program} {w : World} {K : PySem.W.Frag} {mg : Str → Option Value} {base : Heap} (T : Txt K w mg) : FnOk P w K mg base CX0 3 T.f__law_odd T.e__law_odd ["_law_pail"] (toSp (spOdd)) := by
  refine fn_ok T.F__law_odd sc__law_odd (fun _ => rfl) fun cdv A outer s' H E hr => ?_
  refine ⟨_, (pss_one (ps_ret (pe_call (d__law_any_of T) (hr.mono (by decide)) (by rfl) T.m__law_any_of T.F__law_any_of.kp T.b__law_any_of .nil pass0 (pa_cons (pv 0) (pa_cons (pe_lst (pa_cons pe_bl (pa_cons pe_dnewK (pa_cons (pe_lst pa_nil) (pa_cons pe_str (pa_cons (pe_tup (pa_cons (pe_lst pa_nil) pa_nil)) (pa_cons (pe_tup (pa_cons pe_dnewK pa_nil)) (pa_cons (pe_lst (pa_cons pe_str pa_nil)) (pa_cons pe_str (pa_cons (pe_lst (pa_cons pe_int (pa_cons pe_int pa_nil))) (pa_cons pe_bl (pa_cons (pe_disp (pps_cons pe_str pe_int pps_nil) (by rfl) (by rfl) (fun z => by cases z) (by decide)) (pa_cons (pe_tup (pa_cons pe_bl pa_nil)) (pa_cons (pe_un un_neg pe_int) (pa_cons pe_str pa_nil))))))))))))))) pa_nil))))), fun x hx => ?_⟩
  exact ds_ret (dl_call (s := spAnyOf) (dla_cons (Ev.dl (ev_var rfl) (dla_cons (Ev.dl (EvN.ev (evn_lst (ds := oddL) (eva_cons ev_bl (eva_cons ev_dnew (eva_cons (evn_lst eva_nil (Nat.zero_le _)).ev (eva_cons ev_str (eva_cons (ev_tup (eva_cons (evn_lst eva_nil (Nat.zero_le _)).ev eva_nil) (small (show 1 ≤ 100000 by decide))) (eva_cons (ev_tup (eva_cons ev_dnew eva_nil) (small (show 1 ≤ 100000 by decide))) (eva_cons (evn_lst (eva_cons ev_str eva_nil) (small (show 1 ≤ 100000 by decide))).ev (eva_cons ev_str (eva_cons (evn_lst (eva_cons ev_int (eva_cons ev_int eva_nil)) (small (show 2 ≤ 100000 by decide))).ev (eva_cons ev_bl (eva_cons ev_disp1 (eva_cons (ev_tup (eva_cons ev_bl eva_nil) (small (show 1 ≤ 100000 by decide))) (eva_cons (ev_neg ev_int) (eva_cons ev_str eva_nil)))))))))))))) (small (show 14 ≤ 100000 by decide)))) (dla_nil ⟨(true, oddL), rfl, ⟨(show 0 < 14 by decide), (show 14 < 100000 by decide)⟩, fun d hd => hd⟩))))))
end K61

namespace K61
open PySem PySem.Spec PyProof.Rows L2 Dw
theorem d__law_wrong {P : Program} {w : World} {K : PySem.W.Frag} {mg : Str → Option Value} {base : Heap} (T : Txt K w mg) : FnOk P w K mg base CX0 4 T.f__law_wrong T.e__law_wrong ["_law_pail", "_law_claim_here"] (toSp (spWrong)) := by
  refine fn_ok T.F__law_wrong sc__law_wrong (fun _ => rfl) fun cdv A outer s' H E hr => ?_
  refine ⟨_, (pss_cons (ps_set (i := 2) sc__law_wrong.nd rfl (Or.inl rfl) (pe_call (d__law_cast T) (hr.mono (by decide)) (by rfl) T.m__law_cast T.F__law_cast.kp T.b__law_cast .nil pass0 (pa_cons (pv 0) (pa_cons pe_int pa_nil)))) (pss_cons (ps_if (pt_cmpR (eqA K hr.units) (pv 2) pe_int (nomark _)) (pss_cons (ps_set (i := 3) sc__law_wrong.nd rfl (Or.inl rfl) (pe_lst (pa_cons (pe_callTy (listA K) (by rfl) T.n_list (by decide +kernel) (pa_cons (pv 1) pa_nil)) (pa_cons (pe_op (plusE K) (pv 1) (pe_tup (pa_cons pe_non pa_nil))) (pa_cons (pe_slice (slXA K) (pv 1) po_none (po_some (pe_un un_neg pe_int))) (pa_cons (pe_op (plusE K) (pv 1) (pe_tup (pa_cons pe_int pa_nil))) (pa_cons (pe_tup (pa_cons (pv 1) pa_nil)) pa_nil))))))) (pss_one (ps_ret (pe_call (d__law_any_of T) (hr.mono (by decide)) (by rfl) T.m__law_any_of T.F__law_any_of.kp T.b__law_any_of .nil pass0 (pa_cons (pv 0) (pa_cons (pe_op (plusE K) (pv 3) (pe_lst (pa_cons (pe_slice (slXA K) (pv 1) (po_some pe_int) po_none) pa_nil))) pa_nil)))))) pss_nil) (pss_cons (ps_if (pt_cmpR (eqA K hr.units) (pv 2) pe_int (nomark _)) (pss_cons (ps_set (i := 3) sc__law_wrong.nd rfl (Or.inl rfl) (pe_lst (pa_cons pe_non (pa_cons pe_int (pa_cons pe_str (pa_cons pe_str (pa_cons pe_str (pa_cons (pe_tup (pa_cons pe_str pa_nil)) (pa_cons pe_bl (pa_cons (pe_lst pa_nil) (pa_cons pe_dnewK (pa_cons pe_str (pa_cons pe_str (pa_cons pe_str pa_nil)))))))))))))) (pss_one (ps_ret (pe_op (plusE K) (pe_tup (pa_cons (pe_call (d__law_any_of T) (hr.mono (by decide)) (by rfl) T.m__law_any_of T.F__law_any_of.kp T.b__law_any_of .nil pass0 (pa_cons (pv 0) (pa_cons (pv 3) pa_nil))) pa_nil)) (pe_slice (slXA K) (pv 1) (po_some pe_int) po_none))))) pss_nil) (pss_cons (ps_set (i := 4) sc__law_wrong.nd rfl (Or.inl rfl) (pe_op (plusE K) pe_int (pe_call (d__law_cast T) (hr.mono (by decide)) (by rfl) T.m__law_cast T.F__law_cast.kp T.b__law_cast .nil pass0 (pa_cons (pv 0) (pa_cons (pe_op op_sub (pe_callB (lenA K) (by rfl) T.n_len (by decide +kernel) (pa_cons (pv 1) pa_nil)) pe_int) pa_nil))))) (pss_one (ps_ret (pe_op (plusE K) (pe_op (plusE K) (pe_slice (slXA K) (pv 1) po_none (po_some (pv 4))) (pe_tup (pa_cons (pe_call (d__law_odd T) (hr.mono (by decide)) (by rfl) T.m__law_odd T.F__law_odd.kp T.b__law_odd .nil pass0 (pa_cons (pv 0) pa_nil)) pa_nil))) (pe_slice (slXA K) (pv 1) (po_some (pe_op (plusE K) (pv 4) pe_int)) po_none)))))))), fun x hx => ?_⟩
  obtain ⟨ds, rfl⟩ : ∃ l : List D, l = x := ⟨x, rfl⟩
  obtain ⟨h2, h10⟩ := hx
  have h2 : 2 ≤ ds.length := h2
  have h10 : ds.length ≤ 10 := h10
  refine ds_seq (ds_asg (dl_call (s := spDraw) (dla_cons (Ev.dl (ev_var rfl) (dla_cons (Ev.dl ev_int (dla_nil ⟨(3 : Nat), rfl, ⟨by decide, by decide⟩, fun d hd => ?_⟩)))))))
  obtain ⟨way, hw, rfl⟩ := hd
  refine ds_seq (ds_if (EvT.dl (evt_test (ev_op (ev_var rfl) ev_int eq_int')) ⟨fun _ => ?_, fun _ => ds_next ?_⟩))
  · refine ds_seq (ds_asg (Ev.dl (EvN.ev (evn_lst (ds := [.lst ds, .tup (ds ++ [.non]), .tup (Dw.cutD ds none (some (-1))), .tup (ds ++ [.int 1]), .tup [.tup ds]]) (eva_cons (EvN.ev (evn_listT (ds := ds) (ev_var rfl))) (eva_cons (ev_op (ev_var rfl) (ev_tup (eva_cons ev_non eva_nil) (small (show 1 ≤ 100000 by decide))) (pl_tup (small (show ds.length + 1 ≤ 100000 by omega)))) (eva_cons (ev_sliceTY (ev_var rfl) eo_none (eo_some (ev_neg ev_int))) (eva_cons (ev_op (ev_var rfl) (ev_tup (eva_cons ev_int eva_nil) (small (show 1 ≤ 100000 by decide))) (pl_tup (small (show ds.length + 1 ≤ 100000 by omega)))) (eva_cons (ev_tup (eva_cons (ev_var rfl) eva_nil) (small (show 1 ≤ 100000 by decide))) eva_nil))))) (small (show 5 ≤ 100000 by decide)))) ?_))
    exact ds_ret (dl_call (s := spAnyOf) (dla_cons (Ev.dl (ev_var rfl) (dla_cons (Ev.dl (EvN.ev (pl_evn (es := [.tup (ds.drop 1)]) (Ev.b (ev_var rfl)) (EvN.b (evn_lst (eva_cons (ev_cast (congrArg D.tup (cut_drop ds 1)) (ev_sliceTY (ev_var rfl) (eo_some ev_int) eo_none)) eva_nil) (small (show 1 ≤ 100000 by decide)))) (by exact small (show 5 + 1 ≤ 100000 by decide)))) (dla_nil ⟨(true, wA ds), rfl, ⟨(show 0 < 6 by decide), (show 6 < 100000 by decide)⟩, fun d hd => .inl hd⟩))))))
  refine ds_seq (ds_if (EvT.dl (evt_test (ev_op (ev_var rfl) ev_int eq_int')) ⟨fun _ => ?_, fun _ => ds_next ?_⟩))
  · refine ds_seq (ds_asg (Ev.dl (EvN.ev (evn_lst (ds := menuW) (eva_cons ev_non (eva_cons ev_int (eva_cons ev_str (eva_cons ev_str (eva_cons ev_str (eva_cons (ev_tup (eva_cons ev_str eva_nil) (small (show 1 ≤ 100000 by decide))) (eva_cons ev_bl (eva_cons (evn_lst eva_nil (Nat.zero_le _)).ev (eva_cons ev_dnew (eva_cons ev_str (eva_cons ev_str (eva_cons ev_str eva_nil)))))))))))) (small (show 12 ≤ 100000 by decide)))) ?_))
    refine ds_ret (dl_op (dl_tup (dla_cons (dl_call (s := spAnyOf) (dla_cons (Ev.dl (ev_var rfl) (dla_cons (Ev.dl (ev_var rfl) (dla_nil ⟨(true, menuW), rfl, ⟨(show 0 < 12 by decide), (show 12 < 100000 by decide)⟩, fun d hd => ?_⟩)))))))))
    exact dla_nil ⟨small (show 1 ≤ 100000 by decide), Ev.dl (ev_cast (congrArg D.tup (cut_drop ds 1)) (ev_sliceTY (ev_var rfl) (eo_some ev_int) eo_none)) ⟨_, pl_tup (small (by rw [List.length_drop]; show 1 + _ ≤ 100000; omega)), .inr (.inl ⟨d, hd, rfl⟩)⟩⟩
  refine ds_seq (ds_asg (dl_op (Ev.dl ev_int (dl_call (s := spDraw) (dla_cons (Ev.dl (ev_var rfl) (dla_cons (Ev.dl (ev_cast (d' := .int ((ds.length - 1 : Nat) : Int)) (congrArg D.int (by omega)) (ev_op (ev_lenT (ds := ds) (ev_var rfl)) ev_int dr2_sub)) (dla_nil ⟨(ds.length - 1 : Nat), rfl, ⟨by omega, by omega⟩, fun d hd => ?_⟩)))))))))
  obtain ⟨k, hk, rfl⟩ := hd
  refine ⟨.int ((k + 1 : Nat) : Int), ?pl, ?_⟩
  case pl =>
    have e := pl_int (K := K) (i := 1) (j := (k : Int))
    rw [show (1 : Int) + (k : Int) = ((k + 1 : Nat) : Int) by omega] at e
    exact e
  have hk : k < ds.length - 1 := hk
  generalize hj : k + 1 = j
  have htl : (ds.take j).length = j := by rw [List.length_take]; omega
  have hdl : (ds.drop (j + 1)).length = ds.length - (j + 1) := List.length_drop
  refine ds_ret (dl_op (dl_op (Ev.dl (ev_cast (congrArg D.tup (cut_take ds j)) (ev_sliceTY (ev_var rfl) eo_none (eo_some (ev_var rfl)))) (dl_tup (dla_cons (dl_call (s := spOdd) (dla_cons (Ev.dl (ev_var rfl) (dla_nil ⟨(), rfl, trivial, fun o ho => ?_⟩)))))))))
  exact dla_nil ⟨small (show 1 ≤ 100000 by decide), _, pl_tup (by rw [htl]; show j + 1 ≤ _; exact small (by omega)), Ev.dl (ev_cast (congrArg D.tup (cut_drop1 ds j)) (ev_sliceTY (ev_var rfl) (eo_some (ev_op (ev_var rfl) ev_int pl_int)) eo_none)) ⟨_, pl_tup (by rw [List.length_append, htl, hdl]; show j + 1 + _ ≤ _; exact small (by omega)), .inr (.inr ⟨k, o, by omega, ho, by rw [hj]; rfl⟩)⟩⟩
end K61

namespace K61
open PySem PySem.Spec PyProof.Rows L2 Dw
theorem d__law_right {P : Program} {w : World} {K : PySem.W.Frag} {mg : Str → Option Value} {base : Heap} (T : Txt K w mg) : FnOk P w K mg base CX0 10 T.f__law_right T.e__law_right ["_law_pail"] (toSp (spRight)) := by
  refine fn_ok T.F__law_right sc__law_right (fun _ => rfl) fun cdv A outer s' H E hr => ?_
  refine ⟨_, (pss_cons (ps_set (i := 1) sc__law_right.nd rfl (Or.inl rfl) (pe_call (d__law_goods T) (hr.mono (by decide)) (by rfl) T.m__law_goods T.F__law_goods.kp T.b__law_goods .nil pass0 (pa_cons (pv 0) pa_nil))) (pss_cons (ps_for PassesOwn.never rfl (piR K (pv 1)) (tupA K 2 rfl (pgs_cons (pg_name (i := 2) sc__law_right.nd rfl (Or.inl rfl)) (pgs_cons (pg_name (i := 3) sc__law_right.nd rfl (Or.inl rfl)) pgs_nil))) (pss_cons (ps_if (pt_cmpR (neA K hr.units) (pe_call (d__law_told T) (hr.mono (by decide)) (by rfl) T.m__law_told T.F__law_told.kp T.b__law_told .nil pass0 (pa_cons (pv 2) (pa_cons (pv 3) pa_nil))) (pe_lst (pa_cons pe_bl (pa_cons pe_bl pa_nil))) (nomark _)) (pss_one (ps_ret pe_bl)) pss_nil) (pss_cons (ps_for PassesOwn.never rfl (pi_range1 (by rfl) T.n_range (pa_cons pe_int pa_nil)) (pg_name (i := 4) sc__law_right.nd rfl (Or.inl rfl)) (pss_cons (ps_par (i := 5) (j := 6) (by rfl) sc__law_right.nd rfl rfl (by decide) rfl rfl (pa_cons (pe_call (d__law_odd T) (hr.mono (by decide)) (by rfl) T.m__law_odd T.F__law_odd.kp T.b__law_odd .nil pass0 (pa_cons (pv 0) pa_nil)) (pa_cons (pe_call (d__law_wrong T) (hr.mono (by decide)) (by rfl) T.m__law_wrong T.F__law_wrong.kp T.b__law_wrong .nil pass0 (pa_cons (pv 0) (pa_cons (pv 2) pa_nil))) pa_nil)) (by rfl)) (pss_cons (ps_if (PW.pt (pw_or (pt_cmpR op_notBl (pe_call (d_accepts T) (hr.mono (by decide)) (by rfl) T.m_accepts T.F_accepts.kp T.b_accepts .nil pass0 (pa_cons (pv 6) (pa_cons (pv 3) pa_nil))) pe_bl (nomark _)) (pw_or1 (pt_cmpR op_notBl (pe_call (d_accepts T) (hr.mono (by decide)) (by rfl) T.m_accepts T.F_accepts.kp T.b_accepts .nil pass0 (pa_cons (pv 2) (pa_cons (pv 5) pa_nil))) pe_bl (nomark _))))) (pss_one (ps_ret pe_bl)) pss_nil) (pss_cons (ps_if (PW.pt (pw_or (pt_cmpR op_notBl (pe_call (d_accepts T) (hr.mono (by decide)) (by rfl) T.m_accepts T.F_accepts.kp T.b_accepts .nil pass0 (pa_cons (pv 5) (pa_cons (pv 3) pa_nil))) pe_bl (nomark _)) (pw_or1 (pt_cmpR op_notBl (pe_call (d_accepts T) (hr.mono (by decide)) (by rfl) T.m_accepts T.F_accepts.kp T.b_accepts .nil pass0 (pa_cons (pv 5) (pa_cons (pv 5) pa_nil))) pe_bl (nomark _))))) (pss_one (ps_ret pe_bl)) pss_nil) (pss_cons (ps_if (truA K (pe_callB (isiA K) (by rfl) T.n_isinstance (by decide +kernel) (pa_cons (pv 3) (pa_cons (pe_bltn (v := .ty "tuple") (by rfl) T.n_tuple (by decide +kernel) rfl) pa_nil)))) (pss_cons (ps_set (i := 7) sc__law_right.nd rfl (Or.inl rfl) (pe_call (d__law_cast T) (hr.mono (by decide)) (by rfl) T.m__law_cast T.F__law_cast.kp T.b__law_cast .nil pass0 (pa_cons (pv 0) (pa_cons (pe_callB (lenA K) (by rfl) T.n_len (by decide +kernel) (pa_cons (pv 3) pa_nil)) pa_nil)))) (pss_cons (ps_set (i := 8) sc__law_right.nd rfl (Or.inl rfl) (pe_op (plusE K) (pe_op (plusE K) (pe_slice (slXA K) (pv 3) po_none (po_some (pv 7))) (pe_tup (pa_cons (pv 5) pa_nil))) (pe_slice (slXA K) (pv 3) (po_some (pe_op (plusE K) (pv 7) pe_int)) po_none))) (pss_cons (ps_if (PW.pt (pw_or (pt_cmpR op_notBl (pe_call (d_accepts T) (hr.mono (by decide)) (by rfl) T.m_accepts T.F_accepts.kp T.b_accepts .nil pass0 (pa_cons (pv 2) (pa_cons (pv 8) pa_nil))) pe_bl (nomark _)) (pw_or1 (pt_cmpR op_notBl (pe_call (d_accepts T) (hr.mono (by decide)) (by rfl) T.m_accepts T.F_accepts.kp T.b_accepts .nil pass0 (pa_cons (pv 2) (pa_cons (pe_callTy (listA K) (by rfl) T.n_list (by decide +kernel) (pa_cons (pv 3) pa_nil)) pa_nil))) pe_bl (nomark _))))) (pss_one (ps_ret pe_bl)) pss_nil) (pss_one (ps_if (pt_cmpR op_notBl (pe_call (d_accepts T) (hr.mono (by decide)) (by rfl) T.m_accepts T.F_accepts.kp T.b_accepts .nil pass0 (pa_cons (pv 2) (pa_cons (pe_op (plusE K) (pv 3) (pe_tup (pa_cons (pv 5) pa_nil))) pa_nil))) pe_bl (nomark _)) (pss_one (ps_ret pe_bl)) pss_nil))))) pss_nil) (pss_cons (ps_set (i := 9) sc__law_right.nd rfl (Or.inl rfl) (pe_call (d__law_thing T) (hr.mono (by decide)) (by rfl) T.m__law_thing T.F__law_thing.kp T.b__law_thing .nil pass0 (pa_cons (pv 0) pa_nil))) (pss_one (ps_if (pt_cmpR (neA K hr.units) (pe_lst (pa_cons (pe_cmpR (inA K) (pe_call (d_accepts T) (hr.mono (by decide)) (by rfl) T.m_accepts T.F_accepts.kp T.b_accepts .nil pass0 (pa_cons (pv 9) (pa_cons (pv 9) pa_nil))) (pe_lst (pa_cons pe_bl (pa_cons pe_bl pa_nil))) (by rfl)) (pa_cons (pe_cmpR (inA K) (pe_call (d_accepts T) (hr.mono (by decide)) (by rfl) T.m_accepts T.F_accepts.kp T.b_accepts .nil pass0 (pa_cons (pv 2) (pa_cons (pv 9) pa_nil))) (pe_lst (pa_cons pe_bl (pa_cons pe_bl pa_nil))) (by rfl)) pa_nil))) (pe_lst (pa_cons pe_bl (pa_cons pe_bl pa_nil))) (nomark _)) (pss_one (ps_ret pe_bl)) pss_nil)))))))) (pss_one (ps_if (pt_cmpR (neA K hr.units) (pe_call (d__law_told T) (hr.mono (by decide)) (by rfl) T.m__law_told T.F__law_told.kp T.b__law_told .nil pass0 (pa_cons (pv 2) (pa_cons (pv 3) pa_nil))) (pe_lst (pa_cons pe_bl (pa_cons pe_bl pa_nil))) (nomark _)) (pss_one (ps_ret pe_bl)) pss_nil))))) (pss_one (ps_ret pe_bl)))), fun x hx => ?_⟩
  refine ds_seq (ds_asg (dl_call (s := spGoods) (dla_cons (Ev.dl (ev_var rfl) (dla_nil ⟨(), rfl, trivial, fun d hd => ?_⟩)))))
  obtain ⟨ls, ks, rfl, h1, h2, l1, l2⟩ := hd
  have gk := goods_right h1 h2 l1 l2
  have gl := goods_len ls ks
  generalize goods ls ks = gs at gk gl
  show Ds _ [.val .purse, .val (.lst (gs.map goodD)), .unset, .unset, .unset, .unset, .unset, .unset, .unset, .unset] _
  refine ds_seq (ds_for (fun xs i Γ' => xs = gs.map goodD ∧ ∃ s2 s3 s4 s5 s6 s7 s8 s9 : Sl, Γ' = [.val .purse, .val (.lst (gs.map goodD)), s2, s3, s4, s5, s6, s7, s8, s9]) (dj_list (Ev.dl (ev_var rfl) ⟨_, rfl, ⟨rfl, _, _, _, _, _, _, _, _, rfl⟩, fun i x Γ' hx' ⟨exs, s2, s3, s4, s5, s6, s7, s8, s9, e⟩ => ?_, fun Γ' ⟨exs, s2, s3, s4, s5, s6, s7, s8, s9, e⟩ => ?_⟩)))
  · subst e
    rw [exs, List.getElem?_map, Option.map_eq_some_iff] at hx'
    obtain ⟨it, hit, rfl⟩ := hx'
    have r := gk it (List.mem_of_getElem? hit)
    obtain ⟨cl, p, b⟩ := it
    have sh : plS 4 2 cl = true ∧ plS 4 2 p = true := r.short
    obtain ⟨c1, c2⟩ := plS_pv sh.1 (by decide) (by decide)
    obtain ⟨hp, _⟩ := plS_pv sh.2 (by decide) (by decide)
    have tru : accU cl p = true := r.good.2.2.2.trans r.tru
    obtain ⟨ds, ecl, l2', l4⟩ := r.tup
    have ecl : cl = .tup ds := ecl
    have rbad : ∀ q, BadP p q → accU cl q = false := r.bad
    have rwr : ∀ q, WrongP ds q → accU q p = false := fun q hq => r.wr q (by rw [show tupOf (cl, p, b).1 = ds from by rw [show (cl, p, b).1 = D.tup ds from ecl]; rfl]; exact hq)
    have rpap : ∀ ps, p = .tup ps → 0 < ps.length ∧ ps.length ≤ 4 := r.pap
    refine ⟨[2] ++ [3], _, dg_tup2 (x := cl) (y := p) dg_name dg_name, ?_⟩
    show Ds _ [.val .purse, .val (.lst (gs.map goodD)), .val (cl), .val (p), s4, s5, s6, s7, s8, s9] _
    have ete : (!PyData.eqv (py (.lst [.bl true, .bl true])) (py (.lst [.bl true, .bl true]))) = false := by decide +kernel
    refine ds_seq (ds_if (EvT.dl (b := false) (ete ▸ (evt_test (ev_op (ev_call (s := spToldU) (d := .lst [.bl true, .bl true]) (x := (cl, p)) (eva_cons (ev_var rfl) (eva_cons (ev_var rfl) eva_nil)) (np1 c1 (np1 (r := []) hp rfl)) ⟨c1, c2, hp⟩ fun d h => h.trans (by rw [tru])) (EvN.ev (evn_lst (eva_cons ev_bl (eva_cons ev_bl eva_nil)) (small (show 2 ≤ 100000 by decide)))) (ne_deep (p := .lst [.bl true, .bl true]) (q := .lst [.bl true, .bl true]) rfl rfl rfl rfl)))) ⟨fun h => (nomatch h), fun _ => ds_next ?_⟩))
    refine ds_seq (ds_for (fun xs j Γ' => ∃ s4 s5 s6 s7 s8 s9 : Sl, Γ' = [.val .purse, .val (.lst (gs.map goodD)), .val (cl), .val (p), s4, s5, s6, s7, s8, s9]) (di_range (dla_cons (Ev.dl ev_int (dla_nil ⟨(4 : Nat), rfl, by decide, ⟨_, _, _, _, _, _, rfl⟩, fun j x Γ' hx2 ⟨s4, s5, s6, s7, s8, s9, e⟩ => ?_, fun Γ' ⟨s4, s5, s6, s7, s8, s9, e⟩ => ?_⟩)))))
    · subst e
      obtain ⟨hj, rfl⟩ := rng_get hx2
      refine ⟨[4], _, dg_name, ?_⟩
      refine ds_seq (ds_par (dla_cons (dl_call (s := spOdd) (dla_cons (Ev.dl (ev_var rfl) (dla_nil ⟨(), rfl, trivial, fun o ho => ?_⟩))))))
      have ho : o ∈ oddL := ho
      refine dla_cons (dl_call (s := spWrong) (dla_cons (Ev.dl (ev_var rfl) (dla_cons (Ev.dl (ev_var rfl) (dla_nil ⟨ds, by rw [ecl]; rfl, ⟨l2', by omega⟩, fun wq hwq => ?_⟩))))))
      have hwq : WrongP ds wq := hwq
      refine dla_nil ⟨o, wq, rfl, ?_⟩
      obtain ⟨o1, o2⟩ := plS_pv (odd_short o ho) (by decide) (by decide)
      obtain ⟨w1, w2⟩ := plS_pv (wrong_short (by rw [← ecl]; exact sh.1) hwq) (by decide) (by decide)
      show Ds _ [.val .purse, .val (.lst (gs.map goodD)), .val (cl), .val (p), .val (.int (j : Int)), .val (o), .val (wq), s7, s8, s9] _
      refine ds_seq (ds_if (EvT.dl (b := false) (evt_or (a := false) (b := false) (evt_test (ev_op (ev_call (s := spAccU) (d := .bl false) (x := (wq, p)) (eva_cons (ev_var rfl) (eva_cons (ev_var rfl) eva_nil)) (np1 w1 (np1 (r := []) hp rfl)) ⟨w1, w2, hp⟩ fun d h => h.trans (congrArg D.bl (rwr wq hwq))) ev_bl (not_bl false false))) fun _ => (evt_test (ev_op (ev_call (s := spAccU) (d := .bl false) (x := (cl, o)) (eva_cons (ev_var rfl) (eva_cons (ev_var rfl) eva_nil)) (np1 c1 (np1 (r := []) o1 rfl)) ⟨c1, c2, o1⟩ fun d h => h.trans (congrArg D.bl (rbad o (.inl ho)))) ev_bl (not_bl false false)))) ⟨fun h => (nomatch h), fun _ => ds_next ?_⟩))
      refine ds_seq (ds_if (EvT.dl (b := false) (evt_or (a := false) (b := false) (evt_test (ev_op (ev_call (s := spAccU) (d := .bl false) (x := (o, p)) (eva_cons (ev_var rfl) (eva_cons (ev_var rfl) eva_nil)) (np1 o1 (np1 (r := []) hp rfl)) ⟨o1, o2, hp⟩ fun d h => h.trans (congrArg D.bl (odd_no ho p))) ev_bl (not_bl false false))) fun _ => (evt_test (ev_op (ev_call (s := spAccU) (d := .bl false) (x := (o, o)) (eva_cons (ev_var rfl) (eva_cons (ev_var rfl) eva_nil)) (np1 o1 (np1 (r := []) o1 rfl)) ⟨o1, o2, o1⟩ fun d h => h.trans (congrArg D.bl (odd_no ho o))) ev_bl (not_bl false false)))) ⟨fun h => (nomatch h), fun _ => ds_next ?_⟩))
      refine ds_seq (ds_via (fun Γ' => ∃ s7 s8 : Sl, Γ' = [.val .purse, .val (.lst (gs.map goodD)), .val (cl), .val (p), .val (.int (j : Int)), .val (o), .val (wq), s7, s8, s9]) ?_ fun Γ' ⟨s7, s8, e⟩ => ?_)
      · by_cases ht : isTupB p = true
        · obtain ⟨ps, rfl⟩ := tup_of ht
          obtain ⟨p0, p4⟩ := rpap ps rfl
          refine ds_if (EvT.dl (b := true) (evt_tru_bl (ev_isi (ev_var rfl) ev_raw (.inl rfl) (.ty "tuple") rfl)) ⟨fun _ => ?_, fun h => (nomatch h)⟩)
          refine ds_seq (ds_asg (dl_call (s := spDraw) (dla_cons (Ev.dl (ev_var rfl) (dla_cons (Ev.dl (ev_lenT (ds := ps) (ev_var rfl)) (dla_nil ⟨ps.length, rfl, ⟨p0, by omega⟩, fun d hd => ?_⟩)))))))
          obtain ⟨k, hk, rfl⟩ := hd
          have hk : k < ps.length := hk
          have htl : (ps.take k).length = k := by rw [List.length_take]; omega
          have hdl : (ps.drop (k + 1)).length = ps.length - (k + 1) := List.length_drop
          refine ds_seq (ds_asg (Ev.dl (ev_cast (d' := .tup (putL ps k o)) rfl (ev_op (ev_op (ev_cast (congrArg D.tup (cut_take ps k)) (ev_sliceTY (ev_var rfl) eo_none (eo_some (ev_var rfl)))) (ev_tup (eva_cons (ev_var rfl) eva_nil) (small (show 1 ≤ 100000 by decide))) (pl_tup (by rw [htl]; show k + 1 ≤ _; exact small (by omega)))) (ev_cast (congrArg D.tup (cut_drop1 ps k)) (ev_sliceTY (ev_var rfl) (eo_some (ev_op (ev_var rfl) ev_int pl_int)) eo_none)) (pl_tup (by rw [List.length_append, htl, hdl]; show k + 1 + _ ≤ _; exact small (by omega))))) ?_))
          have b1 : BadP (.tup ps) (.tup (putL ps k o)) := .inr ⟨ps, rfl, .inr (.inr ⟨k, o, hk, ho, rfl⟩)⟩
          have b2 : BadP (.tup ps) (.lst ps) := .inr ⟨ps, rfl, .inl rfl⟩
          have b3 : BadP (.tup ps) (.tup (ps ++ [o])) := .inr ⟨ps, rfl, .inr (.inl ⟨o, ho, rfl⟩)⟩
          have v1 := (plS_pv (bad_short sh.2 b1) (by decide) (by decide)).1
          have v2 := (plS_pv (bad_short sh.2 b2) (by decide) (by decide)).1
          have v3 := (plS_pv (bad_short sh.2 b3) (by decide) (by decide)).1
          show Ds _ [.val .purse, .val (.lst (gs.map goodD)), .val cl, .val (.tup ps), .val (.int (j : Int)), .val o, .val wq, .val (.int (k : Int)), .val (.tup (putL ps k o)), s9] _
          refine ds_seq (ds_if (EvT.dl (b := false) (evt_or (a := false) (b := false) (evt_test (ev_op (ev_call (s := spAccU) (d := .bl false) (x := (cl, .tup (putL ps k o))) (eva_cons (ev_var rfl) (eva_cons (ev_var rfl) eva_nil)) (np1 c1 (np1 (r := []) v1 rfl)) ⟨c1, c2, v1⟩ fun d h => h.trans (congrArg D.bl (rbad _ b1))) ev_bl (not_bl false false))) fun _ => (evt_test (ev_op (ev_call (s := spAccU) (d := .bl false) (x := (cl, .lst ps)) (eva_cons (ev_var rfl) (eva_cons (EvN.ev (evn_listT (ds := ps) (ev_var rfl))) eva_nil)) (np1 c1 (np1 (r := []) v2 rfl)) ⟨c1, c2, v2⟩ fun d h => h.trans (congrArg D.bl (rbad _ b2))) ev_bl (not_bl false false)))) ⟨fun h => (nomatch h), fun _ => ds_next ?_⟩))
          exact ds_if (EvT.dl (b := false) (evt_test (ev_op (ev_call (s := spAccU) (d := .bl false) (x := (cl, .tup (ps ++ [o]))) (eva_cons (ev_var rfl) (eva_cons (ev_op (ev_var rfl) (ev_tup (eva_cons (ev_var rfl) eva_nil) (small (show 1 ≤ 100000 by decide))) (pl_tup (small (show ps.length + 1 ≤ 100000 by omega)))) eva_nil)) (np1 c1 (np1 (r := []) v3 rfl)) ⟨c1, c2, v3⟩ fun d h => h.trans (congrArg D.bl (rbad _ b3))) ev_bl (not_bl false false))) ⟨fun h => (nomatch h), fun _ => ds_next ⟨_, _, rfl⟩⟩)
        · have ht : isTupB p = false := by simpa using ht
          have hty : hasTy p = true := plS_ty sh.2
          exact ds_if (EvT.dl (b := false) (evt_tru_bl (ev_isi (ev_var rfl) ev_raw (.inl hty) (.ty "tuple") (by rw [kit_tup hty, ht]))) ⟨fun h => (nomatch h), fun _ => ds_next ⟨_, _, rfl⟩⟩)
      subst e
      refine ds_seq (ds_asg (dl_call (s := spThingP) (dla_cons (Ev.dl (ev_var rfl) (dla_nil ⟨(), rfl, trivial, fun th hth => ?_⟩)))))
      have hth : plS 2 2 th = true := hth
      obtain ⟨t1, t2⟩ := plS_pv hth (by decide) (by decide)
      show Ds _ [.val .purse, .val (.lst (gs.map goodD)), .val (cl), .val (p), .val (.int (j : Int)), .val (o), .val (wq), s7, s8, .val (th)] _
      have inb : ∀ z : Bool, (if false = true then !inV (scV (D.bl z)) ([D.bl true, D.bl false].map scV) else inV (scV (D.bl z)) ([D.bl true, D.bl false].map scV)) = true := by decide +kernel
      refine ds_if (EvT.dl (b := false) (ete ▸ (evt_test (ev_op (EvN.ev (evn_lst (ds := [.bl true, .bl true]) (eva_cons (ev_cast (congrArg D.bl (inb (accU th th))) (ev_in (neg := false) (ev_call (s := spAccU) (x := (th, th)) (eva_cons (ev_var rfl) (eva_cons (ev_var rfl) eva_nil)) (np1 t1 (np1 (r := []) t1 rfl)) ⟨t1, t2, t1⟩ fun d h => h) (EvN.b (evn_lst (eva_cons ev_bl (eva_cons ev_bl eva_nil)) (small (show 2 ≤ 100000 by decide)))) rfl rfl)) (eva_cons (ev_cast (congrArg D.bl (inb (accU cl th))) (ev_in (neg := false) (ev_call (s := spAccU) (x := (cl, th)) (eva_cons (ev_var rfl) (eva_cons (ev_var rfl) eva_nil)) (np1 c1 (np1 (r := []) t1 rfl)) ⟨c1, c2, t1⟩ fun d h => h) (EvN.b (evn_lst (eva_cons ev_bl (eva_cons ev_bl eva_nil)) (small (show 2 ≤ 100000 by decide)))) rfl rfl)) eva_nil)) (small (show 2 ≤ 100000 by decide)))) (EvN.ev (evn_lst (eva_cons ev_bl (eva_cons ev_bl eva_nil)) (small (show 2 ≤ 100000 by decide)))) (ne_deep (p := .lst [.bl true, .bl true]) (q := .lst [.bl true, .bl true]) rfl rfl rfl rfl)))) ⟨fun h => (nomatch h), fun _ => ds_next ⟨_, _, _, _, _, _, rfl⟩⟩)
    subst e
    refine ds_if (EvT.dl (b := false) (ete ▸ (evt_test (ev_op (ev_call (s := spToldU) (d := .lst [.bl true, .bl true]) (x := (cl, p)) (eva_cons (ev_var rfl) (eva_cons (ev_var rfl) eva_nil)) (np1 c1 (np1 (r := []) hp rfl)) ⟨c1, c2, hp⟩ fun d h => h.trans (by rw [tru])) (EvN.ev (evn_lst (eva_cons ev_bl (eva_cons ev_bl eva_nil)) (small (show 2 ≤ 100000 by decide)))) (ne_deep (p := .lst [.bl true, .bl true]) (q := .lst [.bl true, .bl true]) rfl rfl rfl rfl)))) ⟨fun h => (nomatch h), fun _ => ds_next ⟨exs, _, _, _, _, _, _, _, _, rfl⟩⟩)
  · subst e
    exact ds_ret (Ev.dl ev_bl rfl)

end K61

namespace K61
open PySem PySem.Spec PyProof.Rows L2 Dw
def spLaw (K : PySem.W.Frag) : Spc where
  ty := List Int
  args := fun ns => [.scr K (ns.map V.int)]
  ok := fun ns => ns.length ≤ 63 ∧ ∀ z ∈ ns, Builtin.Int.intBits z ≤ 1048576
  rel := fun _ d => d = .bl true
end K61

namespace K61
open PySem PySem.Spec PyProof.Rows L2 Dw
theorem d_law {P : Program} {w : World} {K : PySem.W.Frag} {mg : Str → Option Value} {base : Heap} (T : Txt K w mg) : FnG P w K mg base 11 T.f_law T.e_law ["_law_script"] (spLaw K) := by
  refine fnG_ok T.F_law sc_law (fun _ => rfl) fun cdv A outer s' H E hr hG => ?_
  refine ⟨_, (pss_one (ps_ret (pe_callB (allA K) (by rfl) T.n_all (by decide +kernel) (pa_cons (pe_lc (own := [("_law_turn", 1)]) rfl sc_law.nd (pi_range1 (by rfl) T.n_range (pa_cons (pe_callB (call_max2 rfl) (by rfl) T.n_max (by decide +kernel) (pa_cons pe_int (pa_cons (pe_callB (call_min2 rfl) (by rfl) T.n_min (by decide +kernel) (pa_cons (pe_callB (lenA K) (by rfl) T.n_len (by decide +kernel) (pa_cons (pv 0) pa_nil)) (pa_cons pe_int pa_nil))) pa_nil))) pa_nil)) (blkOk_by (own := [("_law_turn", 1)]) (N := N_law) (sc := (defScope s_law)) (by decide +kernel)) (fun _ _ _ _ _ => pg_name (i := 1) sc_law.nd rfl (Or.inl rfl)) (fun _ _ _ _ _ => pts_nil) (fun _ _ _ _ _ => (pe_call (d__law_right T) (hr.mono (by decide)) (by rfl) T.m__law_right T.F__law_right.kp T.b__law_right .nil pass0 (pa_cons (pe_call (d__law_begun T) (hr.mono (by decide)) (by rfl) T.m__law_begun T.F__law_begun.kp T.b__law_begun .nil pass0 (pa_cons (pv 0) (pa_cons (pv 1) pa_nil))) pa_nil)))) pa_nil)))), fun x hx => ?_⟩
  obtain ⟨ns, rfl⟩ : ∃ l : List Int, l = x := ⟨x, rfl⟩
  obtain ⟨hn, hbit⟩ := hx
  have hn : ns.length ≤ 63 := hn
  have l0 : (ns.map V.int).length = ns.length := List.length_map ..
  have em : ∃ m : Nat, m ≤ 63 ∧ (if (if (5 : Int) < ((ns.map V.int).length : Int) then (5 : Int) else ((ns.map V.int).length : Int)) > 2 then (if (5 : Int) < ((ns.map V.int).length : Int) then (5 : Int) else ((ns.map V.int).length : Int)) else 2) = (m : Int) := by
    rw [l0]
    by_cases h : (5 : Int) < (ns.length : Int)
    · rw [if_pos h, if_pos (by decide)]; exact ⟨5, by decide, rfl⟩
    · rw [if_neg h]
      by_cases h2 : (ns.length : Int) > 2
      · rw [if_pos h2]; exact ⟨ns.length, by omega, rfl⟩
      · rw [if_neg h2]; exact ⟨2, by decide, rfl⟩
  obtain ⟨m, hm, em⟩ := em
  refine ds_ret (dl_all (dl_lc (di_range (dla_cons (Ev.dl (ev_max2 ev_int (ev_min2 (ev_lenX (ev_var rfl)) ev_int)) (dla_nil ⟨m, ?_, by omega, by rw [rng_length]; omega, fun i acc Γ' => Γ' = [.val (.scr K (ns.map V.int)), .unset] ∧ ∃ bs : List Bool, acc = bs.map D.bl ∧ bs.all id = true, ⟨rfl, [], rfl, rfl⟩, fun i x acc Γ' hx' ⟨e, bs, ea, hb⟩ => ?_, fun acc Γ' ⟨e, bs, ea, hb⟩ => ⟨bs, congrArg D.lst ea, congrArg D.bl hb⟩⟩))))))
  · rw [em]
  · subst e
    obtain ⟨hi, rfl⟩ := rng_get hx'
    refine ⟨[1], _, dg_name, fun i hi => hi, dlt_yes ⟨fun _ => dl_purse (s := spRight) (x := ()) rfl trivial (fun d h => h) (ev_var rfl) (ev_var rfl) hn (by omega) hbit ⟨rfl, bs ++ [true], ?_, ?_⟩, fun h => nomatch h⟩⟩
    · rw [ea, List.map_append]; rfl
    · rw [List.all_append, hb]; rfl

end K61

namespace K61
open PySem PySem.Spec PyProof.Rows L2 Dw
theorem kb_accepts_certificate_claim {K : PySem.W.Frag} {f : Addr} {od an : Option Addr} {sl : Array (Option Value)} {oc kV dc pm cd ct : Value} (l : K.lookup f = some ⟨oc, od, .func (PySem.W.fnOf "accepts" "accepts" (defArgs s_accepts) (defBody s_accepts) (defScope s_accepts) .none kV dc pm an cd ct), sl⟩) (c : PySem.W.codeIn K cd "accepts" = true) (k : PySem.W.keepIn K (.ref f) = true) : KBinds K (PySem.W.fnOf "accepts" "accepts" (defArgs s_accepts) (defBody s_accepts) (defScope s_accepts) .none kV dc pm an cd ct) ["claim", "certificate"] ["certificate", "claim"] (fun us ws => match us, ws with | [], [k0, k1] => [k1, k0] | _, _ => []) (fun us ws => match us, ws with | [], [k0, k1] => [k1, k0] | _, _ => []) := by
  refine ⟨fun s us ws X hl => ?_, fun {vs us zs ws} r r' => ?_⟩
  · match us, ws, hl with
    | [], [k0, k1], _ => exact .of_eq rfl
    | _ :: _, _, hl => exact absurd (show (0 : Nat) = 2 from hl) (by decide)
    | [], [], hl => exact absurd (show (0 : Nat) = 2 from hl) (by decide)
    | [], [_], hl => exact absurd (show (0 : Nat) = 2 from hl) (by decide)
    | [], _ :: _ :: _ :: _, hl => exact absurd (show (0 : Nat) = 2 from hl) (by decide)
  · match vs, us, zs, ws, r, r' with
    | _, _, _, _, .nil, .cons q0 (.cons q1 (.nil)) => exact .cons q1 (.cons q0 (.nil))
    | _, _, _, _, .cons p0 _, _ => exact .nil
    | _, _, _, _, .nil, .nil => exact .nil
    | _, _, _, _, .nil, .cons q0 (.nil) => exact .nil
    | _, _, _, _, .nil, .cons q0 (.cons q1 (.cons q2 _)) => exact .nil
theorem all_mk {l : PySem.W.OpenLaw} {w : World} {K : PySem.W.Frag} {h : Heap} {mg : Str → Option Value} {fa : Addr} (X : K.In h) (G : h.Ns mainGlobals mg) (hfa : mg "law" = some (.ref fa))
    {f_is_name : Addr} {od_is_name an_is_name : Option Addr} {sl_is_name : Array (Option Value)} {oc_is_name kV_is_name dc_is_name pm_is_name cd_is_name ct_is_name : Value}
    {f_are_names : Addr} {od_are_names an_are_names : Option Addr} {sl_are_names : Array (Option Value)} {oc_are_names kV_are_names dc_are_names pm_are_names cd_are_names ct_are_names : Value}
    {f_is_number : Addr} {od_is_number an_is_number : Option Addr} {sl_is_number : Array (Option Value)} {oc_is_number kV_is_number dc_is_number pm_is_number cd_is_number ct_is_number : Value}
    {f_is_any_row : Addr} {od_is_any_row an_is_any_row : Option Addr} {sl_is_any_row : Array (Option Value)} {oc_is_any_row kV_is_any_row dc_is_any_row pm_is_any_row cd_is_any_row ct_is_any_row : Value}
    {f_is_row : Addr} {od_is_row an_is_row : Option Addr} {sl_is_row : Array (Option Value)} {oc_is_row kV_is_row dc_is_row pm_is_row cd_is_row ct_is_row : Value}
    {f_is_whole : Addr} {od_is_whole an_is_whole : Option Addr} {sl_is_whole : Array (Option Value)} {oc_is_whole kV_is_whole dc_is_whole pm_is_whole cd_is_whole ct_is_whole : Value}
    {f_is_index : Addr} {od_is_index an_is_index : Option Addr} {sl_is_index : Array (Option Value)} {oc_is_index kV_is_index dc_is_index pm_is_index cd_is_index ct_is_index : Value}
    {f_is_pair : Addr} {od_is_pair an_is_pair : Option Addr} {sl_is_pair : Array (Option Value)} {oc_is_pair kV_is_pair dc_is_pair pm_is_pair cd_is_pair ct_is_pair : Value}
    {f_wrong_in_lot : Addr} {od_wrong_in_lot an_wrong_in_lot : Option Addr} {sl_wrong_in_lot : Array (Option Value)} {oc_wrong_in_lot kV_wrong_in_lot dc_wrong_in_lot pm_wrong_in_lot cd_wrong_in_lot ct_wrong_in_lot : Value}
    {f_is_lot : Addr} {od_is_lot an_is_lot : Option Addr} {sl_is_lot : Array (Option Value)} {oc_is_lot kV_is_lot dc_is_lot pm_is_lot cd_is_lot ct_is_lot : Value}
    {f_is_ranking : Addr} {od_is_ranking an_is_ranking : Option Addr} {sl_is_ranking : Array (Option Value)} {oc_is_ranking kV_is_ranking dc_is_ranking pm_is_ranking cd_is_ranking ct_is_ranking : Value}
    {f_read_book : Addr} {od_read_book an_read_book : Option Addr} {sl_read_book : Array (Option Value)} {oc_read_book kV_read_book dc_read_book pm_read_book cd_read_book ct_read_book : Value}
    {f_read_mark : Addr} {od_read_mark an_read_mark : Option Addr} {sl_read_mark : Array (Option Value)} {oc_read_mark kV_read_mark dc_read_mark pm_read_mark cd_read_mark ct_read_mark : Value}
    {f_read_candidates : Addr} {od_read_candidates an_read_candidates : Option Addr} {sl_read_candidates : Array (Option Value)} {oc_read_candidates kV_read_candidates dc_read_candidates pm_read_candidates cd_read_candidates ct_read_candidates : Value}
    {f_read_case : Addr} {od_read_case an_read_case : Option Addr} {sl_read_case : Array (Option Value)} {oc_read_case kV_read_case dc_read_case pm_read_case cd_read_case ct_read_case : Value}
    {f_row_holds : Addr} {od_row_holds an_row_holds : Option Addr} {sl_row_holds : Array (Option Value)} {oc_row_holds kV_row_holds dc_row_holds pm_row_holds cd_row_holds ct_row_holds : Value}
    {f_all_hold : Addr} {od_all_hold an_all_hold : Option Addr} {sl_all_hold : Array (Option Value)} {oc_all_hold kV_all_hold dc_all_hold pm_all_hold cd_all_hold ct_all_hold : Value}
    {f_turned : Addr} {od_turned an_turned : Option Addr} {sl_turned : Array (Option Value)} {oc_turned kV_turned dc_turned pm_turned cd_turned ct_turned : Value}
    {f_row_of_pair : Addr} {od_row_of_pair an_row_of_pair : Option Addr} {sl_row_of_pair : Array (Option Value)} {oc_row_of_pair kV_row_of_pair dc_row_of_pair pm_row_of_pair cd_row_of_pair ct_row_of_pair : Value}
    {f_sign_of : Addr} {od_sign_of an_sign_of : Option Addr} {sl_sign_of : Array (Option Value)} {oc_sign_of kV_sign_of dc_sign_of pm_sign_of cd_sign_of ct_sign_of : Value}
    {f_row_between : Addr} {od_row_between an_row_between : Option Addr} {sl_row_between : Array (Option Value)} {oc_row_between kV_row_between dc_row_between pm_row_between cd_row_between ct_row_between : Value}
    {f_fused_sign : Addr} {od_fused_sign an_fused_sign : Option Addr} {sl_fused_sign : Array (Option Value)} {oc_fused_sign kV_fused_sign dc_fused_sign pm_fused_sign cd_fused_sign ct_fused_sign : Value}
    {f_fused : Addr} {od_fused an_fused : Option Addr} {sl_fused : Array (Option Value)} {oc_fused kV_fused dc_fused pm_fused cd_fused ct_fused : Value}
    {f_is_fitting : Addr} {od_is_fitting an_is_fitting : Option Addr} {sl_is_fitting : Array (Option Value)} {oc_is_fitting kV_is_fitting dc_is_fitting pm_is_fitting cd_is_fitting ct_is_fitting : Value}
    {f_do_quarrel : Addr} {od_do_quarrel an_do_quarrel : Option Addr} {sl_do_quarrel : Array (Option Value)} {oc_do_quarrel kV_do_quarrel dc_do_quarrel pm_do_quarrel cd_do_quarrel ct_do_quarrel : Value}
    {f_shows_quarrel : Addr} {od_shows_quarrel an_shows_quarrel : Option Addr} {sl_shows_quarrel : Array (Option Value)} {oc_shows_quarrel kV_shows_quarrel dc_shows_quarrel pm_shows_quarrel cd_shows_quarrel ct_shows_quarrel : Value}
    {f_shows_following : Addr} {od_shows_following an_shows_following : Option Addr} {sl_shows_following : Array (Option Value)} {oc_shows_following kV_shows_following dc_shows_following pm_shows_following cd_shows_following ct_shows_following : Value}
    {f_shows_open : Addr} {od_shows_open an_shows_open : Option Addr} {sl_shows_open : Array (Option Value)} {oc_shows_open kV_shows_open dc_shows_open pm_shows_open cd_shows_open ct_shows_open : Value}
    {f_may_follow : Addr} {od_may_follow an_may_follow : Option Addr} {sl_may_follow : Array (Option Value)} {oc_may_follow kV_may_follow dc_may_follow pm_may_follow cd_may_follow ct_may_follow : Value}
    {f_count_rankings : Addr} {od_count_rankings an_count_rankings : Option Addr} {sl_count_rankings : Array (Option Value)} {oc_count_rankings kV_count_rankings dc_count_rankings pm_count_rankings cd_count_rankings ct_count_rankings : Value}
    {f_are_alike : Addr} {od_are_alike an_are_alike : Option Addr} {sl_are_alike : Array (Option Value)} {oc_are_alike kV_are_alike dc_are_alike pm_are_alike cd_are_alike ct_are_alike : Value}
    {f_shows_above : Addr} {od_shows_above an_shows_above : Option Addr} {sl_shows_above : Array (Option Value)} {oc_shows_above kV_shows_above dc_shows_above pm_shows_above cd_shows_above ct_shows_above : Value}
    {f_accepts_of_book : Addr} {od_accepts_of_book an_accepts_of_book : Option Addr} {sl_accepts_of_book : Array (Option Value)} {oc_accepts_of_book kV_accepts_of_book dc_accepts_of_book pm_accepts_of_book cd_accepts_of_book ct_accepts_of_book : Value}
    {f_accepts_of_case : Addr} {od_accepts_of_case an_accepts_of_case : Option Addr} {sl_accepts_of_case : Array (Option Value)} {oc_accepts_of_case kV_accepts_of_case dc_accepts_of_case pm_accepts_of_case cd_accepts_of_case ct_accepts_of_case : Value}
    {f_accepts : Addr} {od_accepts an_accepts : Option Addr} {sl_accepts : Array (Option Value)} {oc_accepts kV_accepts dc_accepts pm_accepts cd_accepts ct_accepts : Value}
    {f__law_begun : Addr} {od__law_begun an__law_begun : Option Addr} {sl__law_begun : Array (Option Value)} {oc__law_begun kV__law_begun dc__law_begun pm__law_begun cd__law_begun ct__law_begun : Value}
    {f__law_cast : Addr} {od__law_cast an__law_cast : Option Addr} {sl__law_cast : Array (Option Value)} {oc__law_cast kV__law_cast dc__law_cast pm__law_cast cd__law_cast ct__law_cast : Value}
    {f__law_any_of : Addr} {od__law_any_of an__law_any_of : Option Addr} {sl__law_any_of : Array (Option Value)} {oc__law_any_of kV__law_any_of dc__law_any_of pm__law_any_of cd__law_any_of ct__law_any_of : Value}
    {f__law_words : Addr} {od__law_words an__law_words : Option Addr} {sl__law_words : Array (Option Value)} {oc__law_words kV__law_words dc__law_words pm__law_words cd__law_words ct__law_words : Value}
    {f__law_said : Addr} {od__law_said an__law_said : Option Addr} {sl__law_said : Array (Option Value)} {oc__law_said kV__law_said dc__law_said pm__law_said cd__law_said ct__law_said : Value}
    {f__law_thing : Addr} {od__law_thing an__law_thing : Option Addr} {sl__law_thing : Array (Option Value)} {oc__law_thing kV__law_thing dc__law_thing pm__law_thing cd__law_thing ct__law_thing : Value}
    {f__law_told : Addr} {od__law_told an__law_told : Option Addr} {sl__law_told : Array (Option Value)} {oc__law_told kV__law_told dc__law_told pm__law_told cd__law_told ct__law_told : Value}
    {f__law_goods : Addr} {od__law_goods an__law_goods : Option Addr} {sl__law_goods : Array (Option Value)} {oc__law_goods kV__law_goods dc__law_goods pm__law_goods cd__law_goods ct__law_goods : Value}
    {f__law_odd : Addr} {od__law_odd an__law_odd : Option Addr} {sl__law_odd : Array (Option Value)} {oc__law_odd kV__law_odd dc__law_odd pm__law_odd cd__law_odd ct__law_odd : Value}
    {f__law_wrong : Addr} {od__law_wrong an__law_wrong : Option Addr} {sl__law_wrong : Array (Option Value)} {oc__law_wrong kV__law_wrong dc__law_wrong pm__law_wrong cd__law_wrong ct__law_wrong : Value}
    {f__law_right : Addr} {od__law_right an__law_right : Option Addr} {sl__law_right : Array (Option Value)} {oc__law_right kV__law_right dc__law_right pm__law_right cd__law_right ct__law_right : Value}
    {f_law : Addr} {od_law an_law : Option Addr} {sl_law : Array (Option Value)} {oc_law kV_law dc_law pm_law cd_law ct_law : Value}
    {t_DIGITS : Tok}
    {t_LEAST_CANDIDATES : Tok}
    {a_LENGTHS : Addr} {es_LENGTHS : Array DictEntry} {n_LENGTHS : Nat}
    {tk_LENGTHS_fits : Tok}
    {tk_LENGTHS_quarrels : Tok}
    {tk_LENGTHS_follows : Tok}
    {tk_LENGTHS_above : Tok}
    {tk_LENGTHS_open : Tok}
    {tk_LENGTHS_count : Tok}
    {tk_LENGTHS_alike : Tok}
    {tk_LENGTHS_wins : Tok}
    {tk_LENGTHS_loses : Tok}
    {t_LETTERS : Tok}
    {t_MOST_CANDIDATES : Tok}
    {t_MOST_LETTERS : Tok}
    {t_MOST_MARKS : Tok}
    {t_MOST_ROWS : Tok}
    {t_MOST_RULES : Tok}
    {a_OPPOSITES : Addr} {es_OPPOSITES : Array DictEntry} {n_OPPOSITES : Nat}
    {tk_OPPOSITES_43 : Tok}
    {tk_OPPOSITES_45 : Tok}
    {tk_OPPOSITES_46 : Tok}
    {t_SIGNS : Tok}
    (a_is_name : PySem.W.nsIn K mainGlobals "is_name" = some (some (.ref f_is_name)))
    (l_is_name : K.lookup f_is_name = some ⟨oc_is_name, od_is_name, .func (PySem.W.fnOf "is_name" "is_name" (defArgs s_is_name) (defBody s_is_name) (defScope s_is_name) .none kV_is_name dc_is_name pm_is_name an_is_name cd_is_name ct_is_name), sl_is_name⟩)
    (c_is_name : PySem.W.codeIn K cd_is_name "is_name" = true)
    (k_is_name : PySem.W.keepIn K (.ref f_is_name) = true)
    (a_are_names : PySem.W.nsIn K mainGlobals "are_names" = some (some (.ref f_are_names)))
    (l_are_names : K.lookup f_are_names = some ⟨oc_are_names, od_are_names, .func (PySem.W.fnOf "are_names" "are_names" (defArgs s_are_names) (defBody s_are_names) (defScope s_are_names) .none kV_are_names dc_are_names pm_are_names an_are_names cd_are_names ct_are_names), sl_are_names⟩)
    (c_are_names : PySem.W.codeIn K cd_are_names "are_names" = true)
    (k_are_names : PySem.W.keepIn K (.ref f_are_names) = true)
    (a_is_number : PySem.W.nsIn K mainGlobals "is_number" = some (some (.ref f_is_number)))
    (l_is_number : K.lookup f_is_number = some ⟨oc_is_number, od_is_number, .func (PySem.W.fnOf "is_number" "is_number" (defArgs s_is_number) (defBody s_is_number) (defScope s_is_number) .none kV_is_number dc_is_number pm_is_number an_is_number cd_is_number ct_is_number), sl_is_number⟩)
    (c_is_number : PySem.W.codeIn K cd_is_number "is_number" = true)
    (k_is_number : PySem.W.keepIn K (.ref f_is_number) = true)
    (a_is_any_row : PySem.W.nsIn K mainGlobals "is_any_row" = some (some (.ref f_is_any_row)))
    (l_is_any_row : K.lookup f_is_any_row = some ⟨oc_is_any_row, od_is_any_row, .func (PySem.W.fnOf "is_any_row" "is_any_row" (defArgs s_is_any_row) (defBody s_is_any_row) (defScope s_is_any_row) .none kV_is_any_row dc_is_any_row pm_is_any_row an_is_any_row cd_is_any_row ct_is_any_row), sl_is_any_row⟩)
    (c_is_any_row : PySem.W.codeIn K cd_is_any_row "is_any_row" = true)
    (k_is_any_row : PySem.W.keepIn K (.ref f_is_any_row) = true)
    (a_is_row : PySem.W.nsIn K mainGlobals "is_row" = some (some (.ref f_is_row)))
    (l_is_row : K.lookup f_is_row = some ⟨oc_is_row, od_is_row, .func (PySem.W.fnOf "is_row" "is_row" (defArgs s_is_row) (defBody s_is_row) (defScope s_is_row) .none kV_is_row dc_is_row pm_is_row an_is_row cd_is_row ct_is_row), sl_is_row⟩)
    (c_is_row : PySem.W.codeIn K cd_is_row "is_row" = true)
    (k_is_row : PySem.W.keepIn K (.ref f_is_row) = true)
    (a_is_whole : PySem.W.nsIn K mainGlobals "is_whole" = some (some (.ref f_is_whole)))
    (l_is_whole : K.lookup f_is_whole = some ⟨oc_is_whole, od_is_whole, .func (PySem.W.fnOf "is_whole" "is_whole" (defArgs s_is_whole) (defBody s_is_whole) (defScope s_is_whole) .none kV_is_whole dc_is_whole pm_is_whole an_is_whole cd_is_whole ct_is_whole), sl_is_whole⟩)
    (c_is_whole : PySem.W.codeIn K cd_is_whole "is_whole" = true)
    (k_is_whole : PySem.W.keepIn K (.ref f_is_whole) = true)
    (a_is_index : PySem.W.nsIn K mainGlobals "is_index" = some (some (.ref f_is_index)))
    (l_is_index : K.lookup f_is_index = some ⟨oc_is_index, od_is_index, .func (PySem.W.fnOf "is_index" "is_index" (defArgs s_is_index) (defBody s_is_index) (defScope s_is_index) .none kV_is_index dc_is_index pm_is_index an_is_index cd_is_index ct_is_index), sl_is_index⟩)
    (c_is_index : PySem.W.codeIn K cd_is_index "is_index" = true)
    (k_is_index : PySem.W.keepIn K (.ref f_is_index) = true)
    (a_is_pair : PySem.W.nsIn K mainGlobals "is_pair" = some (some (.ref f_is_pair)))
    (l_is_pair : K.lookup f_is_pair = some ⟨oc_is_pair, od_is_pair, .func (PySem.W.fnOf "is_pair" "is_pair" (defArgs s_is_pair) (defBody s_is_pair) (defScope s_is_pair) .none kV_is_pair dc_is_pair pm_is_pair an_is_pair cd_is_pair ct_is_pair), sl_is_pair⟩)
    (c_is_pair : PySem.W.codeIn K cd_is_pair "is_pair" = true)
    (k_is_pair : PySem.W.keepIn K (.ref f_is_pair) = true)
    (a_wrong_in_lot : PySem.W.nsIn K mainGlobals "wrong_in_lot" = some (some (.ref f_wrong_in_lot)))
    (l_wrong_in_lot : K.lookup f_wrong_in_lot = some ⟨oc_wrong_in_lot, od_wrong_in_lot, .func (PySem.W.fnOf "wrong_in_lot" "wrong_in_lot" (defArgs s_wrong_in_lot) (defBody s_wrong_in_lot) (defScope s_wrong_in_lot) .none kV_wrong_in_lot dc_wrong_in_lot pm_wrong_in_lot an_wrong_in_lot cd_wrong_in_lot ct_wrong_in_lot), sl_wrong_in_lot⟩)
    (c_wrong_in_lot : PySem.W.codeIn K cd_wrong_in_lot "wrong_in_lot" = true)
    (k_wrong_in_lot : PySem.W.keepIn K (.ref f_wrong_in_lot) = true)
    (a_is_lot : PySem.W.nsIn K mainGlobals "is_lot" = some (some (.ref f_is_lot)))
    (l_is_lot : K.lookup f_is_lot = some ⟨oc_is_lot, od_is_lot, .func (PySem.W.fnOf "is_lot" "is_lot" (defArgs s_is_lot) (defBody s_is_lot) (defScope s_is_lot) .none kV_is_lot dc_is_lot pm_is_lot an_is_lot cd_is_lot ct_is_lot), sl_is_lot⟩)
    (c_is_lot : PySem.W.codeIn K cd_is_lot "is_lot" = true)
    (k_is_lot : PySem.W.keepIn K (.ref f_is_lot) = true)
    (a_is_ranking : PySem.W.nsIn K mainGlobals "is_ranking" = some (some (.ref f_is_ranking)))
    (l_is_ranking : K.lookup f_is_ranking = some ⟨oc_is_ranking, od_is_ranking, .func (PySem.W.fnOf "is_ranking" "is_ranking" (defArgs s_is_ranking) (defBody s_is_ranking) (defScope s_is_ranking) .none kV_is_ranking dc_is_ranking pm_is_ranking an_is_ranking cd_is_ranking ct_is_ranking), sl_is_ranking⟩)
    (c_is_ranking : PySem.W.codeIn K cd_is_ranking "is_ranking" = true)
    (k_is_ranking : PySem.W.keepIn K (.ref f_is_ranking) = true)
    (a_read_book : PySem.W.nsIn K mainGlobals "read_book" = some (some (.ref f_read_book)))
    (l_read_book : K.lookup f_read_book = some ⟨oc_read_book, od_read_book, .func (PySem.W.fnOf "read_book" "read_book" (defArgs s_read_book) (defBody s_read_book) (defScope s_read_book) .none kV_read_book dc_read_book pm_read_book an_read_book cd_read_book ct_read_book), sl_read_book⟩)
    (c_read_book : PySem.W.codeIn K cd_read_book "read_book" = true)
    (k_read_book : PySem.W.keepIn K (.ref f_read_book) = true)
    (a_read_mark : PySem.W.nsIn K mainGlobals "read_mark" = some (some (.ref f_read_mark)))
    (l_read_mark : K.lookup f_read_mark = some ⟨oc_read_mark, od_read_mark, .func (PySem.W.fnOf "read_mark" "read_mark" (defArgs s_read_mark) (defBody s_read_mark) (defScope s_read_mark) .none kV_read_mark dc_read_mark pm_read_mark an_read_mark cd_read_mark ct_read_mark), sl_read_mark⟩)
    (c_read_mark : PySem.W.codeIn K cd_read_mark "read_mark" = true)
    (k_read_mark : PySem.W.keepIn K (.ref f_read_mark) = true)
    (a_read_candidates : PySem.W.nsIn K mainGlobals "read_candidates" = some (some (.ref f_read_candidates)))
    (l_read_candidates : K.lookup f_read_candidates = some ⟨oc_read_candidates, od_read_candidates, .func (PySem.W.fnOf "read_candidates" "read_candidates" (defArgs s_read_candidates) (defBody s_read_candidates) (defScope s_read_candidates) .none kV_read_candidates dc_read_candidates pm_read_candidates an_read_candidates cd_read_candidates ct_read_candidates), sl_read_candidates⟩)
    (c_read_candidates : PySem.W.codeIn K cd_read_candidates "read_candidates" = true)
    (k_read_candidates : PySem.W.keepIn K (.ref f_read_candidates) = true)
    (a_read_case : PySem.W.nsIn K mainGlobals "read_case" = some (some (.ref f_read_case)))
    (l_read_case : K.lookup f_read_case = some ⟨oc_read_case, od_read_case, .func (PySem.W.fnOf "read_case" "read_case" (defArgs s_read_case) (defBody s_read_case) (defScope s_read_case) .none kV_read_case dc_read_case pm_read_case an_read_case cd_read_case ct_read_case), sl_read_case⟩)
    (c_read_case : PySem.W.codeIn K cd_read_case "read_case" = true)
    (k_read_case : PySem.W.keepIn K (.ref f_read_case) = true)
    (a_row_holds : PySem.W.nsIn K mainGlobals "row_holds" = some (some (.ref f_row_holds)))
    (l_row_holds : K.lookup f_row_holds = some ⟨oc_row_holds, od_row_holds, .func (PySem.W.fnOf "row_holds" "row_holds" (defArgs s_row_holds) (defBody s_row_holds) (defScope s_row_holds) .none kV_row_holds dc_row_holds pm_row_holds an_row_holds cd_row_holds ct_row_holds), sl_row_holds⟩)
    (c_row_holds : PySem.W.codeIn K cd_row_holds "row_holds" = true)
    (k_row_holds : PySem.W.keepIn K (.ref f_row_holds) = true)
    (a_all_hold : PySem.W.nsIn K mainGlobals "all_hold" = some (some (.ref f_all_hold)))
    (l_all_hold : K.lookup f_all_hold = some ⟨oc_all_hold, od_all_hold, .func (PySem.W.fnOf "all_hold" "all_hold" (defArgs s_all_hold) (defBody s_all_hold) (defScope s_all_hold) .none kV_all_hold dc_all_hold pm_all_hold an_all_hold cd_all_hold ct_all_hold), sl_all_hold⟩)
    (c_all_hold : PySem.W.codeIn K cd_all_hold "all_hold" = true)
    (k_all_hold : PySem.W.keepIn K (.ref f_all_hold) = true)
    (a_turned : PySem.W.nsIn K mainGlobals "turned" = some (some (.ref f_turned)))
    (l_turned : K.lookup f_turned = some ⟨oc_turned, od_turned, .func (PySem.W.fnOf "turned" "turned" (defArgs s_turned) (defBody s_turned) (defScope s_turned) .none kV_turned dc_turned pm_turned an_turned cd_turned ct_turned), sl_turned⟩)
    (c_turned : PySem.W.codeIn K cd_turned "turned" = true)
    (k_turned : PySem.W.keepIn K (.ref f_turned) = true)
    (a_row_of_pair : PySem.W.nsIn K mainGlobals "row_of_pair" = some (some (.ref f_row_of_pair)))
    (l_row_of_pair : K.lookup f_row_of_pair = some ⟨oc_row_of_pair, od_row_of_pair, .func (PySem.W.fnOf "row_of_pair" "row_of_pair" (defArgs s_row_of_pair) (defBody s_row_of_pair) (defScope s_row_of_pair) .none kV_row_of_pair dc_row_of_pair pm_row_of_pair an_row_of_pair cd_row_of_pair ct_row_of_pair), sl_row_of_pair⟩)
    (c_row_of_pair : PySem.W.codeIn K cd_row_of_pair "row_of_pair" = true)
    (k_row_of_pair : PySem.W.keepIn K (.ref f_row_of_pair) = true)
    (a_sign_of : PySem.W.nsIn K mainGlobals "sign_of" = some (some (.ref f_sign_of)))
    (l_sign_of : K.lookup f_sign_of = some ⟨oc_sign_of, od_sign_of, .func (PySem.W.fnOf "sign_of" "sign_of" (defArgs s_sign_of) (defBody s_sign_of) (defScope s_sign_of) .none kV_sign_of dc_sign_of pm_sign_of an_sign_of cd_sign_of ct_sign_of), sl_sign_of⟩)
    (c_sign_of : PySem.W.codeIn K cd_sign_of "sign_of" = true)
    (k_sign_of : PySem.W.keepIn K (.ref f_sign_of) = true)
    (a_row_between : PySem.W.nsIn K mainGlobals "row_between" = some (some (.ref f_row_between)))
    (l_row_between : K.lookup f_row_between = some ⟨oc_row_between, od_row_between, .func (PySem.W.fnOf "row_between" "row_between" (defArgs s_row_between) (defBody s_row_between) (defScope s_row_between) .none kV_row_between dc_row_between pm_row_between an_row_between cd_row_between ct_row_between), sl_row_between⟩)
    (c_row_between : PySem.W.codeIn K cd_row_between "row_between" = true)
    (k_row_between : PySem.W.keepIn K (.ref f_row_between) = true)
    (a_fused_sign : PySem.W.nsIn K mainGlobals "fused_sign" = some (some (.ref f_fused_sign)))
    (l_fused_sign : K.lookup f_fused_sign = some ⟨oc_fused_sign, od_fused_sign, .func (PySem.W.fnOf "fused_sign" "fused_sign" (defArgs s_fused_sign) (defBody s_fused_sign) (defScope s_fused_sign) .none kV_fused_sign dc_fused_sign pm_fused_sign an_fused_sign cd_fused_sign ct_fused_sign), sl_fused_sign⟩)
    (c_fused_sign : PySem.W.codeIn K cd_fused_sign "fused_sign" = true)
    (k_fused_sign : PySem.W.keepIn K (.ref f_fused_sign) = true)
    (a_fused : PySem.W.nsIn K mainGlobals "fused" = some (some (.ref f_fused)))
    (l_fused : K.lookup f_fused = some ⟨oc_fused, od_fused, .func (PySem.W.fnOf "fused" "fused" (defArgs s_fused) (defBody s_fused) (defScope s_fused) .none kV_fused dc_fused pm_fused an_fused cd_fused ct_fused), sl_fused⟩)
    (c_fused : PySem.W.codeIn K cd_fused "fused" = true)
    (k_fused : PySem.W.keepIn K (.ref f_fused) = true)
    (a_is_fitting : PySem.W.nsIn K mainGlobals "is_fitting" = some (some (.ref f_is_fitting)))
    (l_is_fitting : K.lookup f_is_fitting = some ⟨oc_is_fitting, od_is_fitting, .func (PySem.W.fnOf "is_fitting" "is_fitting" (defArgs s_is_fitting) (defBody s_is_fitting) (defScope s_is_fitting) .none kV_is_fitting dc_is_fitting pm_is_fitting an_is_fitting cd_is_fitting ct_is_fitting), sl_is_fitting⟩)
    (c_is_fitting : PySem.W.codeIn K cd_is_fitting "is_fitting" = true)
    (k_is_fitting : PySem.W.keepIn K (.ref f_is_fitting) = true)
    (a_do_quarrel : PySem.W.nsIn K mainGlobals "do_quarrel" = some (some (.ref f_do_quarrel)))
    (l_do_quarrel : K.lookup f_do_quarrel = some ⟨oc_do_quarrel, od_do_quarrel, .func (PySem.W.fnOf "do_quarrel" "do_quarrel" (defArgs s_do_quarrel) (defBody s_do_quarrel) (defScope s_do_quarrel) .none kV_do_quarrel dc_do_quarrel pm_do_quarrel an_do_quarrel cd_do_quarrel ct_do_quarrel), sl_do_quarrel⟩)
    (c_do_quarrel : PySem.W.codeIn K cd_do_quarrel "do_quarrel" = true)
    (k_do_quarrel : PySem.W.keepIn K (.ref f_do_quarrel) = true)
    (a_shows_quarrel : PySem.W.nsIn K mainGlobals "shows_quarrel" = some (some (.ref f_shows_quarrel)))
    (l_shows_quarrel : K.lookup f_shows_quarrel = some ⟨oc_shows_quarrel, od_shows_quarrel, .func (PySem.W.fnOf "shows_quarrel" "shows_quarrel" (defArgs s_shows_quarrel) (defBody s_shows_quarrel) (defScope s_shows_quarrel) .none kV_shows_quarrel dc_shows_quarrel pm_shows_quarrel an_shows_quarrel cd_shows_quarrel ct_shows_quarrel), sl_shows_quarrel⟩)
    (c_shows_quarrel : PySem.W.codeIn K cd_shows_quarrel "shows_quarrel" = true)
    (k_shows_quarrel : PySem.W.keepIn K (.ref f_shows_quarrel) = true)
    (a_shows_following : PySem.W.nsIn K mainGlobals "shows_following" = some (some (.ref f_shows_following)))
    (l_shows_following : K.lookup f_shows_following = some ⟨oc_shows_following, od_shows_following, .func (PySem.W.fnOf "shows_following" "shows_following" (defArgs s_shows_following) (defBody s_shows_following) (defScope s_shows_following) .none kV_shows_following dc_shows_following pm_shows_following an_shows_following cd_shows_following ct_shows_following), sl_shows_following⟩)
    (c_shows_following : PySem.W.codeIn K cd_shows_following "shows_following" = true)
    (k_shows_following : PySem.W.keepIn K (.ref f_shows_following) = true)
    (a_shows_open : PySem.W.nsIn K mainGlobals "shows_open" = some (some (.ref f_shows_open)))
    (l_shows_open : K.lookup f_shows_open = some ⟨oc_shows_open, od_shows_open, .func (PySem.W.fnOf "shows_open" "shows_open" (defArgs s_shows_open) (defBody s_shows_open) (defScope s_shows_open) .none kV_shows_open dc_shows_open pm_shows_open an_shows_open cd_shows_open ct_shows_open), sl_shows_open⟩)
    (c_shows_open : PySem.W.codeIn K cd_shows_open "shows_open" = true)
    (k_shows_open : PySem.W.keepIn K (.ref f_shows_open) = true)
    (a_may_follow : PySem.W.nsIn K mainGlobals "may_follow" = some (some (.ref f_may_follow)))
    (l_may_follow : K.lookup f_may_follow = some ⟨oc_may_follow, od_may_follow, .func (PySem.W.fnOf "may_follow" "may_follow" (defArgs s_may_follow) (defBody s_may_follow) (defScope s_may_follow) .none kV_may_follow dc_may_follow pm_may_follow an_may_follow cd_may_follow ct_may_follow), sl_may_follow⟩)
    (c_may_follow : PySem.W.codeIn K cd_may_follow "may_follow" = true)
    (k_may_follow : PySem.W.keepIn K (.ref f_may_follow) = true)
    (a_count_rankings : PySem.W.nsIn K mainGlobals "count_rankings" = some (some (.ref f_count_rankings)))
    (l_count_rankings : K.lookup f_count_rankings = some ⟨oc_count_rankings, od_count_rankings, .func (PySem.W.fnOf "count_rankings" "count_rankings" (defArgs s_count_rankings) (defBody s_count_rankings) (defScope s_count_rankings) .none kV_count_rankings dc_count_rankings pm_count_rankings an_count_rankings cd_count_rankings ct_count_rankings), sl_count_rankings⟩)
    (c_count_rankings : PySem.W.codeIn K cd_count_rankings "count_rankings" = true)
    (k_count_rankings : PySem.W.keepIn K (.ref f_count_rankings) = true)
    (a_are_alike : PySem.W.nsIn K mainGlobals "are_alike" = some (some (.ref f_are_alike)))
    (l_are_alike : K.lookup f_are_alike = some ⟨oc_are_alike, od_are_alike, .func (PySem.W.fnOf "are_alike" "are_alike" (defArgs s_are_alike) (defBody s_are_alike) (defScope s_are_alike) .none kV_are_alike dc_are_alike pm_are_alike an_are_alike cd_are_alike ct_are_alike), sl_are_alike⟩)
    (c_are_alike : PySem.W.codeIn K cd_are_alike "are_alike" = true)
    (k_are_alike : PySem.W.keepIn K (.ref f_are_alike) = true)
    (a_shows_above : PySem.W.nsIn K mainGlobals "shows_above" = some (some (.ref f_shows_above)))
    (l_shows_above : K.lookup f_shows_above = some ⟨oc_shows_above, od_shows_above, .func (PySem.W.fnOf "shows_above" "shows_above" (defArgs s_shows_above) (defBody s_shows_above) (defScope s_shows_above) .none kV_shows_above dc_shows_above pm_shows_above an_shows_above cd_shows_above ct_shows_above), sl_shows_above⟩)
    (c_shows_above : PySem.W.codeIn K cd_shows_above "shows_above" = true)
    (k_shows_above : PySem.W.keepIn K (.ref f_shows_above) = true)
    (a_accepts_of_book : PySem.W.nsIn K mainGlobals "accepts_of_book" = some (some (.ref f_accepts_of_book)))
    (l_accepts_of_book : K.lookup f_accepts_of_book = some ⟨oc_accepts_of_book, od_accepts_of_book, .func (PySem.W.fnOf "accepts_of_book" "accepts_of_book" (defArgs s_accepts_of_book) (defBody s_accepts_of_book) (defScope s_accepts_of_book) .none kV_accepts_of_book dc_accepts_of_book pm_accepts_of_book an_accepts_of_book cd_accepts_of_book ct_accepts_of_book), sl_accepts_of_book⟩)
    (c_accepts_of_book : PySem.W.codeIn K cd_accepts_of_book "accepts_of_book" = true)
    (k_accepts_of_book : PySem.W.keepIn K (.ref f_accepts_of_book) = true)
    (a_accepts_of_case : PySem.W.nsIn K mainGlobals "accepts_of_case" = some (some (.ref f_accepts_of_case)))
    (l_accepts_of_case : K.lookup f_accepts_of_case = some ⟨oc_accepts_of_case, od_accepts_of_case, .func (PySem.W.fnOf "accepts_of_case" "accepts_of_case" (defArgs s_accepts_of_case) (defBody s_accepts_of_case) (defScope s_accepts_of_case) .none kV_accepts_of_case dc_accepts_of_case pm_accepts_of_case an_accepts_of_case cd_accepts_of_case ct_accepts_of_case), sl_accepts_of_case⟩)
    (c_accepts_of_case : PySem.W.codeIn K cd_accepts_of_case "accepts_of_case" = true)
    (k_accepts_of_case : PySem.W.keepIn K (.ref f_accepts_of_case) = true)
    (a_accepts : PySem.W.nsIn K mainGlobals "accepts" = some (some (.ref f_accepts)))
    (l_accepts : K.lookup f_accepts = some ⟨oc_accepts, od_accepts, .func (PySem.W.fnOf "accepts" "accepts" (defArgs s_accepts) (defBody s_accepts) (defScope s_accepts) .none kV_accepts dc_accepts pm_accepts an_accepts cd_accepts ct_accepts), sl_accepts⟩)
    (c_accepts : PySem.W.codeIn K cd_accepts "accepts" = true)
    (k_accepts : PySem.W.keepIn K (.ref f_accepts) = true)
    (a__law_begun : PySem.W.nsIn K mainGlobals "_law_begun" = some (some (.ref f__law_begun)))
    (l__law_begun : K.lookup f__law_begun = some ⟨oc__law_begun, od__law_begun, .func (PySem.W.fnOf "_law_begun" "_law_begun" (defArgs s__law_begun) (defBody s__law_begun) (defScope s__law_begun) .none kV__law_begun dc__law_begun pm__law_begun an__law_begun cd__law_begun ct__law_begun), sl__law_begun⟩)
    (c__law_begun : PySem.W.codeIn K cd__law_begun "_law_begun" = true)
    (k__law_begun : PySem.W.keepIn K (.ref f__law_begun) = true)
    (a__law_cast : PySem.W.nsIn K mainGlobals "_law_cast" = some (some (.ref f__law_cast)))
    (l__law_cast : K.lookup f__law_cast = some ⟨oc__law_cast, od__law_cast, .func (PySem.W.fnOf "_law_cast" "_law_cast" (defArgs s__law_cast) (defBody s__law_cast) (defScope s__law_cast) .none kV__law_cast dc__law_cast pm__law_cast an__law_cast cd__law_cast ct__law_cast), sl__law_cast⟩)
    (c__law_cast : PySem.W.codeIn K cd__law_cast "_law_cast" = true)
    (k__law_cast : PySem.W.keepIn K (.ref f__law_cast) = true)
    (a__law_any_of : PySem.W.nsIn K mainGlobals "_law_any_of" = some (some (.ref f__law_any_of)))
    (l__law_any_of : K.lookup f__law_any_of = some ⟨oc__law_any_of, od__law_any_of, .func (PySem.W.fnOf "_law_any_of" "_law_any_of" (defArgs s__law_any_of) (defBody s__law_any_of) (defScope s__law_any_of) .none kV__law_any_of dc__law_any_of pm__law_any_of an__law_any_of cd__law_any_of ct__law_any_of), sl__law_any_of⟩)
    (c__law_any_of : PySem.W.codeIn K cd__law_any_of "_law_any_of" = true)
    (k__law_any_of : PySem.W.keepIn K (.ref f__law_any_of) = true)
    (a__law_words : PySem.W.nsIn K mainGlobals "_law_words" = some (some (.ref f__law_words)))
    (l__law_words : K.lookup f__law_words = some ⟨oc__law_words, od__law_words, .func (PySem.W.fnOf "_law_words" "_law_words" (defArgs s__law_words) (defBody s__law_words) (defScope s__law_words) .none kV__law_words dc__law_words pm__law_words an__law_words cd__law_words ct__law_words), sl__law_words⟩)
    (c__law_words : PySem.W.codeIn K cd__law_words "_law_words" = true)
    (k__law_words : PySem.W.keepIn K (.ref f__law_words) = true)
    (a__law_said : PySem.W.nsIn K mainGlobals "_law_said" = some (some (.ref f__law_said)))
    (l__law_said : K.lookup f__law_said = some ⟨oc__law_said, od__law_said, .func (PySem.W.fnOf "_law_said" "_law_said" (defArgs s__law_said) (defBody s__law_said) (defScope s__law_said) .none kV__law_said dc__law_said pm__law_said an__law_said cd__law_said ct__law_said), sl__law_said⟩)
    (c__law_said : PySem.W.codeIn K cd__law_said "_law_said" = true)
    (k__law_said : PySem.W.keepIn K (.ref f__law_said) = true)
    (a__law_thing : PySem.W.nsIn K mainGlobals "_law_thing" = some (some (.ref f__law_thing)))
    (l__law_thing : K.lookup f__law_thing = some ⟨oc__law_thing, od__law_thing, .func (PySem.W.fnOf "_law_thing" "_law_thing" (defArgs s__law_thing) (defBody s__law_thing) (defScope s__law_thing) .none kV__law_thing dc__law_thing pm__law_thing an__law_thing cd__law_thing ct__law_thing), sl__law_thing⟩)
    (c__law_thing : PySem.W.codeIn K cd__law_thing "_law_thing" = true)
    (k__law_thing : PySem.W.keepIn K (.ref f__law_thing) = true)
    (a__law_told : PySem.W.nsIn K mainGlobals "_law_told" = some (some (.ref f__law_told)))
    (l__law_told : K.lookup f__law_told = some ⟨oc__law_told, od__law_told, .func (PySem.W.fnOf "_law_told" "_law_told" (defArgs s__law_told) (defBody s__law_told) (defScope s__law_told) .none kV__law_told dc__law_told pm__law_told an__law_told cd__law_told ct__law_told), sl__law_told⟩)
    (c__law_told : PySem.W.codeIn K cd__law_told "_law_told" = true)
    (k__law_told : PySem.W.keepIn K (.ref f__law_told) = true)
    (a__law_goods : PySem.W.nsIn K mainGlobals "_law_goods" = some (some (.ref f__law_goods)))
    (l__law_goods : K.lookup f__law_goods = some ⟨oc__law_goods, od__law_goods, .func (PySem.W.fnOf "_law_goods" "_law_goods" (defArgs s__law_goods) (defBody s__law_goods) (defScope s__law_goods) .none kV__law_goods dc__law_goods pm__law_goods an__law_goods cd__law_goods ct__law_goods), sl__law_goods⟩)
    (c__law_goods : PySem.W.codeIn K cd__law_goods "_law_goods" = true)
    (k__law_goods : PySem.W.keepIn K (.ref f__law_goods) = true)
    (a__law_odd : PySem.W.nsIn K mainGlobals "_law_odd" = some (some (.ref f__law_odd)))
    (l__law_odd : K.lookup f__law_odd = some ⟨oc__law_odd, od__law_odd, .func (PySem.W.fnOf "_law_odd" "_law_odd" (defArgs s__law_odd) (defBody s__law_odd) (defScope s__law_odd) .none kV__law_odd dc__law_odd pm__law_odd an__law_odd cd__law_odd ct__law_odd), sl__law_odd⟩)
    (c__law_odd : PySem.W.codeIn K cd__law_odd "_law_odd" = true)
    (k__law_odd : PySem.W.keepIn K (.ref f__law_odd) = true)
    (a__law_wrong : PySem.W.nsIn K mainGlobals "_law_wrong" = some (some (.ref f__law_wrong)))
    (l__law_wrong : K.lookup f__law_wrong = some ⟨oc__law_wrong, od__law_wrong, .func (PySem.W.fnOf "_law_wrong" "_law_wrong" (defArgs s__law_wrong) (defBody s__law_wrong) (defScope s__law_wrong) .none kV__law_wrong dc__law_wrong pm__law_wrong an__law_wrong cd__law_wrong ct__law_wrong), sl__law_wrong⟩)
    (c__law_wrong : PySem.W.codeIn K cd__law_wrong "_law_wrong" = true)
    (k__law_wrong : PySem.W.keepIn K (.ref f__law_wrong) = true)
    (a__law_right : PySem.W.nsIn K mainGlobals "_law_right" = some (some (.ref f__law_right)))
    (l__law_right : K.lookup f__law_right = some ⟨oc__law_right, od__law_right, .func (PySem.W.fnOf "_law_right" "_law_right" (defArgs s__law_right) (defBody s__law_right) (defScope s__law_right) .none kV__law_right dc__law_right pm__law_right an__law_right cd__law_right ct__law_right), sl__law_right⟩)
    (c__law_right : PySem.W.codeIn K cd__law_right "_law_right" = true)
    (k__law_right : PySem.W.keepIn K (.ref f__law_right) = true)
    (a_law : PySem.W.nsIn K mainGlobals "law" = some (some (.ref f_law)))
    (l_law : K.lookup f_law = some ⟨oc_law, od_law, .func (PySem.W.fnOf "law" "law" (defArgs s_law) (defBody s_law) (defScope s_law) .none kV_law dc_law pm_law an_law cd_law ct_law), sl_law⟩)
    (c_law : PySem.W.codeIn K cd_law "law" = true)
    (k_law : PySem.W.keepIn K (.ref f_law) = true)
    (z_abs : PySem.W.nsIn K mainGlobals "abs" = some none)
    (z_all : PySem.W.nsIn K mainGlobals "all" = some none)
    (z_bool : PySem.W.nsIn K mainGlobals "bool" = some none)
    (z_divmod : PySem.W.nsIn K mainGlobals "divmod" = some none)
    (z_enumerate : PySem.W.nsIn K mainGlobals "enumerate" = some none)
    (z_int : PySem.W.nsIn K mainGlobals "int" = some none)
    (z_isinstance : PySem.W.nsIn K mainGlobals "isinstance" = some none)
    (z_len : PySem.W.nsIn K mainGlobals "len" = some none)
    (z_list : PySem.W.nsIn K mainGlobals "list" = some none)
    (z_max : PySem.W.nsIn K mainGlobals "max" = some none)
    (z_min : PySem.W.nsIn K mainGlobals "min" = some none)
    (z_range : PySem.W.nsIn K mainGlobals "range" = some none)
    (z_sorted : PySem.W.nsIn K mainGlobals "sorted" = some none)
    (z_str : PySem.W.nsIn K mainGlobals "str" = some none)
    (z_tuple : PySem.W.nsIn K mainGlobals "tuple" = some none)
    (z_zip : PySem.W.nsIn K mainGlobals "zip" = some none)
    (v_DIGITS : PySem.W.nsIn K mainGlobals "DIGITS" = some (some (.str "0123456789" t_DIGITS)))
    (v_LEAST_CANDIDATES : PySem.W.nsIn K mainGlobals "LEAST_CANDIDATES" = some (some (.int 2 t_LEAST_CANDIDATES)))
    (v_LENGTHS : PySem.W.nsIn K mainGlobals "LENGTHS" = some (some (.ref a_LENGTHS)))
    (dl_LENGTHS : K.lookup a_LENGTHS = some ⟨.type "dict", none, .dict es_LENGTHS n_LENGTHS, #[]⟩)
    (dk_LENGTHS : PySem.W.KeysLit w.params es_LENGTHS.toList)
    (ds_LENGTHS : (a_LENGTHS == sysModules) = false)
    (w_LENGTHS_fits : PySem.W.nsIn K a_LENGTHS "fits" = some (some (.int 2 tk_LENGTHS_fits)))
    (w_LENGTHS_quarrels : PySem.W.nsIn K a_LENGTHS "quarrels" = some (some (.int 2 tk_LENGTHS_quarrels)))
    (w_LENGTHS_follows : PySem.W.nsIn K a_LENGTHS "follows" = some (some (.int 3 tk_LENGTHS_follows)))
    (w_LENGTHS_above : PySem.W.nsIn K a_LENGTHS "above" = some (some (.int 4 tk_LENGTHS_above)))
    (w_LENGTHS_open : PySem.W.nsIn K a_LENGTHS "open" = some (some (.int 3 tk_LENGTHS_open)))
    (w_LENGTHS_count : PySem.W.nsIn K a_LENGTHS "count" = some (some (.int 3 tk_LENGTHS_count)))
    (w_LENGTHS_alike : PySem.W.nsIn K a_LENGTHS "alike" = some (some (.int 3 tk_LENGTHS_alike)))
    (w_LENGTHS_wins : PySem.W.nsIn K a_LENGTHS "wins" = some (some (.int 3 tk_LENGTHS_wins)))
    (w_LENGTHS_loses : PySem.W.nsIn K a_LENGTHS "loses" = some (some (.int 3 tk_LENGTHS_loses)))
    (v_LETTERS : PySem.W.nsIn K mainGlobals "LETTERS" = some (some (.str "abcdefghijklmnopqrstuvwxyz" t_LETTERS)))
    (v_MOST_CANDIDATES : PySem.W.nsIn K mainGlobals "MOST_CANDIDATES" = some (some (.int 8 t_MOST_CANDIDATES)))
    (v_MOST_LETTERS : PySem.W.nsIn K mainGlobals "MOST_LETTERS" = some (some (.int 8 t_MOST_LETTERS)))
    (v_MOST_MARKS : PySem.W.nsIn K mainGlobals "MOST_MARKS" = some (some (.int 99 t_MOST_MARKS)))
    (v_MOST_ROWS : PySem.W.nsIn K mainGlobals "MOST_ROWS" = some (some (.int 20 t_MOST_ROWS)))
    (v_MOST_RULES : PySem.W.nsIn K mainGlobals "MOST_RULES" = some (some (.int 8 t_MOST_RULES)))
    (v_OPPOSITES : PySem.W.nsIn K mainGlobals "OPPOSITES" = some (some (.ref a_OPPOSITES)))
    (dl_OPPOSITES : K.lookup a_OPPOSITES = some ⟨.type "dict", none, .dict es_OPPOSITES n_OPPOSITES, #[]⟩)
    (dk_OPPOSITES : PySem.W.KeysLit w.params es_OPPOSITES.toList)
    (w_OPPOSITES_43 : PySem.W.nsIn K a_OPPOSITES "+" = some (some (.str "-" tk_OPPOSITES_43)))
    (w_OPPOSITES_45 : PySem.W.nsIn K a_OPPOSITES "-" = some (some (.str "+" tk_OPPOSITES_45)))
    (w_OPPOSITES_46 : PySem.W.nsIn K a_OPPOSITES "." = some (some (.str "." tk_OPPOSITES_46)))
    (v_SIGNS : PySem.W.nsIn K mainGlobals "SIGNS" = some (some (.str "+-." t_SIGNS)))
    (uk : es_LENGTHS.toList.map He.keyOf = He.keysIn w.params ["fits", "quarrels", "follows", "above", "open", "count", "alike", "wins", "loses"]) :
    ∃ fd : FuncData, (∀ (s : Shared) (v : Value), BindsTo s fd ⟨[v], []⟩ [("_law_script", v)]) ∧ ∀ base : Heap, FnG l.prog w K mg base 11 fa fd ["_law_script"] (spLaw K) := by
  have e := hfa.symm.trans (PySem.W.mg_of X G a_law)
  cases e
  let T : Txt K w mg := {
    f_is_name := f_is_name,
    e_is_name := PySem.W.fnOf "is_name" "is_name" (defArgs s_is_name) (defBody s_is_name) (defScope s_is_name) .none kV_is_name dc_is_name pm_is_name an_is_name cd_is_name ct_is_name,
    F_is_name := fun_mk (st := s_is_name) l_is_name c_is_name k_is_name,
    b_is_name := Fun.binds (ps := ["value"]) (fun_mk (st := s_is_name) l_is_name c_is_name k_is_name) fun _ _ _ _ _ _ us hl => match us, hl with | [_], _ => rfl,
    m_is_name := PySem.W.mg_of X G a_is_name,
    f_are_names := f_are_names,
    e_are_names := PySem.W.fnOf "are_names" "are_names" (defArgs s_are_names) (defBody s_are_names) (defScope s_are_names) .none kV_are_names dc_are_names pm_are_names an_are_names cd_are_names ct_are_names,
    F_are_names := fun_mk (st := s_are_names) l_are_names c_are_names k_are_names,
    b_are_names := Fun.binds (ps := ["values"]) (fun_mk (st := s_are_names) l_are_names c_are_names k_are_names) fun _ _ _ _ _ _ us hl => match us, hl with | [_], _ => rfl,
    m_are_names := PySem.W.mg_of X G a_are_names,
    f_is_number := f_is_number,
    e_is_number := PySem.W.fnOf "is_number" "is_number" (defArgs s_is_number) (defBody s_is_number) (defScope s_is_number) .none kV_is_number dc_is_number pm_is_number an_is_number cd_is_number ct_is_number,
    F_is_number := fun_mk (st := s_is_number) l_is_number c_is_number k_is_number,
    b_is_number := Fun.binds (ps := ["word"]) (fun_mk (st := s_is_number) l_is_number c_is_number k_is_number) fun _ _ _ _ _ _ us hl => match us, hl with | [_], _ => rfl,
    m_is_number := PySem.W.mg_of X G a_is_number,
    f_is_any_row := f_is_any_row,
    e_is_any_row := PySem.W.fnOf "is_any_row" "is_any_row" (defArgs s_is_any_row) (defBody s_is_any_row) (defScope s_is_any_row) .none kV_is_any_row dc_is_any_row pm_is_any_row an_is_any_row cd_is_any_row ct_is_any_row,
    F_is_any_row := fun_mk (st := s_is_any_row) l_is_any_row c_is_any_row k_is_any_row,
    b_is_any_row := Fun.binds (ps := ["value"]) (fun_mk (st := s_is_any_row) l_is_any_row c_is_any_row k_is_any_row) fun _ _ _ _ _ _ us hl => match us, hl with | [_], _ => rfl,
    m_is_any_row := PySem.W.mg_of X G a_is_any_row,
    f_is_row := f_is_row,
    e_is_row := PySem.W.fnOf "is_row" "is_row" (defArgs s_is_row) (defBody s_is_row) (defScope s_is_row) .none kV_is_row dc_is_row pm_is_row an_is_row cd_is_row ct_is_row,
    F_is_row := fun_mk (st := s_is_row) l_is_row c_is_row k_is_row,
    b_is_row := Fun.binds (ps := ["value", "many"]) (fun_mk (st := s_is_row) l_is_row c_is_row k_is_row) fun _ _ _ _ _ _ us hl => match us, hl with | [_, _], _ => rfl,
    m_is_row := PySem.W.mg_of X G a_is_row,
    f_is_whole := f_is_whole,
    e_is_whole := PySem.W.fnOf "is_whole" "is_whole" (defArgs s_is_whole) (defBody s_is_whole) (defScope s_is_whole) .none kV_is_whole dc_is_whole pm_is_whole an_is_whole cd_is_whole ct_is_whole,
    F_is_whole := fun_mk (st := s_is_whole) l_is_whole c_is_whole k_is_whole,
    b_is_whole := Fun.binds (ps := ["value"]) (fun_mk (st := s_is_whole) l_is_whole c_is_whole k_is_whole) fun _ _ _ _ _ _ us hl => match us, hl with | [_], _ => rfl,
    m_is_whole := PySem.W.mg_of X G a_is_whole,
    f_is_index := f_is_index,
    e_is_index := PySem.W.fnOf "is_index" "is_index" (defArgs s_is_index) (defBody s_is_index) (defScope s_is_index) .none kV_is_index dc_is_index pm_is_index an_is_index cd_is_index ct_is_index,
    F_is_index := fun_mk (st := s_is_index) l_is_index c_is_index k_is_index,
    b_is_index := Fun.binds (ps := ["value", "many"]) (fun_mk (st := s_is_index) l_is_index c_is_index k_is_index) fun _ _ _ _ _ _ us hl => match us, hl with | [_, _], _ => rfl,
    m_is_index := PySem.W.mg_of X G a_is_index,
    f_is_pair := f_is_pair,
    e_is_pair := PySem.W.fnOf "is_pair" "is_pair" (defArgs s_is_pair) (defBody s_is_pair) (defScope s_is_pair) .none kV_is_pair dc_is_pair pm_is_pair an_is_pair cd_is_pair ct_is_pair,
    F_is_pair := fun_mk (st := s_is_pair) l_is_pair c_is_pair k_is_pair,
    b_is_pair := Fun.binds (ps := ["one", "other", "many"]) (fun_mk (st := s_is_pair) l_is_pair c_is_pair k_is_pair) fun _ _ _ _ _ _ us hl => match us, hl with | [_, _, _], _ => rfl,
    m_is_pair := PySem.W.mg_of X G a_is_pair,
    f_wrong_in_lot := f_wrong_in_lot,
    e_wrong_in_lot := PySem.W.fnOf "wrong_in_lot" "wrong_in_lot" (defArgs s_wrong_in_lot) (defBody s_wrong_in_lot) (defScope s_wrong_in_lot) .none kV_wrong_in_lot dc_wrong_in_lot pm_wrong_in_lot an_wrong_in_lot cd_wrong_in_lot ct_wrong_in_lot,
    F_wrong_in_lot := fun_mk (st := s_wrong_in_lot) l_wrong_in_lot c_wrong_in_lot k_wrong_in_lot,
    b_wrong_in_lot := Fun.binds (ps := ["lot", "many"]) (fun_mk (st := s_wrong_in_lot) l_wrong_in_lot c_wrong_in_lot k_wrong_in_lot) fun _ _ _ _ _ _ us hl => match us, hl with | [_, _], _ => rfl,
    m_wrong_in_lot := PySem.W.mg_of X G a_wrong_in_lot,
    f_is_lot := f_is_lot,
    e_is_lot := PySem.W.fnOf "is_lot" "is_lot" (defArgs s_is_lot) (defBody s_is_lot) (defScope s_is_lot) .none kV_is_lot dc_is_lot pm_is_lot an_is_lot cd_is_lot ct_is_lot,
    F_is_lot := fun_mk (st := s_is_lot) l_is_lot c_is_lot k_is_lot,
    b_is_lot := Fun.binds (ps := ["value", "many"]) (fun_mk (st := s_is_lot) l_is_lot c_is_lot k_is_lot) fun _ _ _ _ _ _ us hl => match us, hl with | [_, _], _ => rfl,
    m_is_lot := PySem.W.mg_of X G a_is_lot,
    f_is_ranking := f_is_ranking,
    e_is_ranking := PySem.W.fnOf "is_ranking" "is_ranking" (defArgs s_is_ranking) (defBody s_is_ranking) (defScope s_is_ranking) .none kV_is_ranking dc_is_ranking pm_is_ranking an_is_ranking cd_is_ranking ct_is_ranking,
    F_is_ranking := fun_mk (st := s_is_ranking) l_is_ranking c_is_ranking k_is_ranking,
    b_is_ranking := Fun.binds (ps := ["value", "many"]) (fun_mk (st := s_is_ranking) l_is_ranking c_is_ranking k_is_ranking) fun _ _ _ _ _ _ us hl => match us, hl with | [_, _], _ => rfl,
    m_is_ranking := PySem.W.mg_of X G a_is_ranking,
    f_read_book := f_read_book,
    e_read_book := PySem.W.fnOf "read_book" "read_book" (defArgs s_read_book) (defBody s_read_book) (defScope s_read_book) .none kV_read_book dc_read_book pm_read_book an_read_book cd_read_book ct_read_book,
    F_read_book := fun_mk (st := s_read_book) l_read_book c_read_book k_read_book,
    b_read_book := Fun.binds (ps := ["text"]) (fun_mk (st := s_read_book) l_read_book c_read_book k_read_book) fun _ _ _ _ _ _ us hl => match us, hl with | [_], _ => rfl,
    m_read_book := PySem.W.mg_of X G a_read_book,
    f_read_mark := f_read_mark,
    e_read_mark := PySem.W.fnOf "read_mark" "read_mark" (defArgs s_read_mark) (defBody s_read_mark) (defScope s_read_mark) .none kV_read_mark dc_read_mark pm_read_mark an_read_mark cd_read_mark ct_read_mark,
    F_read_mark := fun_mk (st := s_read_mark) l_read_mark c_read_mark k_read_mark,
    b_read_mark := Fun.binds (ps := ["word"]) (fun_mk (st := s_read_mark) l_read_mark c_read_mark k_read_mark) fun _ _ _ _ _ _ us hl => match us, hl with | [_], _ => rfl,
    m_read_mark := PySem.W.mg_of X G a_read_mark,
    f_read_candidates := f_read_candidates,
    e_read_candidates := PySem.W.fnOf "read_candidates" "read_candidates" (defArgs s_read_candidates) (defBody s_read_candidates) (defScope s_read_candidates) .none kV_read_candidates dc_read_candidates pm_read_candidates an_read_candidates cd_read_candidates ct_read_candidates,
    F_read_candidates := fun_mk (st := s_read_candidates) l_read_candidates c_read_candidates k_read_candidates,
    b_read_candidates := Fun.binds (ps := ["text", "read_word"]) (fun_mk (st := s_read_candidates) l_read_candidates c_read_candidates k_read_candidates) fun _ _ _ _ _ _ us hl => match us, hl with | [_, _], _ => rfl,
    m_read_candidates := PySem.W.mg_of X G a_read_candidates,
    f_read_case := f_read_case,
    e_read_case := PySem.W.fnOf "read_case" "read_case" (defArgs s_read_case) (defBody s_read_case) (defScope s_read_case) .none kV_read_case dc_read_case pm_read_case an_read_case cd_read_case ct_read_case,
    F_read_case := fun_mk (st := s_read_case) l_read_case c_read_case k_read_case,
    b_read_case := Fun.binds (ps := ["text"]) (fun_mk (st := s_read_case) l_read_case c_read_case k_read_case) fun _ _ _ _ _ _ us hl => match us, hl with | [_], _ => rfl,
    m_read_case := PySem.W.mg_of X G a_read_case,
    f_row_holds := f_row_holds,
    e_row_holds := PySem.W.fnOf "row_holds" "row_holds" (defArgs s_row_holds) (defBody s_row_holds) (defScope s_row_holds) .none kV_row_holds dc_row_holds pm_row_holds an_row_holds cd_row_holds ct_row_holds,
    F_row_holds := fun_mk (st := s_row_holds) l_row_holds c_row_holds k_row_holds,
    b_row_holds := Fun.binds (ps := ["row", "ranking"]) (fun_mk (st := s_row_holds) l_row_holds c_row_holds k_row_holds) fun _ _ _ _ _ _ us hl => match us, hl with | [_, _], _ => rfl,
    m_row_holds := PySem.W.mg_of X G a_row_holds,
    f_all_hold := f_all_hold,
    e_all_hold := PySem.W.fnOf "all_hold" "all_hold" (defArgs s_all_hold) (defBody s_all_hold) (defScope s_all_hold) .none kV_all_hold dc_all_hold pm_all_hold an_all_hold cd_all_hold ct_all_hold,
    F_all_hold := fun_mk (st := s_all_hold) l_all_hold c_all_hold k_all_hold,
    b_all_hold := Fun.binds (ps := ["rows", "ranking"]) (fun_mk (st := s_all_hold) l_all_hold c_all_hold k_all_hold) fun _ _ _ _ _ _ us hl => match us, hl with | [_, _], _ => rfl,
    m_all_hold := PySem.W.mg_of X G a_all_hold,
    f_turned := f_turned,
    e_turned := PySem.W.fnOf "turned" "turned" (defArgs s_turned) (defBody s_turned) (defScope s_turned) .none kV_turned dc_turned pm_turned an_turned cd_turned ct_turned,
    F_turned := fun_mk (st := s_turned) l_turned c_turned k_turned,
    b_turned := Fun.binds (ps := ["row"]) (fun_mk (st := s_turned) l_turned c_turned k_turned) fun _ _ _ _ _ _ us hl => match us, hl with | [_], _ => rfl,
    m_turned := PySem.W.mg_of X G a_turned,
    f_row_of_pair := f_row_of_pair,
    e_row_of_pair := PySem.W.fnOf "row_of_pair" "row_of_pair" (defArgs s_row_of_pair) (defBody s_row_of_pair) (defScope s_row_of_pair) .none kV_row_of_pair dc_row_of_pair pm_row_of_pair an_row_of_pair cd_row_of_pair ct_row_of_pair,
    F_row_of_pair := fun_mk (st := s_row_of_pair) l_row_of_pair c_row_of_pair k_row_of_pair,
    b_row_of_pair := Fun.binds (ps := ["one", "other", "many"]) (fun_mk (st := s_row_of_pair) l_row_of_pair c_row_of_pair k_row_of_pair) fun _ _ _ _ _ _ us hl => match us, hl with | [_, _, _], _ => rfl,
    m_row_of_pair := PySem.W.mg_of X G a_row_of_pair,
    f_sign_of := f_sign_of,
    e_sign_of := PySem.W.fnOf "sign_of" "sign_of" (defArgs s_sign_of) (defBody s_sign_of) (defScope s_sign_of) .none kV_sign_of dc_sign_of pm_sign_of an_sign_of cd_sign_of ct_sign_of,
    F_sign_of := fun_mk (st := s_sign_of) l_sign_of c_sign_of k_sign_of,
    b_sign_of := Fun.binds (ps := ["mark", "rival"]) (fun_mk (st := s_sign_of) l_sign_of c_sign_of k_sign_of) fun _ _ _ _ _ _ us hl => match us, hl with | [_, _], _ => rfl,
    m_sign_of := PySem.W.mg_of X G a_sign_of,
    f_row_between := f_row_between,
    e_row_between := PySem.W.fnOf "row_between" "row_between" (defArgs s_row_between) (defBody s_row_between) (defScope s_row_between) .none kV_row_between dc_row_between pm_row_between an_row_between cd_row_between ct_row_between,
    F_row_between := fun_mk (st := s_row_between) l_row_between c_row_between k_row_between,
    b_row_between := Fun.binds (ps := ["mine", "theirs"]) (fun_mk (st := s_row_between) l_row_between c_row_between k_row_between) fun _ _ _ _ _ _ us hl => match us, hl with | [_, _], _ => rfl,
    m_row_between := PySem.W.mg_of X G a_row_between,
    f_fused_sign := f_fused_sign,
    e_fused_sign := PySem.W.fnOf "fused_sign" "fused_sign" (defArgs s_fused_sign) (defBody s_fused_sign) (defScope s_fused_sign) .none kV_fused_sign dc_fused_sign pm_fused_sign an_fused_sign cd_fused_sign ct_fused_sign,
    F_fused_sign := fun_mk (st := s_fused_sign) l_fused_sign c_fused_sign k_fused_sign,
    b_fused_sign := Fun.binds (ps := ["signs"]) (fun_mk (st := s_fused_sign) l_fused_sign c_fused_sign k_fused_sign) fun _ _ _ _ _ _ us hl => match us, hl with | [_], _ => rfl,
    m_fused_sign := PySem.W.mg_of X G a_fused_sign,
    f_fused := f_fused,
    e_fused := PySem.W.fnOf "fused" "fused" (defArgs s_fused) (defBody s_fused) (defScope s_fused) .none kV_fused dc_fused pm_fused an_fused cd_fused ct_fused,
    F_fused := fun_mk (st := s_fused) l_fused c_fused k_fused,
    b_fused := Fun.binds (ps := ["rows", "many"]) (fun_mk (st := s_fused) l_fused c_fused k_fused) fun _ _ _ _ _ _ us hl => match us, hl with | [_, _], _ => rfl,
    m_fused := PySem.W.mg_of X G a_fused,
    f_is_fitting := f_is_fitting,
    e_is_fitting := PySem.W.fnOf "is_fitting" "is_fitting" (defArgs s_is_fitting) (defBody s_is_fitting) (defScope s_is_fitting) .none kV_is_fitting dc_is_fitting pm_is_fitting an_is_fitting cd_is_fitting ct_is_fitting,
    F_is_fitting := fun_mk (st := s_is_fitting) l_is_fitting c_is_fitting k_is_fitting,
    b_is_fitting := Fun.binds (ps := ["value", "rows", "many"]) (fun_mk (st := s_is_fitting) l_is_fitting c_is_fitting k_is_fitting) fun _ _ _ _ _ _ us hl => match us, hl with | [_, _, _], _ => rfl,
    m_is_fitting := PySem.W.mg_of X G a_is_fitting,
    f_do_quarrel := f_do_quarrel,
    e_do_quarrel := PySem.W.fnOf "do_quarrel" "do_quarrel" (defArgs s_do_quarrel) (defBody s_do_quarrel) (defScope s_do_quarrel) .none kV_do_quarrel dc_do_quarrel pm_do_quarrel an_do_quarrel cd_do_quarrel ct_do_quarrel,
    F_do_quarrel := fun_mk (st := s_do_quarrel) l_do_quarrel c_do_quarrel k_do_quarrel,
    b_do_quarrel := Fun.binds (ps := ["rows", "many"]) (fun_mk (st := s_do_quarrel) l_do_quarrel c_do_quarrel k_do_quarrel) fun _ _ _ _ _ _ us hl => match us, hl with | [_, _], _ => rfl,
    m_do_quarrel := PySem.W.mg_of X G a_do_quarrel,
    f_shows_quarrel := f_shows_quarrel,
    e_shows_quarrel := PySem.W.fnOf "shows_quarrel" "shows_quarrel" (defArgs s_shows_quarrel) (defBody s_shows_quarrel) (defScope s_shows_quarrel) .none kV_shows_quarrel dc_shows_quarrel pm_shows_quarrel an_shows_quarrel cd_shows_quarrel ct_shows_quarrel,
    F_shows_quarrel := fun_mk (st := s_shows_quarrel) l_shows_quarrel c_shows_quarrel k_shows_quarrel,
    b_shows_quarrel := Fun.binds (ps := ["certificate", "rows", "many"]) (fun_mk (st := s_shows_quarrel) l_shows_quarrel c_shows_quarrel k_shows_quarrel) fun _ _ _ _ _ _ us hl => match us, hl with | [_, _, _], _ => rfl,
    m_shows_quarrel := PySem.W.mg_of X G a_shows_quarrel,
    f_shows_following := f_shows_following,
    e_shows_following := PySem.W.fnOf "shows_following" "shows_following" (defArgs s_shows_following) (defBody s_shows_following) (defScope s_shows_following) .none kV_shows_following dc_shows_following pm_shows_following an_shows_following cd_shows_following ct_shows_following,
    F_shows_following := fun_mk (st := s_shows_following) l_shows_following c_shows_following k_shows_following,
    b_shows_following := Fun.binds (ps := ["certificate", "rows", "row"]) (fun_mk (st := s_shows_following) l_shows_following c_shows_following k_shows_following) fun _ _ _ _ _ _ us hl => match us, hl with | [_, _, _], _ => rfl,
    m_shows_following := PySem.W.mg_of X G a_shows_following,
    f_shows_open := f_shows_open,
    e_shows_open := PySem.W.fnOf "shows_open" "shows_open" (defArgs s_shows_open) (defBody s_shows_open) (defScope s_shows_open) .none kV_shows_open dc_shows_open pm_shows_open an_shows_open cd_shows_open ct_shows_open,
    F_shows_open := fun_mk (st := s_shows_open) l_shows_open c_shows_open k_shows_open,
    b_shows_open := Fun.binds (ps := ["certificate", "rows", "row"]) (fun_mk (st := s_shows_open) l_shows_open c_shows_open k_shows_open) fun _ _ _ _ _ _ us hl => match us, hl with | [_, _, _], _ => rfl,
    m_shows_open := PySem.W.mg_of X G a_shows_open,
    f_may_follow := f_may_follow,
    e_may_follow := PySem.W.fnOf "may_follow" "may_follow" (defArgs s_may_follow) (defBody s_may_follow) (defScope s_may_follow) .none kV_may_follow dc_may_follow pm_may_follow an_may_follow cd_may_follow ct_may_follow,
    F_may_follow := fun_mk (st := s_may_follow) l_may_follow c_may_follow k_may_follow,
    b_may_follow := Fun.binds (ps := ["rule", "lot", "rows"]) (fun_mk (st := s_may_follow) l_may_follow c_may_follow k_may_follow) fun _ _ _ _ _ _ us hl => match us, hl with | [_, _, _], _ => rfl,
    m_may_follow := PySem.W.mg_of X G a_may_follow,
    f_count_rankings := f_count_rankings,
    e_count_rankings := PySem.W.fnOf "count_rankings" "count_rankings" (defArgs s_count_rankings) (defBody s_count_rankings) (defScope s_count_rankings) .none kV_count_rankings dc_count_rankings pm_count_rankings an_count_rankings cd_count_rankings ct_count_rankings,
    F_count_rankings := fun_mk (st := s_count_rankings) l_count_rankings c_count_rankings k_count_rankings,
    b_count_rankings := Fun.binds (ps := ["rows", "many"]) (fun_mk (st := s_count_rankings) l_count_rankings c_count_rankings k_count_rankings) fun _ _ _ _ _ _ us hl => match us, hl with | [_, _], _ => rfl,
    m_count_rankings := PySem.W.mg_of X G a_count_rankings,
    f_are_alike := f_are_alike,
    e_are_alike := PySem.W.fnOf "are_alike" "are_alike" (defArgs s_are_alike) (defBody s_are_alike) (defScope s_are_alike) .none kV_are_alike dc_are_alike pm_are_alike an_are_alike cd_are_alike ct_are_alike,
    F_are_alike := fun_mk (st := s_are_alike) l_are_alike c_are_alike k_are_alike,
    b_are_alike := Fun.binds (ps := ["names", "rows", "text"]) (fun_mk (st := s_are_alike) l_are_alike c_are_alike k_are_alike) fun _ _ _ _ _ _ us hl => match us, hl with | [_, _, _], _ => rfl,
    m_are_alike := PySem.W.mg_of X G a_are_alike,
    f_shows_above := f_shows_above,
    e_shows_above := PySem.W.fnOf "shows_above" "shows_above" (defArgs s_shows_above) (defBody s_shows_above) (defScope s_shows_above) .none kV_shows_above dc_shows_above pm_shows_above an_shows_above cd_shows_above ct_shows_above,
    F_shows_above := fun_mk (st := s_shows_above) l_shows_above c_shows_above k_shows_above,
    b_shows_above := Fun.binds (ps := ["certificate", "rows", "many", "pair"]) (fun_mk (st := s_shows_above) l_shows_above c_shows_above k_shows_above) fun _ _ _ _ _ _ us hl => match us, hl with | [_, _, _, _], _ => rfl,
    m_shows_above := PySem.W.mg_of X G a_shows_above,
    f_accepts_of_book := f_accepts_of_book,
    e_accepts_of_book := PySem.W.fnOf "accepts_of_book" "accepts_of_book" (defArgs s_accepts_of_book) (defBody s_accepts_of_book) (defScope s_accepts_of_book) .none kV_accepts_of_book dc_accepts_of_book pm_accepts_of_book an_accepts_of_book cd_accepts_of_book ct_accepts_of_book,
    F_accepts_of_book := fun_mk (st := s_accepts_of_book) l_accepts_of_book c_accepts_of_book k_accepts_of_book,
    b_accepts_of_book := Fun.binds (ps := ["word", "book", "parts", "certificate"]) (fun_mk (st := s_accepts_of_book) l_accepts_of_book c_accepts_of_book k_accepts_of_book) fun _ _ _ _ _ _ us hl => match us, hl with | [_, _, _, _], _ => rfl,
    m_accepts_of_book := PySem.W.mg_of X G a_accepts_of_book,
    f_accepts_of_case := f_accepts_of_case,
    e_accepts_of_case := PySem.W.fnOf "accepts_of_case" "accepts_of_case" (defArgs s_accepts_of_case) (defBody s_accepts_of_case) (defScope s_accepts_of_case) .none kV_accepts_of_case dc_accepts_of_case pm_accepts_of_case an_accepts_of_case cd_accepts_of_case ct_accepts_of_case,
    F_accepts_of_case := fun_mk (st := s_accepts_of_case) l_accepts_of_case c_accepts_of_case k_accepts_of_case,
    b_accepts_of_case := Fun.binds (ps := ["word", "case", "one", "certificate"]) (fun_mk (st := s_accepts_of_case) l_accepts_of_case c_accepts_of_case k_accepts_of_case) fun _ _ _ _ _ _ us hl => match us, hl with | [_, _, _, _], _ => rfl,
    m_accepts_of_case := PySem.W.mg_of X G a_accepts_of_case,
    f_accepts := f_accepts,
    e_accepts := PySem.W.fnOf "accepts" "accepts" (defArgs s_accepts) (defBody s_accepts) (defScope s_accepts) .none kV_accepts dc_accepts pm_accepts an_accepts cd_accepts ct_accepts,
    F_accepts := fun_mk (st := s_accepts) l_accepts c_accepts k_accepts,
    b_accepts := Fun.binds (ps := ["claim", "certificate"]) (fun_mk (st := s_accepts) l_accepts c_accepts k_accepts) fun _ _ _ _ _ _ us hl => match us, hl with | [_, _], _ => rfl,
    m_accepts := PySem.W.mg_of X G a_accepts,
    f__law_begun := f__law_begun,
    e__law_begun := PySem.W.fnOf "_law_begun" "_law_begun" (defArgs s__law_begun) (defBody s__law_begun) (defScope s__law_begun) .none kV__law_begun dc__law_begun pm__law_begun an__law_begun cd__law_begun ct__law_begun,
    F__law_begun := fun_mk (st := s__law_begun) l__law_begun c__law_begun k__law_begun,
    b__law_begun := Fun.binds (ps := ["_law_script", "_law_turn"]) (fun_mk (st := s__law_begun) l__law_begun c__law_begun k__law_begun) fun _ _ _ _ _ _ us hl => match us, hl with | [_, _], _ => rfl,
    m__law_begun := PySem.W.mg_of X G a__law_begun,
    f__law_cast := f__law_cast,
    e__law_cast := PySem.W.fnOf "_law_cast" "_law_cast" (defArgs s__law_cast) (defBody s__law_cast) (defScope s__law_cast) .none kV__law_cast dc__law_cast pm__law_cast an__law_cast cd__law_cast ct__law_cast,
    F__law_cast := fun_mk (st := s__law_cast) l__law_cast c__law_cast k__law_cast,
    b__law_cast := Fun.binds (ps := ["_law_pail", "_law_many"]) (fun_mk (st := s__law_cast) l__law_cast c__law_cast k__law_cast) fun _ _ _ _ _ _ us hl => match us, hl with | [_, _], _ => rfl,
    m__law_cast := PySem.W.mg_of X G a__law_cast,
    f__law_any_of := f__law_any_of,
    e__law_any_of := PySem.W.fnOf "_law_any_of" "_law_any_of" (defArgs s__law_any_of) (defBody s__law_any_of) (defScope s__law_any_of) .none kV__law_any_of dc__law_any_of pm__law_any_of an__law_any_of cd__law_any_of ct__law_any_of,
    F__law_any_of := fun_mk (st := s__law_any_of) l__law_any_of c__law_any_of k__law_any_of,
    b__law_any_of := Fun.binds (ps := ["_law_pail", "_law_some"]) (fun_mk (st := s__law_any_of) l__law_any_of c__law_any_of k__law_any_of) fun _ _ _ _ _ _ us hl => match us, hl with | [_, _], _ => rfl,
    m__law_any_of := PySem.W.mg_of X G a__law_any_of,
    f__law_words := f__law_words,
    e__law_words := PySem.W.fnOf "_law_words" "_law_words" (defArgs s__law_words) (defBody s__law_words) (defScope s__law_words) .none kV__law_words dc__law_words pm__law_words an__law_words cd__law_words ct__law_words,
    F__law_words := fun_mk (st := s__law_words) l__law_words c__law_words k__law_words,
    b__law_words := Fun.binds (ps := ["_law_pail", "_law_many"]) (fun_mk (st := s__law_words) l__law_words c__law_words k__law_words) fun _ _ _ _ _ _ us hl => match us, hl with | [_, _], _ => rfl,
    m__law_words := PySem.W.mg_of X G a__law_words,
    f__law_said := f__law_said,
    e__law_said := PySem.W.fnOf "_law_said" "_law_said" (defArgs s__law_said) (defBody s__law_said) (defScope s__law_said) .none kV__law_said dc__law_said pm__law_said an__law_said cd__law_said ct__law_said,
    F__law_said := fun_mk (st := s__law_said) l__law_said c__law_said k__law_said,
    b__law_said := Fun.binds (ps := ["_law_words_here", "_law_rows"]) (fun_mk (st := s__law_said) l__law_said c__law_said k__law_said) fun _ _ _ _ _ _ us hl => match us, hl with | [_, _], _ => rfl,
    m__law_said := PySem.W.mg_of X G a__law_said,
    f__law_thing := f__law_thing,
    e__law_thing := PySem.W.fnOf "_law_thing" "_law_thing" (defArgs s__law_thing) (defBody s__law_thing) (defScope s__law_thing) .none kV__law_thing dc__law_thing pm__law_thing an__law_thing cd__law_thing ct__law_thing,
    F__law_thing := fun_mk (st := s__law_thing) l__law_thing c__law_thing k__law_thing,
    b__law_thing := Fun.binds (ps := ["_law_pail"]) (fun_mk (st := s__law_thing) l__law_thing c__law_thing k__law_thing) fun _ _ _ _ _ _ us hl => match us, hl with | [_], _ => rfl,
    m__law_thing := PySem.W.mg_of X G a__law_thing,
    f__law_told := f__law_told,
    e__law_told := PySem.W.fnOf "_law_told" "_law_told" (defArgs s__law_told) (defBody s__law_told) (defScope s__law_told) .none kV__law_told dc__law_told pm__law_told an__law_told cd__law_told ct__law_told,
    F__law_told := fun_mk (st := s__law_told) l__law_told c__law_told k__law_told,
    b__law_told := Fun.binds (ps := ["_law_claim_here", "_law_paper"]) (fun_mk (st := s__law_told) l__law_told c__law_told k__law_told) fun _ _ _ _ _ _ us hl => match us, hl with | [_, _], _ => rfl,
    m__law_told := PySem.W.mg_of X G a__law_told,
    f__law_goods := f__law_goods,
    e__law_goods := PySem.W.fnOf "_law_goods" "_law_goods" (defArgs s__law_goods) (defBody s__law_goods) (defScope s__law_goods) .none kV__law_goods dc__law_goods pm__law_goods an__law_goods cd__law_goods ct__law_goods,
    F__law_goods := fun_mk (st := s__law_goods) l__law_goods c__law_goods k__law_goods,
    b__law_goods := Fun.binds (ps := ["_law_pail"]) (fun_mk (st := s__law_goods) l__law_goods c__law_goods k__law_goods) fun _ _ _ _ _ _ us hl => match us, hl with | [_], _ => rfl,
    m__law_goods := PySem.W.mg_of X G a__law_goods,
    f__law_odd := f__law_odd,
    e__law_odd := PySem.W.fnOf "_law_odd" "_law_odd" (defArgs s__law_odd) (defBody s__law_odd) (defScope s__law_odd) .none kV__law_odd dc__law_odd pm__law_odd an__law_odd cd__law_odd ct__law_odd,
    F__law_odd := fun_mk (st := s__law_odd) l__law_odd c__law_odd k__law_odd,
    b__law_odd := Fun.binds (ps := ["_law_pail"]) (fun_mk (st := s__law_odd) l__law_odd c__law_odd k__law_odd) fun _ _ _ _ _ _ us hl => match us, hl with | [_], _ => rfl,
    m__law_odd := PySem.W.mg_of X G a__law_odd,
    f__law_wrong := f__law_wrong,
    e__law_wrong := PySem.W.fnOf "_law_wrong" "_law_wrong" (defArgs s__law_wrong) (defBody s__law_wrong) (defScope s__law_wrong) .none kV__law_wrong dc__law_wrong pm__law_wrong an__law_wrong cd__law_wrong ct__law_wrong,
    F__law_wrong := fun_mk (st := s__law_wrong) l__law_wrong c__law_wrong k__law_wrong,
    b__law_wrong := Fun.binds (ps := ["_law_pail", "_law_claim_here"]) (fun_mk (st := s__law_wrong) l__law_wrong c__law_wrong k__law_wrong) fun _ _ _ _ _ _ us hl => match us, hl with | [_, _], _ => rfl,
    m__law_wrong := PySem.W.mg_of X G a__law_wrong,
    f__law_right := f__law_right,
    e__law_right := PySem.W.fnOf "_law_right" "_law_right" (defArgs s__law_right) (defBody s__law_right) (defScope s__law_right) .none kV__law_right dc__law_right pm__law_right an__law_right cd__law_right ct__law_right,
    F__law_right := fun_mk (st := s__law_right) l__law_right c__law_right k__law_right,
    b__law_right := Fun.binds (ps := ["_law_pail"]) (fun_mk (st := s__law_right) l__law_right c__law_right k__law_right) fun _ _ _ _ _ _ us hl => match us, hl with | [_], _ => rfl,
    m__law_right := PySem.W.mg_of X G a__law_right,
    f_law := fa,
    e_law := PySem.W.fnOf "law" "law" (defArgs s_law) (defBody s_law) (defScope s_law) .none kV_law dc_law pm_law an_law cd_law ct_law,
    F_law := fun_mk (st := s_law) l_law c_law k_law,
    b_law := Fun.binds (ps := ["_law_script"]) (fun_mk (st := s_law) l_law c_law k_law) fun _ _ _ _ _ _ us hl => match us, hl with | [_], _ => rfl,
    m_law := PySem.W.mg_of X G a_law,
    n_abs := PySem.W.mg_none_of X G z_abs,
    n_all := PySem.W.mg_none_of X G z_all,
    n_bool := PySem.W.mg_none_of X G z_bool,
    n_divmod := PySem.W.mg_none_of X G z_divmod,
    n_enumerate := PySem.W.mg_none_of X G z_enumerate,
    n_int := PySem.W.mg_none_of X G z_int,
    n_isinstance := PySem.W.mg_none_of X G z_isinstance,
    n_len := PySem.W.mg_none_of X G z_len,
    n_list := PySem.W.mg_none_of X G z_list,
    n_max := PySem.W.mg_none_of X G z_max,
    n_min := PySem.W.mg_none_of X G z_min,
    n_range := PySem.W.mg_none_of X G z_range,
    n_sorted := PySem.W.mg_none_of X G z_sorted,
    n_str := PySem.W.mg_none_of X G z_str,
    n_tuple := PySem.W.mg_none_of X G z_tuple,
    n_zip := PySem.W.mg_none_of X G z_zip,
    t_DIGITS := t_DIGITS,
    c_DIGITS := PySem.W.mg_of X G v_DIGITS,
    t_LEAST_CANDIDATES := t_LEAST_CANDIDATES,
    c_LEAST_CANDIDATES := PySem.W.mg_of X G v_LEAST_CANDIDATES,
    a_LENGTHS := a_LENGTHS,
    c_LENGTHS := PySem.W.mg_of X G v_LENGTHS,
    es_LENGTHS := es_LENGTHS,
    nn_LENGTHS := n_LENGTHS,
    kd_LENGTHS := ⟨dl_LENGTHS, dk_LENGTHS, ds_LENGTHS⟩,
    v_LENGTHS_fits := ⟨_, w_LENGTHS_fits⟩,
    w_LENGTHS_fits := ⟨_, _, _, dl_LENGTHS, dk_LENGTHS, w_LENGTHS_fits, ⟨_, rfl⟩⟩,
    v_LENGTHS_quarrels := ⟨_, w_LENGTHS_quarrels⟩,
    w_LENGTHS_quarrels := ⟨_, _, _, dl_LENGTHS, dk_LENGTHS, w_LENGTHS_quarrels, ⟨_, rfl⟩⟩,
    v_LENGTHS_follows := ⟨_, w_LENGTHS_follows⟩,
    w_LENGTHS_follows := ⟨_, _, _, dl_LENGTHS, dk_LENGTHS, w_LENGTHS_follows, ⟨_, rfl⟩⟩,
    v_LENGTHS_above := ⟨_, w_LENGTHS_above⟩,
    w_LENGTHS_above := ⟨_, _, _, dl_LENGTHS, dk_LENGTHS, w_LENGTHS_above, ⟨_, rfl⟩⟩,
    v_LENGTHS_open := ⟨_, w_LENGTHS_open⟩,
    w_LENGTHS_open := ⟨_, _, _, dl_LENGTHS, dk_LENGTHS, w_LENGTHS_open, ⟨_, rfl⟩⟩,
    v_LENGTHS_count := ⟨_, w_LENGTHS_count⟩,
    w_LENGTHS_count := ⟨_, _, _, dl_LENGTHS, dk_LENGTHS, w_LENGTHS_count, ⟨_, rfl⟩⟩,
    v_LENGTHS_alike := ⟨_, w_LENGTHS_alike⟩,
    w_LENGTHS_alike := ⟨_, _, _, dl_LENGTHS, dk_LENGTHS, w_LENGTHS_alike, ⟨_, rfl⟩⟩,
    v_LENGTHS_wins := ⟨_, w_LENGTHS_wins⟩,
    w_LENGTHS_wins := ⟨_, _, _, dl_LENGTHS, dk_LENGTHS, w_LENGTHS_wins, ⟨_, rfl⟩⟩,
    v_LENGTHS_loses := ⟨_, w_LENGTHS_loses⟩,
    w_LENGTHS_loses := ⟨_, _, _, dl_LENGTHS, dk_LENGTHS, w_LENGTHS_loses, ⟨_, rfl⟩⟩,
    t_LETTERS := t_LETTERS,
    c_LETTERS := PySem.W.mg_of X G v_LETTERS,
    t_MOST_CANDIDATES := t_MOST_CANDIDATES,
    c_MOST_CANDIDATES := PySem.W.mg_of X G v_MOST_CANDIDATES,
    t_MOST_LETTERS := t_MOST_LETTERS,
    c_MOST_LETTERS := PySem.W.mg_of X G v_MOST_LETTERS,
    t_MOST_MARKS := t_MOST_MARKS,
    c_MOST_MARKS := PySem.W.mg_of X G v_MOST_MARKS,
    t_MOST_ROWS := t_MOST_ROWS,
    c_MOST_ROWS := PySem.W.mg_of X G v_MOST_ROWS,
    t_MOST_RULES := t_MOST_RULES,
    c_MOST_RULES := PySem.W.mg_of X G v_MOST_RULES,
    a_OPPOSITES := a_OPPOSITES,
    c_OPPOSITES := PySem.W.mg_of X G v_OPPOSITES,
    w_OPPOSITES_43 := ⟨_, _, _, dl_OPPOSITES, dk_OPPOSITES, w_OPPOSITES_43, ⟨_, rfl⟩⟩,
    w_OPPOSITES_45 := ⟨_, _, _, dl_OPPOSITES, dk_OPPOSITES, w_OPPOSITES_45, ⟨_, rfl⟩⟩,
    w_OPPOSITES_46 := ⟨_, _, _, dl_OPPOSITES, dk_OPPOSITES, w_OPPOSITES_46, ⟨_, rfl⟩⟩,
    t_SIGNS := t_SIGNS,
    c_SIGNS := PySem.W.mg_of X G v_SIGNS,
    k_accepts_certificate_claim := kb_accepts_certificate_claim l_accepts c_accepts k_accepts,
    un_LENGTHS := fun x hx => nsIn_unknown dl_LENGTHS uk hx }
  exact ⟨T.e_law, fun s v => .of_eq rfl, fun base => d_law T⟩
end K61

open PySem PySem.W PyProof.Rows in
set_option maxRecDepth 100000 in
set_option maxHeartbeats 0 in
theorem PySem.Challenge.cw_rankedrules_k61_things_of_any_sort_judge_holds : PySem.Challenge.rw_rankedrules_k61_things_of_any_sort_judge.Holds := by
  w_on; o_law; k_head; (case hw => w_witness2)
  k_fill
  refine Dw.walk_GB (l := PySem.Challenge.rw_rankedrules_k61_things_of_any_sort_judge) (k := 11) (x := "_law_script") (sp := K61.spLaw) rfl rfl ⟨rfl, by decide, by decide⟩ (fun w h Y => PySem.W.kIn_of Y) (fun K ns h hb => ⟨ns, rfl, ⟨h, hb⟩, fun d h => h⟩) ?F
  case F =>
    intro w mg fa h KX G hmg
    refine' K61.all_mk KX G hmg ?a_is_name ?l_is_name ?c_is_name ?k_is_name ?a_are_names ?l_are_names ?c_are_names ?k_are_names ?a_is_number ?l_is_number ?c_is_number ?k_is_number ?a_is_any_row ?l_is_any_row ?c_is_any_row ?k_is_any_row ?a_is_row ?l_is_row ?c_is_row ?k_is_row ?a_is_whole ?l_is_whole ?c_is_whole ?k_is_whole ?a_is_index ?l_is_index ?c_is_index ?k_is_index ?a_is_pair ?l_is_pair ?c_is_pair ?k_is_pair ?a_wrong_in_lot ?l_wrong_in_lot ?c_wrong_in_lot ?k_wrong_in_lot ?a_is_lot ?l_is_lot ?c_is_lot ?k_is_lot ?a_is_ranking ?l_is_ranking ?c_is_ranking ?k_is_ranking ?a_read_book ?l_read_book ?c_read_book ?k_read_book ?a_read_mark ?l_read_mark ?c_read_mark ?k_read_mark ?a_read_candidates ?l_read_candidates ?c_read_candidates ?k_read_candidates ?a_read_case ?l_read_case ?c_read_case ?k_read_case ?a_row_holds ?l_row_holds ?c_row_holds ?k_row_holds ?a_all_hold ?l_all_hold ?c_all_hold ?k_all_hold ?a_turned ?l_turned ?c_turned ?k_turned ?a_row_of_pair ?l_row_of_pair ?c_row_of_pair ?k_row_of_pair ?a_sign_of ?l_sign_of ?c_sign_of ?k_sign_of ?a_row_between ?l_row_between ?c_row_between ?k_row_between ?a_fused_sign ?l_fused_sign ?c_fused_sign ?k_fused_sign ?a_fused ?l_fused ?c_fused ?k_fused ?a_is_fitting ?l_is_fitting ?c_is_fitting ?k_is_fitting ?a_do_quarrel ?l_do_quarrel ?c_do_quarrel ?k_do_quarrel ?a_shows_quarrel ?l_shows_quarrel ?c_shows_quarrel ?k_shows_quarrel ?a_shows_following ?l_shows_following ?c_shows_following ?k_shows_following ?a_shows_open ?l_shows_open ?c_shows_open ?k_shows_open ?a_may_follow ?l_may_follow ?c_may_follow ?k_may_follow ?a_count_rankings ?l_count_rankings ?c_count_rankings ?k_count_rankings ?a_are_alike ?l_are_alike ?c_are_alike ?k_are_alike ?a_shows_above ?l_shows_above ?c_shows_above ?k_shows_above ?a_accepts_of_book ?l_accepts_of_book ?c_accepts_of_book ?k_accepts_of_book ?a_accepts_of_case ?l_accepts_of_case ?c_accepts_of_case ?k_accepts_of_case ?a_accepts ?l_accepts ?c_accepts ?k_accepts ?a__law_begun ?l__law_begun ?c__law_begun ?k__law_begun ?a__law_cast ?l__law_cast ?c__law_cast ?k__law_cast ?a__law_any_of ?l__law_any_of ?c__law_any_of ?k__law_any_of ?a__law_words ?l__law_words ?c__law_words ?k__law_words ?a__law_said ?l__law_said ?c__law_said ?k__law_said ?a__law_thing ?l__law_thing ?c__law_thing ?k__law_thing ?a__law_told ?l__law_told ?c__law_told ?k__law_told ?a__law_goods ?l__law_goods ?c__law_goods ?k__law_goods ?a__law_odd ?l__law_odd ?c__law_odd ?k__law_odd ?a__law_wrong ?l__law_wrong ?c__law_wrong ?k__law_wrong ?a__law_right ?l__law_right ?c__law_right ?k__law_right ?a_law ?l_law ?c_law ?k_law ?z_abs ?z_all ?z_bool ?z_divmod ?z_enumerate ?z_int ?z_isinstance ?z_len ?z_list ?z_max ?z_min ?z_range ?z_sorted ?z_str ?z_tuple ?z_zip ?v_DIGITS ?v_LEAST_CANDIDATES ?v_LENGTHS ?dl_LENGTHS ?dk_LENGTHS ?ds_LENGTHS ?w_LENGTHS_fits ?w_LENGTHS_quarrels ?w_LENGTHS_follows ?w_LENGTHS_above ?w_LENGTHS_open ?w_LENGTHS_count ?w_LENGTHS_alike ?w_LENGTHS_wins ?w_LENGTHS_loses ?v_LETTERS ?v_MOST_CANDIDATES ?v_MOST_LETTERS ?v_MOST_MARKS ?v_MOST_ROWS ?v_MOST_RULES ?v_OPPOSITES ?dl_OPPOSITES ?dk_OPPOSITES ?w_OPPOSITES_43 ?w_OPPOSITES_45 ?w_OPPOSITES_46 ?v_SIGNS ?uk
    (case a_is_name => k_is)
    (case l_is_name => k_is)
    (case c_is_name => k_is)
    (case k_is_name => k_is)
    (case a_are_names => k_is)
    (case l_are_names => k_is)
    (case c_are_names => k_is)
    (case k_are_names => k_is)
    (case a_is_number => k_is)
    (case l_is_number => k_is)
    (case c_is_number => k_is)
    (case k_is_number => k_is)
    (case a_is_any_row => k_is)
    (case l_is_any_row => k_is)
    (case c_is_any_row => k_is)
    (case k_is_any_row => k_is)
    (case a_is_row => k_is)
    (case l_is_row => k_is)
    (case c_is_row => k_is)
    (case k_is_row => k_is)
    (case a_is_whole => k_is)
    (case l_is_whole => k_is)
    (case c_is_whole => k_is)
    (case k_is_whole => k_is)
    (case a_is_index => k_is)
    (case l_is_index => k_is)
    (case c_is_index => k_is)
    (case k_is_index => k_is)
    (case a_is_pair => k_is)
    (case l_is_pair => k_is)
    (case c_is_pair => k_is)
    (case k_is_pair => k_is)
    (case a_wrong_in_lot => k_is)
    (case l_wrong_in_lot => k_is)
    (case c_wrong_in_lot => k_is)
    (case k_wrong_in_lot => k_is)
    (case a_is_lot => k_is)
    (case l_is_lot => k_is)
    (case c_is_lot => k_is)
    (case k_is_lot => k_is)
    (case a_is_ranking => k_is)
    (case l_is_ranking => k_is)
    (case c_is_ranking => k_is)
    (case k_is_ranking => k_is)
    (case a_read_book => k_is)
    (case l_read_book => k_is)
    (case c_read_book => k_is)
    (case k_read_book => k_is)
    (case a_read_mark => k_is)
    (case l_read_mark => k_is)
    (case c_read_mark => k_is)
    (case k_read_mark => k_is)
    (case a_read_candidates => k_is)
    (case l_read_candidates => k_is)
    (case c_read_candidates => k_is)
    (case k_read_candidates => k_is)
    (case a_read_case => k_is)
    (case l_read_case => k_is)
    (case c_read_case => k_is)
    (case k_read_case => k_is)
    (case a_row_holds => k_is)
    (case l_row_holds => k_is)
    (case c_row_holds => k_is)
    (case k_row_holds => k_is)
    (case a_all_hold => k_is)
    (case l_all_hold => k_is)
    (case c_all_hold => k_is)
    (case k_all_hold => k_is)
    (case a_turned => k_is)
    (case l_turned => k_is)
    (case c_turned => k_is)
    (case k_turned => k_is)
    (case a_row_of_pair => k_is)
    (case l_row_of_pair => k_is)
    (case c_row_of_pair => k_is)
    (case k_row_of_pair => k_is)
    (case a_sign_of => k_is)
    (case l_sign_of => k_is)
    (case c_sign_of => k_is)
    (case k_sign_of => k_is)
    (case a_row_between => k_is)
    (case l_row_between => k_is)
    (case c_row_between => k_is)
    (case k_row_between => k_is)
    (case a_fused_sign => k_is)
    (case l_fused_sign => k_is)
    (case c_fused_sign => k_is)
    (case k_fused_sign => k_is)
    (case a_fused => k_is)
    (case l_fused => k_is)
    (case c_fused => k_is)
    (case k_fused => k_is)
    (case a_is_fitting => k_is)
    (case l_is_fitting => k_is)
    (case c_is_fitting => k_is)
    (case k_is_fitting => k_is)
    (case a_do_quarrel => k_is)
    (case l_do_quarrel => k_is)
    (case c_do_quarrel => k_is)
    (case k_do_quarrel => k_is)
    (case a_shows_quarrel => k_is)
    (case l_shows_quarrel => k_is)
    (case c_shows_quarrel => k_is)
    (case k_shows_quarrel => k_is)
    (case a_shows_following => k_is)
    (case l_shows_following => k_is)
    (case c_shows_following => k_is)
    (case k_shows_following => k_is)
    (case a_shows_open => k_is)
    (case l_shows_open => k_is)
    (case c_shows_open => k_is)
    (case k_shows_open => k_is)
    (case a_may_follow => k_is)
    (case l_may_follow => k_is)
    (case c_may_follow => k_is)
    (case k_may_follow => k_is)
    (case a_count_rankings => k_is)
    (case l_count_rankings => k_is)
    (case c_count_rankings => k_is)
    (case k_count_rankings => k_is)
    (case a_are_alike => k_is)
    (case l_are_alike => k_is)
    (case c_are_alike => k_is)
    (case k_are_alike => k_is)
    (case a_shows_above => k_is)
    (case l_shows_above => k_is)
    (case c_shows_above => k_is)
    (case k_shows_above => k_is)
    (case a_accepts_of_book => k_is)
    (case l_accepts_of_book => k_is)
    (case c_accepts_of_book => k_is)
    (case k_accepts_of_book => k_is)
    (case a_accepts_of_case => k_is)
    (case l_accepts_of_case => k_is)
    (case c_accepts_of_case => k_is)
    (case k_accepts_of_case => k_is)
    (case a_accepts => k_is)
    (case l_accepts => k_is)
    (case c_accepts => k_is)
    (case k_accepts => k_is)
    (case a__law_begun => k_is)
    (case l__law_begun => k_is)
    (case c__law_begun => k_is)
    (case k__law_begun => k_is)
    (case a__law_cast => k_is)
    (case l__law_cast => k_is)
    (case c__law_cast => k_is)
    (case k__law_cast => k_is)
    (case a__law_any_of => k_is)
    (case l__law_any_of => k_is)
    (case c__law_any_of => k_is)
    (case k__law_any_of => k_is)
    (case a__law_words => k_is)
    (case l__law_words => k_is)
    (case c__law_words => k_is)
    (case k__law_words => k_is)
    (case a__law_said => k_is)
    (case l__law_said => k_is)
    (case c__law_said => k_is)
    (case k__law_said => k_is)
    (case a__law_thing => k_is)
    (case l__law_thing => k_is)
    (case c__law_thing => k_is)
    (case k__law_thing => k_is)
    (case a__law_told => k_is)
    (case l__law_told => k_is)
    (case c__law_told => k_is)
    (case k__law_told => k_is)
    (case a__law_goods => k_is)
    (case l__law_goods => k_is)
    (case c__law_goods => k_is)
    (case k__law_goods => k_is)
    (case a__law_odd => k_is)
    (case l__law_odd => k_is)
    (case c__law_odd => k_is)
    (case k__law_odd => k_is)
    (case a__law_wrong => k_is)
    (case l__law_wrong => k_is)
    (case c__law_wrong => k_is)
    (case k__law_wrong => k_is)
    (case a__law_right => k_is)
    (case l__law_right => k_is)
    (case c__law_right => k_is)
    (case k__law_right => k_is)
    (case a_law => k_is)
    (case l_law => k_is)
    (case c_law => k_is)
    (case k_law => k_is)
    (case z_abs => k_is)
    (case z_all => k_is)
    (case z_bool => k_is)
    (case z_divmod => k_is)
    (case z_enumerate => k_is)
    (case z_int => k_is)
    (case z_isinstance => k_is)
    (case z_len => k_is)
    (case z_list => k_is)
    (case z_max => k_is)
    (case z_min => k_is)
    (case z_range => k_is)
    (case z_sorted => k_is)
    (case z_str => k_is)
    (case z_tuple => k_is)
    (case z_zip => k_is)
    (case v_DIGITS => k_is)
    (case v_LEAST_CANDIDATES => k_is)
    (case v_LENGTHS => k_is)
    (case dl_LENGTHS => k_is)
    (case dk_LENGTHS => first | exact ⟨⟨_, _, rfl, rfl⟩, ⟨_, _, rfl, rfl⟩, ⟨_, _, rfl, rfl⟩, ⟨_, _, rfl, rfl⟩, ⟨_, _, rfl, rfl⟩, ⟨_, _, rfl, rfl⟩, ⟨_, _, rfl, rfl⟩, ⟨_, _, rfl, rfl⟩, ⟨_, _, rfl, rfl⟩, trivial⟩ | (refine He.keysLit_of (ks := ["fits", "quarrels", "follows", "above", "open", "count", "alike", "wins", "loses"]) ?_; k_is) | (refine He.keysLit_of (ks := ["fits", "quarrels", "follows", "above", "open", "count", "alike", "wins", "loses"]) ?_; rfl) | trace_state)
    (case ds_LENGTHS => first | k_is | rfl | decide)
    (case w_LENGTHS_fits => k_is)
    (case w_LENGTHS_quarrels => k_is)
    (case w_LENGTHS_follows => k_is)
    (case w_LENGTHS_above => k_is)
    (case w_LENGTHS_open => k_is)
    (case w_LENGTHS_count => k_is)
    (case w_LENGTHS_alike => k_is)
    (case w_LENGTHS_wins => k_is)
    (case w_LENGTHS_loses => k_is)
    (case v_LETTERS => k_is)
    (case v_MOST_CANDIDATES => k_is)
    (case v_MOST_LETTERS => k_is)
    (case v_MOST_MARKS => k_is)
    (case v_MOST_ROWS => k_is)
    (case v_MOST_RULES => k_is)
    (case v_OPPOSITES => k_is)
    (case dl_OPPOSITES => k_is)
    (case dk_OPPOSITES => first | exact ⟨⟨_, _, rfl, rfl⟩, ⟨_, _, rfl, rfl⟩, ⟨_, _, rfl, rfl⟩, trivial⟩ | (refine He.keysLit_of (ks := ["+", "-", "."]) ?_; k_is) | (refine He.keysLit_of (ks := ["+", "-", "."]) ?_; rfl) | trace_state)
    (case w_OPPOSITES_43 => k_is)
    (case w_OPPOSITES_45 => k_is)
    (case w_OPPOSITES_46 => k_is)
    (case v_SIGNS => k_is)
    (case uk => first | rfl | exact rfl | trace_state)
#print axioms PySem.Challenge.cw_rankedrules_k61_things_of_any_sort_judge_holds


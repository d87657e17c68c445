import PyProof.Rows.All
import Wide.All
import OpenK.AllK
import Wide.FinOn
import HandS.Base
import HandS.Call
import HandS.List
import HandS.Comp
import HandS.Ends
import HandS.Iter
import HandS.Text
import HandS.Words
import HandS.IsInst
import HandS.Conv
import HandS.Zip
import HandS.Property
import HandS.Star
import HandS.Sort
import HandS.Dict
import HandS.Flow
import HandS.WrittenGet
import KE.KUnpackStar
import KE.GoesNew
import HandS.Codes
import PyProof.P3Eq
import HandS.SetFor
import HandS.Strs
import PyProof.ReprReads
import HandS.RevRange
import PyProof.EnumMake
import KE.GoesMore
import HandS.Style
import HandS.TupAny
import HandS.EndBits
import HandS.WideBits
import HandS.More
import PyProof.Rows.EqBoolInt
import HandS.TryOnly
import HandS.Deep
import HandS.Small
import KE.KDictDisplayH
import HandS.DictComp
import HandS.CallLocal
import HandS.ListItems
import PyProof.FString5
import HandS.HeadHook3
import HandS.ForMost
import PySem.Challenge.RW_rankedrules_k26_whole_winners_by_own_com
set_option Elab.async false
set_option linter.all false
set_option maxRecDepth 100000
set_option maxHeartbeats 4000000
set_option autoImplicit false
/-! A data layer over HandS's readings: what a slot holds is said as plain data (D), never as addresses. -/
namespace Dw
open PySem PySem.Spec PyProof.Rows L2

/-- a list of the written part -/
def SqK (K : PySem.W.Frag) (a : Addr) (xs : List V) : Prop :=
  ∃ (o : Obj) (its : Array Value) (n : Nat), K.lookup a = some o ∧ o.cls = .type "list" ∧ o.dict = none ∧ o.data = .seq its n ∧ its.size ≤ sizeLine ∧ Vals xs its.toList
/-- plain data -/
inductive D where
  | non | bl (b : Bool) | int (i : Int) | str (x : Str)
  | tup (ds : List D) | lst (ds : List D)
  | obj (C : Addr) (ns : List Str) (ds : List D)
  | raw (v : V)
  | purse
  | rng (lo hi : Int)
  | dct (ks : List Key) (ds : List D)
  | scr (K : PySem.W.Frag) (vs : List V)
  | tupN (ds : List D)

/-- a world: the abstract heap, the addresses that may change (U), the purses among them (P) -/
structure Wd where
  H : Hp
  U : Addr → Prop
  P : Addr → Prop

/-- a tuple to be read, as it is -/
def TupAt (H : Hp) (a : Addr) (vs : List V) : Prop := Rd H a (.tup vs)
/-- .. one that is known to have no dict of its own -/
def TupN (H : Hp) (a : Addr) (vs : List V) : Prop := ∃ o : Obj, H a = some (.frz o (.tup vs)) ∧ o.cls = .type "tuple" ∧ o.dict = none
theorem TupAt.mk {H : Hp} {a : Addr} {vs : List V} (h : H a = some (.tup vs)) : TupAt H a vs := .inl h
theorem TupAt.sq {K : PySem.W.Frag} {H : Hp} {a : Addr} {vs : List V} (h : TupAt H a vs) : SqT K H a vs := .inl h
theorem TupN.at {H : Hp} {a : Addr} {vs : List V} (h : TupN H a vs) : TupAt H a vs := let ⟨o, e, _⟩ := h; .inr ⟨o, e⟩
theorem TupAt.imp {H H' : Hp} {a : Addr} {vs : List V} (s : ∀ u, H a = some u → H' a = some u) (h : TupAt H a vs) : TupAt H' a vs := h.elim (fun h => .inl (s _ h)) fun ⟨o, h⟩ => .inr ⟨o, s _ h⟩
theorem TupN.imp {H H' : Hp} {a : Addr} {vs : List V} (s : ∀ u, H a = some u → H' a = some u) (h : TupN H a vs) : TupN H' a vs := let ⟨o, e, c⟩ := h; ⟨o, s _ e, c⟩
theorem TupAt.same {H H' : Hp} {a : Addr} {vs : List V} (h : TupAt H a vs) (s : Same H H') : TupAt H' a vs := h.imp (s a)
theorem TupN.same {H H' : Hp} {a : Addr} {vs : List V} (h : TupN H a vs) (s : Same H H') : TupN H' a vs := h.imp (s a)
theorem TupAt.some {H : Hp} {a : Addr} {vs : List V} (h : TupAt H a vs) : ∃ u, H a = some u := h.elim (fun h => ⟨_, h⟩) fun ⟨_, h⟩ => ⟨_, h⟩
theorem TupAt.keep {H H' : Hp} {U U' : Addr → Prop} {a : Addr} {vs : List V} (h : TupAt H a vs) (n : ¬ U a) (k : ∀ u, H a = Option.some u → ¬ U a → H' a = Option.some u ∧ ¬ U' a) : TupAt H' a vs ∧ ¬ U' a := let ⟨u, e⟩ := h.some; ⟨h.imp fun u e => (k u e n).1, (k u e n).2⟩
mutual
def Rep (W : Wd) : D → V → Prop
  | .non, v => v = .non
  | .bl b, v => v = .bl b
  | .int i, v => v = .int i
  | .str x, v => v = .str x
  | .raw u, v => v = u
  | .tup ds, v => ∃ a vs, v = .ref a ∧ TupAt W.H a vs ∧ ¬ W.U a ∧ RepL W ds vs
  | .tupN ds, v => ∃ a vs, v = .ref a ∧ TupN W.H a vs ∧ ¬ W.U a ∧ RepL W ds vs
  | .lst ds, v => ∃ a vs, v = .ref a ∧ W.H a = some (.lst vs) ∧ ¬ W.U a ∧ RepL W ds vs
  | .obj C ns ds, v => ∃ a dx vs, v = .ref a ∧ W.H a = some (.ins C dx (ns.zip vs)) ∧ ¬ W.U a ∧ ns.length = vs.length ∧ RepL W ds vs
  | .purse, v => ∃ a, v = .ref a ∧ W.P a
  | .rng lo hi, v => ∃ a, v = .ref a ∧ W.H a = some (.rng lo hi) ∧ ¬ W.U a
  | .dct ks ds, v => ∃ a vs, v = .ref a ∧ W.H a = some (.dK (ks.zip vs)) ∧ ¬ W.U a ∧ ks.length = vs.length ∧ RepL W ds vs
  | .scr K vs, v => ∃ a, v = .ref a ∧ ((∃ u, W.H a = some u ∧ ¬ W.U a ∧ (u = .lst vs ∨ ∃ o, u = .frz o (.lst vs))) ∨ SqK K a vs)
def RepL (W : Wd) : List D → List V → Prop
  | [], vs => vs = []
  | d :: ds, vs => ∃ v r, vs = v :: r ∧ Rep W d v ∧ RepL W ds r
end

def PurseAt (H : Hp) (a : Addr) : Prop := ∃ (x : Int × Int) (y : Int), 0 ≤ x.1 ∧ 0 ≤ y ∧ y < 2147483647 ∧ H a = some (.lst [.int x.1, .int y, .int x.2])

/-- F: what this def may not touch -/
structure WOk (F : Addr → Prop) (W : Wd) : Prop where
  dom : ∀ a, W.U a → W.H a ≠ none
  fu : ∀ a, F a → W.U a
  pu : ∀ a, W.P a → W.U a ∧ ¬ F a ∧ PurseAt W.H a

structure Stp (F : Addr → Prop) (W W' : Wd) : Prop where
  keep : ∀ a u, W.H a = some u → ¬ W.U a → W'.H a = some u ∧ ¬ W'.U a
  pur : W'.P = W.P
  fr : ∀ a, F a → W'.H a = W.H a

theorem Stp.refl {F : Addr → Prop} (W : Wd) : Stp F W W := ⟨fun _ _ h n => ⟨h, n⟩, rfl, fun _ _ => rfl⟩
theorem Stp.trans {F : Addr → Prop} {W W1 W2 : Wd} (a : Stp F W W1) (b : Stp F W1 W2) : Stp F W W2 :=
  ⟨fun c u h n => let ⟨h1, n1⟩ := a.keep c u h n; b.keep c u h1 n1, b.pur.trans a.pur, fun c h => (b.fr c h).trans (a.fr c h)⟩

mutual
theorem Rep.mono {W W' : Wd} (k : ∀ a u, W.H a = some u → ¬ W.U a → W'.H a = some u ∧ ¬ W'.U a) (p : ∀ a, W.P a → W'.P a) : ∀ (d : D) (v : V), Rep W d v → Rep W' d v
  | .non, _, h => h
  | .bl _, _, h => h
  | .int _, _, h => h
  | .str _, _, h => h
  | .raw _, _, h => h
  | .tup ds, _, ⟨a, vs, e, h, n, r⟩ => let ⟨h', n'⟩ := h.keep n (k a); ⟨a, vs, e, h', n', RepL.mono k p ds vs r⟩
  | .tupN ds, _, ⟨a, vs, e, h, n, r⟩ => let ⟨_, n'⟩ := h.at.keep n (k a); ⟨a, vs, e, h.imp fun u e => (k a u e n).1, n', RepL.mono k p ds vs r⟩
  | .lst ds, _, ⟨a, vs, e, h, n, r⟩ => let ⟨h', n'⟩ := k _ _ h n; ⟨a, vs, e, h', n', RepL.mono k p ds vs r⟩
  | .obj C ns ds, _, ⟨a, dx, vs, e, h, n, l, r⟩ => let ⟨h', n'⟩ := k _ _ h n; ⟨a, dx, vs, e, h', n', l, RepL.mono k p ds vs r⟩
  | .purse, _, ⟨a, e, h⟩ => ⟨a, e, p a h⟩
  | .rng lo hi, _, ⟨a, e, h, n⟩ => let ⟨h', n'⟩ := k _ _ h n; ⟨a, e, h', n'⟩
  | .dct ks ds, _, ⟨a, vs, e, h, n, l, r⟩ => let ⟨h', n'⟩ := k _ _ h n; ⟨a, vs, e, h', n', l, RepL.mono k p ds vs r⟩
  | .scr K vs, _, ⟨a, e, .inl ⟨u, h, n, q⟩⟩ => let ⟨h', n'⟩ := k _ _ h n; ⟨a, e, .inl ⟨u, h', n', q⟩⟩
  | .scr K vs, _, ⟨a, e, .inr q⟩ => ⟨a, e, .inr q⟩
theorem RepL.mono {W W' : Wd} (k : ∀ a u, W.H a = some u → ¬ W.U a → W'.H a = some u ∧ ¬ W'.U a) (p : ∀ a, W.P a → W'.P a) : ∀ (ds : List D) (vs : List V), RepL W ds vs → RepL W' ds vs
  | [], _, h => h
  | d :: ds, _, ⟨v, r, e, h1, h2⟩ => ⟨v, r, e, Rep.mono k p d v h1, RepL.mono k p ds r h2⟩
end
theorem Rep.stp {F : Addr → Prop} {W W' : Wd} {d : D} {v : V} (s : Stp F W W') (h : Rep W d v) : Rep W' d v := Rep.mono s.keep (fun a h => by rw [s.pur]; exact h) d v h
theorem RepL.stp {F : Addr → Prop} {W W' : Wd} {d : List D} {v : List V} (s : Stp F W W') (h : RepL W d v) : RepL W' d v := RepL.mono s.keep (fun a h => by rw [s.pur]; exact h) d v h
/-- the world with another heap -/
abbrev Wd.at (W : Wd) (H : Hp) : Wd := ⟨H, W.U, W.P⟩
theorem Rep.same {W : Wd} {H : Hp} {d : D} {v : V} (s : Same W.H H) (h : Rep W d v) : Rep (W.at H) d v := Rep.mono (W' := W.at H) (fun a u e n => ⟨s a u e, n⟩) (fun _ h => h) d v h
theorem RepL.same {W : Wd} {H : Hp} {d : List D} {v : List V} (s : Same W.H H) (h : RepL W d v) : RepL (W.at H) d v := RepL.mono (W' := W.at H) (fun a u e n => ⟨s a u e, n⟩) (fun _ h => h) d v h
theorem Stp.of_same {F : Addr → Prop} {W : Wd} {H : Hp} (ok : WOk F W) (s : Same W.H H) : Stp F W (W.at H) :=
  ⟨fun a u e n => ⟨s a u e, n⟩, rfl, fun a h => by
    cases q : W.H a with
    | none => exact absurd q (ok.dom a (ok.fu a h))
    | some u => exact s a u q⟩
theorem WOk.same {F : Addr → Prop} {W : Wd} {H : Hp} (ok : WOk F W) (s : Same W.H H) : WOk F (W.at H) :=
  ⟨fun a h z => ok.dom a h (s.free z), ok.fu, fun a h => let ⟨u, f, x, y, h1, h2, h3, e⟩ := ok.pu a h; ⟨u, f, x, y, h1, h2, h3, s _ _ e⟩⟩
theorem WOk.new {F : Addr → Prop} {W : Wd} (ok : WOk F W) {a : Addr} (h : W.H a = none) : ¬ W.U a := fun u => ok.dom a u h

theorem RepL.length {W : Wd} : ∀ {ds : List D} {vs : List V}, RepL W ds vs → ds.length = vs.length
  | [], _, h => by rw [show _ = [] from h]; rfl
  | _ :: ds, _, ⟨_, r, e, _, h⟩ => by rw [e, List.length_cons, List.length_cons, RepL.length (ds := ds) h]
theorem RepL.get {W : Wd} : ∀ {ds : List D} {vs : List V} {i : Nat} {d : D}, RepL W ds vs → ds[i]? = some d → ∃ v, vs[i]? = some v ∧ Rep W d v
  | [], _, _, _, _, e => by simp at e
  | d :: ds, _, 0, d', ⟨v, r, e, h1, h2⟩, q => by
    have : d = d' := by simpa using q
    subst this
    exact ⟨v, by rw [e]; rfl, h1⟩
  | d :: ds, _, i + 1, d', ⟨v, r, e, h1, h2⟩, q => by
    obtain ⟨v', a, b⟩ := RepL.get (i := i) (d := d') h2 (by simpa using q)
    exact ⟨v', by rw [e]; simpa using a, b⟩
theorem RepL.getV {W : Wd} : ∀ {ds : List D} {vs : List V} {i : Nat} {v : V}, RepL W ds vs → vs[i]? = some v → ∃ d, ds[i]? = some d ∧ Rep W d v
  | [], vs, i, v, h, e => by rw [show vs = [] from h] at e; simp at e
  | d :: ds, _, 0, v', ⟨v, r, e, h1, h2⟩, q => by
    rw [e] at q
    have : v = v' := by simpa using q
    subst this
    exact ⟨d, rfl, h1⟩
  | d :: ds, _, i + 1, v', ⟨v, r, e, h1, h2⟩, q => by
    rw [e] at q
    obtain ⟨d', a, b⟩ := RepL.getV (i := i) (v := v') h2 (by simpa using q)
    exact ⟨d', by simpa using a, b⟩
theorem RepL.append {W : Wd} : ∀ {ds es : List D} {vs us : List V}, RepL W ds vs → RepL W es us → RepL W (ds ++ es) (vs ++ us)
  | [], _, _, _, h, h' => by rw [show _ = [] from h]; exact h'
  | d :: ds, es, _, us, ⟨v, r, e, h1, h2⟩, h' => ⟨v, r ++ us, by rw [e]; rfl, h1, RepL.append h2 h'⟩
theorem RepL.take {W : Wd} : ∀ {ds : List D} {vs : List V} (n : Nat), RepL W ds vs → RepL W (ds.take n) (vs.take n)
  | _, _, 0, _ => by rw [List.take_zero, List.take_zero]; rfl
  | [], _, n + 1, h => by rw [show _ = [] from h]; rfl
  | d :: ds, _, n + 1, ⟨v, r, e, h1, h2⟩ => ⟨v, r.take n, by rw [e]; rfl, h1, RepL.take n h2⟩
theorem RepL.drop {W : Wd} : ∀ {ds : List D} {vs : List V} (n : Nat), RepL W ds vs → RepL W (ds.drop n) (vs.drop n)
  | _, _, 0, h => h
  | [], _, n + 1, h => by rw [show _ = [] from h]; rfl
  | d :: ds, _, n + 1, ⟨v, r, e, h1, h2⟩ => by rw [e]; exact RepL.drop n h2
theorem RepL.set {W : Wd} {d : D} {v : V} (h : Rep W d v) : ∀ {ds : List D} {vs : List V} (n : Nat), RepL W ds vs → RepL W (ds.set n d) (vs.set n v)
  | [], _, n, h' => by rw [show _ = [] from h']; rfl
  | _ :: ds, _, 0, ⟨u, r, e, h1, h2⟩ => by rw [e]; exact ⟨v, r, rfl, h, h2⟩
  | c :: ds, _, n + 1, ⟨u, r, e, h1, h2⟩ => by rw [e]; exact ⟨u, r.set n v, rfl, h1, RepL.set h n h2⟩
theorem RepL.eraseIdx {W : Wd} : ∀ {ds : List D} {vs : List V} (n : Nat), RepL W ds vs → RepL W (ds.eraseIdx n) (vs.eraseIdx n)
  | [], _, n, h' => by rw [show _ = [] from h']; rfl
  | _ :: ds, _, 0, ⟨u, r, e, h1, h2⟩ => by rw [e]; exact h2
  | c :: ds, _, n + 1, ⟨u, r, e, h1, h2⟩ => by rw [e]; exact ⟨u, r.eraseIdx n, rfl, h1, RepL.eraseIdx n h2⟩
theorem RepL.one {W : Wd} {d : D} {v : V} (h : Rep W d v) : RepL W [d] [v] := ⟨v, [], rfl, h, rfl⟩
theorem RepL.ints {W : Wd} : ∀ {ns : List Int} {vs : List V}, RepL W (ns.map D.int) vs ↔ vs = ns.map V.int
  | [], vs => Iff.rfl
  | n :: ns, vs => by
    constructor
    · rintro ⟨v, r, e, h1, h2⟩
      rw [e, show v = .int n from h1, RepL.ints.mp h2]; rfl
    · intro e
      exact ⟨.int n, ns.map V.int, e, rfl, RepL.ints.mpr rfl⟩
theorem RepL.strs {W : Wd} : ∀ {ns : List Str} {vs : List V}, RepL W (ns.map D.str) vs ↔ vs = ns.map V.str
  | [], vs => Iff.rfl
  | n :: ns, vs => by
    constructor
    · rintro ⟨v, r, e, h1, h2⟩
      rw [e, show v = .str n from h1, RepL.strs.mp h2]; rfl
    · intro e
      exact ⟨.str n, ns.map V.str, e, rfl, RepL.strs.mpr rfl⟩
theorem RepL.bls {W : Wd} : ∀ {ns : List Bool} {vs : List V}, RepL W (ns.map D.bl) vs ↔ vs = ns.map V.bl
  | [], vs => Iff.rfl
  | n :: ns, vs => by
    constructor
    · rintro ⟨v, r, e, h1, h2⟩
      rw [e, show v = .bl n from h1, RepL.bls.mp h2]; rfl
    · intro e
      exact ⟨.bl n, ns.map V.bl, e, rfl, RepL.bls.mpr rfl⟩

mutual
/-- what is known less of -/
def weakD : D → D
  | .tupN ds => .tup (weakDs ds) | .tup ds => .tup (weakDs ds) | .lst ds => .lst (weakDs ds)
  | d => d
def weakDs : List D → List D
  | [] => []
  | d :: ds => weakD d :: weakDs ds
end
mutual
theorem Rep.weak {W : Wd} : ∀ (d : D) (v : V), Rep W d v → Rep W (weakD d) v
  | .tupN ds, _, ⟨a, vs, e, h, n, r⟩ => ⟨a, vs, e, h.at, n, RepL.weak ds vs r⟩
  | .tup ds, _, ⟨a, vs, e, h, n, r⟩ => ⟨a, vs, e, h, n, RepL.weak ds vs r⟩
  | .lst ds, _, ⟨a, vs, e, h, n, r⟩ => ⟨a, vs, e, h, n, RepL.weak ds vs r⟩
  | .non, _, h => h
  | .bl _, _, h => h
  | .int _, _, h => h
  | .str _, _, h => h
  | .raw _, _, h => h
  | .obj _ _ _, _, h => h
  | .purse, _, h => h
  | .rng _ _, _, h => h
  | .dct _ _, _, h => h
  | .scr _ _, _, h => h
theorem RepL.weak {W : Wd} : ∀ (ds : List D) (vs : List V), RepL W ds vs → RepL W (weakDs ds) vs
  | [], _, h => h
  | d :: ds, _, ⟨v, r, e, h1, h2⟩ => ⟨v, r, e, Rep.weak d v h1, RepL.weak ds r h2⟩
end
/-! ### the slots -/
inductive Sl where
  | unset | val (d : D) | own (ds : List D)
abbrev Gam := List Sl

structure SR (F : Addr → Prop) (Γ : Gam) (σ : L2.St) (W : Wd) : Prop where
  ok : WOk F W
  len : Γ.length = σ.length
  val : ∀ (i : Nat) (d : D), Γ[i]? = some (Sl.val d) → ∃ v, σ[i]? = some (some v) ∧ Rep W d v
  own : ∀ (i : Nat) (ds : List D), Γ[i]? = some (Sl.own ds) → ∃ a vs, σ[i]? = some (some (V.ref a)) ∧ W.U a ∧ ¬ F a ∧ ¬ W.P a ∧ W.H a = some (.lst vs) ∧ RepL W ds vs
  apart : ∀ (i j : Nat) (a : Addr) (ds es : List D), Γ[i]? = some (Sl.own ds) → Γ[j]? = some (Sl.own es) → σ[i]? = some (some (V.ref a)) → σ[j]? = some (some (V.ref a)) → i = j

theorem SR.same {F : Addr → Prop} {Γ : Gam} {σ : L2.St} {W : Wd} {H : Hp} (s : Same W.H H) (h : SR F Γ σ W) : SR F Γ σ (W.at H) :=
  ⟨h.ok.same s, h.len, fun i d e => let ⟨v, a, b⟩ := h.val i d e; ⟨v, a, b.same s⟩,
   fun i ds e => let ⟨a, vs, e1, u, f, p, q, r⟩ := h.own i ds e; ⟨a, vs, e1, u, f, p, s _ _ q, r.same s⟩, h.apart⟩
/-- forgetting -/
theorem SR.weak {F : Addr → Prop} {Γ Γ' : Gam} {σ σ' : L2.St} {W : Wd} (h : SR F Γ σ W) (l : Γ'.length = σ'.length) (k : ∀ (i : Nat) (s : Sl), Γ'[i]? = some s → s = Sl.unset ∨ (Γ[i]? = some s ∧ σ'[i]? = σ[i]?)) : SR F Γ' σ' W := by
  have kv : ∀ (i : Nat) (d : D), Γ'[i]? = some (Sl.val d) → Γ[i]? = some (Sl.val d) ∧ σ'[i]? = σ[i]? := fun i d e => by
    rcases k i _ e with z | z
    · cases z
    · exact z
  have ko : ∀ (i : Nat) (d : List D), Γ'[i]? = some (Sl.own d) → Γ[i]? = some (Sl.own d) ∧ σ'[i]? = σ[i]? := fun i d e => by
    rcases k i _ e with z | z
    · cases z
    · exact z
  refine ⟨h.ok, l, fun i d e => ?_, fun i ds e => ?_, fun i j a ds es e1 e2 e3 e4 => ?_⟩
  · obtain ⟨z, q⟩ := kv i d e
    rw [q]; exact h.val i d z
  · obtain ⟨z, q⟩ := ko i ds e
    rw [q]; exact h.own i ds z
  · obtain ⟨z1, q1⟩ := ko i ds e1
    obtain ⟨z2, q2⟩ := ko j es e2
    rw [q1] at e3; rw [q2] at e4
    exact h.apart i j a ds es z1 z2 e3 e4
/-- a value is stored -/
theorem SR.set {F : Addr → Prop} {Γ : Gam} {σ : L2.St} {W : Wd} {i : Nat} {d : D} {v : V} (h : SR F Γ σ W) (r : Rep W d v) : SR F (Γ.set i (.val d)) (σ.set i (some v)) W := by
  refine ⟨h.ok, by simp [h.len], fun j e q => ?_, fun j ds q => ?_, fun j k a ds es q1 q2 q3 q4 => ?_⟩
  · by_cases hj : i = j
    · subst hj
      have hl : i < Γ.length := by
        have := (List.getElem?_eq_some_iff.mp q).1
        simpa using this
      rw [List.getElem?_set_self hl] at q
      cases q
      exact ⟨v, by rw [List.getElem?_set_self (by rw [← h.len]; exact hl)], r⟩
    · rw [List.getElem?_set_ne hj] at q ⊢
      exact h.val j e q
  · by_cases hj : i = j
    · subst hj
      have hl : i < Γ.length := by
        have := (List.getElem?_eq_some_iff.mp q).1
        simpa using this
      rw [List.getElem?_set_self hl] at q
      cases q
    · rw [List.getElem?_set_ne hj] at q ⊢
      exact h.own j ds q
  · have n : ∀ (j : Nat) (ds : List D), (Γ.set i (.val d))[j]? = some (Sl.own ds) → i ≠ j := fun j ds q e => by
      subst e
      have hl : i < Γ.length := by
        have := (List.getElem?_eq_some_iff.mp q).1
        simpa using this
      rw [List.getElem?_set_self hl] at q
      cases q
    have n1 := n j ds q1
    have n2 := n k es q2
    rw [List.getElem?_set_ne n1] at q1 q3
    rw [List.getElem?_set_ne n2] at q2 q4
    exact h.apart j k a ds es q1 q2 q3 q4
/-- what the callee may not touch: the frame and the own lists -/
def ownA (Γ : Gam) (σ : L2.St) (a : Addr) : Prop := ∃ (i : Nat) (ds : List D), Γ[i]? = some (Sl.own ds) ∧ σ[i]? = some (some (V.ref a))
/-- behind a call -/
theorem SR.call {F : Addr → Prop} {Γ : Gam} {σ : L2.St} {W W' : Wd} (h : SR F Γ σ W) (s : Stp (fun a => F a ∨ ownA Γ σ a) W W') (ok : WOk (fun a => F a ∨ ownA Γ σ a) W') : SR F Γ σ W' := by
  refine ⟨⟨ok.dom, fun a z => ok.fu a (.inl z), fun a z => let ⟨u, f, p⟩ := ok.pu a z; ⟨u, fun w => f (.inl w), p⟩⟩, h.len, fun i d e => ?_, fun i ds e => ?_, h.apart⟩
  · obtain ⟨v, a, b⟩ := h.val i d e
    exact ⟨v, a, b.stp s⟩
  · obtain ⟨a, vs, e1, u, f, p, q, r⟩ := h.own i ds e
    have o : ownA Γ σ a := ⟨i, ds, e, e1⟩
    exact ⟨a, vs, e1, ok.fu a (.inr o), f, fun z => (ok.pu a z).2.1 (.inr o), (s.fr a (.inr o)).trans q, r.stp s⟩
theorem SR.callOk {F : Addr → Prop} {Γ : Gam} {σ : L2.St} {W : Wd} (h : SR F Γ σ W) : WOk (fun a => F a ∨ ownA Γ σ a) W := by
  refine ⟨h.ok.dom, fun a z => ?_, fun a z => ?_⟩
  · rcases z with z | ⟨i, ds, e, q⟩
    · exact h.ok.fu a z
    · obtain ⟨b, vs, e1, u, _⟩ := h.own i ds e
      rw [q] at e1; cases e1
      exact u
  · obtain ⟨u, f, p⟩ := h.ok.pu a z
    refine ⟨u, fun w => ?_, p⟩
    rcases w with w | ⟨i, ds, e, q⟩
    · exact f w
    · obtain ⟨b, vs, e1, _, _, np, _⟩ := h.own i ds e
      rw [q] at e1; cases e1
      exact np z
theorem Stp.sub {F G : Addr → Prop} {W W' : Wd} (s : Stp G W W') (k : ∀ a, F a → G a) : Stp F W W' := ⟨s.keep, s.pur, fun a h => s.fr a (k a h)⟩
end Dw

/-! The judgements over data: Ev (pure), EvB (a list that is read), EvN (a new list), Dl (with draws), Ds (statements). -/
namespace Dw
open PySem PySem.Spec PyProof.Rows L2

def Ev (t : TE) (Γ : Gam) (d : D) : Prop := ∀ (F : Addr → Prop) (σ : L2.St) (W : Wd) (Q : VK), SR F Γ σ W → (∀ v H, Same W.H H → Rep (W.at H) d v → Q v H) → t σ W.H Q
def EvB (t : TE) (Γ : Gam) (ds : List D) : Prop := ∀ (F : Addr → Prop) (σ : L2.St) (W : Wd) (Q : VK), SR F Γ σ W → (∀ a vs H, Same W.H H → H a = some (.lst vs) → RepL (W.at H) ds vs → Q (.ref a) H) → t σ W.H Q
/-- the world where a is one's own, too -/
abbrev Wd.plus (W : Wd) (H : Hp) (a : Addr) : Wd := ⟨H, fun b => W.U b ∨ b = a, W.P⟩
theorem RepL.minus {W : Wd} {H : Hp} {a : Addr} {ds : List D} {vs : List V} (h : RepL (W.plus H a) ds vs) : RepL (W.at H) ds vs := RepL.mono (W := W.plus H a) (W' := W.at H) (fun b u e n => ⟨e, fun z => n (Or.inl z)⟩) (fun _ h => h) ds vs h
theorem RepL.plus {W : Wd} {H : Hp} {a : Addr} {ds : List D} {vs : List V} (n : W.H a = none) (s : Same W.H H) (h : RepL W ds vs) : RepL (W.plus H a) ds vs := RepL.mono (W := W) (W' := W.plus H a) (fun b u e nu => ⟨s b u e, fun z => z.elim nu fun z => by rw [z, n] at e; cases e⟩) (fun _ h => h) ds vs h
def EvN (t : TE) (Γ : Gam) (ds : List D) : Prop := ∀ (F : Addr → Prop) (σ : L2.St) (W : Wd) (Q : VK), SR F Γ σ W → (∀ a vs H, Same W.H H → W.H a = none → H a = some (.lst vs) → RepL (W.plus H a) ds vs → Q (.ref a) H) → t σ W.H Q
def EvT (t : TT) (Γ : Gam) (b : Bool) : Prop := ∀ (F : Addr → Prop) (σ : L2.St) (W : Wd) (Q : Bool → Hp → Prop), SR F Γ σ W → (∀ H, Same W.H H → Q b H) → t σ W.H Q
def EvA (t : TA) (Γ : Gam) (ds : List D) : Prop := ∀ (F : Addr → Prop) (σ : L2.St) (W : Wd) (Q : List V → Hp → Prop), SR F Γ σ W → (∀ vs H, Same W.H H → RepL (W.at H) ds vs → Q vs H) → t σ W.H Q

def Dl (t : TE) (Γ : Gam) (Q : D → Gam → Prop) : Prop := ∀ (F : Addr → Prop) (σ : L2.St) (W : Wd) (R : VK), SR F Γ σ W → (∀ v W' d Γ', Stp F W W' → SR F Γ' σ W' → Rep W' d v → Q d Γ' → R v W'.H) → t σ W.H R
def DlT (t : TT) (Γ : Gam) (Q : Bool → Gam → Prop) : Prop := ∀ (F : Addr → Prop) (σ : L2.St) (W : Wd) (R : Bool → Hp → Prop), SR F Γ σ W → (∀ b W' Γ', Stp F W W' → SR F Γ' σ W' → Q b Γ' → R b W'.H) → t σ W.H R
def DlA (t : TA) (Γ : Gam) (Q : List D → Gam → Prop) : Prop := ∀ (F : Addr → Prop) (σ : L2.St) (W : Wd) (R : List V → Hp → Prop), SR F Γ σ W → (∀ vs W' ds Γ', Stp F W W' → SR F Γ' σ W' → RepL W' ds vs → Q ds Γ' → R vs W'.H) → t σ W.H R

structure DE where
  nx : Gam → Prop
  rt : D → Prop
  bk : Gam → Prop := fun _ => False
  ct : Gam → Prop := fun _ => False
structure Lift (F : Addr → Prop) (W0 : Wd) (De : DE) (Dr : Ends) : Prop where
  nx : ∀ σ W Γ, Stp F W0 W → SR F Γ σ W → De.nx Γ → Dr.nx σ W.H
  rt : ∀ v W d, Stp F W0 W → WOk F W → Rep W d v → De.rt d → Dr.rt v W.H
  bk : ∀ σ W Γ, Stp F W0 W → SR F Γ σ W → De.bk Γ → Dr.bk σ W.H
  ct : ∀ σ W Γ, Stp F W0 W → SR F Γ σ W → De.ct Γ → Dr.ct σ W.H
theorem Lift.after {F : Addr → Prop} {W0 W1 : Wd} {De : DE} {Dr : Ends} (l : Lift F W0 De Dr) (s : Stp F W0 W1) : Lift F W1 De Dr :=
  ⟨fun σ W Γ a => l.nx σ W Γ (s.trans a), fun v W d a => l.rt v W d (s.trans a), fun σ W Γ a => l.bk σ W Γ (s.trans a), fun σ W Γ a => l.ct σ W Γ (s.trans a)⟩
def Ds (t : TS) (Γ : Gam) (De : DE) : Prop := ∀ (F : Addr → Prop) (σ : L2.St) (W : Wd) (Dr : Ends), SR F Γ σ W → Lift F W De Dr → t Dr σ W.H

/-! ### from the pure to the others -/
section
variable {t : TE} {Γ : Gam} {d : D} {ds : List D}
theorem Same.up {W : Wd} {H H' : Hp} (a : Same W.H H) (b : Same (W.at H).H H') : Same W.H H' := Same.trans a b
theorem EvN.b (h : EvN t Γ ds) : EvB t Γ ds := fun F σ W Q r k => h F σ W Q r fun a vs H s _ e l => k a vs H s e l.minus
theorem EvN.ev (h : EvN t Γ ds) : Ev t Γ (.lst ds) := fun F σ W Q r k => h F σ W Q r fun a vs H s n e l => k _ H s ⟨a, vs, rfl, e, r.ok.new n, l.minus⟩
theorem Ev.b (h : Ev t Γ (.lst ds)) : EvB t Γ ds := fun F σ W Q r k => h F σ W Q r fun v H s ⟨a, vs, e, q, _, l⟩ => by subst e; exact k a vs H s q l
theorem Ev.dl {Q : D → Gam → Prop} (h : Ev t Γ d) (q : Q d Γ) : Dl t Γ Q := fun F σ W R r k => h F σ W R r fun v H s l => k v (W.at H) d Γ (Stp.of_same r.ok s) (r.same s) l q
theorem Dl.imp {Q Q' : D → Gam → Prop} (h : Dl t Γ Q) (k : ∀ d Γ', Q d Γ' → Q' d Γ') : Dl t Γ Q' := fun F σ W R r z => h F σ W R r fun v W' d Γ' s r' l q => z v W' d Γ' s r' l (k d Γ' q)
theorem EvT.dl {t : TT} {b : Bool} {Q : Bool → Gam → Prop} (h : EvT t Γ b) (q : Q b Γ) : DlT t Γ Q := fun F σ W R r k => h F σ W R r fun H s => k b (W.at H) Γ (Stp.of_same r.ok s) (r.same s) q
theorem EvA.dl {t : TA} {Q : List D → Gam → Prop} (h : EvA t Γ ds) (q : Q ds Γ) : DlA t Γ Q := fun F σ W R r k => h F σ W R r fun vs H s l => k vs (W.at H) ds Γ (Stp.of_same r.ok s) (r.same s) l q
end

/-! ### names, constants -/
section
variable {Γ : Gam} {i : Nat} {d : D} {ds : List D}
theorem ev_var (h : Γ[i]? = some (.val d)) : Ev (tVar i) Γ d := fun F σ W Q r k => let ⟨v, e, l⟩ := r.val i d h; ⟨v, e, k v W.H (Same.refl _) l⟩
theorem evb_own (h : Γ[i]? = some (.own ds)) : EvB (tVar i) Γ ds := fun F σ W Q r k => let ⟨a, vs, e, _, _, _, q, l⟩ := r.own i ds h; ⟨.ref a, e, k a vs W.H (Same.refl _) q l⟩
theorem ev_int {z : Int} : Ev (tC (.int z)) Γ (.int z) := fun F σ W Q r k => k _ W.H (Same.refl _) rfl
theorem ev_bl {z : Bool} : Ev (tC (.bl z)) Γ (.bl z) := fun F σ W Q r k => k _ W.H (Same.refl _) rfl
theorem ev_str {z : Str} : Ev (tC (.str z)) Γ (.str z) := fun F σ W Q r k => k _ W.H (Same.refl _) rfl
theorem ev_non : Ev (tC .non) Γ .non := fun F σ W Q r k => k _ W.H (Same.refl _) rfl
theorem ev_raw {z : V} : Ev (tC z) Γ (.raw z) := fun F σ W Q r k => k _ W.H (Same.refl _) rfl
end

/-! ### arguments -/
section
variable {Γ : Gam} {t : TE} {tr : TA} {d : D} {ds : List D}
theorem eva_nil : EvA tNil Γ [] := fun F σ W Q r k => k [] W.H (Same.refl _) rfl
theorem eva_cons (h : Ev t Γ d) (hr : EvA tr Γ ds) : EvA (tCons t tr) Γ (d :: ds) := fun F σ W Q r k =>
  h F σ W _ r fun v H s l => hr F σ (W.at H) _ (r.same s) fun vs H' s' l' => k (v :: vs) H' (Same.trans s s') ⟨v, vs, rfl, Rep.same (W := W.at H) s' l, l'⟩
theorem dla_nil {Q : List D → Gam → Prop} (q : Q [] Γ) : DlA tNil Γ Q := eva_nil.dl q
theorem dla_cons {Q : List D → Gam → Prop} (h : Dl t Γ fun d Γ1 => DlA tr Γ1 fun ds Γ2 => Q (d :: ds) Γ2) : DlA (tCons t tr) Γ Q := fun F σ W R r k =>
  h F σ W _ r fun v W1 d Γ1 s1 r1 l1 h1 => h1 F σ W1 _ r1 fun vs W2 ds Γ2 s2 r2 l2 q => k (v :: vs) W2 (d :: ds) Γ2 (s1.trans s2) r2 ⟨v, vs, rfl, l1.stp s2, l2⟩ q
end

/-! ### operators -/
/-- what a two-place operator gives on data -/
def DR2 (r : R2) (x y d : D) : Prop := ∀ (W : Wd) (u v : V) (Q : VK), (∀ a, W.U a → W.H a ≠ none) → Rep W x u → Rep W y v → (∀ z H, Same W.H H → Rep (W.at H) d z → Q z H) → r u v W.H Q
def DR1 (r : V → Hp → VK → Prop) (x d : D) : Prop := ∀ (W : Wd) (u : V) (Q : VK), (∀ a, W.U a → W.H a ≠ none) → Rep W x u → (∀ z H, Same W.H H → Rep (W.at H) d z → Q z H) → r u W.H Q
def DRL (r : List V → Hp → VK → Prop) (xs : List D) (d : D) : Prop := ∀ (W : Wd) (us : List V) (Q : VK), (∀ a, W.U a → W.H a ≠ none) → RepL W xs us → (∀ z H, Same W.H H → Rep (W.at H) d z → Q z H) → r us W.H Q
section
variable {Γ : Gam} {ta tb : TE} {r : R2} {x y d : D}
theorem ev_op (ha : Ev ta Γ x) (hb : Ev tb Γ y) (hr : DR2 r x y d) : Ev (tOp r ta tb) Γ d := fun F σ W Q g k =>
  ha F σ W _ g fun u H s l => hb F σ (W.at H) _ (g.same s) fun v H' s' l' => hr (W.at H') u v Q ((g.same s).same s').ok.dom (Rep.same (W := W.at H) s' l) l' fun z H'' s'' q => k z H'' (Same.trans s (Same.trans s' s'')) q
theorem dl_op {Q : D → Gam → Prop} (h : Dl ta Γ fun x Γ1 => Dl tb Γ1 fun y Γ2 => ∃ d, DR2 r x y d ∧ Q d Γ2) : Dl (tOp r ta tb) Γ Q := fun F σ W R g k =>
  h F σ W _ g fun u W1 x Γ1 s1 g1 l1 h1 => h1 F σ W1 _ g1 fun v W2 y Γ2 s2 g2 l2 ⟨d, hr, q⟩ => hr W2 u v R g2.ok.dom (l1.stp s2) l2 fun z H s3 l3 =>
    k z (W2.at H) d Γ2 ((s1.trans s2).trans (Stp.of_same g2.ok s3)) (g2.same s3) l3 q
theorem ev_un {r : V → Hp → VK → Prop} (ha : Ev ta Γ x) (hr : DR1 r x d) : Ev (tUn r ta) Γ d := fun F σ W Q g k =>
  ha F σ W _ g fun u H s l => hr (W.at H) u Q (g.same s).ok.dom l fun z H' s' q => k z H' (Same.trans s s') q
theorem dl_un {r : V → Hp → VK → Prop} {Q : D → Gam → Prop} (h : Dl ta Γ fun x Γ1 => ∃ d, DR1 r x d ∧ Q d Γ1) : Dl (tUn r ta) Γ Q := fun F σ W R g k =>
  h F σ W _ g fun u W1 x Γ1 s1 g1 l1 ⟨d, hr, q⟩ => hr W1 u R g1.ok.dom l1 fun z H s3 l3 => k z (W1.at H) d Γ1 (s1.trans (Stp.of_same g1.ok s3)) (g1.same s3) l3 q
theorem ev_cb {r : List V → Hp → VK → Prop} {t : TA} {xs : List D} (ha : EvA t Γ xs) (hr : DRL r xs d) : Ev (tCB r t) Γ d := fun F σ W Q g k =>
  ha F σ W _ g fun us H s l => hr (W.at H) us Q (g.same s).ok.dom l fun z H' s' q => k z H' (Same.trans s s') q
theorem dl_cb {r : List V → Hp → VK → Prop} {t : TA} {Q : D → Gam → Prop} (h : DlA t Γ fun xs Γ1 => ∃ d, DRL r xs d ∧ Q d Γ1) : Dl (tCB r t) Γ Q := fun F σ W R g k =>
  h F σ W _ g fun us W1 xs Γ1 s1 g1 l1 ⟨d, hr, q⟩ => hr W1 us R g1.ok.dom l1 fun z H s3 l3 => k z (W1.at H) d Γ1 (s1.trans (Stp.of_same g1.ok s3)) (g1.same s3) l3 q
end
/-- no new object -/
theorem dr2_flat {r : R2} {x y d : D} (h : ∀ (W : Wd) (u v : V) (Q : VK), Rep W x u → Rep W y v → (∀ z, Rep W d z → Q z W.H) → r u v W.H Q) : DR2 r x y d :=
  fun W u v Q _ a b k => h W u v Q a b fun z q => k z W.H (Same.refl _) q
theorem same_upd {H : Hp} {p : Addr} {o : HO} (h : H p = none) : Same H (upd H p o) := fun b x e => by
  rw [upd_ne (ne_of_none e h)]
  exact e
theorem rep_new_lst {W : Wd} {p : Addr} {ds : List D} {vs : List V} (dom : ∀ a, W.U a → W.H a ≠ none) (h : W.H p = none) (l : RepL W ds vs) : Rep (W.at (upd W.H p (.lst vs))) (.lst ds) (.ref p) :=
  ⟨p, vs, rfl, upd_same, fun u => dom p u h, l.same (same_upd h)⟩
theorem rep_new_tup {W : Wd} {p : Addr} {ds : List D} {vs : List V} (dom : ∀ a, W.U a → W.H a ≠ none) (h : W.H p = none) (l : RepL W ds vs) : Rep (W.at (upd W.H p (.tup vs))) (.tup ds) (.ref p) :=
  ⟨p, vs, rfl, .mk upd_same, fun u => dom p u h, l.same (same_upd h)⟩

section
variable {i j : Int} {x y : Str} {ds es : List D} {K : PySem.W.Frag}
theorem dr2_rI0 {g : Int → Int → V} {d : D} (h : ∀ W, Rep W d (g i j)) : DR2 (rI0 g) (.int i) (.int j) d := dr2_flat fun W u v Q a b k => ⟨i, j, a, b, k _ (h W)⟩
theorem dr2_rI {C : Int → Int → Prop} {g : Int → Int → V} {d : D} (hc : C i j) (h : ∀ W, Rep W d (g i j)) : DR2 (rI C g) (.int i) (.int j) d := dr2_flat fun W u v Q a b k => ⟨i, j, a, b, hc, k _ (h W)⟩
theorem dr2_add : DR2 (rI0 fun i j => .int (i + j)) (.int i) (.int j) (.int (i + j)) := dr2_rI0 fun _ => rfl
theorem dr2_sub : DR2 (rI0 fun i j => .int (i - j)) (.int i) (.int j) (.int (i - j)) := dr2_rI0 fun _ => rfl
theorem dr2_mul (h : CMul i j) : DR2 (rI CMul fun i j => .int (i * j)) (.int i) (.int j) (.int (i * j)) := dr2_rI h fun _ => rfl
theorem dr2_mod (h : 0 < j) : DR2 (rI (fun _ j => 0 < j) fun i j => .int (i % j)) (.int i) (.int j) (.int (i % j)) := dr2_rI h fun _ => rfl
theorem dr2_fdiv (h : CDiv i j) : DR2 (rI CDiv fun i j => .int (i / j)) (.int i) (.int j) (.int (i / j)) := dr2_rI h fun _ => rfl
theorem dr2_lt : DR2 (rI0 fun i j => .bl (decide (i < j))) (.int i) (.int j) (.bl (decide (i < j))) := dr2_rI0 fun _ => rfl
theorem dr2_le : DR2 (rI0 fun i j => .bl (decide (i ≤ j))) (.int i) (.int j) (.bl (decide (i ≤ j))) := dr2_rI0 fun _ => rfl
theorem dr2_gt : DR2 (rI0 fun i j => .bl (decide (j < i))) (.int i) (.int j) (.bl (decide (j < i))) := dr2_rI0 fun _ => rfl
theorem dr2_ge : DR2 (rI0 fun i j => .bl (decide (j ≤ i))) (.int i) (.int j) (.bl (decide (j ≤ i))) := dr2_rI0 fun _ => rfl
abbrev rAddStr : R2 := fun x y H Q => ∃ i j, x = .str i ∧ y = .str j ∧ i.length + j.length ≤ sizeLine ∧ Q (.str (i ++ j)) H
theorem dr2_add_str (h : x.length + y.length ≤ sizeLine) : DR2 rAddStr (.str x) (.str y) (.str (x ++ y)) := dr2_flat fun W u v Q a b k => ⟨x, y, a, b, h, k _ rfl⟩
theorem dr2_cat (h : ds.length + es.length ≤ sizeLine) : DR2 rCat (.lst ds) (.lst es) (.lst (ds ++ es)) := fun W u v Q dom ⟨a, vs, e1, h1, n1, l1⟩ ⟨b, ws, e2, h2, n2, l2⟩ k =>
  ⟨a, b, vs, ws, e1, e2, h1, h2, by rw [← l1.length, ← l2.length]; exact h, fun p hp => k _ _ (same_upd hp) (rep_new_lst dom hp (l1.append l2))⟩
theorem dr2_catT (n : ds ≠ []) (h : ds.length + es.length ≤ sizeLine) : DR2 (rCatT K) (.tup ds) (.tup es) (.tup (ds ++ es)) := by
  intro W u v Q dom ⟨a, vs, e1, h1, n1, l1⟩ ⟨b, ws, e2, h2, n2, l2⟩ k
  have nv : vs ≠ [] := fun z => by
    have := l1.length
    rw [z] at this
    exact n (List.length_eq_zero_iff.mp this)
  subst e1
  refine ⟨a, b, vs, ws, rfl, e2, h1.sq, h2.sq, nv, by rw [← l1.length, ← l2.length]; exact h, fun z => ?_, fun _ p hp => k _ _ (same_upd hp) (rep_new_tup dom hp (l1.append l2))⟩
  have e : es = [] := List.length_eq_zero_iff.mp (by rw [l2.length, z]; rfl)
  rw [e, List.append_nil] at k
  exact k _ W.H (Same.refl _) ⟨a, vs, rfl, h1, n1, l1⟩
theorem dr2_eq_int : DR2 rEq (.int i) (.int j) (.bl (decide (i = j))) := dr2_flat fun W u v Q a b k => by
  rw [show u = .int i from a, show v = .int j from b]
  exact ⟨rfl, k _ (congrArg V.bl (by simp))⟩
theorem dr2_eq_str : DR2 rEq (.str x) (.str y) (.bl (decide (x = y))) := dr2_flat fun W u v Q a b k => by
  rw [show u = .str x from a, show v = .str y from b]
  exact ⟨rfl, k _ (congrArg V.bl (by simp))⟩
theorem dr2_ne_int : DR2 rNe (.int i) (.int j) (.bl (!decide (i = j))) := dr2_flat fun W u v Q a b k => by
  rw [show u = .int i from a, show v = .int j from b]
  exact ⟨rfl, k _ (congrArg V.bl (by simp))⟩
theorem dr2_ne_str : DR2 rNe (.str x) (.str y) (.bl (!decide (x = y))) := dr2_flat fun W u v Q a b k => by
  rw [show u = .str x from a, show v = .str y from b]
  exact ⟨rfl, k _ (congrArg V.bl (by simp))⟩
end

/-! ### deep equality -/
mutual
def py : D → PyData
  | .non => .none | .bl b => .bool b | .int i => .int i | .str x => .str x
  | .tup ds => .tuple (pys ds) | .lst ds => .list (pys ds)
  | .tupN ds => .tuple (pys ds)
  | .obj _ _ _ => .none | .raw _ => .none | .purse => .none | .rng _ _ => .none | .dct _ _ => .none | .scr _ _ => .none
def pys : List D → List PyData
  | [] => []
  | d :: ds => py d :: pys ds
end
mutual
def isPy : D → Bool
  | .obj _ _ _ => false | .raw _ => false | .purse => false | .rng _ _ => false | .dct _ _ => false | .scr _ _ => false
  | .tup ds => isPys ds | .lst ds => isPys ds | .tupN ds => isPys ds
  | _ => true
def isPys : List D → Bool
  | [] => true
  | d :: ds => isPy d && isPys ds
end
mutual
theorem dp_of {K : PySem.W.Frag} {W : Wd} : ∀ (d : D) (v : V), isPy d = true → Rep W d v → Dp K W.H v (py d)
  | .non, _, _, h => by rw [show _ = V.non from h]; exact .non
  | .bl b, _, _, h => by rw [show _ = V.bl b from h]; exact .bl b
  | .int b, _, _, h => by rw [show _ = V.int b from h]; exact .int b
  | .str b, _, _, h => by rw [show _ = V.str b from h]; exact .str b
  | .tup ds, _, p, ⟨a, vs, e, h, _, l⟩ => by rw [e]; exact .tup h.sq (dps_of ds vs p l)
  | .tupN ds, _, p, ⟨a, vs, e, h, _, l⟩ => by rw [e]; exact .tup h.at.sq (dps_of ds vs p l)
  | .lst ds, _, p, ⟨a, vs, e, h, _, l⟩ => by rw [e]; exact .lst (.of h) (dps_of ds vs p l)
  | .obj _ _ _, _, p, _ => nomatch p
  | .raw _, _, p, _ => nomatch p
  | .purse, _, p, _ => nomatch p
  | .rng _ _, _, p, _ => nomatch p
  | .dct _ _, _, p, _ => nomatch p
  | .scr _ _, _, p, _ => nomatch p
theorem dps_of {K : PySem.W.Frag} {W : Wd} : ∀ (ds : List D) (vs : List V), isPys ds = true → RepL W ds vs → DpAll K W.H vs (pys ds)
  | [], _, _, h => by rw [show _ = [] from h]; exact .nil
  | d :: ds, _, p, ⟨v, r, e, h1, h2⟩ => by
    have p' : isPy d = true ∧ isPys ds = true := by simpa [isPys] using p
    rw [e]
    exact .cons (dp_of d v p'.1 h1) (dps_of ds r p'.2 h2)
end
section
variable {K : PySem.W.Frag} {x y : D} {ta tb : TE} {Γ : Gam} {ds es : List D}
theorem dr2_eqD (px : isPy x = true) (py' : isPy y = true) (sx : SeqAt.shaped (py x) = true) (sy : SeqAt.shaped (py y) = true) : DR2 (rEqD K) x y (.bl (PyData.eqv (py x) (py y))) :=
  dr2_flat fun W u v Q a b k => ⟨_, _, dp_of x u px a, dp_of y v py' b, sx, sy, k _ rfl⟩
theorem dr2_neD (px : isPy x = true) (py' : isPy y = true) (sx : SeqAt.shaped (py x) = true) (sy : SeqAt.shaped (py y) = true) : DR2 (rNeD K) x y (.bl (!PyData.eqv (py x) (py y))) :=
  dr2_flat fun W u v Q a b k => ⟨_, _, dp_of x u px a, dp_of y v py' b, sx, sy, k _ rfl⟩
end
end Dw

/-! Rules over data: tests, statements, calls, lists that are one's own. -/
namespace Dw
open PySem PySem.Spec PyProof.Rows L2

/-! ### tests -/
section
variable {Γ : Gam} {t ta tb : TE} {c ct' : TT} {a b : Bool} {d d1 d2 : D} {ds : List D} {K : PySem.W.Frag}
abbrev tTru (K : PySem.W.Frag) (ta : TE) : TT := fun σ H Q => ta σ H fun x H' => ∃ k, TruV K x H' k ∧ Q k H'
theorem evt_test (h : Ev t Γ (.bl b)) : EvT (tTest t) Γ b := fun F σ W Q g k => h F σ W _ g fun v H s l => ⟨b, l, k H s⟩
theorem evt_b (h : Ev t Γ (.bl b)) : EvT (tB t) Γ b := fun F σ W Q g k => h F σ W _ g fun v H s l => ⟨b, l, k H s⟩
theorem evt_tru_bl (h : Ev t Γ (.bl b)) : EvT (tTru K t) Γ b := fun F σ W Q g k => h F σ W _ g fun v H s l => ⟨b, by rw [show v = .bl b from l]; rfl, k H s⟩
theorem evt_tru_int {i : Int} (h : Ev t Γ (.int i)) : EvT (tTru K t) Γ (i != 0) := fun F σ W Q g k => h F σ W _ g fun v H s l => ⟨_, by rw [show v = .int i from l]; rfl, k H s⟩
theorem evt_tru_non (h : Ev t Γ .non) : EvT (tTru K t) Γ false := fun F σ W Q g k => h F σ W _ g fun v H s l => ⟨_, by rw [show v = .non from l]; rfl, k H s⟩
theorem evt_tru_lst (h : EvB t Γ ds) : EvT (tTru K t) Γ (!ds.isEmpty) := fun F σ W Q g k => h F σ W _ g fun v vs H s e l => ⟨_, .inl ⟨vs, .of e, by
  have := l.length
  cases ds <;> cases vs <;> simp_all⟩, k H s⟩
theorem evt_and (h : EvT c Γ a) (h' : a = true → EvT ct' Γ b) : EvT (tAnd c ct') Γ (a && b) := fun F σ W Q g k => h F σ W _ g fun H s => by
  cases a with
  | true => exact h' rfl F σ (W.at H) Q (g.same s) fun H' s' => k H' (Same.trans s s')
  | false => exact k H s
theorem evt_or (h : EvT c Γ a) (h' : a = false → EvT ct' Γ b) : EvT (tOr c ct') Γ (a || b) := fun F σ W Q g k => h F σ W _ g fun H s => by
  cases a with
  | false => exact h' rfl F σ (W.at H) Q (g.same s) fun H' s' => k H' (Same.trans s s')
  | true => exact k H s
theorem evt_not (h : EvT c Γ a) : EvT (tNot c) Γ (!a) := fun F σ W Q g k => h F σ W _ g fun H s => k H s
theorem evt_yes : EvT tYes Γ true := fun F σ W Q g k => k W.H (Same.refl _)
theorem dlt_test {Q : Bool → Gam → Prop} (h : Dl t Γ fun d Γ1 => ∃ b, d = .bl b ∧ Q b Γ1) : DlT (tTest t) Γ Q := fun F σ W R g k => h F σ W _ g fun v W1 d Γ1 s g1 l ⟨b, e, q⟩ => ⟨b, by rw [e] at l; exact l, k b W1 Γ1 s g1 q⟩
theorem dlt_b {Q : Bool → Gam → Prop} (h : Dl t Γ fun d Γ1 => ∃ b, d = .bl b ∧ Q b Γ1) : DlT (tB t) Γ Q := fun F σ W R g k => h F σ W _ g fun v W1 d Γ1 s g1 l ⟨b, e, q⟩ => ⟨b, by rw [e] at l; exact l, k b W1 Γ1 s g1 q⟩
theorem dlt_tru_bl {Q : Bool → Gam → Prop} (h : Dl t Γ fun d Γ1 => ∃ b, d = .bl b ∧ Q b Γ1) : DlT (tTru K t) Γ Q := fun F σ W R g k => h F σ W _ g fun v W1 d Γ1 s g1 l ⟨b, e, q⟩ => ⟨b, by rw [e] at l; rw [show v = .bl b from l]; rfl, k b W1 Γ1 s g1 q⟩
theorem dlt_not {Q : Bool → Gam → Prop} (h : DlT c Γ fun b Γ1 => Q (!b) Γ1) : DlT (tNot c) Γ Q := fun F σ W R g k => h F σ W _ g fun b W1 Γ1 s g1 q => k (!b) W1 Γ1 s g1 q
theorem dlt_and {Q : Bool → Gam → Prop} (h : DlT c Γ fun b Γ1 => (b = true → DlT ct' Γ1 Q) ∧ (b = false → Q false Γ1)) : DlT (tAnd c ct') Γ Q := fun F σ W R g k => h F σ W _ g fun b W1 Γ1 s g1 q => by
  cases b with
  | true => exact q.1 rfl F σ W1 R g1 fun b' W2 Γ2 s2 g2 q2 => k b' W2 Γ2 (s.trans s2) g2 q2
  | false => exact k false W1 Γ1 s g1 (q.2 rfl)
theorem dlt_or {Q : Bool → Gam → Prop} (h : DlT c Γ fun b Γ1 => (b = false → DlT ct' Γ1 Q) ∧ (b = true → Q true Γ1)) : DlT (tOr c ct') Γ Q := fun F σ W R g k => h F σ W _ g fun b W1 Γ1 s g1 q => by
  cases b with
  | false => exact q.1 rfl F σ W1 R g1 fun b' W2 Γ2 s2 g2 q2 => k b' W2 Γ2 (s.trans s2) g2 q2
  | true => exact k true W1 Γ1 s g1 (q.2 rfl)
theorem dlt_yes {Q : Bool → Gam → Prop} (h : Q true Γ) : DlT tYes Γ Q := evt_yes.dl h
/-! ### choice, and, or as values -/
theorem ev_if (h : EvT c Γ a) (h1 : a = true → Ev ta Γ d1) (h2 : a = false → Ev tb Γ d2) : Ev (tIf c ta tb) Γ (if a = true then d1 else d2) := fun F σ W Q g k => h F σ W _ g fun H s => by
  cases a with
  | true => exact h1 rfl F σ (W.at H) Q (g.same s) fun v H' s' l => k v H' (Same.trans s s') l
  | false => exact h2 rfl F σ (W.at H) Q (g.same s) fun v H' s' l => k v H' (Same.trans s s') l
theorem dl_if {Q : D → Gam → Prop} (h : DlT c Γ fun b Γ1 => (b = true → Dl ta Γ1 Q) ∧ (b = false → Dl tb Γ1 Q)) : Dl (tIf c ta tb) Γ Q := fun F σ W R g k => h F σ W _ g fun b W1 Γ1 s g1 q => by
  cases b with
  | true => exact q.1 rfl F σ W1 R g1 fun v W2 d Γ2 s2 g2 l q2 => k v W2 d Γ2 (s.trans s2) g2 l q2
  | false => exact q.2 rfl F σ W1 R g1 fun v W2 d Γ2 s2 g2 l q2 => k v W2 d Γ2 (s.trans s2) g2 l q2
theorem ev_andV (h : Ev ta Γ (.bl a)) (h' : a = true → Ev tb Γ (.bl b)) : Ev (tAndV ta tb) Γ (.bl (a && b)) := fun F σ W Q g k => h F σ W _ g fun v H s l => ⟨a, l, by
  cases a with
  | true => exact h' rfl F σ (W.at H) Q (g.same s) fun v H' s' l => k v H' (Same.trans s s') l
  | false => exact k _ H s rfl⟩
theorem ev_orV (h : Ev ta Γ (.bl a)) (h' : a = false → Ev tb Γ (.bl b)) : Ev (tOrV ta tb) Γ (.bl (a || b)) := fun F σ W Q g k => h F σ W _ g fun v H s l => ⟨a, l, by
  cases a with
  | false => exact h' rfl F σ (W.at H) Q (g.same s) fun v H' s' l => k v H' (Same.trans s s') l
  | true => exact k _ H s rfl⟩
theorem ev_notV (h : Ev ta Γ (.bl a)) : Ev (tNotV ta) Γ (.bl (!a)) := fun F σ W Q g k => h F σ W _ g fun v H s l => ⟨a, l, k _ H s rfl⟩
theorem dl_andV {Q : D → Gam → Prop} (h : Dl ta Γ fun d Γ1 => ∃ a, d = .bl a ∧ (a = true → Dl tb Γ1 Q) ∧ (a = false → Q (.bl false) Γ1)) : Dl (tAndV ta tb) Γ Q := fun F σ W R g k => h F σ W _ g fun v W1 d Γ1 s g1 l ⟨a, e, q1, q2⟩ => ⟨a, by rw [e] at l; exact l, by
  cases a with
  | true => exact q1 rfl F σ W1 R g1 fun v W2 d Γ2 s2 g2 l q2 => k v W2 d Γ2 (s.trans s2) g2 l q2
  | false => exact k _ W1 (.bl false) Γ1 s g1 rfl (q2 rfl)⟩
theorem dl_orV {Q : D → Gam → Prop} (h : Dl ta Γ fun d Γ1 => ∃ a, d = .bl a ∧ (a = false → Dl tb Γ1 Q) ∧ (a = true → Q (.bl true) Γ1)) : Dl (tOrV ta tb) Γ Q := fun F σ W R g k => h F σ W _ g fun v W1 d Γ1 s g1 l ⟨a, e, q1, q2⟩ => ⟨a, by rw [e] at l; exact l, by
  cases a with
  | false => exact q1 rfl F σ W1 R g1 fun v W2 d Γ2 s2 g2 l q2 => k v W2 d Γ2 (s.trans s2) g2 l q2
  | true => exact k _ W1 (.bl true) Γ1 s g1 rfl (q2 rfl)⟩
end

/-! ### displays -/
section
variable {Γ : Gam} {t : TA} {ds : List D}
theorem evn_lst (h : EvA t Γ ds) (hz : ds.length ≤ sizeLine) : EvN (tLst t) Γ ds := fun F σ W Q g k => h F σ W _ g fun vs H s l => ⟨by rw [← l.length]; exact hz, fun p hp =>
  k p vs _ (Same.trans s (same_upd hp)) (s.free hp) upd_same (RepL.plus (W := W.at H) hp (same_upd hp) l)⟩
theorem ev_tup (h : EvA t Γ ds) (hz : ds.length ≤ sizeLine) : Ev (tTup t) Γ (.tup ds) := fun F σ W Q g k => h F σ W _ g fun vs H s l => ⟨by rw [← l.length]; exact hz, fun p hp =>
  k _ _ (Same.trans s (same_upd hp)) (rep_new_tup (W := W.at H) (g.same s).ok.dom hp l)⟩
theorem dl_lst {Q : D → Gam → Prop} (h : DlA t Γ fun ds Γ1 => ds.length ≤ sizeLine ∧ Q (.lst ds) Γ1) : Dl (tLst t) Γ Q := fun F σ W R g k => h F σ W _ g fun vs W1 ds Γ1 s g1 l ⟨hz, q⟩ => ⟨by rw [← l.length]; exact hz, fun p hp =>
  k _ (W1.at _) (.lst ds) Γ1 (s.trans (Stp.of_same g1.ok (same_upd hp))) (g1.same (same_upd hp)) (rep_new_lst g1.ok.dom hp l) q⟩
theorem dl_tup {Q : D → Gam → Prop} (h : DlA t Γ fun ds Γ1 => ds.length ≤ sizeLine ∧ Q (.tup ds) Γ1) : Dl (tTup t) Γ Q := fun F σ W R g k => h F σ W _ g fun vs W1 ds Γ1 s g1 l ⟨hz, q⟩ => ⟨by rw [← l.length]; exact hz, fun p hp =>
  k _ (W1.at _) (.tup ds) Γ1 (s.trans (Stp.of_same g1.ok (same_upd hp))) (g1.same (same_upd hp)) (rep_new_tup g1.ok.dom hp l) q⟩
end

/-! ### a list of one's own -/
theorem SR.plus {F : Addr → Prop} {Γ : Gam} {σ : L2.St} {W : Wd} {a : Addr} {H : Hp} (g : SR F Γ σ W) (s : Same W.H H) (n : W.H a = none) (ne : H a ≠ none) :
    Stp F W (W.plus H a) ∧ SR F Γ σ (W.plus H a) ∧ ¬ ownA Γ σ a ∧ ¬ F a ∧ ¬ W.P a := by
  have nu : ¬ W.U a := g.ok.new n
  have kp : ∀ b u, W.H b = some u → ¬ W.U b → H b = some u ∧ ¬ (W.U b ∨ b = a) := fun b u q nb => ⟨s b u q, fun z => z.elim nb fun z => by rw [z, n] at q; cases q⟩
  have st : Stp F W (W.plus H a) := ⟨kp, rfl, fun b h => by
    cases q : W.H b with
    | none => exact absurd q (g.ok.dom b (g.ok.fu b h))
    | some u => exact s b u q⟩
  refine ⟨st, ⟨⟨fun b h z => ?_, fun b h => Or.inl (g.ok.fu b h), fun b h => ?_⟩, g.len, fun j d q => ?_, fun j es q => ?_, g.apart⟩, fun ⟨i, ds, e, q⟩ => ?_, fun z => nu (g.ok.fu a z), fun z => nu (g.ok.pu a z).1⟩
  · have z : H b = none := z
    rcases h with h | h
    · exact g.ok.dom b h (s.free z)
    · rw [h] at z; exact ne z
  · obtain ⟨u, f, x, y, h1, h2, h3, q⟩ := g.ok.pu b h
    exact ⟨Or.inl u, f, x, y, h1, h2, h3, s _ _ q⟩
  · obtain ⟨v, e1, r⟩ := g.val j d q
    exact ⟨v, e1, r.stp st⟩
  · obtain ⟨c, ws, e1, u, f, p, q1, r⟩ := g.own j es q
    exact ⟨c, ws, e1, Or.inl u, f, p, s _ _ q1, r.stp st⟩
  · obtain ⟨c, ws, e1, u, f, p, q1, r⟩ := g.own i ds e
    rw [q] at e1; cases e1
    exact nu u
theorem SR.adopt {F : Addr → Prop} {Γ : Gam} {σ : L2.St} {W : Wd} {i : Nat} {a : Addr} {vs : List V} {ds : List D} (g : SR F Γ σ W) (u : W.U a) (f : ¬ F a) (p : ¬ W.P a) (e : W.H a = some (.lst vs)) (l : RepL W ds vs) (no : ¬ ownA Γ σ a) :
    SR F (Γ.set i (.own ds)) (σ.set i (some (.ref a))) W := by
  have lt : ∀ (k : Nat) (s : Sl), k = i → (Γ.set i (.own ds))[k]? = some s → i < Γ.length := fun k s hk q => by
    rw [hk] at q
    have := (List.getElem?_eq_some_iff.mp q).1
    simpa using this
  refine ⟨g.ok, by simp [g.len], fun j d q => ?_, fun j es q => ?_, fun j k c es fs q1 q2 q3 q4 => ?_⟩
  · by_cases hj : j = i
    · have hl := lt j _ hj q
      rw [hj, List.getElem?_set_self hl] at q; cases q
    · rw [List.getElem?_set_ne (Ne.symm hj)] at q ⊢
      exact g.val j d q
  · by_cases hj : j = i
    · have hl := lt j _ hj q
      rw [hj, List.getElem?_set_self hl] at q; cases q
      exact ⟨a, vs, by rw [hj, List.getElem?_set_self (by rw [← g.len]; exact hl)], u, f, p, e, l⟩
    · rw [List.getElem?_set_ne (Ne.symm hj)] at q ⊢
      exact g.own j es q
  · by_cases hj : j = i
    · have hl := lt j _ hj q1
      rw [hj, List.getElem?_set_self (by rw [← g.len]; exact hl)] at q3
      by_cases hk : k = i
      · rw [hj, hk]
      · rw [List.getElem?_set_ne (Ne.symm hk)] at q2 q4
        cases q3
        exact absurd ⟨k, fs, q2, q4⟩ no
    · rw [List.getElem?_set_ne (Ne.symm hj)] at q1 q3
      by_cases hk : k = i
      · have hl := lt k _ hk q2
        rw [hk, List.getElem?_set_self (by rw [← g.len]; exact hl)] at q4
        cases q4
        exact absurd ⟨j, es, q1, q3⟩ no
      · rw [List.getElem?_set_ne (Ne.symm hk)] at q2 q4
        exact g.apart j k c es fs q1 q2 q3 q4
theorem SR.setOwn {F : Addr → Prop} {Γ : Gam} {σ : L2.St} {W : Wd} {i : Nat} {a : Addr} {vs : List V} {ds : List D} {H : Hp} (g : SR F Γ σ W) (s : Same W.H H) (n : W.H a = none) (e : H a = some (.lst vs)) (l : RepL (W.plus H a) ds vs) :
    Stp F W (W.plus H a) ∧ SR F (Γ.set i (.own ds)) (σ.set i (some (.ref a))) (W.plus H a) := by
  obtain ⟨st, g2, no, f, p⟩ := g.plus s n (by rw [e]; exact fun z => nomatch z)
  exact ⟨st, g2.adopt (Or.inr rfl) f p e l no⟩
end Dw

/-! Rules over data: own lists changed, statements, defs and their calls. -/
namespace Dw
open PySem PySem.Spec PyProof.Rows L2

/-! ### an own list is changed -/
theorem SR.write {F : Addr → Prop} {Γ : Gam} {σ : L2.St} {W : Wd} {i : Nat} {a : Addr} {vs : List V} {ds es : List D} (g : SR F Γ σ W) (hi : Γ[i]? = some (.own ds)) (hs : σ[i]? = some (some (.ref a))) (l : RepL W es vs) :
    Stp F W (W.at (upd W.H a (.lst vs))) ∧ SR F (Γ.set i (.own es)) σ (W.at (upd W.H a (.lst vs))) := by
  obtain ⟨a', us, e1, u, f, p, q, r⟩ := g.own i ds hi
  rw [hs] at e1; cases e1
  have kp : ∀ b o, W.H b = some o → ¬ W.U b → (upd W.H a (.lst vs)) b = some o ∧ ¬ W.U b := fun b o e n => ⟨by rw [upd_ne (fun z : b = a => n (by rw [z]; exact u))]; exact e, n⟩
  have st : Stp F W (W.at (upd W.H a (.lst vs))) := ⟨kp, rfl, fun b h => upd_ne (fun z : b = a => f (by rw [← z]; exact h))⟩
  refine ⟨st, ⟨⟨fun b h z => ?_, g.ok.fu, fun b h => ?_⟩, by simp [g.len], fun j d q' => ?_, fun j fs q' => ?_, fun j k c es' fs q1 q2 q3 q4 => ?_⟩⟩
  · have z : (upd W.H a (.lst vs)) b = none := z
    by_cases hb : b = a
    · rw [hb, upd_same] at z; cases z
    · rw [upd_ne hb] at z; exact g.ok.dom b h z
  · obtain ⟨u', f', x, y, h1, h2, h3, q'⟩ := g.ok.pu b h
    exact ⟨u', f', x, y, h1, h2, h3, (upd_ne (fun z : b = a => p (by rw [← z]; exact h))).trans q'⟩
  · have hj : i ≠ j := fun z => by
      subst z
      have hl : i < Γ.length := (List.getElem?_eq_some_iff.mp hi).1
      rw [List.getElem?_set_self hl] at q'; cases q'
    rw [List.getElem?_set_ne hj] at q'
    obtain ⟨v, e1, r'⟩ := g.val j d q'
    exact ⟨v, e1, r'.stp st⟩
  · by_cases hj : i = j
    · subst hj
      have hl : i < Γ.length := (List.getElem?_eq_some_iff.mp hi).1
      rw [List.getElem?_set_self hl] at q'; cases q'
      exact ⟨a, vs, hs, u, f, p, upd_same, l.stp st⟩
    · rw [List.getElem?_set_ne hj] at q'
      obtain ⟨c, ws, e1, u', f', p', q1, r'⟩ := g.own j fs q'
      have nc : c ≠ a := fun z => hj (g.apart i j a ds fs hi q' hs (z ▸ e1))
      exact ⟨c, ws, e1, u', f', p', (upd_ne nc).trans q1, r'.stp st⟩
  · have get : ∀ (j : Nat) (es' : List D), (Γ.set i (.own es))[j]? = some (Sl.own es') → ∃ fs, Γ[j]? = some (Sl.own fs) := fun j es' q => by
      by_cases hj : i = j
      · subst hj; exact ⟨ds, hi⟩
      · rw [List.getElem?_set_ne hj] at q; exact ⟨es', q⟩
    obtain ⟨x, e1⟩ := get j es' q1
    obtain ⟨y, e2⟩ := get k fs q2
    exact g.apart j k c x y e1 e2 q3 q4
section
variable {K : PySem.W.Frag} {Γ : Gam} {i : Nat} {t : TA} {Q : D → Gam → Prop} {ds : List D}
/-- i's list is at the same place behind a step -/
theorem tyV_lst {K : PySem.W.Frag} {H : Hp} {a : Addr} {vs : List V} (h : H a = some (.lst vs)) : tyV K "list" (.ref a) H := .inl ⟨rfl, _, .inl (.inl h)⟩
theorem dl_append (h0 : ∃ ds, Γ[i]? = some (.own ds)) (h : DlA t Γ fun es Γ1 => ∃ e ds, es = [e] ∧ Γ1[i]? = some (.own ds) ∧ ds.length < sizeLine ∧ Q .non (Γ1.set i (.own (ds ++ [e])))) : Dl (tBM K "list" rAppend (tVar i) t) Γ Q := fun F σ W R g k => by
  obtain ⟨ds0, e0⟩ := h0
  obtain ⟨a, vs0, hs, _, _, _, q0, _⟩ := g.own i ds0 e0
  refine ⟨.ref a, hs, tyV_lst q0, h F σ W _ g fun us W1 es Γ1 s1 g1 l1 ⟨e, ds, e1, e2, hz, q⟩ => ?_⟩
  obtain ⟨a', vs, hs', u, f, p, q1, r1⟩ := g1.own i ds e2
  rw [hs] at hs'; cases hs'
  subst e1
  obtain ⟨v, _, rfl, l1, rfl⟩ := l1
  obtain ⟨st, g2⟩ := g1.write e2 hs (r1.append (RepL.one l1))
  exact ⟨a, vs, v, rfl, rfl, q1, by rw [← r1.length]; exact hz, k .non _ .non _ (s1.trans st) g2 rfl q⟩
theorem dl_popAt (h0 : ∃ ds, Γ[i]? = some (.own ds)) (h : DlA t Γ fun es Γ1 => ∃ (z : Int) (j : Nat) (ds : List D) (d : D), es = [.int z] ∧ Γ1[i]? = some (.own ds) ∧ -(2 ^ 63) ≤ z ∧ z < 2 ^ 63 ∧ seqIndex? z ds.length = some j ∧ ds[j]? = some d ∧ Q d (Γ1.set i (.own (ds.eraseIdx j)))) :
    Dl (tBM K "list" rPopAt (tVar i) t) Γ Q := fun F σ W R g k => by
  obtain ⟨ds0, e0⟩ := h0
  obtain ⟨a, vs0, hs, _, _, _, q0, _⟩ := g.own i ds0 e0
  refine ⟨.ref a, hs, tyV_lst q0, h F σ W _ g fun us W1 es Γ1 s1 g1 l1 ⟨z, j, ds, d, e1, e2, h1, h2, h3, h4, q⟩ => ?_⟩
  obtain ⟨a', vs, hs', u, f, p, q1, r1⟩ := g1.own i ds e2
  rw [hs] at hs'; cases hs'
  subst e1
  obtain ⟨v, _, rfl, l1, rfl⟩ := l1
  obtain ⟨w', hw, rw'⟩ := r1.get h4
  obtain ⟨st, g2⟩ := g1.write e2 hs (r1.eraseIdx j)
  exact ⟨a, vs, z, j, w', rfl, by rw [show v = .int z from l1], q1, h1, h2, by rw [← r1.length]; exact h3, hw, k w' _ d _ (s1.trans st) g2 (rw'.stp st) q⟩
/-- xs[k] = v -/
theorem dl_pop (h0 : Γ[i]? = some (.own ds)) {d : D} (hd : ds[ds.length - 1]? = some d) (q : Q d (Γ.set i (.own ds.dropLast))) : Dl (tBM0 K "list" rPop (tVar i)) Γ Q := fun F σ W R g k => by
  obtain ⟨a, vs, hs, u, f, p, q1, r1⟩ := g.own i ds h0
  obtain ⟨w', hw, rw'⟩ := r1.get hd
  have l2 : RepL W ds.dropLast vs.dropLast := by
    rw [List.dropLast_eq_take, List.dropLast_eq_take, r1.length]
    exact r1.take _
  obtain ⟨st, g2⟩ := g.write h0 hs l2
  exact ⟨.ref a, hs, tyV_lst q1, a, vs, w', rfl, rfl, q1, by rw [← r1.length]; exact hw, k w' _ d _ st g2 (rw'.stp st) q⟩
end

/-! ### statements -/
section
variable {K : PySem.W.Frag} {Γ : Gam} {i j : Nat} {t u : TS} {te : TE} {De : DE} {ds es : List D}
theorem ds_next (h : De.nx Γ) : Ds tNext Γ De := fun F σ W Dr g l => l.nx σ W Γ (Stp.refl W) g h
theorem ds_seq (h : Ds t Γ { De with nx := fun Γ' => Ds u Γ' De }) : Ds (tSeq t u) Γ De := fun F σ W Dr g l => h F σ W { Dr with nx := u Dr } g
  ⟨fun σ1 W1 Γ1 s g1 q => q F σ1 W1 Dr g1 (l.after s), l.rt, l.bk, l.ct⟩
theorem ds_asg (h : Dl te Γ fun d Γ1 => De.nx (Γ1.set i (.val d))) : Ds (tAsg te (gName i)) Γ De := fun F σ W Dr g l => h F σ W _ g fun v W1 d Γ1 s g1 r q => l.nx _ W1 _ s (g1.set r) q
theorem ds_asg_own (h : EvN te Γ ds) (q : De.nx (Γ.set i (.own ds))) : Ds (tAsg te (gName i)) Γ De := fun F σ W Dr g l => h F σ W _ g fun a vs H s n e r =>
  let ⟨st, g2⟩ := g.setOwn (i := i) s n e r
  l.nx _ (W.plus H a) _ st g2 q
theorem ds_if {c : TT} (h : DlT c Γ fun b Γ1 => (b = true → Ds t Γ1 De) ∧ (b = false → Ds u Γ1 De)) : Ds (tIfS c t u) Γ De := fun F σ W Dr g l => h F σ W _ g fun b W1 Γ1 s g1 q => by
  cases b with
  | true => exact q.1 rfl F σ W1 Dr g1 (l.after s)
  | false => exact q.2 rfl F σ W1 Dr g1 (l.after s)
theorem ds_ret (h : Dl te Γ fun d _ => De.rt d) : Ds (tRet te) Γ De := fun F σ W Dr g l => h F σ W _ g fun v W1 d Γ1 s g1 r q => l.rt v W1 d s g1.ok r q
theorem ds_retN (h : De.rt .non) : Ds tRetN Γ De := fun F σ W Dr g l => l.rt .non W .non (Stp.refl W) g.ok rfl h
theorem ds_drop (h : Dl te Γ fun _ Γ1 => De.nx Γ1) : Ds (tDrop te) Γ De := fun F σ W Dr g l => h F σ W _ g fun v W1 d Γ1 s g1 r q => l.nx _ W1 _ s g1 q
/-- an own list is no longer changed -/
theorem SR.freeze {F : Addr → Prop} {σ : L2.St} {W : Wd} {a : Addr} (g : SR F Γ σ W) (hi : Γ[i]? = some (.own ds)) (hs : σ[i]? = some (some (.ref a))) :
    Stp F W ⟨W.H, fun b => W.U b ∧ b ≠ a, W.P⟩ ∧ SR F (Γ.set i (.val (.lst ds))) σ ⟨W.H, fun b => W.U b ∧ b ≠ a, W.P⟩ := by
  obtain ⟨a', us, e1, u, f, p, q, r⟩ := g.own i ds hi
  rw [hs] at e1; cases e1
  have st : Stp F W ⟨W.H, fun b => W.U b ∧ b ≠ a, W.P⟩ := ⟨fun b o e n => ⟨e, fun z => n z.1⟩, rfl, fun _ _ => rfl⟩
  have hl : i < Γ.length := (List.getElem?_eq_some_iff.mp hi).1
  refine ⟨st, ⟨⟨fun b h => g.ok.dom b h.1, fun b h => ⟨g.ok.fu b h, fun z => f (z ▸ h)⟩, fun b h => let ⟨u', f', pp⟩ := g.ok.pu b h; ⟨⟨u', fun z => p (z ▸ h)⟩, f', pp⟩⟩, by simp [g.len], fun j d q' => ?_, fun j fs q' => ?_, fun j k c es' fs q1 q2 q3 q4 => ?_⟩⟩
  · by_cases hj : i = j
    · subst hj
      rw [List.getElem?_set_self hl] at q'; cases q'
      exact ⟨.ref a, hs, a, us, rfl, q, fun z => z.2 rfl, r.stp st⟩
    · rw [List.getElem?_set_ne hj] at q'
      obtain ⟨v, e1, r'⟩ := g.val j d q'
      exact ⟨v, e1, r'.stp st⟩
  · have hj : i ≠ j := fun z => by
      subst z
      rw [List.getElem?_set_self hl] at q'; cases q'
    rw [List.getElem?_set_ne hj] at q'
    obtain ⟨c, ws, e1, u', f', p', q1, r'⟩ := g.own j fs q'
    exact ⟨c, ws, e1, ⟨u', fun z => hj (g.apart i j a ds fs hi q' hs (z ▸ e1))⟩, f', p', q1, r'.stp st⟩
  · have get : ∀ (j : Nat) (es' : List D), (Γ.set i (.val (.lst ds)))[j]? = some (Sl.own es') → Γ[j]? = some (Sl.own es') := fun j es' q => by
      by_cases hj : i = j
      · subst hj; rw [List.getElem?_set_self hl] at q; cases q
      · rw [List.getElem?_set_ne hj] at q; exact q
    exact g.apart j k c es' fs (get j es' q1) (get k fs q2) q3 q4
theorem ds_freeze (i : Nat) (hi : Γ[i]? = some (.own ds)) (h : Ds t (Γ.set i (.val (.lst ds))) De) : Ds t Γ De := fun F σ W Dr g l => by
  obtain ⟨a, vs, hs, _⟩ := g.own i ds hi
  obtain ⟨st, g2⟩ := g.freeze hi hs
  exact h F σ ⟨W.H, fun b => W.U b ∧ b ≠ a, W.P⟩ Dr g2 (l.after st)
theorem ds_ret_own (hi : Γ[i]? = some (.own ds)) (h : De.rt (.lst ds)) : Ds (tRet (tVar i)) Γ De := by
  have hl : i < Γ.length := (List.getElem?_eq_some_iff.mp hi).1
  exact ds_freeze i hi (ds_ret ((ev_var (d := .lst ds) (by rw [List.getElem?_set_self hl])).dl h))
theorem ds_par {ta : TA} (h : DlA ta Γ fun ds Γ1 => ∃ x y, ds = [x, y] ∧ De.nx ((Γ1.set i (.val x)).set j (.val y))) : Ds (tPar i j ta) Γ De := fun F σ W Dr g l => h F σ W _ g fun vs W1 ds Γ1 s g1 r ⟨x, y, e, q⟩ => by
  subst e
  obtain ⟨v, _, rfl, r1, u, _, rfl, r2, rfl⟩ := r
  exact ⟨v, u, rfl, l.nx _ W1 _ s ((g1.set r1).set r2) q⟩
theorem ds_par_oo {t1 t2 : TE} (h1 : EvN t1 Γ ds) (h2 : EvN t2 Γ es) (q : De.nx ((Γ.set i (.own ds)).set j (.own es))) : Ds (tPar i j (tCons t1 (tCons t2 tNil))) Γ De := fun F σ W Dr g l =>
  h1 F σ W _ g fun a vs H s n e r => by
    obtain ⟨st1, g1, no1, f1, p1⟩ := g.plus s n (by rw [e]; exact fun z => nomatch z)
    refine h2 F σ (W.plus H a) _ g1 fun b ws H' s' n' e' r' => ?_
    obtain ⟨st2, g2, no2, f2, p2⟩ := g1.plus s' n' (by rw [e']; exact fun z => nomatch z)
    have nab : b ≠ a := fun z => by
      have n' : H b = none := n'
      rw [z, e] at n'; cases n'
    have ea : H' a = some (.lst vs) := s' a _ e
    have ra : RepL ((W.plus H a).plus H' b) ds vs := r.stp st2
    have g3 := g2.adopt (i := i) (Or.inl (Or.inr rfl)) f1 p1 ea ra no1
    have no3 : ¬ ownA (Γ.set i (.own ds)) (σ.set i (some (.ref a))) b := fun ⟨k, fs, e1, e2⟩ => by
      by_cases hk : k = i
      · rw [hk] at e1 e2
        have hl : i < (Γ.set i (Sl.own ds)).length := (List.getElem?_eq_some_iff.mp e1).1
        rw [List.length_set] at hl
        rw [List.getElem?_set_self (by rw [← g.len]; exact hl)] at e2
        cases e2
        exact nab rfl
      · rw [List.getElem?_set_ne (Ne.symm hk)] at e1 e2
        exact no2 ⟨k, fs, e1, e2⟩
    have g4 := g3.adopt (i := j) (Or.inr rfl) f2 p2 e' r' no3
    exact ⟨.ref a, .ref b, rfl, l.nx _ ((W.plus H a).plus H' b) _ (st1.trans st2) g4 q⟩
end

/-! ### a def's promise over data -/
/-- for each x : α that is ok, called with args x, it returns some d with rel x d -/
structure Spc where
  ty : Type
  args : ty → List D
  ok : ty → Prop
  rel : ty → D → Prop
def toSp (s : Spc) : Sp := fun vs H Q _ => ∃ (x : s.ty) (F : Addr → Prop) (W : Wd), W.H = H ∧ WOk F W ∧ RepL W (s.args x) vs ∧ s.ok x ∧ ∀ d v W', s.rel x d → Stp F W W' → WOk F W' → Rep W' d v → Q v W'.H
/-- the slots at a def's start -/
def Gz0 (n : Nat) (ds : List D) : Gam := ds.map Sl.val ++ List.replicate (n - ds.length) Sl.unset
theorem sr_start {F : Addr → Prop} {W : Wd} {N : List Str} {ds : List D} {vs : List V} (ok : WOk F W) (r : RepL W ds vs) : SR F (Gz0 N.length ds) (L2.start N vs) W := by
  have hl := r.length
  refine ⟨ok, by simp [Gz0, L2.start, hl], fun i d e => ?_, fun i d e => ?_, fun i j a ds' es e => ?_⟩
  · unfold Gz0 at e
    by_cases hi : i < ds.length
    · rw [List.getElem?_append_left (by simpa using hi), List.getElem?_map] at e
      cases q : ds[i]? with
      | none => rw [q] at e; cases e
      | some d' =>
        rw [q] at e; cases e
        obtain ⟨v, e1, r1⟩ := r.get q
        refine ⟨v, ?_, r1⟩
        unfold L2.start
        rw [List.getElem?_append_left (by simp [← hl, hi]), List.getElem?_map, e1]
        rfl
    · rw [List.getElem?_append_right (by simpa using hi)] at e
      have := List.mem_of_getElem? e
      rw [List.mem_replicate] at this
      cases this.2
  all_goals
    exfalso
    unfold Gz0 at e
    by_cases hi : i < ds.length
    · rw [List.getElem?_append_left (by simpa using hi), List.getElem?_map] at e
      cases q : ds[i]? with
      | none => rw [q] at e; cases e
      | some d' => rw [q] at e; cases e
    · rw [List.getElem?_append_right (by simpa using hi)] at e
      have := List.mem_of_getElem? e
      rw [List.mem_replicate] at this
      cases this.2
theorem body_of {s : Spc} {N : List Str} {t : TS} {vs : List V} {H : Hp} {Q : VK} {E : XK} (hs : toSp s vs H Q E) (hb : ∀ x, s.ok x → Ds t (Gz0 N.length (s.args x)) ⟨fun _ => s.rel x .non, s.rel x, fun _ => False, fun _ => False⟩) :
    t { nx := fun _ H' => Q .non H', rt := Q } (L2.start N vs) H := by
  obtain ⟨x, F, W, rfl, ok, r, hx, q⟩ := hs
  exact hb x hx F _ W _ (sr_start ok r) ⟨fun σ W' Γ st g h => q .non .non W' h st g.ok rfl, fun v W' d st ok' r' h => q d v W' h st ok' r', fun _ _ _ _ _ h => h.elim, fun _ _ _ _ _ h => h.elim⟩
theorem spc_len {s : Spc} {n : Nat} (h : ∀ x, (s.args x).length = n) : ∀ vs H Q E, toSp s vs H Q E → vs.length = n := fun vs H Q E ⟨x, F, W, _, _, r, _⟩ => by rw [← r.length]; exact h x
section
variable {P : Program} {w : World} {K : PySem.W.Frag} {mg : Str → Option Value} {base : Heap}
/-- THE RULE for a def that raises nothing -/
theorem fn_ok {x qual : Str} {st : Stmt} {f : Addr} {fd : FuncData} {N ps : List Str} {k : Nat} {s : Spc} (F : Fun K x qual st f fd) (S : FnScope N ps (defScope st)) (len : ∀ x, (s.args x).length = ps.length)
    (hbody : ∀ (cdv : Value) (A : Around) (outer : List Env) (s' : Shared) (H : Hp) (E : XK), Room k (A.deeper (envOfC qual (defScope st) s'.heap.objs.size f cdv)) →
      ∃ t, PSs (cxOf CX0 P w K mg base N qual (defScope st) f cdv A outer s' H E).nox (defBody st) t ∧ ∀ x, s.ok x → Ds t (Gz0 N.length (s.args x)) ⟨fun _ => s.rel x .non, s.rel x, fun _ => False, fun _ => False⟩) :
    FnOk P w K mg base CX0 (k + 1) f fd ps (toSp s) :=
  F.ok S (spc_len len) fun cdv A outer s' H vs Q E hr h => by
    obtain ⟨t, p, hb⟩ := hbody cdv A outer s' H E hr
    exact ⟨t, p, body_of h hb⟩
end
section
variable {Γ : Gam} {s : Spc} {t tk : TA} {E : XK} {Q : D → Gam → Prop} {ds es : List D} {d : D}
theorem dl_call (h : DlA t Γ fun ds Γ1 => ∃ x, ds = s.args x ∧ s.ok x ∧ ∀ d, s.rel x d → Q d Γ1) : Dl (tCall (toSp s) [] E t) Γ Q := fun F σ W R g k => h F σ W _ g fun vs W1 ds Γ1 st g1 r ⟨x, e, ok, q⟩ => by
  subst e
  rw [List.append_nil]
  exact ⟨x, _, W1, rfl, g1.callOk, r, ok, fun d v W' hd st' ok' r' => k v W' d Γ1 (st.trans (st'.sub fun _ z => .inl z)) (g1.call st' ok') r' (q d hd)⟩
theorem pure_call {F : Addr → Prop} {σ : L2.St} {W : Wd} {vs : List V} {x : s.ty} {R : VK} {U : Addr → Prop} (g : SR F Γ σ W) (ul : ∀ a, U a → W.U a) (hU : RepL ⟨W.H, U, fun _ => False⟩ (s.args x) vs) (ok : s.ok x) (k : ∀ d v H, s.rel x d → Same W.H H → Rep ⟨H, U, fun _ => False⟩ d v → R v H) : toSp s vs W.H R E := by
  refine ⟨x, U, ⟨W.H, U, fun _ => False⟩, rfl, ⟨fun a h => g.ok.dom a (ul a h), fun a h => h, fun a h => h.elim⟩, hU, ok, fun d v W' hd st ok' r => ?_⟩
  refine k d v W'.H hd (fun b o e => ?_) (Rep.mono (W := W') (W' := ⟨W'.H, U, fun _ => False⟩) (fun a u e n => ⟨e, fun z => n (ok'.fu a z)⟩) (fun a z => by rw [st.pur] at z; exact z) d v r)
  by_cases hb : U b
  · exact (st.fr b hb).trans e
  · exact (st.keep b o e hb).1
/-- purse-free data, as seen by a def that draws nothing -/
theorem Rep.addP {W : Wd} {H : Hp} {U P : Addr → Prop} {d : D} {v : V} (h : Rep ⟨H, U, fun _ => False⟩ d v) : Rep ⟨H, U, P⟩ d v := Rep.mono (W := ⟨H, U, fun _ => False⟩) (W' := ⟨H, U, P⟩) (fun _ _ e n => ⟨e, n⟩) (fun _ z => z.elim) d v h
mutual
/-- no purse within -/
def noP : D → Bool
  | .purse => false
  | .tup ds => noPs ds | .lst ds => noPs ds | .obj _ _ ds => noPs ds | .dct _ ds => noPs ds | .tupN ds => noPs ds
  | _ => true
def noPs : List D → Bool
  | [] => true
  | d :: ds => noP d && noPs ds
end
mutual
theorem Rep.delP {W : Wd} : ∀ (d : D) (v : V), noP d = true → Rep W d v → Rep ⟨W.H, W.U, fun _ => False⟩ d v
  | .non, _, _, h => h
  | .bl _, _, _, h => h
  | .int _, _, _, h => h
  | .str _, _, _, h => h
  | .raw _, _, _, h => h
  | .tup ds, _, n, ⟨a, vs, e, h, u, r⟩ => ⟨a, vs, e, h, u, RepL.delP ds vs n r⟩
  | .tupN ds, _, n, ⟨a, vs, e, h, u, r⟩ => ⟨a, vs, e, h, u, RepL.delP ds vs n r⟩
  | .lst ds, _, n, ⟨a, vs, e, h, u, r⟩ => ⟨a, vs, e, h, u, RepL.delP ds vs n r⟩
  | .obj C ns ds, _, n, ⟨a, dx, vs, e, h, u, l, r⟩ => ⟨a, dx, vs, e, h, u, l, RepL.delP ds vs n r⟩
  | .purse, _, n, _ => nomatch n
  | .rng _ _, _, _, h => h
  | .dct ks ds, _, n, ⟨a, vs, e, h, u, l, r⟩ => ⟨a, vs, e, h, u, l, RepL.delP ds vs n r⟩
  | .scr _ _, _, _, h => h
theorem RepL.delP {W : Wd} : ∀ (ds : List D) (vs : List V), noPs ds = true → RepL W ds vs → RepL ⟨W.H, W.U, fun _ => False⟩ ds vs
  | [], _, _, h => h
  | d :: ds, _, n, ⟨v, r, e, h1, h2⟩ => by
    have n' : noP d = true ∧ noPs ds = true := by simpa [noPs] using n
    exact ⟨v, r, e, Rep.delP d v n'.1 h1, RepL.delP ds r n'.2 h2⟩
end
theorem noPs_map {α : Type} {f : α → D} (h : ∀ x, noP (f x) = true) : ∀ xs : List α, noPs (xs.map f) = true
  | [] => rfl
  | x :: xs => by
    show (noP (f x) && noPs (xs.map f)) = true
    rw [h, noPs_map h xs]; rfl
/-- a call that draws nothing -/
theorem ev_call {x : s.ty} (h : EvA t Γ (s.args x)) (np : noPs (s.args x) = true) (ok : s.ok x) (hd : ∀ d', s.rel x d' → d' = d) : Ev (tCall (toSp s) [] E t) Γ d := fun F σ W R g k => h F σ W _ g fun vs H st r => by
  rw [List.append_nil]
  exact pure_call (W := W.at H) (g.same st) (fun _ z => z) (RepL.delP _ _ np r) ok fun d' v H' hd' s' r' => by
    rw [hd d' hd'] at r'
    exact k v H' (Same.trans st s') (Rep.addP (W := W) r')
theorem dl_callK {gV : List V → List V → List V} (h : DlA t Γ fun ds Γ1 => DlA tk Γ1 fun es Γ2 => ∃ x, (∀ (W : Wd) vs zs, RepL W ds vs → RepL W es zs → RepL W (s.args x) (gV vs zs)) ∧ s.ok x ∧ ∀ d, s.rel x d → Q d Γ2) : Dl (tCallK (toSp s) gV E t tk) Γ Q := fun F σ W R g k =>
  h F σ W _ g fun vs W1 ds Γ1 st g1 r h1 => h1 F σ W1 _ g1 fun zs W2 es Γ2 st2 g2 r2 ⟨x, hg, ok, q⟩ =>
    ⟨x, _, W2, rfl, g2.callOk, hg W2 vs zs (r.stp st2) r2, ok, fun d v W' hd st' ok' r' => k v W' d Γ2 ((st.trans st2).trans (st'.sub fun _ z => .inl z)) (g2.call st' ok') r' (q d hd)⟩
theorem ev_callK {gV : List V → List V → List V} {x : s.ty} (h : EvA t Γ ds) (h' : EvA tk Γ es) (hg : ∀ (W : Wd) vs zs, RepL W ds vs → RepL W es zs → RepL W (s.args x) (gV vs zs)) (np : noPs (s.args x) = true) (ok : s.ok x) (hd : ∀ d', s.rel x d' → d' = d) :
    Ev (tCallK (toSp s) gV E t tk) Γ d := fun F σ W R g k => h F σ W _ g fun vs H st r => h' F σ (W.at H) _ (g.same st) fun zs H2 st2 r2 => by
  have g2 := (g.same st).same st2
  exact pure_call (W := W.at H2) g2 (fun _ z => z) (RepL.delP _ _ np (hg (W.at H2) vs zs (r.same (W := W.at H) st2) r2)) ok fun d' v H' hd' s' r' => by
    rw [hd d' hd'] at r'
    exact k v H' (Same.trans st (Same.trans st2 s')) (Rep.addP (W := W) r')
end
end Dw

/-! Rules over data: targets, iterators, for, comprehensions. -/
namespace Dw
open PySem PySem.Spec PyProof.Rows L2

/-! ### wiped slots -/
theorem wipe_get (σ : L2.St) (j : Nat) : ∀ vs : List Nat, (wipe σ vs)[j]? = if j ∈ vs then (if j < σ.length then some none else none) else σ[j]?
  | [] => by simp [wipe]
  | v :: vs => by
    unfold wipe
    by_cases hv : v = j
    · subst hv
      rw [if_pos List.mem_cons_self]
      by_cases hl : v < σ.length
      · rw [List.getElem?_set_self (by rw [wipe_length]; exact hl), if_pos hl]
      · rw [if_neg hl]
        exact List.getElem?_eq_none (by rw [List.length_set, wipe_length]; omega)
    · rw [List.getElem?_set_ne hv, wipe_get σ j vs]
      by_cases hm : j ∈ vs
      · rw [if_pos hm, if_pos (List.mem_cons_of_mem _ hm)]
      · rw [if_neg hm, if_neg (by simp only [List.mem_cons, not_or]; exact ⟨fun z => hv z.symm, hm⟩)]
theorem wipe_set {σ : L2.St} {i : Nat} {o : Option V} {vs : List Nat} (h : i ∈ vs) : wipe (σ.set i o) vs = wipe σ vs := by
  refine List.ext_getElem? fun j => ?_
  rw [wipe_get, wipe_get, List.length_set]
  by_cases hm : j ∈ vs
  · rw [if_pos hm, if_pos hm]
  · rw [if_neg hm, if_neg hm, List.getElem?_set_ne (fun z : i = j => hm (by rw [← z]; exact h))]
theorem wipe_wipe {σ : L2.St} {vs : List Nat} : wipe (wipe σ vs) vs = wipe σ vs := by
  refine List.ext_getElem? fun j => ?_
  rw [wipe_get (wipe σ vs), wipe_get σ, wipe_length]
  by_cases hm : j ∈ vs
  · rw [if_pos hm, if_pos hm]
  · rw [if_neg hm, if_neg hm]
def wipeG (Γ : Gam) : List Nat → Gam
  | [] => Γ
  | v :: vs => (wipeG Γ vs).set v .unset
theorem wipeG_length (Γ : Gam) : ∀ vs : List Nat, (wipeG Γ vs).length = Γ.length
  | [] => rfl
  | v :: vs => by unfold wipeG; rw [List.length_set, wipeG_length Γ vs]
theorem wipeG_get {Γ : Gam} {j : Nat} {s : Sl} : ∀ {vs : List Nat}, (wipeG Γ vs)[j]? = some s → s = .unset ∨ (Γ[j]? = some s ∧ j ∉ vs)
  | [], h => .inr ⟨h, by simp⟩
  | v :: vs, h => by
    unfold wipeG at h
    by_cases hv : v = j
    · subst hv
      have hl : v < (wipeG Γ vs).length := by
        have := (List.getElem?_eq_some_iff.mp h).1
        simpa using this
      rw [List.getElem?_set_self hl] at h
      cases h; exact .inl rfl
    · rw [List.getElem?_set_ne hv] at h
      rcases wipeG_get h with h | ⟨h1, h2⟩
      · exact .inl h
      · exact .inr ⟨h1, by simp only [List.mem_cons, not_or]; exact ⟨fun z => hv z.symm, h2⟩⟩
theorem SR.wipe {F : Addr → Prop} {Γ : Gam} {σ : L2.St} {W : Wd} (g : SR F Γ σ W) (vs : List Nat) : SR F (wipeG Γ vs) (wipe σ vs) W :=
  g.weak (by rw [wipeG_length, wipe_length, g.len]) fun i s e => by
    rcases wipeG_get e with h | ⟨h1, h2⟩
    · exact .inl h
    · exact .inr ⟨h1, by rw [wipe_get, if_neg h2]⟩
theorem SR.unwipe {F : Addr → Prop} {Γ : Gam} {σ : L2.St} {W : Wd} {vs : List Nat} (g : SR F Γ (L2.wipe σ vs) W) : SR F Γ σ W :=
  ⟨g.ok, by rw [g.len, wipe_length], fun i d e => let ⟨v, e1, r⟩ := g.val i d e; ⟨v, (wipe_some e1).1, r⟩,
   fun i ds e => let ⟨a, vs', e1, r⟩ := g.own i ds e; ⟨a, vs', (wipe_some e1).1, r⟩, fun i j a ds es e1 e2 e3 e4 => by
    obtain ⟨b, _, q1, _⟩ := g.own i ds e1
    obtain ⟨c, _, q2, _⟩ := g.own j es e2
    have z1 := (wipe_some q1).1
    have z2 := (wipe_some q2).1
    rw [e3] at z1; cases z1
    rw [e4] at z2; cases z2
    exact g.apart i j _ ds es e1 e2 q1 q2⟩

/-! ### targets -/
/-- storing x changes the slots is alone -/
def DG (g : TG) (is : List Nat) (x : D) (Γ Γ' : Gam) : Prop := ∀ (F : Addr → Prop) (σ : L2.St) (W : Wd) (v : V) (R : L2.St → Hp → Prop), SR F Γ σ W → Rep W x v →
  (∀ σ', SR F Γ' σ' W → (∀ vs : List Nat, (∀ i ∈ is, i ∈ vs) → wipe σ' vs = wipe σ vs) → R σ' W.H) → g v σ W.H R
theorem dg_name {i : Nat} {x : D} {Γ : Gam} : DG (gName i) [i] x Γ (Γ.set i (.val x)) := fun F σ W v R g r k => k _ (g.set r) fun vs h => wipe_set (h i List.mem_cons_self)
theorem dg_tup2 {K : PySem.W.Frag} {g1 g2 : TG} {is js : List Nat} {x y : D} {Γ Γ1 Γ2 : Gam} (h1 : DG g1 is x Γ Γ1) (h2 : DG g2 js y Γ1 Γ2) : DG (gTup K 2 (gCons g1 (gCons g2 gNil))) (is ++ js) (.tup [x, y]) Γ Γ2 := fun F σ W v R g r k => by
  obtain ⟨a, vs, e, ha, nu, v1, _, rfl, r1, v2, _, rfl, r2, rfl⟩ := r
  refine ⟨a, [v1, v2], e, ha.sq, rfl, v1, [v2], rfl, h1 F σ W v1 _ g r1 fun σ1 g1 w1 => ⟨v2, [], rfl, h2 F σ1 W v2 _ g1 r2 fun σ2 g2 w2 => ⟨rfl, k σ2 g2 fun vs h => ?_⟩⟩⟩
  rw [w2 vs fun i hi => h i (List.mem_append_right _ hi), w1 vs fun i hi => h i (List.mem_append_left _ hi)]
theorem dg_tup3 {K : PySem.W.Frag} {g1 g2 g3 : TG} {is js ks : List Nat} {x y z : D} {Γ Γ1 Γ2 Γ3 : Gam} (h1 : DG g1 is x Γ Γ1) (h2 : DG g2 js y Γ1 Γ2) (h3 : DG g3 ks z Γ2 Γ3) : DG (gTup K 3 (gCons g1 (gCons g2 (gCons g3 gNil)))) (is ++ (js ++ ks)) (.tup [x, y, z]) Γ Γ3 := fun F σ W v R g r k => by
  obtain ⟨a, vs, e, ha, nu, v1, _, rfl, r1, v2, _, rfl, r2, v3, _, rfl, r3, rfl⟩ := r
  refine ⟨a, [v1, v2, v3], e, ha.sq, rfl, v1, [v2, v3], rfl, h1 F σ W v1 _ g r1 fun σ1 g1 w1 => ⟨v2, [v3], rfl, h2 F σ1 W v2 _ g1 r2 fun σ2 g2 w2 => ⟨v3, [], rfl, h3 F σ2 W v3 _ g2 r3 fun σ3 g3 w3 => ⟨rfl, k σ3 g3 fun vs h => ?_⟩⟩⟩⟩
  rw [w3 vs fun i hi => h i (List.mem_append_right _ (List.mem_append_right _ hi)), w2 vs fun i hi => h i (List.mem_append_right _ (List.mem_append_left _ hi)), w1 vs fun i hi => h i (List.mem_append_left _ hi)]
theorem ds_asg_g {te : TE} {g : TG} {Γ : Gam} {De : DE} (h : Dl te Γ fun d Γ1 => ∃ is Γ2, DG g is d Γ1 Γ2 ∧ De.nx Γ2) : Ds (tAsg te g) Γ De := fun F σ W Dr s l => h F σ W _ s fun v W1 d Γ1 st g1 r ⟨is, Γ2, hg, q⟩ =>
  hg F σ W1 v _ g1 r fun σ' g' _ => l.nx σ' W1 Γ2 st g' q

/-! ### iterators -/
structure ItOk (F : Addr → Prop) (W : Wd) (J : It) (xs : List D) : Prop where
  go : ∀ (W1 : Wd) (i : Nat) (x : D), Stp F W W1 → WOk F W1 → xs[i]? = some x → J.go i W1.H ∧ ∀ v H', J.yld i W1.H v H' → Same W1.H H' ∧ Rep (W1.at H') x v
  stop : ∀ (W1 : Wd), Stp F W W1 → WOk F W1 → J.stop xs.length W1.H
structure ItS (W : Wd) (J : It) (xs : List D) : Prop where
  go : ∀ (W1 : Wd) (i : Nat) (x : D), (∀ a, W1.U a → W1.H a ≠ none) → Same W.H W1.H → (∀ a u, W.H a = some u → ¬ W.U a → ¬ W1.U a) → W1.P = W.P → xs[i]? = some x → J.go i W1.H ∧ ∀ v H', J.yld i W1.H v H' → Same W1.H H' ∧ Rep (W1.at H') x v
  stop : ∀ (H : Hp), Same W.H H → J.stop xs.length H
def Di (wi : TI) (Γ : Gam) (Q : List D → Gam → Prop) : Prop := ∀ (F : Addr → Prop) (σ : L2.St) (W : Wd) (R : It → Hp → Prop), SR F Γ σ W → (∀ J W' xs Γ', Stp F W W' → SR F Γ' σ W' → ItOk F W' J xs → Q xs Γ' → R J W'.H) → wi σ W.H R
def Ei (wi : TI) (Γ : Gam) (xs : List D) : Prop := ∀ (F : Addr → Prop) (σ : L2.St) (W : Wd) (R : It → Hp → Prop), SR F Γ σ W → (∀ J H, Same W.H H → ItS (W.at H) J xs → R J H) → wi σ W.H R
section
variable {K : PySem.W.Frag} {Γ : Gam} {t : TE} {ta : TA} {xs : List D} {Q : List D → Gam → Prop}
theorem di_list (h : Dl t Γ fun d Γ1 => ∃ xs, d = .lst xs ∧ Q xs Γ1) : Di (iList K t) Γ Q := fun F σ W R g k => h F σ W _ g fun v W1 d Γ1 st g1 r ⟨xs, e, q⟩ => by
  subst e
  obtain ⟨a, vs, rfl, ha, nu, l⟩ := r
  refine ⟨a, rfl, ⟨vs, .of ha⟩, k (Itl K a) W1 xs Γ1 st g1 ⟨fun W2 i x s2 ok2 hx => ?_, fun W2 s2 ok2 => ⟨vs, .of (s2.keep a _ ha nu).1, by rw [l.length]; exact Nat.le_refl _⟩⟩ q⟩
  obtain ⟨v, hv, rv⟩ := l.get hx
  exact ⟨⟨vs, v, .of (s2.keep a _ ha nu).1, hv⟩, fun u H' ⟨e, hy⟩ => by
    subst e
    have := hy vs (.of (s2.keep a _ ha nu).1)
    rw [hv] at this; cases this
    exact ⟨Same.refl _, rv.stp s2⟩⟩
theorem ei_list (h : EvB t Γ xs) : Ei (iList K t) Γ xs := fun F σ W R g k => h F σ W _ g fun a vs H st ha l => by
  refine ⟨a, rfl, ⟨vs, .of ha⟩, k (Itl K a) H st ⟨fun W2 i x dm s2 ku pu hx => ?_, fun H2 s2 => ⟨vs, .of (s2 a _ ha), by rw [l.length]; exact Nat.le_refl _⟩⟩⟩
  obtain ⟨v, hv, rv⟩ := l.get hx
  exact ⟨⟨vs, v, .of (s2 a _ ha), hv⟩, fun u H' ⟨e, hy⟩ => by
    subst e
    have := hy vs (.of (s2 a _ ha))
    rw [hv] at this; cases this
    exact ⟨Same.refl _, Rep.mono (W := W.at H) (W' := W2) (fun b u e n => ⟨s2 b u e, ku b u e n⟩) (fun b z => by rw [pu]; exact z) _ _ rv⟩⟩
theorem ei_tup (h : Ev t Γ (.tup xs)) : Ei (iTup K t) Γ xs := fun F σ W R g k => h F σ W _ g fun v H st ⟨a, vs, e, ha, nu, l⟩ => by
  subst e
  refine ⟨a, rfl, ⟨vs, ha.sq⟩, k (Itt K a) H st ⟨fun W2 i x dm s2 ku pu hx => ?_, fun H2 s2 => ⟨vs, (ha.same s2).sq, by rw [l.length]; exact Nat.le_refl _⟩⟩⟩
  obtain ⟨v, hv, rv⟩ := l.get hx
  exact ⟨⟨vs, v, (ha.same s2).sq, hv⟩, fun u H' ⟨e, hy⟩ => by
    subst e
    have := hy vs ((ha.same s2).sq)
    rw [hv] at this; cases this
    exact ⟨Same.refl _, Rep.mono (W := W.at H) (W' := W2) (fun b u e n => ⟨s2 b u e, ku b u e n⟩) (fun b z => by rw [pu]; exact z) _ _ rv⟩⟩
theorem di_tup (h : Dl t Γ fun d Γ1 => ∃ xs, d = .tup xs ∧ Q xs Γ1) : Di (iTup K t) Γ Q := fun F σ W R g k => h F σ W _ g fun v W1 d Γ1 st g1 r ⟨xs, e, q⟩ => by
  subst e
  obtain ⟨a, vs, rfl, ha, nu, l⟩ := r
  refine ⟨a, rfl, ⟨vs, ha.sq⟩, k (Itt K a) W1 xs Γ1 st g1 ⟨fun W2 i x s2 ok2 hx => ?_, fun W2 s2 ok2 => ⟨vs, (ha.keep nu (s2.keep a)).1.sq, by rw [l.length]; exact Nat.le_refl _⟩⟩ q⟩
  obtain ⟨v, hv, rv⟩ := l.get hx
  exact ⟨⟨vs, v, (ha.keep nu (s2.keep a)).1.sq, hv⟩, fun u H' ⟨e, hy⟩ => by
    subst e
    have := hy vs ((ha.keep nu (s2.keep a)).1.sq)
    rw [hv] at this; cases this
    exact ⟨Same.refl _, rv.stp s2⟩⟩
/-- 0, 1, .., n - 1 -/
def rng (n : Nat) : List D := (List.range n).map fun (i : Nat) => D.int i
theorem rng_get {n i : Nat} {x : D} (h : (rng n)[i]? = some x) : i < n ∧ x = .int i := by
  unfold rng at h
  rw [List.getElem?_map] at h
  by_cases hi : i < n
  · rw [List.getElem?_range hi] at h
    cases h; exact ⟨hi, rfl⟩
  · rw [List.getElem?_eq_none (by simpa using hi)] at h; cases h
theorem rng_length (n : Nat) : (rng n).length = n := by simp [rng]
theorem di_range {Q : List D → Gam → Prop} (h : DlA ta Γ fun ds Γ1 => ∃ n : Nat, ds = [.int n] ∧ n < 2 ^ 62 ∧ Q (rng n) Γ1) : Di (iRng1 ta) Γ Q := fun F σ W R g k => h F σ W _ g fun vs W1 ds Γ1 st g1 r ⟨n, e, hn, q⟩ => by
  subst e
  obtain ⟨v, _, rfl, rv, rfl⟩ := r
  refine ⟨n, by rw [show v = V.int n from rv], by omega, by omega, k (Itr 0 (n : Int).toNat) W1 (rng n) Γ1 st g1 ⟨fun W2 i x s2 ok2 hx => ?_, fun W2 s2 ok2 => ?_⟩ q⟩
  · obtain ⟨hi, rfl⟩ := rng_get hx
    refine ⟨by show i < (n : Int).toNat; omega, fun u H' ⟨e, hy⟩ => ?_⟩
    subst e hy
    exact ⟨Same.refl _, by show V.int (0 + (i : Int)) = V.int i; rw [Int.zero_add]⟩
  · show (n : Int).toNat ≤ _
    rw [rng_length]; omega
theorem ei_range {n : Nat} (h : EvA ta Γ [.int n]) (hn : n < 2 ^ 62) : Ei (iRng1 ta) Γ (rng n) := fun F σ W R g k => h F σ W _ g fun vs H st r => by
  obtain ⟨v, _, rfl, rv, rfl⟩ := r
  refine ⟨n, by rw [show v = V.int n from rv], by omega, by omega, k (Itr 0 (n : Int).toNat) H st ⟨fun W2 i x dm s2 ku pu hx => ?_, fun H2 s2 => ?_⟩⟩
  · obtain ⟨hi, rfl⟩ := rng_get hx
    refine ⟨by show i < (n : Int).toNat; omega, fun u H' ⟨e, hy⟩ => ?_⟩
    subst e hy
    exact ⟨Same.refl _, by show V.int (0 + (i : Int)) = V.int i; rw [Int.zero_add]⟩
  · show (n : Int).toNat ≤ _
    rw [rng_length]; omega
/-- the signs of a text -/
def signs (x : Str) : List D := x.cps.toList.map fun c => D.str ⟨#[c]⟩
end

/-! ### for -/
section
variable {Γ : Gam} {wi : TI} {g : TG} {tb : TS} {De : DE}
theorem ds_for (J : List D → Nat → Gam → Prop) (h : Di wi Γ fun xs Γ1 => J xs 0 Γ1 ∧ (∀ i x Γ', xs[i]? = some x → J xs i Γ' → ∃ is Γ2, DG g is x Γ' Γ2 ∧ Ds tb Γ2 ⟨J xs (i + 1), De.rt, De.nx, J xs (i + 1)⟩) ∧ ∀ Γ', J xs xs.length Γ' → De.nx Γ') : Ds (tFor wi g tb) Γ De :=
  fun F σ W Dr s l => h F σ W _ s fun I W1 xs Γ1 st g1 it ⟨h0, hs, hd⟩ => by
    refine ⟨fun i m σ' H' => m = xs.length - i ∧ i ≤ xs.length ∧ ∃ W' Γ', W'.H = H' ∧ Stp F W1 W' ∧ SR F Γ' σ' W' ∧ J xs i Γ', ⟨_, rfl, Nat.zero_le _, W1, Γ1, rfl, .refl _, g1, h0⟩, ?_⟩
    rintro i m σ' H' ⟨rfl, hi, W', Γ', rfl, s', g', j⟩
    by_cases hlt : i < xs.length
    · obtain ⟨x, hx⟩ : ∃ x, xs[i]? = some x := ⟨_, List.getElem?_eq_getElem hlt⟩
      obtain ⟨is, Γ2, hg, hb⟩ := hs i x Γ' hx j
      obtain ⟨go, yl⟩ := it.go W' i x s' g'.ok hx
      refine .inr ⟨go, fun σ2 H2 => ∃ W2 Γ2, W2.H = H2 ∧ Stp F W1 W2 ∧ SR F Γ2 σ2 W2 ∧ J xs (i + 1) Γ2, fun σ2 H2 q => ⟨xs.length - (i + 1), by omega, rfl, hlt, q⟩, fun v H2 y => ?_⟩
      obtain ⟨sm, rv⟩ := yl v H2 y
      have s2 := s'.trans (Stp.of_same g'.ok sm)
      refine hg F σ' (W'.at H2) v _ (g'.same sm) rv fun σ3 g3 _ => hb F σ3 (W'.at H2) _ g3 ⟨fun σ4 W4 Γ4 s4 g4 q => ⟨W4, Γ4, rfl, s2.trans s4, g4, q⟩, fun v W4 d s4 ok4 r4 q => l.rt v W4 d (st.trans (s2.trans s4)) ok4 r4 q, fun σ4 W4 Γ4 s4 g4 q => l.nx σ4 W4 Γ4 (st.trans (s2.trans s4)) g4 q, fun σ4 W4 Γ4 s4 g4 q => ⟨W4, Γ4, rfl, s2.trans s4, g4, q⟩⟩
    · have e : i = xs.length := by omega
      subst e
      exact .inl ⟨it.stop W' s' g'.ok, l.nx σ' W' Γ' (st.trans s') g' (hd Γ' j)⟩
end

/-! ### list comprehensions -/
section
variable {Γ : Gam} {wi : TI} {g : TG} {tt : TT} {te : TE} {vs : List Nat}
/-- pure: over xs.map c, kept where p, f of each -/
theorem evn_lc {α : Type} {xs : List α} {c : α → D} {p : α → Bool} {f : α → D} (h : Ei wi Γ (xs.map c)) (hz : xs.length ≤ 1000000)
    (he : ∀ x ∈ xs, ∃ is Γ2, DG g is (c x) (wipeG Γ vs) Γ2 ∧ (∀ i ∈ is, i ∈ vs) ∧ EvT tt Γ2 (p x) ∧ (p x = true → Ev te Γ2 (f x))) : EvN (tLc wi g tt te vs) Γ ((xs.filter p).map f) := fun F σ W R s k =>
  h F σ W _ s fun I H1 st it => fun Dn hD => by
    have wd : W.H Dn = none := st.free hD
    refine ⟨fun i m H' => m = xs.length - i ∧ i ≤ xs.length ∧ Same H1 H' ∧ ∃ us, H' Dn = some (.lst us) ∧ RepL (W.plus H' Dn) (((xs.take i).filter p).map f) us, ⟨_, rfl, Nat.zero_le _, same_upd hD, [], upd_same, rfl⟩, ?_⟩
    rintro i m H' ⟨rfl, hi, sm, us, hus, rus⟩
    by_cases hlt : i < xs.length
    · have hx : xs[i]? = some xs[i] := List.getElem?_eq_getElem hlt
      have hx' : (xs.map c)[i]? = some (c xs[i]) := by rw [List.getElem?_map, hx]; rfl
      obtain ⟨is, Γ2, hg, his, ht, hel⟩ := he xs[i] (List.getElem_mem hlt)
      obtain ⟨go, yl⟩ := it.go (W.plus H' Dn) i (c xs[i]) (fun b hb z => hb.elim (fun u => s.ok.dom b u ((Same.trans st sm).free z)) (fun e => by rw [e] at z; exact absurd (hus.symm.trans z) (fun q => nomatch q))) sm (fun b u e n z => z.elim n fun z => by rw [z] at e; exact absurd (e.symm.trans hD) (fun q => nomatch q)) rfl hx'
      refine .inr ⟨go, fun H2 => Same H1 H2 ∧ ∃ us, H2 Dn = some (.lst us) ∧ RepL (W.plus H2 Dn) (((xs.take (i + 1)).filter p).map f) us, fun H2 q => ⟨xs.length - (i + 1), by omega, rfl, hlt, q⟩, fun v H2 y => ?_⟩
      obtain ⟨sm2, rv⟩ := yl v H2 y
      have sW : Same W.H H2 := Same.trans st (Same.trans sm sm2)
      -- the world where the list in the making is one's own
      obtain ⟨_, gp, _, _, _⟩ := s.plus sW wd (by rw [sm2 _ _ hus]; exact fun z => nomatch z)
      have gp := gp.wipe vs
      refine hg F _ (W.plus H2 Dn) v _ gp rv fun σ2 g2 w2 => ⟨by rw [w2 vs his, wipe_wipe], ?_⟩
      refine ht F σ2 (W.plus H2 Dn) _ g2 fun H3 s3 => ?_
      have e1 : (xs.take (i + 1)).filter p = (xs.take i).filter p ++ (if p xs[i] = true then [xs[i]] else []) := by
        rw [List.take_add_one, hx, List.filter_append]
        congr 1
        cases hp : p xs[i] <;> simp [hp]
      have mv : ∀ {H3 H4 : Hp} {ds us}, Same H3 H4 → RepL (W.plus H3 Dn) ds us → RepL (W.plus H4 Dn) ds us := fun {H3 H4 ds us} s34 r => RepL.mono (W := W.plus H3 Dn) (W' := W.plus H4 Dn) (fun b u e n => ⟨s34 b u e, n⟩) (fun _ h => h) ds us r
      cases hp : p xs[i] with
      | false =>
        rw [if_neg Bool.false_ne_true]
        refine ⟨Same.trans (Same.trans sm sm2) s3, us, s3 _ _ (sm2 _ _ hus), ?_⟩
        rw [e1, hp, if_neg Bool.false_ne_true, List.append_nil]
        exact mv s3 (mv sm2 rus)
      | true =>
        rw [if_pos rfl]
        refine hel hp F σ2 ((W.plus H2 Dn).at H3) _ (g2.same s3) fun z H4 s4 rz => ?_
        have h4 : H4 Dn = some (.lst us) := s4 _ _ (s3 _ _ (sm2 _ _ hus))
        have un : ∀ {ds us}, RepL (W.plus H4 Dn) ds us → ∀ o, RepL (W.plus (upd H4 Dn o) Dn) ds us := fun {ds us} r o => RepL.mono (W := W.plus H4 Dn) (W' := W.plus (upd H4 Dn o) Dn) (fun b u e n => ⟨by
          show (upd H4 Dn o) b = some u
          rw [upd_ne (fun z : b = Dn => n (Or.inr z))]; exact e, n⟩) (fun _ h => h) ds us r
        refine ⟨us, h4, ?_, fun b u e => ?_, us ++ [z], upd_same, ?_⟩
        · rw [← rus.length, List.length_map]
          refine Nat.lt_of_le_of_lt (Nat.le_trans (List.length_filter_le _ _) (Nat.le_trans (List.length_take_le _ _) ?_)) (show 1000000 < sizeLine by decide)
          omega
        · have nb : b ≠ Dn := fun z => by rw [z, hD] at e; cases e
          rw [upd_ne nb]
          exact s4 _ _ (s3 _ _ (sm2 _ _ (sm _ _ e)))
        · rw [e1, hp, if_pos rfl, List.map_append]
          exact un ((mv s4 (mv s3 (mv sm2 rus))).append (RepL.one rz)) _
    · have e : i = xs.length := by omega
      subst e
      rw [List.take_length] at rus
      exact .inl ⟨by have := it.stop H' sm; rw [List.length_map] at this; exact this, k Dn us H' (Same.trans st sm) wd hus rus⟩
end
end Dw

/-! Rules over data: comprehensions that draw. -/
namespace Dw
open PySem PySem.Spec PyProof.Rows L2

abbrev Fp (F : Addr → Prop) (a : Addr) : Addr → Prop := fun b => F b ∨ b = a
theorem SR.frame {F : Addr → Prop} {Γ : Gam} {σ : L2.St} {W : Wd} {a : Addr} (g : SR F Γ σ W) (u : W.U a) (p : ¬ W.P a) (no : ¬ ownA Γ σ a) : SR (Fp F a) Γ σ W :=
  ⟨⟨g.ok.dom, fun b h => h.elim (g.ok.fu b) fun h => by rw [h]; exact u, fun b h => let ⟨u', f, pp⟩ := g.ok.pu b h; ⟨u', fun z => z.elim f fun z => p (by rw [← z]; exact h), pp⟩⟩, g.len, g.val,
   fun i ds e => let ⟨b, vs, e1, u', f, pp, q, r⟩ := g.own i ds e; ⟨b, vs, e1, u', fun z => z.elim f fun z => no ⟨i, ds, e, by rw [← z]; exact e1⟩, pp, q, r⟩, g.apart⟩
/-- a cell of the frame is changed -/
theorem SR.poke {F : Addr → Prop} {Γ : Gam} {σ : L2.St} {W : Wd} {a : Addr} {o : HO} (g : SR (Fp F a) Γ σ W) (nf : ¬ F a) :
    Stp F W (W.at (upd W.H a o)) ∧ SR (Fp F a) Γ σ (W.at (upd W.H a o)) := by
  have u : W.U a := g.ok.fu a (Or.inr rfl)
  have st : Stp F W (W.at (upd W.H a o)) := ⟨fun b x e n => ⟨by
    show (upd W.H a o) b = some x
    rw [upd_ne (fun z : b = a => n (by rw [z]; exact u))]; exact e, n⟩, rfl, fun b h => upd_ne (fun z : b = a => nf (by rw [← z]; exact h))⟩
  refine ⟨st, ⟨⟨fun b h z => ?_, g.ok.fu, fun b h => ?_⟩, g.len, fun i d e => ?_, fun i ds e => ?_, g.apart⟩⟩
  · have z : (upd W.H a o) b = none := z
    by_cases hb : b = a
    · rw [hb, upd_same] at z; cases z
    · rw [upd_ne hb] at z; exact g.ok.dom b h z
  · obtain ⟨u', f, x, y, h1, h2, h3, q⟩ := g.ok.pu b h
    exact ⟨u', f, x, y, h1, h2, h3, (upd_ne (fun z : b = a => f (Or.inr z))).trans q⟩
  · obtain ⟨v, e1, r⟩ := g.val i d e
    exact ⟨v, e1, r.stp st⟩
  · obtain ⟨b, vs, e1, u', f, pp, q, r⟩ := g.own i ds e
    exact ⟨b, vs, e1, u', f, pp, (upd_ne (fun z : b = a => f (Or.inr z))).trans q, r.stp st⟩
/-- .. and becomes a value -/
theorem SR.land {F : Addr → Prop} {Γ : Gam} {σ : L2.St} {W : Wd} {a : Addr} (g : SR (Fp F a) Γ σ W) (nf : ¬ F a) :
    Stp F W ⟨W.H, fun b => W.U b ∧ b ≠ a, W.P⟩ ∧ SR F Γ σ ⟨W.H, fun b => W.U b ∧ b ≠ a, W.P⟩ := by
  have st : Stp F W ⟨W.H, fun b => W.U b ∧ b ≠ a, W.P⟩ := ⟨fun b x e n => ⟨e, fun z => n z.1⟩, rfl, fun _ _ => rfl⟩
  refine ⟨st, ⟨⟨fun b h => g.ok.dom b h.1, fun b h => ⟨g.ok.fu b (Or.inl h), fun z => nf (by rw [← z]; exact h)⟩, fun b h => ?_⟩, g.len, fun i d e => ?_, fun i ds e => ?_, g.apart⟩⟩
  · obtain ⟨u', f, pp⟩ := g.ok.pu b h
    exact ⟨⟨u', fun z => f (Or.inr z)⟩, fun z => f (Or.inl z), pp⟩
  · obtain ⟨v, e1, r⟩ := g.val i d e
    exact ⟨v, e1, r.stp st⟩
  · obtain ⟨b, vs, e1, u', f, pp, q, r⟩ := g.own i ds e
    exact ⟨b, vs, e1, ⟨u', fun z => f (Or.inr z)⟩, fun z => f (Or.inl z), pp, q, r.stp st⟩
section
variable {Γ : Gam} {wi : TI} {g : TG} {tt : TT} {te : TE} {vs : List Nat} {Q : D → Gam → Prop}
theorem dl_lc (h : Di wi Γ fun xs Γ1 => xs.length ≤ 1000000 ∧ ∃ J : Nat → List D → Gam → Prop, J 0 [] (wipeG Γ1 vs) ∧
      (∀ i x acc Γ', xs[i]? = some x → J i acc Γ' → ∃ is Γ2, DG g is x Γ' Γ2 ∧ (∀ i ∈ is, i ∈ vs) ∧ DlT tt Γ2 fun b Γ3 => (b = true → Dl te Γ3 fun d Γ4 => J (i + 1) (acc ++ [d]) (wipeG Γ4 vs)) ∧ (b = false → J (i + 1) acc (wipeG Γ3 vs))) ∧
      ∀ acc Γ', J xs.length acc Γ' → Q (.lst acc) Γ') : Dl (tLc wi g tt te vs) Γ Q := fun F σ W R s k =>
  h F σ W _ s fun I W1 xs Γ1 st1 g1 it ⟨hz, J, h0, hs, hd⟩ => fun Dn hD => by
    obtain ⟨stp, gp, no, nf, np⟩ := g1.plus (H := upd W1.H Dn (.lst [])) (a := Dn) (same_upd hD) hD (by rw [upd_same]; exact fun z => nomatch z)
    have gf := (gp.frame (Or.inr rfl) np no).wipe vs
    refine ⟨fun i m H' => m = xs.length - i ∧ i ≤ xs.length ∧ ∃ W' Γ' acc us, W'.H = H' ∧ Stp F W1 W' ∧ SR (Fp F Dn) Γ' (wipe σ vs) W' ∧ H' Dn = some (.lst us) ∧ RepL W' acc us ∧ acc.length ≤ i ∧ J i acc Γ',
      ⟨_, rfl, Nat.zero_le _, W1.plus (upd W1.H Dn (.lst [])) Dn, _, [], [], rfl, stp, gf, upd_same, rfl, Nat.le_refl _, h0⟩, ?_⟩
    rintro i m H' ⟨rfl, hi, W', Γ', acc, us, rfl, s', g', hus, rus, hl, j⟩
    by_cases hlt : i < xs.length
    · have hx : xs[i]? = some xs[i] := List.getElem?_eq_getElem hlt
      obtain ⟨is, Γ2, hg, his, ht⟩ := hs i xs[i] acc Γ' hx j
      have ok1 : WOk F W' := ⟨g'.ok.dom, fun b z => g'.ok.fu b (Or.inl z), fun b z => let ⟨u, f, p⟩ := g'.ok.pu b z; ⟨u, fun q => f (Or.inl q), p⟩⟩
      obtain ⟨go, yl⟩ := it.go W' i xs[i] s' ok1 hx
      refine .inr ⟨go, fun H2 => ∃ W2 Γ2 acc us, W2.H = H2 ∧ Stp F W1 W2 ∧ SR (Fp F Dn) Γ2 (wipe σ vs) W2 ∧ H2 Dn = some (.lst us) ∧ RepL W2 acc us ∧ acc.length ≤ i + 1 ∧ J (i + 1) acc Γ2, fun H2 q => ⟨xs.length - (i + 1), by omega, rfl, hlt, q⟩, fun v H2 y => ?_⟩
      obtain ⟨sm, rv⟩ := yl v H2 y
      have g2 := g'.same sm
      have s2 : Stp F W1 (W'.at H2) := s'.trans (Stp.of_same ok1 sm)
      refine hg (Fp F Dn) _ (W'.at H2) v _ g2 rv fun σ2 g3 w2 => ?_
      have ew : wipe σ2 vs = wipe σ vs := by rw [w2 vs his, wipe_wipe]
      refine ⟨ew, ht (Fp F Dn) σ2 (W'.at H2) _ g3 fun b W3 Γ3 s3 g4 q => ?_⟩
      have h3 : W3.H Dn = some (.lst us) := (s3.fr Dn (Or.inr rfl)).trans (sm _ _ hus)
      have r3 : RepL W3 acc us := (RepL.same (W := W') sm rus).stp s3
      cases b with
      | false =>
        rw [if_neg Bool.false_ne_true]
        have g5 := g4.wipe vs
        rw [ew] at g5
        exact ⟨W3, _, acc, us, rfl, s2.trans (s3.sub fun _ z => Or.inl z), g5, h3, r3, by omega, q.2 rfl⟩
      | true =>
        rw [if_pos rfl]
        refine q.1 rfl (Fp F Dn) σ2 W3 _ g4 fun z W4 d Γ4 s4 g5 rz qj => ?_
        have h4 : W4.H Dn = some (.lst us) := (s4.fr Dn (Or.inr rfl)).trans h3
        have r4 : RepL W4 acc us := r3.stp s4
        have g6 := g5.wipe vs
        rw [ew] at g6
        obtain ⟨s5, g7⟩ := g6.poke (o := .lst (us ++ [z])) nf
        refine ⟨us, h4, ?_, W4.at (upd W4.H Dn (.lst (us ++ [z]))), _, acc ++ [d], us ++ [z], rfl, ((s2.trans (s3.sub fun _ z => Or.inl z)).trans (s4.sub fun _ z => Or.inl z)).trans s5, g7, upd_same, (r4.append (RepL.one rz)).stp s5, by rw [List.length_append, List.length_singleton]; omega, qj⟩
        rw [← r4.length]
        exact Nat.lt_of_le_of_lt (show acc.length ≤ 1000000 by omega) (by decide)
    · have e : i = xs.length := by omega
      subst e
      have ok1 : WOk F W' := ⟨g'.ok.dom, fun b z => g'.ok.fu b (Or.inl z), fun b z => let ⟨u, f, p⟩ := g'.ok.pu b z; ⟨u, fun q => f (Or.inl q), p⟩⟩
      obtain ⟨s8, g8⟩ := (SR.unwipe g').land nf
      refine .inl ⟨it.stop W' s' ok1, k (.ref Dn) ⟨W'.H, fun b => W'.U b ∧ b ≠ Dn, W'.P⟩ (.lst acc) Γ' (st1.trans (s'.trans s8)) g8 ⟨Dn, us, rfl, hus, fun z => z.2 rfl, rus.stp s8⟩ (hd acc Γ' j)⟩
end
end Dw

/-! Operators that serve several kinds at once, and what they give on data. -/
namespace Dw
open PySem PySem.Spec PyProof.Rows L2
section
variable {X : Cx} {a b c e : Expr} {ta tb te : TE} {pos : Pos} {i j : Int} {x y : Str} {ds es : List D} {K : PySem.W.Frag} {Γ : Gam} {d : D}
abbrev rOr (r r' : R2) : R2 := fun x y H Q => r x y H Q ∨ r' x y H Q
theorem dr2_l {r r' : R2} {x y d : D} (h : DR2 r x y d) : DR2 (rOr r r') x y d := fun W u v Q dom a b k => .inl (h W u v Q dom a b k)
theorem dr2_r {r r' : R2} {x y d : D} (h : DR2 r' x y d) : DR2 (rOr r r') x y d := fun W u v Q dom a b k => .inr (h W u v Q dom a b k)
/-! ### + and * -/
abbrev rPlus (K : PySem.W.Frag) : R2 := rOr (rI0 fun i j => .int (i + j)) (rOr rAddStr (rOr rCat (rCatT K)))
theorem opPlus : OpR X (binaryOp .Add) (rPlus X.K) := op_add.or (op_add_str.or (op_cat.or op_catT))
theorem plus_int : DR2 (rPlus K) (.int i) (.int j) (.int (i + j)) := dr2_l dr2_add
theorem plus_str (h : x.length + y.length ≤ sizeLine) : DR2 (rPlus K) (.str x) (.str y) (.str (x ++ y)) := dr2_r (dr2_l (dr2_add_str h))
theorem plus_lst (h : ds.length + es.length ≤ sizeLine) : DR2 (rPlus K) (.lst ds) (.lst es) (.lst (ds ++ es)) := dr2_r (dr2_r (dr2_l (dr2_cat h)))
theorem plus_tup (n : ds ≠ []) (h : ds.length + es.length ≤ sizeLine) : DR2 (rPlus K) (.tup ds) (.tup es) (.tup (ds ++ es)) := dr2_r (dr2_r (dr2_r (dr2_catT n h)))
/-- a list on the left that is read -/
theorem evn_plus (ha : EvB ta Γ ds) (hb : EvB tb Γ es) (h : ds.length + es.length ≤ sizeLine) : EvN (tOp (rPlus K) ta tb) Γ (ds ++ es) := fun F σ W Q g k => ha F σ W _ g fun p vs H s e l => hb F σ (W.at H) _ (g.same s) fun q ws H' s' e' l' =>
  .inr (.inr (.inl ⟨p, q, vs, ws, rfl, rfl, s' _ _ e, e', by rw [← l.length, ← l'.length]; exact h, fun n hn =>
    k n (vs ++ ws) _ (Same.trans s (Same.trans s' (same_upd hn))) (s.free (s'.free hn)) upd_same (RepL.plus (W := W.at H') hn (same_upd hn) ((RepL.same (W := W.at H) s' l).append l'))⟩))
abbrev rTimes : R2 := rOr (rI CMul fun i j => .int (i * j)) rRep
theorem opTimes : OpR X (binaryOp .Mult) rTimes := op_mul.or op_rep
theorem times_int (h : CMul i j) : DR2 rTimes (.int i) (.int j) (.int (i * j)) := dr2_l (dr2_mul h)
abbrev rIAdd : TIp := fun x y H Q => (rI0 fun i j => .int (i + j)) x y H Q ∨ rAddStr x y H Q
theorem ipX : PIp X .Add rIAdd := iop_add.or iop_add_str
/-! ### comparisons -/
abbrev rEqX (K : PySem.W.Frag) : R2 := rOr rEq (rEqD K)
abbrev rNeX (K : PySem.W.Frag) : R2 := rOr rNe (rNeD K)
theorem opEq (hu : X.A.units + 64 < cLine) : OpR X (compareOp .Eq) (rEqX X.K) := op_eq.or (op_eqD hu)
theorem opNe (hu : X.A.units + 64 < cLine) : OpR X (compareOp .NotEq) (rNeX X.K) := op_ne.or (op_neD hu)
theorem eq_int' : DR2 (rEqX K) (.int i) (.int j) (.bl (decide (i = j))) := dr2_l dr2_eq_int
theorem eq_str' : DR2 (rEqX K) (.str x) (.str y) (.bl (decide (x = y))) := dr2_l dr2_eq_str
theorem ne_int' : DR2 (rNeX K) (.int i) (.int j) (.bl (!decide (i = j))) := dr2_l dr2_ne_int
theorem ne_str' : DR2 (rNeX K) (.str x) (.str y) (.bl (!decide (x = y))) := dr2_l dr2_ne_str
theorem eq_deep {p q : D} (h1 : isPy p = true) (h2 : isPy q = true) (h3 : SeqAt.shaped (py p) = true) (h4 : SeqAt.shaped (py q) = true) : DR2 (rEqX K) p q (.bl (PyData.eqv (py p) (py q))) := dr2_r (dr2_eqD h1 h2 h3 h4)
theorem ne_deep {p q : D} (h1 : isPy p = true) (h2 : isPy q = true) (h3 : SeqAt.shaped (py p) = true) (h4 : SeqAt.shaped (py q) = true) : DR2 (rNeX K) p q (.bl (!PyData.eqv (py p) (py q))) := dr2_r (dr2_neD h1 h2 h3 h4)
abbrev rLtS : R2 := fun x y H Q => ∃ i j, x = .str i ∧ y = .str j ∧ Q (.bl (decide (i.cps.toList < j.cps.toList))) H
theorem opLt : OpR X (compareOp .Lt) (rOr (rI0 fun i j => .bl (decide (i < j))) rLtS) := op_lt.or op_lt_str
theorem lt_int' : DR2 (rOr (rI0 fun i j => .bl (decide (i < j))) rLtS) (.int i) (.int j) (.bl (decide (i < j))) := dr2_l dr2_lt
theorem lt_str' : DR2 (rOr (rI0 fun i j => .bl (decide (i < j))) rLtS) (.str x) (.str y) (.bl (decide (x.cps.toList < y.cps.toList))) := dr2_r (dr2_flat fun W u v Q a b k => ⟨x, y, a, b, k _ rfl⟩)
theorem opLe : OpR X (compareOp .LtE) (rI0 fun i j => .bl (decide (i ≤ j))) := op_le
theorem opGt : OpR X (compareOp .Gt) (rI0 fun i j => .bl (decide (j < i))) := op_gt
theorem opGe : OpR X (compareOp .GtE) (rI0 fun i j => .bl (decide (j ≤ i))) := op_ge
abbrev rInS : R2 := fun x y H Q => ∃ i j, x = .str i ∧ y = .str j ∧ Q (.bl (!(Builtin.Str.occurrences j i 0 j.length 1).isEmpty)) H
abbrev rNinS : R2 := fun x y H Q => ∃ i j, x = .str i ∧ y = .str j ∧ Q (.bl (!(!(Builtin.Str.occurrences j i 0 j.length 1).isEmpty))) H
theorem opIn : OpR X (compareOp .In) (rOr (rIn X.K false) rInS) := op_in_seq.or op_in_str
theorem opNotIn : OpR X (compareOp .NotIn) (rOr (rIn X.K true) rNinS) := op_notIn_seq.or op_notin_str
theorem in_str' : DR2 (rOr (rIn K false) rInS) (.str x) (.str y) (.bl (!(Builtin.Str.occurrences y x 0 y.length 1).isEmpty)) := dr2_r (dr2_flat fun W u v Q a b k => ⟨x, y, a, b, k _ rfl⟩)
/-- scalars -/
def isSc : D → Bool
  | .non => true | .bl _ => true | .int _ => true | .str _ => true | _ => false
def scV : D → V
  | .non => .non | .bl b => .bl b | .int i => .int i | .str x => .str x | _ => .non
theorem rep_sc {W : Wd} {d : D} {v : V} (h : isSc d = true) (r : Rep W d v) : v = scV d := by
  cases d <;> first | exact r | exact absurd (show false = true from h) Bool.false_ne_true
theorem repL_sc {W : Wd} : ∀ {ds : List D} {vs : List V}, ds.all isSc = true → RepL W ds vs → vs = ds.map scV
  | [], _, _, h => h
  | d :: ds, _, p, ⟨v, r, e, h1, h2⟩ => by
    have p' : isSc d = true ∧ ds.all isSc = true := by simpa using p
    rw [e, rep_sc p'.1 h1, repL_sc p'.2 h2]; rfl
theorem flat_sc {d : D} (h : isSc d = true) : flatV (scV d) = true := by
  cases d <;> first | rfl | exact absurd (show false = true from h) Bool.false_ne_true
theorem flats_sc : ∀ {ds : List D}, ds.all isSc = true → (ds.map scV).all flatV = true
  | [], _ => rfl
  | d :: ds, p => by
    have p' : isSc d = true ∧ ds.all isSc = true := by simpa using p
    rw [List.map_cons, List.all_cons, flat_sc p'.1, flats_sc p'.2]; rfl
theorem ev_in {neg : Bool} {r' : R2} (ha : Ev ta Γ d) (hb : EvB tb Γ ds) (s1 : isSc d = true) (s2 : ds.all isSc = true) : Ev (tOp (rOr (rIn K neg) r') ta tb) Γ (.bl (if neg then !inV (scV d) (ds.map scV) else inV (scV d) (ds.map scV))) := fun F σ W Q g k =>
  ha F σ W _ g fun v H s r => hb F σ (W.at H) _ (g.same s) fun p vs H' s' e l => .inl ⟨p, vs, rfl, .inl (.of e), by rw [rep_sc s1 r]; exact flat_sc s1, by rw [repL_sc s2 l]; exact flats_sc s2, by
    rw [rep_sc s1 r, repL_sc s2 l]
    exact k _ H' (Same.trans s s') rfl⟩
theorem ev_inT {neg : Bool} {r' : R2} (ha : Ev ta Γ d) (hb : Ev tb Γ (.tup ds)) (s1 : isSc d = true) (s2 : ds.all isSc = true) : Ev (tOp (rOr (rIn K neg) r') ta tb) Γ (.bl (if neg then !inV (scV d) (ds.map scV) else inV (scV d) (ds.map scV))) := fun F σ W Q g k =>
  ha F σ W _ g fun v H s r => hb F σ (W.at H) _ (g.same s) fun u H' s' ⟨p, vs, eu, e, nu, l⟩ => .inl ⟨p, vs, eu, .inr e.sq, by rw [rep_sc s1 r]; exact flat_sc s1, by rw [repL_sc s2 l]; exact flats_sc s2, by
    rw [rep_sc s1 r, repL_sc s2 l]
    exact k _ H' (Same.trans s s') rfl⟩
/-! ### len, items, slices -/
abbrev rLen (K : PySem.W.Frag) : List V → Hp → VK → Prop := fun xs H Q => (∃ p ys, xs = [.ref p] ∧ (SqL K H p ys ∨ SqT K H p ys) ∧ Q (.int ys.length) H) ∨ ∃ z, xs = [.str z] ∧ z.length ≤ sizeLine ∧ Q (.int z.length) H
theorem opLen : CallR X (.builtin "len") (rLen X.K) := call_len_seq.or call_len_str
theorem ev_len (h : EvB ta Γ ds) : Ev (tCB (rLen K) (tCons ta tNil)) Γ (.int ds.length) := fun F σ W Q g k => h F σ W _ g fun p vs H s e l => .inl ⟨p, vs, rfl, .inl (.of e), k _ H s (by rw [l.length]; rfl)⟩
theorem ev_lenT (h : Ev ta Γ (.tup ds)) : Ev (tCB (rLen K) (tCons ta tNil)) Γ (.int ds.length) := fun F σ W Q g k => h F σ W _ g fun u H s ⟨p, vs, eu, e, nu, l⟩ => .inl ⟨p, vs, by rw [eu], .inr e.sq, k _ H s (by rw [l.length]; rfl)⟩
theorem ev_lenS (h : Ev ta Γ (.str x)) (hz : x.length ≤ sizeLine) : Ev (tCB (rLen K) (tCons ta tNil)) Γ (.int x.length) := fun F σ W Q g k => h F σ W _ g fun u H s r => .inr ⟨x, by rw [show u = V.str x from r], hz, k _ H s rfl⟩
theorem atI_rep {W : Wd} {vs : List V} (l : RepL W ds vs) (h : atI ds i = some d) : ∃ v, atI vs i = some v ∧ Rep W d v := by
  unfold atI at h ⊢
  rw [← l.length]
  cases q : ixN ds.length i with
  | none => rw [q] at h; cases h
  | some k =>
    rw [q] at h
    obtain ⟨v, e, r⟩ := l.get (i := k) h
    exact ⟨v, e, r⟩
theorem ev_ix (ha : EvB ta Γ ds) (hb : Ev tb Γ (.int i)) (h : atI ds i = some d) : Ev (tOp (rIx K) ta tb) Γ d := fun F σ W Q g k => ha F σ W _ g fun p vs H s e l => hb F σ (W.at H) _ (g.same s) fun u H' s' r => by
  obtain ⟨v, ev, rv⟩ := atI_rep (RepL.same (W := W.at H) s' l) h
  exact .inl ⟨p, vs, i, v, rfl, r, .of (s' _ _ e), ev, k v H' (Same.trans s s') rv⟩
theorem ev_ixT (ha : Ev ta Γ (.tup ds)) (hb : Ev tb Γ (.int i)) (h : atI ds i = some d) : Ev (tOp (rIx K) ta tb) Γ d := fun F σ W Q g k => ha F σ W _ g fun u H s ⟨p, vs, eu, e, nu, l⟩ => hb F σ (W.at H) _ (g.same s) fun u H' s' r => by
  obtain ⟨v, ev, rv⟩ := atI_rep (RepL.same (W := W.at H) s' l) h
  exact .inr (.inl ⟨p, vs, i, v, eu, r, (e.same s').sq, ev, k v H' (Same.trans s s') rv⟩)
theorem dr2_ixS {z : Nat} (hl : x.length ≤ sizeLine) (h : atI x.cps.toList i = some z) : DR2 (rIx K) (.str x) (.int i) (.str ⟨#[z]⟩) := dr2_flat fun W u v Q a b k => .inr (.inr ⟨x, i, z, a, b, hl, h, k _ rfl⟩)
theorem dr2_ixL (h : atI ds i = some d) : DR2 (rIx K) (.lst ds) (.int i) d := dr2_flat fun W u v Q ⟨p, vs, eu, e, nu, l⟩ b k => by
  obtain ⟨w, ev, rw'⟩ := atI_rep l h
  exact .inl ⟨p, vs, i, w, eu, b, .of e, ev, k w rw'⟩
theorem dr2_ixT (h : atI ds i = some d) : DR2 (rIx K) (.tup ds) (.int i) d := dr2_flat fun W u v Q ⟨p, vs, eu, e, nu, l⟩ b k => by
  obtain ⟨w, ev, rw'⟩ := atI_rep l h
  exact .inr (.inl ⟨p, vs, i, w, eu, b, e.sq, ev, k w rw'⟩)
abbrev rSl (K : PySem.W.Frag) : V → Option Int → Option Int → Hp → VK → Prop := fun x lo hi H Q => rSlL K x lo hi H Q ∨ rSlT K x lo hi H Q
/-! ### iterators -/
theorem pi_or {tg iter : Expr} {w1 w2 : TI} (h1 : PI X tg iter w1) (h2 : PI X tg iter w2) : PI X tg iter (fun σ H R => w1 σ H R ∨ w2 σ H R) :=
  ⟨fun pins s σ H R I h => h.elim (h1.run pins s σ H R I) (h2.run pins s σ H R I)⟩
abbrev iAny (K : PySem.W.Frag) (t : TE) : TI := fun σ H R => iList K t σ H R ∨ (fun σ H R => iTup K t σ H R ∨ iStr t σ H R) σ H R
theorem pi_any {tg : Expr} (h : PE X e te) : PI X tg e (iAny X.K te) := pi_or (pi_list h) (pi_or (pi_tup h) (pi_str h))
theorem ei_l {w1 w2 : TI} {xs : List D} (h : Ei w1 Γ xs) : Ei (fun σ H R => w1 σ H R ∨ w2 σ H R) Γ xs := fun F σ W R g k => .inl (h F σ W R g k)
theorem ei_r {w1 w2 : TI} {xs : List D} (h : Ei w2 Γ xs) : Ei (fun σ H R => w1 σ H R ∨ w2 σ H R) Γ xs := fun F σ W R g k => .inr (h F σ W R g k)
theorem di_l {w1 w2 : TI} {Q : List D → Gam → Prop} (h : Di w1 Γ Q) : Di (fun σ H R => w1 σ H R ∨ w2 σ H R) Γ Q := fun F σ W R g k => .inl (h F σ W R g k)
theorem di_r {w1 w2 : TI} {Q : List D → Gam → Prop} (h : Di w2 Γ Q) : Di (fun σ H R => w1 σ H R ∨ w2 σ H R) Γ Q := fun F σ W R g k => .inr (h F σ W R g k)
theorem eia_list {xs : List D} (h : EvB te Γ xs) : Ei (iAny K te) Γ xs := ei_l (ei_list h)
theorem eia_tup {xs : List D} (h : Ev te Γ (.tup xs)) : Ei (iAny K te) Γ xs := ei_r (ei_l (ei_tup h))
theorem dia_list {Q : List D → Gam → Prop} (h : Dl te Γ fun d Γ1 => ∃ xs, d = .lst xs ∧ Q xs Γ1) : Di (iAny K te) Γ Q := di_l (di_list h)
theorem dia_tup {Q : List D → Gam → Prop} (h : Dl te Γ fun d Γ1 => ∃ xs, d = .tup xs ∧ Q xs Γ1) : Di (iAny K te) Γ Q := di_r (di_l (di_tup h))
theorem signs_get {x : Str} {i : Nat} {d : D} (h : (signs x)[i]? = some d) : i < x.cps.size ∧ ∃ c, x.cps[i]? = some c ∧ d = .str ⟨#[c]⟩ := by
  unfold signs at h
  rw [List.getElem?_map, Array.getElem?_toList] at h
  cases q : x.cps[i]? with
  | none => rw [q] at h; cases h
  | some c =>
    rw [q] at h
    have hl := (Array.getElem?_eq_some_iff.mp q).1
    exact ⟨hl, c, rfl, (Option.some.inj h).symm⟩
theorem signs_length (x : Str) : (signs x).length = x.cps.size := by simp [signs]
theorem ei_str (h : Ev te Γ (.str x)) : Ei (iStr te) Γ (signs x) := fun F σ W R g k => h F σ W _ g fun v H s r => ⟨x, r, k (Its x) H s ⟨fun W1 i d dm sm ku pu hx => by
  obtain ⟨hi, c, hc, rfl⟩ := signs_get hx
  refine ⟨hi, fun v H' ⟨e, c', hc', ev⟩ => ?_⟩
  rw [hc] at hc'; cases hc'
  subst e ev
  exact ⟨Same.refl _, rfl⟩, fun H2 s2 => by rw [signs_length]; exact Nat.le_refl _⟩⟩
theorem eia_str (h : Ev te Γ (.str x)) : Ei (iAny K te) Γ (signs x) := ei_r (ei_r (ei_str h))
theorem di_str {Q : List D → Gam → Prop} (h : Dl te Γ fun d Γ1 => ∃ x, d = .str x ∧ Q (signs x) Γ1) : Di (iStr te) Γ Q := fun F σ W R g k => h F σ W _ g fun v W1 d Γ1 st g1 r ⟨x, e, q⟩ => by
  subst e
  refine ⟨x, r, k (Its x) W1 (signs x) Γ1 st g1 ⟨fun W2 i d s2 ok2 hx => ?_, fun W2 s2 ok2 => by rw [signs_length]; exact Nat.le_refl _⟩ q⟩
  obtain ⟨hi, c, hc, rfl⟩ := signs_get hx
  refine ⟨hi, fun v H' ⟨e, c', hc', ev⟩ => ?_⟩
  rw [hc] at hc'; cases hc'
  subst e ev
  exact ⟨Same.refl _, rfl⟩
theorem dia_str {Q : List D → Gam → Prop} (h : Dl te Γ fun d Γ1 => ∃ x, d = .str x ∧ Q (signs x) Γ1) : Di (iAny K te) Γ Q := di_r (di_r (di_str h))
/-! ### builtins over lists -/
theorem ev_all {bs : List Bool} (h : EvB ta Γ (bs.map D.bl)) : Ev (tCB (rAll K) (tCons ta tNil)) Γ (.bl (bs.all id)) := fun F σ W Q g k => h F σ W _ g fun p vs H s e l => ⟨p, bs, rfl, .of (by rw [e, RepL.bls.mp l]), k _ H s rfl⟩
theorem dl_all {Q : D → Gam → Prop} (h : Dl ta Γ fun d Γ1 => ∃ bs : List Bool, d = .lst (bs.map D.bl) ∧ Q (.bl (bs.all id)) Γ1) : Dl (tCB (rAll K) (tCons ta tNil)) Γ Q := fun F σ W R g k => h F σ W _ g fun v W1 d Γ1 st g1 r ⟨bs, e, q⟩ => by
  subst e
  obtain ⟨p, vs, rfl, e, nu, l⟩ := r
  exact ⟨p, bs, rfl, .of (by rw [e, RepL.bls.mp l]), k _ W1 (.bl (bs.all id)) Γ1 st g1 rfl q⟩
theorem ev_any {bs : List Bool} (h : EvB ta Γ (bs.map D.bl)) : Ev (tCB (rAny K) (tCons ta tNil)) Γ (.bl (bs.any id)) := fun F σ W Q g k => h F σ W _ g fun p vs H s e l => ⟨p, bs, rfl, .of (by rw [e, RepL.bls.mp l]), k _ H s rfl⟩
/-- sep.join(xs) -/
abbrev rJoin (K : PySem.W.Frag) : V → List V → Hp → VK → Prop := fun x xs H Q => ∃ a p, ∃ ys : List Str, x = .str a ∧ xs = [.ref p] ∧ (SqL K H p (ys.map V.str) ∨ SqT K H p (ys.map V.str)) ∧
      (ys.map (·.length)).sum + ys.length * a.length ≤ 16777216 ∧ Q (.str (Txt.join a ys)) H
theorem ev_join {ys : List Str} (ha : Ev ta Γ (.str x)) (hb : EvB tb Γ (ys.map D.str)) (hz : (ys.map (·.length)).sum + ys.length * x.length ≤ 16777216) : Ev (tM1 (rJoin K) ta tb) Γ (.str (Txt.join x ys)) := fun F σ W Q g k =>
  ha F σ W _ g fun v H s r => ⟨⟨x, r⟩, hb F σ (W.at H) _ (g.same s) fun p vs H' s' e l => ⟨x, p, ys, r, rfl, .inl (.of (by rw [e, RepL.strs.mp l])), hz, k _ H' (Same.trans s s') rfl⟩⟩
theorem ev_joinT {ys : List Str} (ha : Ev ta Γ (.str x)) (hb : Ev tb Γ (.tup (ys.map D.str))) (hz : (ys.map (·.length)).sum + ys.length * x.length ≤ 16777216) : Ev (tM1 (rJoin K) ta tb) Γ (.str (Txt.join x ys)) := fun F σ W Q g k =>
  ha F σ W _ g fun v H s r => ⟨⟨x, r⟩, hb F σ (W.at H) _ (g.same s) fun u H' s' ⟨p, vs, eu, e, nu, l⟩ => ⟨x, p, ys, r, by rw [eu], .inr (RepL.strs.mp l ▸ e.sq), hz, k _ H' (Same.trans s s') rfl⟩⟩
theorem dl_join {Q : D → Gam → Prop} (ha : Ev ta Γ (.str x)) (hb : Dl tb Γ fun d Γ1 => ∃ ys : List Str, d = .lst (ys.map D.str) ∧ (ys.map (·.length)).sum + ys.length * x.length ≤ 16777216 ∧ Q (.str (Txt.join x ys)) Γ1) : Dl (tM1 (rJoin K) ta tb) Γ Q := fun F σ W R g k =>
  ha F σ W _ g fun v H s r => ⟨⟨x, r⟩, hb F σ (W.at H) _ (g.same s) fun u W2 d Γ1 st g1 rd ⟨ys, e, hz, q⟩ => by
    subst e
    obtain ⟨p, vs, rfl, e, nu, l⟩ := rd
    exact ⟨x, p, ys, r, rfl, .inl (.of (e.trans (by rw [RepL.strs.mp l]))), hz, k _ W2 (.str (Txt.join x ys)) Γ1 ((Stp.of_same g.ok s).trans st) g1 rfl q⟩⟩
/-- list(range(n)) -/
theorem evn_listRg {n : Nat} (h : Ev ta Γ (.int n)) (hn : n ≤ 16777216) : EvN (tLstRg (tRg1 ta)) Γ (rng n) := fun F σ W Q g k => h F σ W _ g fun v H s r => ⟨n, r, RgOk.of_le (by omega) (by omega) (by omega) (by omega), fun q hq => by
  have e : rgV 0 n = (rng n).map scV := by
    unfold rgV rng
    rw [List.map_map]
    refine List.map_congr_left fun i _ => ?_
    show V.int (0 + (i : Int)) = V.int i
    rw [Int.zero_add]
  have l : RepL (W.at H) (rng n) (rgV 0 n) := by
    have := (RepL.ints (W := W.at H) (ns := (List.range n).map fun (i : Nat) => (i : Int)) (vs := rgV 0 n)).mpr (by
      rw [e]; unfold rng; rw [List.map_map, List.map_map]; rfl)
    rw [List.map_map] at this
    exact this
  exact k q _ _ (Same.trans s (same_upd hq)) (s.free hq) upd_same (RepL.plus (W := W.at H) hq (same_upd hq) l)⟩
/-- list(xs), tuple(xs) -/
abbrev rListOf (K : PySem.W.Frag) : List V → Hp → VK → Prop := fun xs H Q => ∃ p ys, xs = [.ref p] ∧ (SqL K H p ys ∨ SqT K H p ys) ∧ ∀ l, H l = none → Q (.ref l) (upd H l (.lst ys))
theorem evn_list (h : EvB ta Γ ds) : EvN (tCB (rListOf K) (tCons ta tNil)) Γ ds := fun F σ W Q g k => h F σ W _ g fun p vs H s e l => ⟨p, vs, rfl, .inl (.of e), fun n hn => k n vs _ (Same.trans s (same_upd hn)) (s.free hn) upd_same (RepL.plus (W := W.at H) hn (same_upd hn) l)⟩
theorem evn_listT (h : Ev ta Γ (.tup ds)) : EvN (tCB (rListOf K) (tCons ta tNil)) Γ ds := fun F σ W Q g k => h F σ W _ g fun u H s ⟨p, vs, eu, e, nu, l⟩ => ⟨p, vs, by rw [eu], .inr e.sq, fun n hn => k n vs _ (Same.trans s (same_upd hn)) (s.free hn) upd_same (RepL.plus (W := W.at H) hn (same_upd hn) l)⟩
abbrev rTupleOf (K : PySem.W.Frag) : List V → Hp → VK → Prop := fun xs H Q => ∃ p ys, xs = [.ref p] ∧ ((SqL K H p ys ∧ ∀ l, H l = none → Q (.ref l) (upd H l (.tup ys))) ∨ (SqT K H p ys ∧ Q (.ref p) H))
theorem ev_tuple (h : EvB ta Γ ds) : Ev (tCB (rTupleOf K) (tCons ta tNil)) Γ (.tup ds) := fun F σ W Q g k => h F σ W _ g fun p vs H s e l => ⟨p, vs, rfl, .inl ⟨.of e, fun n hn => k _ _ (Same.trans s (same_upd hn)) (rep_new_tup (W := W.at H) (g.same s).ok.dom hn l)⟩⟩
/-- sorted(texts) -/
theorem dl_sortedS {Q : D → Gam → Prop} {r' : List V → Hp → VK → Prop} (h : Dl ta Γ fun d Γ1 => ∃ ys : List Str, d = .lst (ys.map D.str) ∧ ys.length < 64 ∧ ∀ zs : List Str, zs.Perm ys → sortedS zs = true → Q (.lst (zs.map D.str)) Γ1) :
    Dl (tCB (fun xs H Q => r' xs H Q ∨ rSortedS K xs H Q) (tCons ta tNil)) Γ Q := fun F σ W R g k => h F σ W _ g fun v W1 d Γ1 st g1 r ⟨ys, e, hz, q⟩ => by
  subst e
  obtain ⟨p, vs, rfl, e, nu, l⟩ := r
  refine .inr ⟨p, ys, rfl, .of (by rw [e, RepL.strs.mp l]), hz, fun zs n hp hs hn => ?_⟩
  exact k _ (W1.at _) (.lst (zs.map D.str)) Γ1 (st.trans (Stp.of_same g1.ok (same_upd hn))) (g1.same (same_upd hn)) (rep_new_lst g1.ok.dom hn (RepL.strs.mpr rfl)) (q zs hp hs)
theorem opSorted {X : Cx} : CallR X (.builtin "sorted") (fun xs H Q => rSorted X.K xs H Q ∨ rSortedS X.K xs H Q) := cr_sorted.or cr_sortedS
end
end Dw

/-! Rules of the machine that the hand layer lacks: f(k = v) by keywords alone, an attribute as a target within a tuple, count of flat things. -/
namespace Dw
open PySem PySem.Spec PyProof.Rows L2
section
variable {X : Cx} {CX : CXT} {k : Nat} {f C : Addr} {fd : FuncData} {ps ks : List Str} {sp : Sp} {E : XK} {x m : Str} {p pos apos kpos : Pos} {e o : Expr} {es : List Expr} {kws : List Keyword} {te ta : TE} {t tk : TA} {nm : Option Str}
variable {g : List Value → List Value → List Value} {gV : List V → List V → List V}
theorem pe_callK0 (F : FnOk X.prog X.w X.K X.mg X.base CX k f fd ps sp) (hr : Room k X.A) (hg : Gl X x) (hm : X.mg x = some (.ref f)) (hk : PySem.W.keepIn X.K (.ref f) = true) (hb : KBinds X.K fd ps ks g gV) (hx : Passes CX X E)
    (hkw : PK X kws tk) (hall : (backToKw pos (keywordEach kws X.env)).all (·.1.isSome) = true := by rfl) (hks : (backToKw pos (keywordEach kws X.env)).filterMap (·.1) = ks := by rfl)
    (hdb : (x == ("__debug__" : Str)) = false := by decide)
    (hpl : ((backTo pos (starEach [] X.env)).any (·.1) || (backToKw pos (keywordEach kws X.env)).any (·.1.isNone)) = false := by rfl) :
    PE X (.Call (.Name x p) [] kws pos) (tCallK sp gV E tNil tk) := by
  refine ⟨fun pins s σ H Q I h => ?_⟩
  refine wpAny_Call_Name_kw (ld_glob I hg hm ?_ hdb)
  refine PySem.W.callWith_KW0 (h₀ := X.base) I.ok.mod.kin hk hall ?_ hpl
  refine thn (hkw.run pos pins s σ H _ I h) fun ws s2 ⟨zs, H2, I2, rz, q2⟩ => ⟨I2.kIn, ?_⟩
  rw [hks]
  exact run_fnk F hr hb hx I2 .nil rz q2
end
section
variable {X : Cx} {o : Expr} {f : Str} {pos : Pos} {ta : TE}
/-- x.f as a target -/
def gFld (K : PySem.W.Frag) (ta : TE) (f : Str) : TG := fun y σ H Q => ta σ H fun x H2 => ∃ a C dx fs, x = .ref a ∧ H2 a = some (.ins C dx fs) ∧ Cls K C ∧ NoAttr K C f ∧ fs.length < 1000 ∧ Q σ (upd H2 a (.ins C dx (putF f y fs)))
theorem pg_fld (ha : PE X o ta)
    (hs : ∀ v, assign (.Attribute o f pos) X.env v = (do
      let ov ← holding [v] (eval o X.env)
      standAt pos
      holding [v, ov] (setAttr ov f v)
      release [v, ov] []) := by intro _; rfl) : PG X (.Attribute o f pos) (gFld X.K ta f) := by
  refine ⟨fun pins s σ H v u Q I r h => ?_⟩
  rw [hs]
  refine wpAny_bind (wpAny_holding (thn (ha.run pins s σ H _ I h) fun ov s1 ⟨x, H2, I2, rx, a, C, dx, fs, ex, ea, c, n, l, q2⟩ => ?_))
  subst ex
  obtain rfl : ov = Value.ref a := rx
  refine wpAny_bind (wpAny_standAt (wpAny_bind (wpAny_holding ?_)))
  exact setattr_ok I2 ea c n l r fun s3 I3 => wpAny_release ⟨σ, _, I3, q2⟩
end
/-- xs.count(y), all flat -/
def rCnt (K : PySem.W.Frag) : V → List V → Hp → VK → Prop := fun x xs H Q => ∃ (p : Addr) (ys : List V) (y : V), x = .ref p ∧ xs = [y] ∧ SqL K H p ys ∧ flatV y = true ∧ ys.all flatV = true ∧ Q (.int (ys.countP fun z => eqV z y : Nat)) H
theorem count_eqU {x : V} : ∀ {xs : List V} {us : List Value}, Vals xs us → xs.all flatV = true → us.countP (eqU x) = xs.countP fun y => eqV y x
  | _, _, .nil, _ => rfl
  | _, _, .cons r t, h => by
    rw [List.all_cons, Bool.and_eq_true] at h
    rw [List.countP_cons, List.countP_cons, eqU_of r h.1, count_eqU t h.2]
theorem mt_countX {X : Cx} : MtR X "list.count" (rCnt X.K) := by
  intro pins s σ H x xs v us Q I rx rxs h
  obtain ⟨p, ys, y, rfl, rfl, hs, fy, fys, q⟩ := h
  cases rx
  obtain ⟨u, rfl, ru⟩ := rxs.one
  obtain ⟨its, rv, ⟨⟨cls, dd, data, sl⟩, n, ho, hc, hdn, hd⟩, hlen⟩ := I.list hs
  simp only at hc hd
  subst hc hd
  refine call_meets PySem.F.slot_list_count ⟨_, ho, rfl⟩ PySem.F.entry_list_count (PySem.F.args_list_count_2 _ _)
    (SeqAt.list_countAt p its.toArray n dd sl u (eqU y)) ⟨ho, fun z hz => mem_eqAt ru fy rv fys z (by simpa using hz), ?_⟩
  have ec : its.toArray.toList.countP (eqU y) = ys.countP fun z => eqV z y := count_eqU rv fys
  refine ⟨.int (ys.countP fun z => eqV z y : Nat), H, I.tok _, ⟨s.toks, ?_⟩, q⟩
  show Value.int ((its.toArray.toList.countP (eqU y) : Nat) : Int) s.toks = _
  rw [ec]
end Dw

/-! The same rules with the written part K named (within a comprehension's block it is the def's). -/
namespace Dw
open PySem PySem.Spec PyProof.Rows L2
section
variable {X : Cx} {K : PySem.W.Frag} {e : Expr} {te ta tb : TE} {pos apos : Pos} {tg o i a : Expr} {t : TA}
theorem ixA (K : PySem.W.Frag) (hK : X.K = K := by rfl) : IxR X (rIx K) := hK ▸ ix_seq
theorem ixD (K : PySem.W.Frag) (w : World) (hK : X.K = K := by rfl) (hw : X.w = w := by rfl) : IxR X (rIxD K w) := by subst hK hw; exact ix_kdict
theorem plusA (K : PySem.W.Frag) (hK : X.K = K := by rfl) : OpR X (binaryOp .Add) (rPlus K) := hK ▸ opPlus
theorem eqA (K : PySem.W.Frag) (hu : X.A.units + 64 < cLine) (hK : X.K = K := by rfl) : OpR X (compareOp .Eq) (rEqX K) := hK ▸ opEq hu
theorem neA (K : PySem.W.Frag) (hu : X.A.units + 64 < cLine) (hK : X.K = K := by rfl) : OpR X (compareOp .NotEq) (rNeX K) := hK ▸ opNe hu
theorem inA (K : PySem.W.Frag) (hK : X.K = K := by rfl) : OpR X (compareOp .In) (rOr (rIn K false) rInS) := hK ▸ opIn
theorem ninA (K : PySem.W.Frag) (hK : X.K = K := by rfl) : OpR X (compareOp .NotIn) (rOr (rIn K true) rNinS) := hK ▸ opNotIn
theorem lenA (K : PySem.W.Frag) (hK : X.K = K := by rfl) : CallR X (.builtin "len") (rLen K) := hK ▸ opLen
theorem allA (K : PySem.W.Frag) (hc : X.calm = true := by rfl) (hK : X.K = K := by rfl) : CallR X (.builtin "all") (rAll K) := hK ▸ cr_all hc
theorem anyA (K : PySem.W.Frag) (hc : X.calm = true := by rfl) (hK : X.K = K := by rfl) : CallR X (.builtin "any") (rAny K) := hK ▸ cr_any hc
theorem sumA (K : PySem.W.Frag) (hc : X.calm = true := by rfl) (hK : X.K = K := by rfl) : CallR X (.builtin "sum") (rSum K) := hK ▸ cr_sum hc
abbrev rSortedX (K : PySem.W.Frag) : List V → Hp → VK → Prop := fun xs H Q => rSorted K xs H Q ∨ rSortedS K xs H Q
theorem sortedA (K : PySem.W.Frag) (hK : X.K = K := by rfl) : CallR X (.builtin "sorted") (rSortedX K) := hK ▸ opSorted
theorem isiA (K : PySem.W.Frag) (hK : X.K = K := by rfl) : CallR X (.builtin "isinstance") (rIsi K) := hK ▸ call_isi
theorem listA (K : PySem.W.Frag) (hK : X.K = K := by rfl) : CallR X (.type "list") (rListOf K) := hK ▸ call_list_of
theorem tupleA (K : PySem.W.Frag) (hK : X.K = K := by rfl) : CallR X (.type "tuple") (rTupleOf K) := hK ▸ call_tuple_of
theorem slA (K : PySem.W.Frag) (hK : X.K = K := by rfl) : SlR X (rSl K) := hK ▸ sl_list.or sl_tup
theorem countA (K : PySem.W.Frag) (hK : X.K = K := by rfl) : MtR X "list.count" (rCnt K) := hK ▸ mt_countX
theorem indexA (K : PySem.W.Frag) (hK : X.K = K := by rfl) : MtR X "list.index" (rIndex K) := hK ▸ mt_index
theorem piA (K : PySem.W.Frag) (h : PE X e te) (hK : X.K = K := by rfl) : PI X tg e (iAny K te) := hK ▸ pi_any h
theorem joinA (K : PySem.W.Frag) (ho : PE X o ta) (he : PE X e te) (hK : X.K = K := by rfl) (hs : starEach [e] X.env = [(false, eval e X.env)] := by rfl) (hbase : attributeBase o "join" X.env (eval o X.env) = eval o X.env := by rfl) (hline : (apos.endLine == pos.line) = true := by rfl) :
    PE X (.Call (.Attribute o "join" apos) [e] [] pos) (tM1 (rJoin K) ta te) := hK ▸ pe_join ho he hs hbase hline
theorem notA (K : PySem.W.Frag) (ha : PE X a ta) (hK : X.K = K := by rfl) : PE X (.UnaryOp .Not a pos) (tNotT K ta) := hK ▸ pe_notT ha
theorem fldA (K : PySem.W.Frag) {f : Str} (he : PE X e ta) (hK : X.K = K := by rfl) (hb : attributeBase e f X.env (eval e X.env) = eval e X.env := by rfl) : PE X (.Attribute e f pos) (tFld K ta f) := hK ▸ pe_fld he hb
theorem truA (K : PySem.W.Frag) (ha : PE X a ta) (hK : X.K = K := by rfl) (he : ∀ whole, isTrue a X.env whole = (do let v ← whole; standAt a.pos; holding [v] (truthy v)) := by intro _; rfl) : PT X a (tTru K ta) := by
  subst hK; exact pt_truth ha he
end
end Dw

/-! Lists of texts as data: their shape, their equality. -/
namespace Dw
open PySem PySem.Spec PyProof.Rows L2
def okS (x : Str) : Prop := PyData.strOk x = true
theorem canLay_strs : ∀ {xs : List Str}, (∀ x ∈ xs, okS x) → PyData.canLayAll0 (pys (xs.map D.str)) = true
  | [], _ => rfl
  | x :: xs, h => by
    show (PyData.strOk x && PyData.canLayAll0 (pys (xs.map D.str))) = true
    rw [show PyData.strOk x = true from h x List.mem_cons_self, canLay_strs fun y hy => h y (List.mem_cons_of_mem _ hy)]; rfl
theorem depth_strs : ∀ xs : List Str, PyData.depthAll (pys (xs.map D.str)) = 0
  | [] => rfl
  | x :: xs => by
    show max 0 (PyData.depthAll (pys (xs.map D.str))) = 0
    rw [depth_strs xs]; rfl
theorem isPys_strs : ∀ xs : List Str, isPys (xs.map D.str) = true
  | [] => rfl
  | x :: xs => by
    show (true && isPys (xs.map D.str)) = true
    rw [isPys_strs xs]; rfl
theorem shaped_lst {xs : List Str} (h : ∀ x ∈ xs, okS x) : SeqAt.shaped (py (.lst (xs.map D.str))) = true := by
  show (PyData.canLayAll0 (pys (xs.map D.str)) && decide (PyData.depthAll (pys (xs.map D.str)) + 1 ≤ 64)) = true
  rw [canLay_strs h, depth_strs]; rfl
theorem shaped_tup {xs : List Str} (h : ∀ x ∈ xs, okS x) : SeqAt.shaped (py (.tup (xs.map D.str))) = true := by
  show (PyData.canLayAll0 (pys (xs.map D.str)) && decide (PyData.depthAll (pys (xs.map D.str)) + 1 ≤ 64)) = true
  rw [canLay_strs h, depth_strs]; rfl
theorem eqv_strs : ∀ xs ys : List Str, PyData.eqvAll (pys (xs.map D.str)) (pys (ys.map D.str)) = decide (xs = ys)
  | [], [] => rfl
  | [], y :: ys => by
    show false = _
    simp
  | x :: xs, [] => by
    show false = _
    simp
  | x :: xs, y :: ys => by
    show ((x == y) && PyData.eqvAll (pys (xs.map D.str)) (pys (ys.map D.str))) = _
    rw [eqv_strs xs ys, Bool.eq_iff_iff]
    simp
section
variable {K : PySem.W.Frag} {xs ys : List Str} {ta tb : TE} {Γ : Gam}
theorem eq_strsL (h1 : ∀ x ∈ xs, okS x) (h2 : ∀ x ∈ ys, okS x) : DR2 (rEqX K) (.lst (xs.map D.str)) (.lst (ys.map D.str)) (.bl (decide (xs = ys))) := by
  have := eq_deep (K := K) (p := .lst (xs.map D.str)) (q := .lst (ys.map D.str)) (isPys_strs xs) (isPys_strs ys) (shaped_lst h1) (shaped_lst h2)
  rw [show PyData.eqv (py (.lst (xs.map D.str))) (py (.lst (ys.map D.str))) = PyData.eqvAll (pys (xs.map D.str)) (pys (ys.map D.str)) from rfl, eqv_strs] at this
  exact this
theorem ne_strsL (h1 : ∀ x ∈ xs, okS x) (h2 : ∀ x ∈ ys, okS x) : DR2 (rNeX K) (.lst (xs.map D.str)) (.lst (ys.map D.str)) (.bl (!decide (xs = ys))) := by
  have := ne_deep (K := K) (p := .lst (xs.map D.str)) (q := .lst (ys.map D.str)) (isPys_strs xs) (isPys_strs ys) (shaped_lst h1) (shaped_lst h2)
  rw [show PyData.eqv (py (.lst (xs.map D.str))) (py (.lst (ys.map D.str))) = PyData.eqvAll (pys (xs.map D.str)) (pys (ys.map D.str)) from rfl, eqv_strs] at this
  exact this
end
/-- a text of one sign -/
def ch (c : Nat) : Str := ⟨#[c]⟩
theorem ch_eq {a b : Nat} : ch a = ch b ↔ a = b := by
  constructor
  · intro h
    have : (#[a] : Array Nat) = #[b] := congrArg Str.cps h
    simpa using this
  · rintro rfl; rfl
theorem okS_ch {c : Nat} (h : c < 1114112) : okS (ch c) := by
  show (#[c] : Array Nat).all (fun x => decide (x < 0x110000)) = true
  simp [h]
/-- a text of its codes -/
def tx (l : List Nat) : Str := ⟨l.toArray⟩
theorem tx_len (l : List Nat) : (tx l).length = l.length := by show l.toArray.size = _; simp
theorem tx_cps (l : List Nat) : (tx l).cps.toList = l := by show l.toArray.toList = l; simp
theorem tx_eq {a b : List Nat} : tx a = tx b ↔ a = b := by
  constructor
  · intro h
    have := congrArg (fun x : Str => x.cps.toList) h
    simpa [tx_cps] using this
  · rintro rfl; rfl
theorem ch_tx (c : Nat) : ch c = tx [c] := rfl
theorem okS_tx {l : List Nat} (h : ∀ c ∈ l, c < 1114112) : okS (tx l) := by
  show l.toArray.all (fun x => decide (x < 0x110000)) = true
  simp
  exact h
theorem of_tx (x : Str) : x = tx x.cps.toList := by
  obtain ⟨⟨l⟩⟩ := x
  rfl
theorem tx_append (a b : List Nat) : tx a ++ tx b = tx (a ++ b) := by
  show (⟨a.toArray ++ b.toArray⟩ : Str) = ⟨(a ++ b).toArray⟩
  simp
theorem signs_tx (l : List Nat) : signs (tx l) = (l.map ch).map D.str := by
  unfold signs
  rw [tx_cps, List.map_map]
  rfl
end Dw

/-! More rules of the machine: () + t, a range that is kept, enumerate of a tuple, first, *rest = a list. -/
namespace Dw
open PySem PySem.Spec PyProof.Rows L2
section
variable {X : Cx}
/-! ### () + t -/
abbrev rCatE (K : PySem.W.Frag) : R2 := fun x y H Q => ∃ a b ys, x = .ref a ∧ y = .ref b ∧ SqT K H a [] ∧ SqT K H b ys ∧ Q (.ref b) H
theorem op_catE : OpR X (binaryOp .Add) (rCatE X.K) := by
  intro pins s σ H x y v u Q I rx ry ⟨a, b, ys, ex, ey, ha, hb, q⟩
  subst ex; subst ey
  cases rx; cases ry
  obtain ⟨i1, v1, t1, _⟩ := I.tuple ha
  obtain ⟨i2, v2, t2, _⟩ := I.tuple hb
  cases v1
  obtain ⟨o1, g1, c1, n1, d1⟩ := t1
  obtain ⟨o2, g2, c2, n2, d2⟩ := t2
  obtain ⟨oc1, od1, da1, sl1⟩ := o1
  obtain ⟨oc2, od2, da2, sl2⟩ := o2
  simp only at c1 d1 c2 d2
  subst c1; subst d1; subst c2; subst d2
  exact concat_meets ⟨_, g1, rfl⟩ ⟨_, g2, rfl⟩ noFill_tuple_add seq_tuple_add PySem.F.slot_tuple_add PySem.F.entry_tuple_add
    (PySem.F.args_tuple_add_2 _ _) (tuple_addW0 a b _ _ n1 n2 od1 od2 sl1 sl2 rfl) ⟨g1, g2, ⟨.ref b, H, I, rfl, q⟩⟩
abbrev rPlusE (K : PySem.W.Frag) : R2 := rOr (rPlus K) (rCatE K)
theorem plusE (K : PySem.W.Frag) (hK : X.K = K := by rfl) : OpR X (binaryOp .Add) (rPlusE K) := hK ▸ opPlus.or op_catE
variable {K : PySem.W.Frag} {ds es : List D} {i j : Int} {x y : Str} {ta tb : TE} {Γ : Gam}
theorem pl_int : DR2 (rPlusE K) (.int i) (.int j) (.int (i + j)) := dr2_l plus_int
theorem pl_str (h : x.length + y.length ≤ sizeLine) : DR2 (rPlusE K) (.str x) (.str y) (.str (x ++ y)) := dr2_l (plus_str h)
theorem pl_lst (h : ds.length + es.length ≤ sizeLine) : DR2 (rPlusE K) (.lst ds) (.lst es) (.lst (ds ++ es)) := dr2_l (plus_lst h)
theorem pl_tup (h : ds.length + es.length ≤ sizeLine) : DR2 (rPlusE K) (.tup ds) (.tup es) (.tup (ds ++ es)) := by
  by_cases n : ds = []
  · subst n
    exact dr2_r (dr2_flat fun W u v Q ⟨a, vs, e1, h1, n1, l1⟩ b k => by
      obtain ⟨c, ws, e2, h2, n2, l2⟩ := id b
      rw [show vs = [] from l1] at h1
      exact ⟨a, c, ws, e1, e2, h1.sq, h2.sq, by rw [← e2]; exact k v b⟩)
  · exact dr2_l (plus_tup n h)
theorem pl_evn (ha : EvB ta Γ ds) (hb : EvB tb Γ es) (h : ds.length + es.length ≤ sizeLine) : EvN (tOp (rPlusE K) ta tb) Γ (ds ++ es) := fun F σ W Q g k => ha F σ W _ g fun p vs H s e l => hb F σ (W.at H) _ (g.same s) fun q ws H' s' e' l' =>
  .inl (.inr (.inr (.inl ⟨p, q, vs, ws, rfl, rfl, s' _ _ e, e', by rw [← l.length, ← l'.length]; exact h, fun n hn =>
    k n (vs ++ ws) _ (Same.trans s (Same.trans s' (same_upd hn))) (s.free (s'.free hn)) upd_same (RepL.plus (W := W.at H') hn (same_upd hn) ((RepL.same (W := W.at H) s' l).append l'))⟩)))

/-! ### range(n), kept -/
def tRgO (ta : TA) : TE := fun σ H Q => ta σ H fun vs H1 => ∃ z : Int, vs = [.int z] ∧ ∀ p, H1 p = none → Q (.ref p) (upd H1 p (.rng 0 z))
theorem pe_range {a : Expr} {ta : TA} {p pos : Pos} (hg : Gl X "range") (hm : X.mg "range" = none) (ha : PA X [a] ta) (hs : starEach [a] X.env = [(false, eval a X.env)] := by rfl) : PE X (.Call (.Name "range" p) [a] [] pos) (tRgO ta) := by
  refine ⟨fun pins s σ H Q I h => ?_⟩
  refine Call_ (ld_blt I hg hm boot_range (callWith_type1 (thn (ha.run pos pins s σ H _ I h) fun us s1 ⟨vs, H1, I1, r1, q1⟩ => ?_) hs rfl))
  obtain ⟨z, ez, q⟩ := q1
  subst ez
  obtain ⟨u, eu, t, et⟩ := vals1 r1
  subst eu; subst et
  exact call_range_1 ⟨.ref s1.heap.objs.size, upd H1 s1.heap.objs.size (.rng 0 z), I1.laid (fun b o e => Heap.get?_push_of_some _ e) (Nat.le_refl _) ⟨_, _, _, Heap.get?_push_size _ rfl⟩, rfl, q _ (I1.hok.fresh (Nat.le_refl _))⟩
def iRgO (te : TE) : TI := fun σ H R => te σ H fun x H1 => ∃ p lo hi, x = .ref p ∧ H1 p = some (.rng lo hi) ∧ (-(2 ^ 62) ≤ lo ∧ lo < 2 ^ 62 ∧ -(2 ^ 62) ≤ hi ∧ hi < 2 ^ 62) ∧ R (Itr lo (hi - lo).toNat) H1
theorem pi_rgO {tg l : Expr} {te : TE} (hl : PE X l te) : PI X tg l (iRgO te) := by
  refine ⟨fun pins s σ H R I h => thn (hl.run pins s σ H _ I h) fun v s1 ⟨x, H1, I1, r1, q1⟩ => ?_⟩
  obtain ⟨p, lo, hi, ex, hp, ⟨b1, b2, b3, b4⟩, q⟩ := q1
  subst ex
  cases r1
  obtain ⟨t, u, w, hr⟩ := I1.hok p _ hp
  have hr' : IsRange s1.heap p lo hi 1 t u w := hr
  refine wpAny_pyIter_range hr' (small_one b1 b2 b3 b4) ?_
  refine ⟨s1.heap.objs.size, [s1.heap.objs.size], _, _, H1, rfl, I1.kept (t' := s1.toks) fun b o e => Heap.get?_push_of_some _ e, turn_range _ lo (hi - lo).toNat, ?_, fun b hb => ?_, q⟩
  · have e1 : lo + ((0 : Nat) : Int) * 1 = lo := by simp
    have e2 : (((hi - lo).toNat : Nat) : Int) - ((0 : Nat) : Int) = Builtin.Range.rangeSize lo hi 1 := by rw [rangeSize_one]; split <;> omega
    show IsRangeIter _ _ (lo + ((0 : Nat) : Int) * 1) (_ - _) 1
    rw [e1, e2]
    exact Heap.get?_push_size _ rfl
  · obtain rfl : b = s1.heap.objs.size := by simpa using hb
    exact I1.fpOk (Nat.le_refl _) (I1.hok.fresh (Nat.le_refl _))
theorem ev_range {t : TA} {n : Nat} (h : EvA t Γ [.int n]) : Ev (tRgO t) Γ (.rng 0 n) := fun F σ W Q g k => h F σ W _ g fun vs H s ⟨v, _, ev, rv, er⟩ => by
  subst ev; subst er
  exact ⟨n, by rw [show v = V.int n from rv], fun p hp => k _ _ (Same.trans s (same_upd hp)) ⟨p, rfl, upd_same, fun u => (g.same s).ok.dom p u hp⟩⟩
theorem ei_rgO {n : Nat} (h : Ev ta Γ (.rng 0 n)) (hn : n < 2 ^ 62) : Ei (iRgO ta) Γ (rng n) := fun F σ W R g k => h F σ W _ g fun v H s ⟨p, ev, hp, nu⟩ =>
  ⟨p, 0, n, ev, hp, by omega, k (Itr 0 ((n : Int) - 0).toNat) H s ⟨fun W2 i x dm s2 ku pu hx => by
    obtain ⟨hi, rfl⟩ := rng_get hx
    refine ⟨by show i < ((n : Int) - 0).toNat; omega, fun u H' ⟨e, hy⟩ => ?_⟩
    subst e hy
    exact ⟨Same.refl _, by show V.int (0 + (i : Int)) = V.int i; rw [Int.zero_add]⟩, fun H2 s2 => by
      show ((n : Int) - 0).toNat ≤ _
      rw [rng_length]; omega⟩⟩
abbrev iAnyR (K : PySem.W.Frag) (t : TE) : TI := fun σ H R => iAny K t σ H R ∨ iRgO t σ H R
theorem piR (K : PySem.W.Frag) {tg e : Expr} {te : TE} (h : PE X e te) (hK : X.K = K := by rfl) : PI X tg e (iAnyR K te) := hK ▸ pi_or (pi_any h) (pi_rgO h)
theorem ej_list {xs : List D} (h : EvB ta Γ xs) : Ei (iAnyR K ta) Γ xs := ei_l (eia_list h)
theorem ej_tup {xs : List D} (h : Ev ta Γ (.tup xs)) : Ei (iAnyR K ta) Γ xs := ei_l (eia_tup h)
theorem ej_str (h : Ev ta Γ (.str x)) : Ei (iAnyR K ta) Γ (signs x) := ei_l (eia_str h)
theorem ej_rng {n : Nat} (h : Ev ta Γ (.rng 0 n)) (hn : n < 2 ^ 62) : Ei (iAnyR K ta) Γ (rng n) := ei_r (ei_rgO h hn)
theorem dj_list {Q : List D → Gam → Prop} (h : Dl ta Γ fun d Γ1 => ∃ xs, d = .lst xs ∧ Q xs Γ1) : Di (iAnyR K ta) Γ Q := di_l (dia_list h)
theorem dj_tup {Q : List D → Gam → Prop} (h : Dl ta Γ fun d Γ1 => ∃ xs, d = .tup xs ∧ Q xs Γ1) : Di (iAnyR K ta) Γ Q := di_l (dia_tup h)
theorem dj_str {Q : List D → Gam → Prop} (h : Dl ta Γ fun d Γ1 => ∃ x, d = .str x ∧ Q (signs x) Γ1) : Di (iAnyR K ta) Γ Q := di_l (dia_str h)

/-! ### first, *rest = xs -/
theorem unpack_star1 {prog : Program} {w : World} {A : Around} {E : Value → Shared → Prop} {s : Shared} {l : Addr} {b : Value} {its : List Value} {Q : List Value → Shared → Prop} (hl : s.heap.IsList l (b :: its).toArray) (hh : A.handled = none)
    (hz : its.length ≤ 16000) (h : ∀ (h1 : Heap) (tk : Nat), (∀ c o, s.heap.get? c = some o → h1.get? c = some o) → Q [b, .ref h1.objs.size] { s with heap := h1.push { cls := .type "list", data := .seq its.toArray }, toks := tk }) :
    wpAny (model prog w) A (unpackItems (.ref l) 2 (some 1)) Q E s := by
  have lt : l < s.heap.objs.size := by obtain ⟨o, ho, _⟩ := hl; exact Heap.lt_size ho
  have ne : l ≠ s.heap.objs.size := Nat.ne_of_lt lt
  unfold unpackItems notIterableAtAll
  refine wpAny_bind (wpAny_bind (wpAny_specialOf hl.typeIs slot_list_iter.lookup (wpAny_pure ?_)))
  simp only [Bool.false_eq_true, if_false]
  refine wpAny_bind (wpAny_holding (wpAny_pyIter_list hl ?_))
  refine wpAny_bind (wpAny_holding (PySem.W.kun_draw ne 1 0 _ _ ⟨_, Heap.get?_push_size _ rfl, rfl, rfl⟩ (hl.push _) (by simp) fun ha hit hs => ?_))
  have hla : ha.IsList l (b :: its).toArray := (hl.push _).extBut hs.extBut ne
  rw [Nat.zero_add] at hit
  obtain ⟨oi, hoi, _⟩ := id hit
  obtain ⟨ol, hol, _⟩ := id hla
  rw [if_neg (show ¬ (((b :: its).toArray.toList.drop 0).take 1).length < 1 by simp)]
  refine wpAny_bind (wpAny_holding (PySem.W.kun_collect (s := { s with heap := ha }) (T := "list_iterator") (.inr (.inr (.inl rfl))) (Walks.list (A := A.in1) hh s.heap.objs.size l ne _) (fun j u st => st.1.typeIs) (k := 1) (by simp) ⟨hit, hla⟩
    (Heap.lt_size hoi) (Heap.lt_size hol) (fun hb tk kp => ?_) (by rw [sizeLine_eq]; simp; omega)))
  show wpAny _ _ (if its.length < 0 then _ else _) _ _ _
  rw [if_neg (Nat.not_lt_zero _)]
  show wpAny _ _ (newList (its.take (its.length - 0)) >>= fun d => pure ([b] ++ [d] ++ its.drop (its.length - 0))) _ _ _
  rw [Nat.sub_zero, List.take_length, List.drop_length]
  have k2 : ∀ c o, s.heap.get? c = some o → hb.get? c = some o := fun c o e => kp c o (Nat.ne_of_lt (Heap.lt_size e)) (hs.extBut c o (Nat.ne_of_lt (Heap.lt_size e)) (Heap.get?_push_of_some _ e))
  unfold newList
  refine wpAny_bind (wpAny_newObj_type (wpAny_pure ?_) (by show its.toArray.size ≤ sizeLine; rw [sizeLine_eq, List.size_toArray]; omega))
  exact h hb tk k2
def gStar1 (K : PySem.W.Frag) (g1 g2 : TG) : TG := fun v σ H Q => ∃ a z zs, v = .ref a ∧ SqL K H a (z :: zs) ∧ zs.length ≤ 16000 ∧ ∀ p, H p = none → g1 z σ (upd H p (.lst zs)) fun σ1 H1 => g2 (.ref p) σ1 H1 Q
theorem pg_star1 (hc : X.calm = true) {e1 e2 : Expr} {g1 g2 : TG} {k : Nat} {pos sp : Pos} (h1 : PG X e1 g1) (h2 : PG X e2 g2) (hlen : (assignEach [e1, .Starred e2 sp] X.env).length = 2 := by rfl)
    (hst : (assignEach [e1, .Starred e2 sp] X.env).findIdx? (·.1) = some 1 := by rfl) (hm : (assignEach [e1, .Starred e2 sp] X.env).map (·.2) = [assign e1 X.env, assign e2 X.env] := by rfl) :
    PG X (.Tuple [e1, .Starred e2 sp] k pos) (gStar1 X.K g1 g2) := by
  refine ⟨fun pins s σ H v u Q I r hw => ?_⟩
  obtain ⟨a, z, zs, ev, hq, hl, hw⟩ := hw
  subst ev
  cases r
  obtain ⟨its, rv, pl, hz⟩ := I.list hq
  cases rv with
  | cons rz rr =>
    rename_i b l
    rw [assign_Tuple]
    refine wpAny_bind (wpAny_standAt ?_)
    unfold unpack
    rw [hlen, hst, hm]
    refine wpAny_bind (wpAny_holding (unpack_star1 pl.isList (I.ok.hd hc) (by rw [← rr.length]; exact hl) fun ha tk kp => ?_))
    have I1 : Inv X pins σ H { s with heap := ha, toks := tk } := I.kept kp
    have I2 := I1.laid (t' := tk) (o := .lst zs) (h' := ha.push { cls := .type "list", data := .seq l.toArray }) (fun c o e => Heap.get?_push_of_some _ e) (Nat.le_refl _)
      ⟨by have hz' : zs.length + 1 ≤ sizeLine := hz
          omega, l, 0, rr, Heap.get?_push_size _ rfl⟩
    refine assignInOrder_cons (thn (h1.run pins _ σ _ z b _ I2 rz (hw _ (I1.hok.fresh (Nat.le_refl _)))) fun _ s3 ⟨σ3, H3, I3, q3⟩ => ?_)
    exact assignInOrder_cons (thn (h2.run pins s3 σ3 H3 (.ref ha.objs.size) _ Q I3 rfl q3) fun _ s4 ⟨σ4, H4, I4, q4⟩ => assignInOrder_nil ⟨σ4, H4, I4, q4⟩)
theorem ds_asg_star {te : TE} {De : DE} {a b : Nat} (h : Dl te Γ fun d Γ1 => ∃ d0 ds, d = .lst (d0 :: ds) ∧ ds.length ≤ 16000 ∧ De.nx ((Γ1.set a (.val d0)).set b (.val (.lst ds)))) : Ds (tAsg te (gStar1 K (gName a) (gName b))) Γ De := fun F σ W Dr s l => h F σ W _ s fun v W1 d Γ1 st g1 r ⟨d0, ds, e, hz, q⟩ => by
  subst e
  obtain ⟨p, vs, rfl, hp, nu, z, zs, rfl, r0, r1⟩ := r
  refine ⟨p, z, zs, rfl, .of hp, by rw [← r1.length]; exact hz, fun n hn => ?_⟩
  have sm : Same W1.H (upd W1.H n (.lst zs)) := same_upd hn
  exact l.nx _ (W1.at _) _ (st.trans (Stp.of_same g1.ok sm)) (((g1.same sm).set (r0.same sm)).set (rep_new_lst g1.ok.dom hn r1)) q
end
end Dw

/-! enumerate of a tuple. -/
namespace Dw
open PySem PySem.Spec PyProof.Rows L2
theorem meets_enum_tup (l : Addr) (items : Array Value) (n : Nat) (dd : Option Addr) (sl : Array (Option Value)) :
    Meets (Builtin.«enumerate.__new__» ⟨[.type "enumerate", .ref l], []⟩) (fun _ R s => s.heap.get? l = some { cls := .type "tuple", dict := dd, data := .seq items n, slots := sl } ∧
      R (.ok (.ret (.ref (s.heap.push { cls := .type "tuple_iterator", data := .fields #[.ref l, .int 0 0] }).objs.size)))
        { s with heap := (s.heap.push { cls := .type "tuple_iterator", data := .fields #[.ref l, .int 0 0] }).push { cls := .type "enumerate", data := .fields #[.none, .bool false, .ref s.heap.objs.size, rawInt 0, .none, .none] } }) :=
  .of_wp fun prog w A R s h => by
    obtain ⟨hp, g, d, tk, os⟩ := s
    obtain ⟨hl, h⟩ := h
    have hL : hp.IsTuple l items := ⟨_, hl, rfl, n, rfl⟩
    have hsub := sub_enumerate
    wp_walk using wpAny_loadPart' hl
    refine wpAny_stack_any fun st => wpAny_pure ?_
    split
    · rename_i c _ _ _ _ _
      cases (c == Value.type "enumerate") <;> (wp_walk using wpAny_loadPart' hl, wpAny_pyIter_tuple hL; exact ⟨_, rfl, h⟩)
    · wp_walk using wpAny_loadPart' hl, wpAny_pyIter_tuple hL
      exact ⟨_, rfl, h⟩
end Dw

/-! for i, x in enumerate(a tuple). -/
namespace Dw
open PySem PySem.Spec PyProof.Rows L2
theorem call_enum_tup {prog : Program} {w : World} {A : Around} {E : Value → Shared → Prop} {s : Shared} {l : Addr} {items : Array Value} {Q : Value → Shared → Prop} (hL : IsTup s.heap l items)
    (h : ∀ h' : Heap, IsEnum h' (s.heap.objs.size + 1) s.heap.objs.size 0 .none → h'.IsTupleIter s.heap.objs.size l 0 →
      (∀ b o, s.heap.get? b = some o → h'.get? b = some o) → Q (.ref (s.heap.objs.size + 1)) { s with heap := h' }) :
    wpAny (model prog w) A (call (.type "enumerate") [.ref l]) Q E s := by
  obtain ⟨⟨c, dct, dt, sl⟩, hl, hc, n, hd⟩ := hL
  simp only at hc hd
  subst hc; subst hd
  have z1 : (s.heap.push { cls := .type "tuple_iterator", data := .fields #[.ref l, .int 0 0] }).objs.size = s.heap.objs.size + 1 := Heap.size_push ..
  refine callType_new F.called_enumerate (by decide) (F.typeCall_enumerate_1 _) (F.newCall_enumerate_1 _)
    (fun obj => F.args_object_init_2 obj _) F.entry_enumerate_new (meets_enum_tup l items n dct sl) ⟨hl, ?_⟩
  show _ ∧ _
  rw [z1]
  have g0 : ∀ b o, s.heap.get? b = some o → ((s.heap.push { cls := .type "tuple_iterator", data := .fields #[.ref l, .int 0 0] }).push { cls := .type "enumerate", data := .fields #[.none, .bool false, .ref s.heap.objs.size, rawInt 0, .none, .none] }).get? b = some o :=
    fun b o e => Heap.get?_push_of_some _ (Heap.get?_push_of_some _ e)
  have g1 := Heap.get?_push_size (s.heap.push { cls := .type "tuple_iterator", data := .fields #[.ref l, .int 0 0] })
    (o := { cls := .type "enumerate", data := .fields #[.none, .bool false, .ref s.heap.objs.size, rawInt 0, .none, .none] }) rfl
  rw [z1] at g1
  refine ⟨⟨_, g1, rfl⟩, h _ g1 ⟨_, Heap.get?_push_of_some _ (Heap.get?_push_size _ rfl), rfl, rfl⟩ g0⟩
/-- the tuple at a, each item in a new pair -/
def IteT (K : PySem.W.Frag) (a : Addr) : It :=
  ⟨fun i H => ∃ xs x, SqT K H a xs ∧ xs[i]? = some x, fun i H v H' => ∃ T x, v = .ref T ∧ H T = none ∧ H' = upd H T (.tup [.int (i : Nat), x]) ∧ ∀ xs, SqT K H a xs → xs[i]? = some x, fun i H => ∃ xs : List V, SqT K H a xs ∧ xs.length = i⟩
/-- several records of ours have turned -/
theorem inv_turned {X : Cx} {pins : List (Addr × Obj)} {σ : L2.St} {H : Hp} {s : Shared} {h' : Heap} {t' : Nat} {ch : List Addr} (I : Inv X pins σ H s) (k : ∀ b o, b ∉ ch → s.heap.get? b = some o → h'.get? b = some o) (hf : ∀ b ∈ ch, FpOk X pins H b) :
    Inv X pins σ H { s with heap := h', toks := t' } := by
  have nit : ∀ b u, H b = some u → b ∉ ch := fun b u e z => by
    have q := (hf b z).1
    rw [q] at e; cases e
  refine I.step (g' := s.gens) (d' := s.drawn) (ch := ch) (fun b hb => ?_) (fun b o _ _ hc e _ => k b o hc e) (fun b o _ _ hc e _ => ⟨o.slots, k b o hc e⟩) (fun _ _ _ _ n => n) (fun b o hc e => ⟨o, k b o hc e⟩) (fun _ _ e => e) (fun _ _ _ e => e)
    (fun b ps e => ⟨#[], by rw [e]; simp⟩) (fun m hm => ?_) (fun b u e => ?_) I.bare
  · obtain ⟨f0, f1, f2, f3, f4, f5⟩ := hf b hb
    exact ⟨f3, f1, f4, f5⟩
  · obtain ⟨o, es, ep, ho, r⟩ := hm
    exact ⟨o, es, ep, k _ o (fun z => (hf _ z).2.1 rfl) ho, r⟩
  · refine (I.hok b u e).stay (fun c v hc q => k c v ?_ q) (fun _ q => q) fun _ _ q => q
    rcases hc with z | z
    · rw [z]; exact nit b u e
    · exact nit c _ z
theorem turn_enumT {P : Program} {w : World} {K : PySem.W.Frag} {elts : List Expr} {kk : Nat} {tpos : Pos} (a e it : Addr) (nai : a ≠ it) (nae : a ≠ e) (nei : e ≠ it) :
    Turn P w K (.Tuple elts kk tpos) (IteT K a) [e, it] e (fun i h => (∃ old, IsEnum h e it ((0 : Int) + (i : Int)) old) ∧ h.IsTupleIter it a i) where
  mem := by simp
  obj := fun i h ⟨⟨old, he⟩, ⟨o, ho, hc, hd⟩⟩ b hb => by
    rcases (show b = e ∨ b = it by simpa using hb) with z | z
    · subst z; exact ⟨_, he, fun v q => nomatch q⟩
    · subst z; exact ⟨o, ho, fun v q => by rw [hd] at q; cases q⟩
  keep := fun i h h' ⟨⟨old, he⟩, hi⟩ k => ⟨⟨old, k e (by simp) _ he⟩, hi.at fun o q => k it (by simp) o q⟩
  item := by
    intro X hP hw hK hc i pins s σ H E I hf st hg
    subst hP; subst hw; subst hK
    obtain ⟨xs, x, hq, hx⟩ := hg
    obtain ⟨its, rv, p, hz⟩ := I.tuple hq
    obtain ⟨u, hu, ru⟩ := rv.get hx
    have G := GoesN.enumFrom (prog := X.prog) (w := X.w) (A := X.A) (elts := elts) (x1 := kk) (pos := tpos) 0 (Draws.tuple (A := X.A.in1) (I.ok.hd hc) it a nai its.toArray) e nei (by simp [nei, Ne.symm nae]) (by simp)
    have hi : i < its.toArray.size := by
      have := (List.getElem?_eq_some_iff.mp hu).1
      simpa using this
    refine thn (G.goes i s (fun v s2 => ∃ T t y, v = Value.ref T ∧ s.heap.objs.size ≤ T ∧ its.toArray[i]? = some y ∧ s2.heap.IsTuple T #[.int ((0 : Int) + (i : Int)) t, y] ∧
        (∃ old, IsEnum s2.heap e it ((0 : Int) + ((i + 1 : Nat) : Int)) old) ∧ s2.heap.IsTupleIter it a (i + 1) ∧ (∀ b o, b ∉ [e, it] → s.heap.get? b = some o → s2.heap.get? b = some o) ∧ ∃ h' tk, s2 = { s with heap := h', toks := tk }) E hi ⟨st.1, st.2, p⟩
      fun v h' tk ⟨T, t, y, ev, hT, hy, htu⟩ ⟨ho, hit, _⟩ kp _ => ⟨T, t, y, ev, hT, hy, htu, ho, hit, kp, h', tk, rfl⟩) fun r s1 ⟨v, er, hv⟩ => ⟨v, er, thn hv fun _ s2 ⟨T, t, y, ev, hT, hy, htu, ho, hit, kp, h', tk, es⟩ => ?_⟩
    subst es; subst ev
    have ey : y = u := by
      rw [List.getElem?_toArray, hu] at hy
      exact (Option.some.inj hy).symm
    subst ey
    have new : ObjOk X.prog X.w (upd H T (.tup [.int (i : Nat), x])) h' T (.tup [.int (i : Nat), x]) :=
      ⟨by show 2 ≤ sizeLine; decide, [.int ((0 : Int) + (i : Int)) t, y], .cons ⟨t, by rw [Int.zero_add]⟩ (.cons ru .nil), htu⟩
    have I1 : Inv X pins σ (upd H T (.tup [.int (i : Nat), x])) { s with heap := h', toks := tk } := I.turnedNew (ch := [e, it]) kp hf hT new
    refine ⟨.ref T, _, I1, rfl, ⟨T, x, rfl, I.hok.fresh hT, rfl, fun ys hy => by rw [I.tuple_inj hy hq]; exact hx⟩, ⟨ho, hit⟩, fun b hb => ?_⟩
    have lt : b ≠ T := by
      rcases (show b = e ∨ b = it by simpa using hb) with z | z
      · obtain ⟨old, he⟩ := st.1
        rw [z]; exact Nat.ne_of_lt (Nat.lt_of_lt_of_le (Heap.lt_size he) hT)
      · obtain ⟨o, q, _⟩ := st.2
        rw [z]; exact Nat.ne_of_lt (Nat.lt_of_lt_of_le (Heap.lt_size q) hT)
    rw [upd_ne lt]
    exact (hf b hb).1
  done := by
    intro X hP hw hK hc i pins s σ H E I hf st hg
    subst hP; subst hw; subst hK
    obtain ⟨xs, hq, hx⟩ := hg
    obtain ⟨its, rv, p, hz⟩ := I.tuple hq
    have hl := rv.length
    have G := GoesN.enumFrom (prog := X.prog) (w := X.w) (A := X.A) (elts := elts) (x1 := kk) (pos := tpos) 0 (Draws.tuple (A := X.A.in1) (I.ok.hd hc) it a nai its.toArray) e nei (by simp [nei, Ne.symm nae]) (by simp)
    have en : its.toArray.size = i := by rw [List.size_toArray]; omega
    rw [en] at G
    exact G.stops s _ E ⟨st.1, st.2, p⟩ fun h' tk kp _ => inv_turned I kp hf
  self := fun A i s Q E ⟨⟨_, he⟩, _⟩ h => wpAny_pyIter_enum he h
def iEnumT (K : PySem.W.Frag) (ta : TA) : TI := fun σ H R => ta σ H fun vs H1 => ∃ a xs, vs = [.ref a] ∧ SqT K H1 a xs ∧ R (IteT K a) H1
theorem pi_enumT {X : Cx} {e : Expr} {ta : TA} {p pos tpos : Pos} {elts : List Expr} {kk : Nat} (hg : Gl X "enumerate") (hm : X.mg "enumerate" = none) (ha : PA X [e] ta) (hs : starEach [e] X.env = [(false, eval e X.env)] := by rfl) :
    PI X (.Tuple elts kk tpos) (.Call (.Name "enumerate" p) [e] [] pos) (iEnumT X.K ta) := by
  refine ⟨fun pins s σ H R I h => ?_⟩
  refine Call_ (ld_blt I hg hm boot_enumerate (callWith_type1 (thn (ha.run pos pins s σ H _ I h) fun us s1 ⟨vs, H1, I1, r1, q1⟩ => ?_) hs rfl))
  obtain ⟨a, xs, ex, hq, q⟩ := q1
  subst ex
  obtain ⟨u, eu, ru⟩ := vals1 r1
  subst eu
  cases ru
  obtain ⟨its, rv, tp, hz⟩ := I1.tuple hq
  have lta : a < s1.heap.objs.size := by obtain ⟨o, ho, _⟩ := tp; exact Heap.lt_size ho
  refine call_enum_tup tp fun h' he hit hk => wpAny_pyIter_enum he ?_
  refine ⟨s1.heap.objs.size + 1, [s1.heap.objs.size + 1, s1.heap.objs.size], _, _, H1, rfl, I1.kept (t' := s1.toks) hk, turn_enumT a (s1.heap.objs.size + 1) s1.heap.objs.size (Nat.ne_of_lt lta) (Nat.ne_of_lt (Nat.lt_succ_of_lt lta)) (Nat.succ_ne_self _), ⟨⟨.none, he⟩, hit⟩, fun b hb => ?_, q⟩
  have hle : s1.heap.objs.size ≤ b := by
    rcases (show b = s1.heap.objs.size + 1 ∨ b = s1.heap.objs.size by simpa using hb) with z | z
    · rw [z]; exact Nat.le_succ _
    · rw [z]; exact Nat.le_refl _
  exact I1.fpOk hle (I1.hok.fresh hle)
theorem enumTA (K : PySem.W.Frag) {X : Cx} {e : Expr} {ta : TA} {p pos tpos : Pos} {elts : List Expr} {kk : Nat} (hg : Gl X "enumerate") (hm : X.mg "enumerate" = none) (ha : PA X [e] ta) (hK : X.K = K := by rfl) (hs : starEach [e] X.env = [(false, eval e X.env)] := by rfl) :
    PI X (.Tuple elts kk tpos) (.Call (.Name "enumerate" p) [e] [] pos) (fun σ H R => iEnum K ta σ H R ∨ iEnumT K ta σ H R) := hK ▸ pi_or (pi_enum hg hm ha hs) (pi_enumT hg hm ha hs)
theorem zipA (K : PySem.W.Frag) {X : Cx} {e e2 : Expr} {ta : TA} {p pos tpos : Pos} {elts : List Expr} {kk : Nat} (hg : Gl X "zip") (hm : X.mg "zip" = none) (ha : PA X [e, e2] ta) (hK : X.K = K := by rfl)
    (hs : starEach [e, e2] X.env = (false, eval e X.env) :: starEach [e2] X.env := by rfl) (hpl : (backTo pos (starEach [e2] X.env)).any (·.1) = false := by rfl) :
    PI X (.Tuple elts kk tpos) (.Call (.Name "zip" p) [e, e2] [] pos) (RZ.iZipA K ta) := hK ▸ RZ.pi_zipA hg hm ha hs hpl
/-! ### over data -/
/-- the pairs (0, x), (1, y), .. -/
def enumD (xs : List D) : List D := xs.mapIdx fun i x => .tup [.int (i : Nat), x]
theorem enumD_get {xs : List D} {i : Nat} {d : D} (h : (enumD xs)[i]? = some d) : ∃ x, xs[i]? = some x ∧ d = .tup [.int (i : Nat), x] := by
  unfold enumD at h
  rw [List.getElem?_mapIdx] at h
  cases q : xs[i]? with
  | none => rw [q] at h; cases h
  | some x => rw [q] at h; exact ⟨x, rfl, (Option.some.inj h).symm⟩
theorem enumD_length (xs : List D) : (enumD xs).length = xs.length := by simp [enumD]
section
variable {K : PySem.W.Frag} {Γ : Gam} {ta : TE} {xs ys : List D}
theorem di_enumT {Q : List D → Gam → Prop} {r : TI} (h : Dl ta Γ fun d Γ1 => ∃ xs, d = .tup xs ∧ Q (enumD xs) Γ1) : Di (fun σ H R => r σ H R ∨ iEnumT K (tCons ta tNil) σ H R) Γ Q := fun F σ W R g k => .inr (h F σ W _ g fun v W1 d Γ1 st g1 rd ⟨xs, e, q⟩ => by
  subst e
  obtain ⟨a, vs, rfl, ha, nu, l⟩ := rd
  refine ⟨a, vs, rfl, ha.sq, k (IteT K a) W1 (enumD xs) Γ1 st g1 ⟨fun W2 i x s2 ok2 hx => ?_, fun W2 s2 ok2 => ⟨vs, (ha.keep nu (s2.keep a)).1.sq, by rw [enumD_length, l.length]⟩⟩ q⟩
  obtain ⟨y, hy, rfl⟩ := enumD_get hx
  obtain ⟨v, hv, rv⟩ := l.get hy
  have h2 := (ha.keep nu (s2.keep a)).1
  refine ⟨⟨vs, v, h2.sq, hv⟩, fun u H' ⟨T, z, eu, hT, eH, hz⟩ => ?_⟩
  subst eu; subst eH
  have := hz vs h2.sq
  rw [hv] at this; cases this
  exact ⟨same_upd hT, rep_new_tup ok2.dom hT ⟨_, _, rfl, rfl, v, _, rfl, rv.stp s2, rfl⟩⟩)
theorem ei_enumT {r : TI} (h : Ev ta Γ (.tup xs)) : Ei (fun σ H R => r σ H R ∨ iEnumT K (tCons ta tNil) σ H R) Γ (enumD xs) := fun F σ W R g k => .inr (h F σ W _ g fun v H s ⟨a, vs, ev, ha, nu, l⟩ => by
  subst ev
  refine ⟨a, vs, rfl, ha.sq, k (IteT K a) H s ⟨fun W2 i x dm s2 ku pu hx => ?_, fun H2 s2 => ⟨vs, (ha.same s2).sq, by rw [enumD_length, l.length]⟩⟩⟩
  obtain ⟨y, hy, rfl⟩ := enumD_get hx
  obtain ⟨v, hv, rv⟩ := l.get hy
  have h2 : TupAt W2.H a vs := ha.same s2
  refine ⟨⟨vs, v, h2.sq, hv⟩, fun u H' ⟨T, z, eu, hT, eH, hz⟩ => ?_⟩
  subst eu; subst eH
  have := hz vs h2.sq
  rw [hv] at this; cases this
  exact ⟨same_upd hT, rep_new_tup dm hT ⟨_, _, rfl, rfl, v, _, rfl, Rep.mono (W := W.at H) (W' := W2) (fun b u e n => ⟨s2 b u e, ku b u e n⟩) (fun b z => by rw [pu]; exact z) _ _ rv, rfl⟩⟩)
end
end Dw

/-! zip, slices, fields, isinstance, over data. -/
namespace Dw
open PySem PySem.Spec PyProof.Rows L2
def zipD (xs ys : List D) : List D := (xs.zip ys).map fun p => .tup [p.1, p.2]
theorem zipD_get {xs ys : List D} {i : Nat} {d : D} (h : (zipD xs ys)[i]? = some d) : ∃ x y, xs[i]? = some x ∧ ys[i]? = some y ∧ d = .tup [x, y] := by
  unfold zipD at h
  rw [List.getElem?_map] at h
  cases q : (xs.zip ys)[i]? with
  | none => rw [q] at h; cases h
  | some p =>
    rw [q] at h
    rw [List.getElem?_zip_eq_some] at q
    exact ⟨p.1, p.2, q.1, q.2, (Option.some.inj h).symm⟩
theorem zipD_length (xs ys : List D) : (zipD xs ys).length = min xs.length ys.length := by simp [zipD]
section
variable {K : PySem.W.Frag} {Γ : Gam} {ta tb te : TE} {xs ys ds : List D} {d : D}
theorem ei_zipT (h1 : Ev ta Γ (.tup xs)) (h2 : Ev tb Γ (.tup ys)) : Ei (RZ.iZipA K (tCons ta (tCons tb tNil))) Γ (zipD xs ys) := fun F σ W R g k => h1 F σ W _ g fun v H s ⟨a, vs, ev, ha, nu, l⟩ => h2 F σ (W.at H) _ (g.same s) fun u H' s' ⟨b, ws, eu, hb, nu', l'⟩ => by
  subst ev; subst eu
  have ha' := ha.same s'
  refine ⟨a, b, vs, ws, rfl, .inr ⟨ha'.sq, hb.sq, k (RZ.ItzT K a b) H' (Same.trans s s') ⟨fun W2 i x dm s2 ku pu hx => ?_, fun H2 s2 => ?_⟩⟩⟩
  · obtain ⟨x, y, hx1, hy, rfl⟩ := zipD_get hx
    obtain ⟨v, hv, rv⟩ := (RepL.same (W := W.at H) s' l).get hx1
    obtain ⟨u, hu, ru⟩ := l'.get hy
    have a2 := ha'.same s2
    have b2 := hb.same s2
    refine ⟨⟨vs, ws, v, u, a2.sq, b2.sq, hv, hu⟩, fun z H3 ⟨T, p, q, ez, hT, eH, hp, hq⟩ => ?_⟩
    subst ez; subst eH
    have e1 := hp vs a2.sq
    have e2 := hq ws b2.sq
    rw [hv] at e1; cases e1
    rw [hu] at e2; cases e2
    have mv : ∀ {d v}, Rep (W.at H') d v → Rep W2 d v := fun {d v} r => Rep.mono (W := W.at H') (W' := W2) (fun b u e n => ⟨s2 b u e, ku b u e n⟩) (fun b z => by rw [pu]; exact z) d v r
    exact ⟨same_upd hT, rep_new_tup dm hT ⟨_, _, rfl, mv rv, _, _, rfl, mv ru, rfl⟩⟩
  · refine ⟨vs, ws, (ha'.same s2).sq, (hb.same s2).sq, ?_⟩
    rw [zipD_length, ← l.length, ← l'.length]
    omega
theorem ei_zipL (h1 : EvB ta Γ xs) (h2 : EvB tb Γ ys) : Ei (RZ.iZipA K (tCons ta (tCons tb tNil))) Γ (zipD xs ys) := fun F σ W R g k => h1 F σ W _ g fun a vs H s ha l => h2 F σ (W.at H) _ (g.same s) fun b ws H' s' hb l' => by
  have ha' := s' _ _ ha
  refine ⟨a, b, vs, ws, rfl, .inl ⟨.of ha', .of hb, k (Itz K a b) H' (Same.trans s s') ⟨fun W2 i x dm s2 ku pu hx => ?_, fun H2 s2 => ?_⟩⟩⟩
  · obtain ⟨x, y, hx1, hy, rfl⟩ := zipD_get hx
    obtain ⟨v, hv, rv⟩ := (RepL.same (W := W.at H) s' l).get hx1
    obtain ⟨u, hu, ru⟩ := l'.get hy
    have a2 := s2 _ _ ha'
    have b2 := s2 _ _ hb
    refine ⟨⟨vs, ws, v, u, .of a2, .of b2, hv, hu⟩, fun z H3 ⟨T, p, q, ez, hT, eH, hp, hq⟩ => ?_⟩
    subst ez; subst eH
    have e1 := hp vs (.of a2)
    have e2 := hq ws (.of b2)
    rw [hv] at e1; cases e1
    rw [hu] at e2; cases e2
    have mv : ∀ {d v}, Rep (W.at H') d v → Rep W2 d v := fun {d v} r => Rep.mono (W := W.at H') (W' := W2) (fun b u e n => ⟨s2 b u e, ku b u e n⟩) (fun b z => by rw [pu]; exact z) d v r
    exact ⟨same_upd hT, rep_new_tup dm hT ⟨_, _, rfl, mv rv, _, _, rfl, mv ru, rfl⟩⟩
  · refine ⟨vs, ws, .of (s2 _ _ ha'), .of (s2 _ _ hb), ?_⟩
    rw [zipD_length, ← l.length, ← l'.length]
    omega
/-! ### slices -/
def Eo (t : TO) (Γ : Gam) (o : Option Int) : Prop := ∀ (F : Addr → Prop) (σ : L2.St) (W : Wd) (Q : Option Int → Hp → Prop), SR F Γ σ W → (∀ H, Same W.H H → Q o H) → t σ W.H Q
theorem eo_none : Eo tNoPart Γ none := fun F σ W Q g k => k W.H (Same.refl _)
theorem eo_some {i : Int} (h : Ev te Γ (.int i)) : Eo (tPart te) Γ (some i) := fun F σ W Q g k => h F σ W _ g fun v H s r => ⟨i, r, k H s⟩
/-- xs[lo:hi] -/
def cutD (xs : List D) (lo hi : Option Int) : List D := (xs.drop (HT.sIx xs.length 0 lo)).take (HT.sIx xs.length xs.length hi - HT.sIx xs.length 0 lo)
theorem repL_cut {W : Wd} {vs : List V} {lo hi : Option Int} (l : RepL W ds vs) : RepL W (cutD ds lo hi) (cutV vs lo hi) := by
  unfold cutD cutV
  rw [l.length]
  exact (l.drop _).take _
theorem evn_slice {tl th : TO} {lo hi : Option Int} (h : EvB te Γ ds) (h1 : Eo tl Γ lo) (h2 : Eo th Γ hi) : EvN (tSl (rSl K) te tl th) Γ (cutD ds lo hi) := fun F σ W Q g k => h F σ W _ g fun a vs H s e l => h1 F σ (W.at H) _ (g.same s) fun H1 s1 => h2 F σ ((W.at H).at H1) _ ((g.same s).same s1) fun H2 s2 => by
  have sm : Same H H2 := Same.trans s1 s2
  exact .inl ⟨a, vs, rfl, .of (sm _ _ e), fun p hp => k p _ _ (Same.trans s (Same.trans sm (same_upd hp))) (s.free (sm.free hp)) upd_same (RepL.plus (W := W.at H2) hp (same_upd hp) (repL_cut (RepL.same (W := W.at H) sm l)))⟩
theorem ev_sliceT {tl th : TO} {lo hi : Option Int} (h : Ev te Γ (.tup ds)) (h1 : Eo tl Γ lo) (h2 : Eo th Γ hi) (hn : ¬ (HT.sIx ds.length 0 lo = 0 ∧ HT.sIx ds.length ds.length hi = ds.length)) : Ev (tSl (rSl K) te tl th) Γ (.tup (cutD ds lo hi)) := fun F σ W Q g k => h F σ W _ g fun v H s ⟨a, vs, ev, e, nu, l⟩ => h1 F σ (W.at H) _ (g.same s) fun H1 s1 => h2 F σ ((W.at H).at H1) _ ((g.same s).same s1) fun H2 s2 => by
  have sm : Same H H2 := Same.trans s1 s2
  subst ev
  exact .inr ⟨a, vs, rfl, (e.same sm).sq, by rw [← l.length]; exact hn, fun p hp => k _ _ (Same.trans s (Same.trans sm (same_upd hp))) (rep_new_tup (W := W.at H2) (((g.same s).same s1).same s2).ok.dom hp (repL_cut (RepL.same (W := W.at H) sm l)))⟩
/-! ### fields -/
theorem ev_fld {C : Addr} {ns : List Str} {f : Str} (cl : Cls K C) (na : NoAttr K C f) (h : Ev ta Γ (.obj C ns ds)) (hl : (ns.zip ds).lookup f = some d) : Ev (tFld K ta f) Γ d := fun F σ W Q g k => h F σ W _ g fun v H s ⟨a, dx, vs, ev, e, nu, l, r⟩ => by
  subst ev
  have key : ∀ (ns : List Str) (ds : List D) (vs : List V), RepL (W.at H) ds vs → (ns.zip ds).lookup f = some d → ∃ v, (ns.zip vs).lookup f = some v ∧ Rep (W.at H) d v := by
    intro ns
    induction ns with
    | nil => intro ds vs _ q; simp at q
    | cons n ns ih =>
      intro ds vs r q
      cases ds with
      | nil => simp at q
      | cons e ds =>
        obtain ⟨v, rr, rfl, r1, r2⟩ := r
        rw [List.zip_cons_cons, List.lookup_cons] at q ⊢
        cases hb : f == n with
        | true =>
          rw [hb] at q
          exact ⟨v, rfl, by rw [← Option.some.inj q]; exact r1⟩
        | false =>
          rw [hb] at q
          exact ih ds rr r2 q
  obtain ⟨v, hv, rv⟩ := key ns ds vs r hl
  exact ⟨a, C, dx, _, v, rfl, e, cl, na, hv, k v H s rv⟩
/-! ### isinstance with one class -/
/-- a value's type, as the fragment's deciders take it -/
def tyD : D → Value
  | .non => .type "NoneType" | .bl _ => .type "bool" | .int _ => .type "int" | .str _ => .type "str" | .tup _ => .type "tuple" | .tupN _ => .type "tuple" | .lst _ => .type "list" | .dct _ _ => .type "dict" | .obj C _ _ => .ref C | _ => .none
structure InsOk (K : PySem.W.Frag) (C : Addr) : Prop where
  cl : Cls K C
  ha : PySem.W.findIn K (.ref C) "__class__" = some (some (.builtin "object.__class__"))
  hn : PySem.W.specialIn K (.builtin "object.__class__") "__get__" = some (some (.builtin "getset_descriptor.__get__"))
  ht : PySem.W.takesIn K (.builtin "object.__class__") = some true
  hm : PySem.W.mroIn K C (.type "object") = some true
def hasTy : D → Bool
  | .raw _ => false | .purse => false | .rng _ _ => false | .obj _ _ _ => false | .scr _ _ => false | .tupN _ => false | _ => true
theorem ty_of {W : Wd} {v : V} (r : Rep W d v) (h : hasTy d = true ∨ ∃ C ns ds, d = .obj C ns ds ∧ InsOk K C) : TyX K W.H v (tyD d) := by
  cases d with
  | non => rw [show v = V.non from r]; exact .base .non
  | bl b => rw [show v = V.bl b from r]; exact .base (.bl b)
  | int b => rw [show v = V.int b from r]; exact .base (.int b)
  | str b => rw [show v = V.str b from r]; exact .base (.str b)
  | tup ds =>
    obtain ⟨a, vs, ev, e, _⟩ := r
    rw [ev]
    exact e.elim (fun e => .base (.tup e)) fun ⟨o, e⟩ => .fTuple e
  | tupN ds => obtain ⟨a, vs, ev, ⟨o, e, _⟩, _⟩ := r; rw [ev]; exact .fTuple e
  | lst ds => obtain ⟨a, vs, ev, e, _⟩ := r; rw [ev]; exact .base (.lst e)
  | dct ks ds => obtain ⟨a, vs, ev, e, _⟩ := r; rw [ev]; exact .base (.dK e)
  | obj C ns ds =>
    obtain ⟨a, dx, vs, ev, e, _⟩ := r
    rcases h with h | ⟨C', ns', ds', q, o⟩
    · cases h
    · cases q; rw [ev]; exact .base (.ins e o.cl o.ha o.hn o.ht o.hm)
  | raw _ => rcases h with h | ⟨_, _, _, q, _⟩ <;> first | cases h | cases q
  | scr _ _ => rcases h with h | ⟨_, _, _, q, _⟩ <;> first | cases h | cases q
  | purse => rcases h with h | ⟨_, _, _, q, _⟩ <;> first | cases h | cases q
  | rng _ _ => rcases h with h | ⟨_, _, _, q, _⟩ <;> first | cases h | cases q
theorem ev_isi {c : V} {u : Value} {b : Bool} (h : Ev ta Γ d) (hc : Ev tb Γ (.raw c)) (hd : hasTy d = true ∨ ∃ C ns ds, d = .obj C ns ds ∧ InsOk K C) (hv : ClsV c u) (hk : PySem.W.kitOne K (tyD d) u = some b) : Ev (tCB (rIsi K) (tCons ta (tCons tb tNil))) Γ (.bl b) := fun F σ W Q g k =>
  h F σ W _ g fun v H s r => hc F σ (W.at H) _ (g.same s) fun w H' s' rc => ⟨v, c, tyD d, u, b, by rw [show w = c from rc], hv, ty_of (Rep.same (W := W.at H) s' r) hd, hk, k _ H' (Same.trans s s') rfl⟩
end
end Dw
namespace Dw
open PySem PySem.Spec PyProof.Rows L2
theorem tupA (K : PySem.W.Frag) (n : Nat) {X : Cx} {pos : Pos} {es : List Expr} {k : Nat} {t : TGs} (hc : X.calm = true) (h : PGs X es t) (hK : X.K = K := by rfl)
    (hn : (assignEach es X.env).length = n := by rfl) (hst : (assignEach es X.env).findIdx? (·.1) = none := by rfl) : PG X (.Tuple es k pos) (gTup K n t) := hK ▸ pg_tup hc h hn hst
theorem star1A (K : PySem.W.Frag) {X : Cx} (hc : X.calm = true) {e1 e2 : Expr} {g1 g2 : TG} {k : Nat} {pos sp : Pos} (h1 : PG X e1 g1) (h2 : PG X e2 g2) (hK : X.K = K := by rfl) (hlen : (assignEach [e1, .Starred e2 sp] X.env).length = 2 := by rfl)
    (hst : (assignEach [e1, .Starred e2 sp] X.env).findIdx? (·.1) = some 1 := by rfl) (hm : (assignEach [e1, .Starred e2 sp] X.env).map (·.2) = [assign e1 X.env, assign e2 X.env] := by rfl) :
    PG X (.Tuple [e1, .Starred e2 sp] k pos) (gStar1 K g1 g2) := hK ▸ pg_star1 hc h1 h2 hlen hst hm
/-- a purse is drawn from -/
theorem purse_step {F : Addr → Prop} {W : Wd} {a : Addr} {x y c : Int} (ok : WOk F W) (hp : W.P a) (hx : 0 ≤ x) (hy : 0 ≤ y) (hy2 : y < 2147483647) :
    Stp F W (W.at (upd W.H a (.lst [.int x, .int y, .int c]))) ∧ WOk F (W.at (upd W.H a (.lst [.int x, .int y, .int c]))) := by
  obtain ⟨u, f, _⟩ := ok.pu a hp
  have up : ∀ b, b ≠ a → (upd W.H a (.lst [.int x, .int y, .int c])) b = W.H b := fun b hb => upd_ne hb
  refine ⟨⟨fun b o e n => ⟨?_, n⟩, rfl, fun b h => up b fun z => f (by rw [← z]; exact h)⟩, ⟨fun b h z => ?_, ok.fu, fun b h => ?_⟩⟩
  · show (upd W.H a _) b = _
    rw [up b fun z => n (by rw [z]; exact u)]
    exact e
  · have z : (upd W.H a (.lst [.int x, .int y, .int c])) b = none := z
    by_cases hb : b = a
    · rw [hb, upd_same] at z; cases z
    · rw [up b hb] at z; exact ok.dom b h z
  · obtain ⟨u', f', x', y', h1, h2, h3, e⟩ := ok.pu b h
    refine ⟨u', f', ?_⟩
    by_cases hb : b = a
    · rw [hb]; exact ⟨(x, c), y, hx, hy, hy2, upd_same⟩
    · exact ⟨x', y', h1, h2, h3, (up b hb).trans e⟩
end Dw

/-! Joined texts as codes; a written dict that is asked at once. -/
namespace Dw
open PySem PySem.Spec PyProof.Rows L2
theorem joinL_nil : ∀ ls : List (List Nat), TL.joinL [] ls = ls.flatten
  | [] => rfl
  | [p] => by simp [TL.joinL]
  | p :: q :: r => by
    show p ++ ([] ++ TL.joinL [] (q :: r)) = _
    rw [List.nil_append, joinL_nil (q :: r)]; rfl
theorem join_tx (a : List Nat) (ys : List (List Nat)) : Txt.join (tx a) (ys.map tx) = tx (TL.joinL a ys) := SX.join_S a ys
theorem flat_chs (l : List Nat) : (l.map fun c => [c]).flatten = l := by
  induction l with
  | nil => rfl
  | cons c l ih => rw [List.map_cons, List.flatten_cons, ih]; rfl
theorem join_chs (l : List Nat) : Txt.join (Str.ofString "") (l.map ch) = tx l := by
  have e : l.map ch = (l.map fun c => [c]).map tx := by rw [List.map_map]; rfl
  have e0 : Str.ofString "" = tx [] := by decide +kernel
  rw [e, e0, join_tx, joinL_nil, flat_chs]
theorem chs_len (l : List Nat) : ((l.map ch).map (·.length)).sum = l.length := by
  induction l with
  | nil => rfl
  | cons c l ih =>
    rw [List.map_cons, List.map_cons, List.sum_cons, ih, List.length_cons]
    show 1 + l.length = _
    omega
section
variable {Γ : Gam} {K : PySem.W.Frag} {ty : TE} {x y : Str}
def dispP (kvs : List (Str × Str)) : List (TE × TE) := kvs.map fun p => (tC (.str p.1), tC (.str p.2))
theorem tPairs_disp (σ : L2.St) (H : Hp) : ∀ (kvs : List (Str × Str)) (Q : List (V × V) → Hp → Prop), Q (kvs.map fun p => (V.str p.1, V.str p.2)) H → tPairs (dispP kvs) σ H Q
  | [], Q, h => h
  | (a, b) :: kvs, Q, h => tPairs_disp σ H kvs (fun ps H3 => Q ((V.str a, V.str b) :: ps) H3) h
theorem ev_dget {trs : List (TE × TE)} (kvs : List (Str × Str)) (ht : trs = dispP kvs) (hl : kvs.length ≤ 15) (h : Ev ty Γ (.str x))
    (hv : valV (mergeK [] (kvs.map fun p => ((Sum.inr p.1 : Key), V.str p.2))) (Sum.inr x) = some (.str y)) : Ev (tDGet (tDisp trs) ty) Γ (.str y) := fun F σ W Q g k => by
  subst ht
  refine fun p hp => tPairs_disp σ _ kvs _ ⟨upd_same, kvs.map fun p => ((Sum.inr p.1 : Key), V.str p.2), by rw [List.map_map]; rfl, by rw [List.length_map]; exact hl, ?_⟩
  rw [upd_upd]
  have sm : Same W.H (upd W.H p (.dK (mergeK [] (kvs.map fun p => ((Sum.inr p.1 : Key), V.str p.2))))) := same_upd hp
  refine h F σ (W.at _) _ (g.same sm) fun v H2 s2 r => ⟨p, .str y, rfl, ?_, k _ H2 (Same.trans sm s2) rfl⟩
  rw [show v = V.str x from r, ← hv]
  exact DGet.k (k := Sum.inr x) (s2 _ _ upd_same)
end
end Dw

/-! Chains of comparisons, dicts of the module, properties, texts cut, objects made. -/
namespace Dw
open PySem PySem.Spec PyProof.Rows L2
section
variable {Γ : Gam} {K : PySem.W.Frag} {w : World} {ta tb tc te tv : TE} {t : TA} {x y z d : D} {ds : List D} {a b : Str} {C ad : Addr} {E : XK} {s : Spc}
theorem ev_chain {r r' : R2} {p q : Bool} (ha : Ev ta Γ x) (hb : Ev tb Γ y) (hc : p = true → Ev tc Γ z) (h1 : DR2 r x y (.bl p)) (h2 : p = true → DR2 r' y z (.bl q)) : Ev (tChain r r' ta tb tc) Γ (.bl (p && q)) := fun F σ W Q g k =>
  ha F σ W _ g fun u H s ru => hb F σ (W.at H) _ (g.same s) fun v H1 s1 rv => by
    refine h1 (W.at H1) u v _ ((g.same s).same s1).ok.dom (ru.same (W := W.at H) s1) rv fun o H2 s2 ro => ⟨p, ro, ?_⟩
    have s02 : Same W.H H2 := Same.trans s (Same.trans s1 s2)
    cases p with
    | false => exact ite2 (fun h => nomatch h) fun _ => k _ H2 s02 rfl
    | true =>
      refine ite2 (fun _ => ?_) fun h => absurd rfl h
      refine hc rfl F σ (W.at H2) _ (g.same s02) fun e H3 s3 re => ?_
      exact h2 rfl (W.at H3) v e _ ((g.same s02).same (W := W.at H2) s3).ok.dom ((rv.same (W := W.at H1) s2).same (W := W.at H2) s3) re fun o' H4 s4 ro' => k _ H4 (Same.trans s02 (Same.trans s3 s4)) ro'
theorem evt_chain {r r' : R2} {p q : Bool} (ha : Ev ta Γ x) (hb : Ev tb Γ y) (hc : p = true → Ev tc Γ z) (h1 : DR2 r x y (.bl p)) (h2 : p = true → DR2 r' y z (.bl q)) : EvT (tTest (tChain r r' ta tb tc)) Γ (p && q) := evt_test (ev_chain ha hb hc h1 h2)
theorem ev_ixD {p : Addr} (h : Ev tb Γ (.str b)) (hk : KDct K w p b (.str a)) : Ev (tOp (rIxD K w) (tC (.ref p)) tb) Γ (.str a) :=
  ev_op ev_raw h (dr2_flat fun W u v Q r1 r2 k => ⟨p, b, .str a, r1, r2, hk, k _ rfl⟩)
theorem dr2_rep2 (h : ds.length * 2 ≤ sizeLine) : DR2 rTimes (.lst ds) (.int 2) (.lst (ds ++ ds)) := dr2_r fun W u v Q dom ⟨l, vs, eu, hl, nu, rl⟩ rv k =>
  ⟨l, 2, vs, eu, rv, hl, by decide, by decide, by rw [← rl.length]; exact h, fun p hp => by
    have e : (List.replicate (2 : Int).toNat vs).flatten = vs ++ vs := by
      show (List.replicate 2 vs).flatten = _
      simp [List.replicate]
    rw [e]
    exact k _ _ (same_upd hp) (rep_new_lst dom hp (rl.append rl))⟩
/-- a property of an object -/
theorem ev_prop {x : s.ty} {ns : List Str} (h : Ev ta Γ (.obj C ns ds)) (ha : s.args x = [.obj C ns ds]) (np : noPs (s.args x) = true) (ok : s.ok x) (hd : ∀ d', s.rel x d' → d' = d) : Ev (tProp C (toSp s) [] E ta) Γ d := fun F σ W R g k => h F σ W _ g fun v H st r => by
  obtain ⟨a, dx, vs, ev, e, nu, l, rl⟩ := r
  refine ⟨a, dx, _, ev, e, ?_⟩
  have rr : RepL (W.at H) (s.args x) [v] := by rw [ha]; exact RepL.one ⟨a, dx, vs, ev, e, nu, l, rl⟩
  rw [← ev]
  exact pure_call (W := W.at H) (g.same st) (fun _ z => z) (RepL.delP _ _ np rr) ok fun d' v H' hd' s' r' => by
    rw [hd d' hd'] at r'
    exact k v H' (Same.trans st s') (Rep.addP (W := W) r')
theorem evn_split (ha : Ev ta Γ (.str a)) (hb : Ev tb Γ (.str b)) (hn : (b.length == 0) = false) (hz : a.length + 2 ≤ sizeLine) :
    EvN (tM1 (fun x xs H Q => ∃ a b, x = .str a ∧ xs = [.str b] ∧ (b.length == 0) = false ∧ a.length + 2 ≤ sizeLine ∧ rNewStrs (Txt.split a b) H Q) ta tb) Γ ((Txt.split a b).map D.str) := fun F σ W Q g k =>
  ha F σ W _ g fun v H s r => ⟨⟨a, r⟩, hb F σ (W.at H) _ (g.same s) fun u H1 s1 r1 => ⟨a, b, r, by rw [show u = V.str b from r1], hn, hz, fun p hp =>
    k p _ _ (Same.trans (Same.trans s s1) (same_upd hp)) ((Same.trans s s1).free hp) upd_same (RepL.strs.mpr rfl)⟩⟩
theorem ev_partition (ha : Ev ta Γ (.str a)) (hb : Ev tb Γ (.str b)) (hn : (b.length == 0) = false) (hz : a.length ≤ sizeLine) :
    Ev (tM1 (fun x xs H Q => ∃ a b, x = .str a ∧ xs = [.str b] ∧ (b.length == 0) = false ∧ a.length ≤ sizeLine ∧
      ∀ p, H p = none → Q (.ref p) (upd H p (.tup [.str (Txt.partition a b).1, .str (Txt.partition a b).2.1, .str (Txt.partition a b).2.2]))) ta tb) Γ (.tup [.str (Txt.partition a b).1, .str (Txt.partition a b).2.1, .str (Txt.partition a b).2.2]) := fun F σ W Q g k =>
  ha F σ W _ g fun v H s r => ⟨⟨a, r⟩, hb F σ (W.at H) _ (g.same s) fun u H1 s1 r1 => ⟨a, b, r, by rw [show u = V.str b from r1], hn, hz, fun p hp =>
    k _ _ (Same.trans (Same.trans s s1) (same_upd hp)) (rep_new_tup (W := W.at H1) ((g.same s).same (W := W.at H) s1).ok.dom hp ⟨_, _, rfl, rfl, _, _, rfl, rfl, _, _, rfl, rfl, rfl⟩)⟩⟩
end
end Dw

/-! Objects made: the promise of an __init__, its rules, the call of the class. -/
namespace Dw
open PySem PySem.Spec PyProof.Rows L2
abbrev rIsNone : R2 := fun x y H Q => y = .non ∧ Q (.bl (decide (x = .non))) H
theorem dr2_isN {d : D} {b : Bool} (h : ∀ (W : Wd) v, Rep W d v → decide (v = V.non) = b) : DR2 rIsNone d .non (.bl b) := dr2_flat fun W u v Q r1 r2 k => ⟨r2, by rw [h W u r1]; exact k _ rfl⟩
/-- an __init__'s promise: the object gets ns and ds, where rel x (.tup ds) -/
def toIn (C : Addr) (ns : List Str) (s : Spc) : Sp := fun vs H Q _ => ∃ (x : s.ty) (F : Addr → Prop) (W : Wd) (a dx : Addr) (us : List V), vs = .ref a :: us ∧ W.H = H ∧ WOk F W ∧ W.U a ∧ ¬ F a ∧ ¬ W.P a ∧ W.H a = some (.ins C dx []) ∧ RepL W (s.args x) us ∧ s.ok x ∧
  ∀ ds zs W', s.rel x (.tup ds) → Stp F W W' → WOk F W' → W'.U a → W'.H a = some (.ins C dx (ns.zip zs)) → ns.length = zs.length → RepL W' ds zs → Q .non W'.H
section
variable {Γ : Gam} {K : PySem.W.Frag} {te tv ta : TE} {t u : TS} {x y d : D} {C : Addr} {s : Spc}
/-- a statement of an __init__ whose object stands at a, with the fields ns so far -/
def DI (C a : Addr) (t : TS) (Γ : Gam) (ns : List Str) (ds : List D) (R : Gam → List Str → List D → Prop) : Prop := ∀ (F : Addr → Prop) (σ : L2.St) (W : Wd) (Dr : Ends) (dx : Addr) (us : List V), SR (Fp F a) Γ σ W → ¬ F a → W.H a = some (.ins C dx (ns.zip us)) → ns.length = us.length → RepL W ds us →
  (∀ σ' Γ' ns' ds' us' W', Stp F W W' → SR (Fp F a) Γ' σ' W' → W'.H a = some (.ins C dx (ns'.zip us')) → ns'.length = us'.length → RepL W' ds' us' → R Γ' ns' ds' → Dr.nx σ' W'.H) → t Dr σ W.H
theorem di_seq {a : Addr} {ns : List Str} {ds : List D} {R : Gam → List Str → List D → Prop} (h : DI C a t Γ ns ds fun Γ' ns' ds' => DI C a u Γ' ns' ds' R) : DI C a (tSeq t u) Γ ns ds R := fun F σ W Dr dx us g nf e l r k =>
  h F σ W { Dr with nx := u Dr } dx us g nf e l r fun σ' Γ' ns' ds' us' W' st g' e' l' r' hR => hR F σ' W' Dr dx us' g' nf e' l' r' fun σ2 Γ2 ns2 ds2 us2 W2 st2 => k σ2 Γ2 ns2 ds2 us2 W2 (st.trans st2)
theorem di_of {a : Addr} {ns : List Str} {ds : List D} {R : Gam → List Str → List D → Prop} (h : Ds t Γ ⟨fun Γ' => R Γ' ns ds, fun _ => False, fun _ => False, fun _ => False⟩) : DI C a t Γ ns ds R := fun F σ W Dr dx us g nf e l r k =>
  h (Fp F a) σ W Dr g ⟨fun σ' W' Γ' st g' hR => k σ' Γ' ns ds us W' (st.sub fun _ z => .inl z) g' ((st.fr a (.inr rfl)).trans e) l (r.stp st) hR, fun _ _ _ _ _ _ h => h.elim, fun _ _ _ _ _ h => h.elim, fun _ _ _ _ _ h => h.elim⟩
theorem putF_new {f : Str} {v : V} : ∀ {ns : List Str} {us : List V}, f ∉ ns → ns.length = us.length → putF f v (ns.zip us) = (ns ++ [f]).zip (us ++ [v])
  | [], [], _, _ => rfl
  | n :: ns, u :: us, h, l => by
    show (if n = f then _ else (n, u) :: putF f v (ns.zip us)) = _
    rw [if_neg (fun z => h (by rw [z]; exact List.mem_cons_self)), putF_new (fun z => h (List.mem_cons_of_mem _ z)) (Nat.succ.inj l)]
    rfl
theorem zip_len {ns : List Str} {us : List V} (l : ns.length = us.length) : (ns.zip us).length = ns.length := by rw [List.length_zip, ← l]; omega
theorem di_fld {a : Addr} {ns : List Str} {ds : List D} {f : Str} {R : Gam → List Str → List D → Prop} (cl : Cls K C) (na : NoAttr K C f) (hn : f ∉ ns) (hz : ns.length < 1000) (ha : Ev ta Γ (.raw (.ref a))) (hv : Ev tv Γ d) (h : R Γ (ns ++ [f]) (ds ++ [d])) :
    DI C a (sFld K ta tv f) Γ ns ds R := fun F σ W Dr dx us g nf e l r k => hv _ σ W _ g fun v H s rv => ha _ σ (W.at H) _ (g.same s) fun z H1 s1 rz => by
  have g1 := (g.same s).same (W := W.at H) s1
  have s01 := Same.trans s s1
  refine ⟨a, C, dx, ns.zip us, rz, s01 _ _ e, cl, na, by rw [zip_len l]; exact hz, ?_⟩
  rw [putF_new hn l]
  obtain ⟨st, g2⟩ := g1.poke (o := .ins C dx ((ns ++ [f]).zip (us ++ [v]))) nf
  have st1 : Stp F W (W.at H1) := (Stp.of_same g.ok s01).sub fun _ z => .inl z
  exact k σ Γ (ns ++ [f]) (ds ++ [d]) (us ++ [v]) _ (st1.trans st) g2 upd_same (by rw [List.length_append, List.length_append, l]; rfl) (((r.same s01).append (RepL.one (rv.same (W := W.at H) s1))).stp st) h
theorem di_fld2 {a : Addr} {ns : List Str} {ds : List D} {f f2 : Str} {R : Gam → List Str → List D → Prop} (cl : Cls K C) (na : NoAttr K C f) (na2 : NoAttr K C f2) (hn : f ∉ ns) (hn2 : f2 ∉ ns ++ [f]) (hz : ns.length < 900) (ha : Ev ta Γ (.raw (.ref a))) (hv : Ev tv Γ (.tup [x, y]))
    (h : R Γ ((ns ++ [f]) ++ [f2]) ((ds ++ [x]) ++ [y])) :
    DI C a (tAsg tv (gTup K 2 (gCons (gFld K ta f) (gCons (gFld K ta f2) gNil)))) Γ ns ds R := fun F σ W Dr dx us g nf e l r k => hv _ σ W _ g fun v H s rv => by
  obtain ⟨p, vs, ev, hp, nu, v1, _, rfl, r1, v2, _, rfl, r2, rfl⟩ := rv
  refine ⟨p, [v1, v2], ev, hp.sq, rfl, v1, [v2], rfl, ha _ σ (W.at H) _ (g.same s) fun z H1 s1 rz => ?_⟩
  have g1 := (g.same s).same (W := W.at H) s1
  have s01 := Same.trans s s1
  refine ⟨a, C, dx, ns.zip us, rz, s01 _ _ e, cl, na, by rw [zip_len l]; omega, ?_⟩
  rw [putF_new hn l]
  obtain ⟨st, g2⟩ := g1.poke (o := .ins C dx ((ns ++ [f]).zip (us ++ [v1]))) nf
  have st1 : Stp F W (W.at H1) := (Stp.of_same g.ok s01).sub fun _ z => .inl z
  have l1 : (ns ++ [f]).length = (us ++ [v1]).length := by rw [List.length_append, List.length_append, l]; rfl
  have rr1 := ((r.same s01).append (RepL.one (r1.same (W := W.at H) s1))).stp st
  have r2' := (r2.same (W := W.at H) s1).stp st
  refine ⟨v2, [], rfl, ha _ σ _ _ g2 fun z' H2 s2 rz' => ?_⟩
  refine ⟨a, C, dx, (ns ++ [f]).zip (us ++ [v1]), rz', s2 _ _ upd_same, cl, na2, by rw [zip_len l1, List.length_append]; show ns.length + 1 < 1000; omega, rfl, ?_⟩
  rw [putF_new hn2 l1]
  obtain ⟨st2, g3⟩ := (g2.same s2).poke (o := .ins C dx (((ns ++ [f]) ++ [f2]).zip ((us ++ [v1]) ++ [v2]))) nf
  have sto : Stp F (W.at (upd H1 a (.ins C dx ((ns ++ [f]).zip (us ++ [v1]))))) (W.at H2) := (Stp.of_same g2.ok s2).sub fun _ z => .inl z
  exact k σ Γ _ ((ds ++ [x]) ++ [y]) ((us ++ [v1]) ++ [v2]) _ (st1.trans (st.trans (sto.trans st2))) g3 upd_same (by simp [l]) (((rr1.stp sto).append (RepL.one (r2'.stp sto))).stp st2) h
section
variable {P : Program} {w : World} {mg : Str → Option Value} {base : Heap}
theorem in_ok {x qual : Str} {st : Stmt} {f : Addr} {fd : FuncData} {N ps : List Str} {k : Nat} {ns : List Str} (F : Fun K x qual st f fd) (S : FnScope N ps (defScope st)) (len : ∀ x, (s.args x).length + 1 = ps.length)
    (hbody : ∀ (cdv : Value) (A : Around) (outer : List Env) (s' : Shared) (H : Hp) (E : XK), Room k (A.deeper (envOfC qual (defScope st) s'.heap.objs.size f cdv)) →
      ∃ t, PSs (cxOf CX0 P w K mg base N qual (defScope st) f cdv A outer s' H E).nox (defBody st) t ∧ ∀ x, s.ok x → ∀ a, DI C a t (Gz0 N.length (.raw (.ref a) :: s.args x)) [] [] fun _ ns' ds' => ns' = ns ∧ s.rel x (.tup ds')) :
    FnOk P w K mg base CX0 (k + 1) f fd ps (toIn C ns s) :=
  F.ok S (fun vs H Q E ⟨x, F, W, a, dx, us, e, _, _, _, _, _, _, r, _⟩ => by rw [e, List.length_cons, ← r.length]; exact len x) fun cdv A outer s' H vs Q E hr h => by
    obtain ⟨t, p, hb⟩ := hbody cdv A outer s' H E hr
    refine ⟨t, p, ?_⟩
    obtain ⟨x, F, W, a, dx, us, rfl, rfl, ok, hu, nf, np, ha, r, hx, q⟩ := h
    have ok' : WOk (Fp F a) W := ⟨ok.dom, fun b z => z.elim (ok.fu b) fun z => by rw [z]; exact hu, fun b z => let ⟨u, f, pp⟩ := ok.pu b z; ⟨u, fun y => y.elim f fun y => np (by rw [← y]; exact z), pp⟩⟩
    refine hb x hx a F _ W _ dx [] (sr_start ok' (ds := .raw (.ref a) :: s.args x) ⟨_, us, rfl, rfl, r⟩) nf ha rfl rfl fun σ' Γ' ns' ds' us' W' st g' e' l' r' hR => ?_
    obtain ⟨rfl, hrel⟩ := hR
    exact q ds' us' W' hrel st ⟨g'.ok.dom, fun b z => g'.ok.fu b (.inl z), fun b z => let ⟨u, f, pp⟩ := g'.ok.pu b z; ⟨u, fun y => f (.inl y), pp⟩⟩ (g'.ok.fu a (.inr rfl)) e' l' r'
end
/-- C(..) -/
theorem dl_make {ns : List Str} {t : TA} {E : XK} {Q : D → Gam → Prop} (h : DlA t Γ fun ds Γ1 => ∃ x, ds = s.args x ∧ s.ok x ∧ ∀ es, s.rel x (.tup es) → Q (.obj C ns es) Γ1) : Dl (tMake C (toIn C ns s) [] E t) Γ Q := fun F σ W R g k => h F σ W _ g fun vs W1 ds Γ1 st g1 r ⟨x, e, ok, q⟩ => by
  subst e
  intro b dx hb hdx ne
  rw [List.append_nil]
  have sm : Same W1.H (upd (upd W1.H dx (.own b)) b (.ins C dx [])) := Same.trans (same_upd hdx) (same_upd ((upd_ne (Ne.symm ne)).trans hb))
  obtain ⟨stp, gp, no, nf, np⟩ := g1.plus (H := upd (upd W1.H dx (.own b)) b (.ins C dx [])) (a := b) sm hb (by rw [upd_same]; exact fun z => nomatch z)
  refine ⟨x, _, W1.plus _ b, b, dx, vs, rfl, rfl, gp.callOk, .inr rfl, fun z => z.elim nf no, np, upd_same, r.stp stp, ok, fun ds zs W' hd st' ok' hu hH hl rr => ⟨rfl, ?_⟩⟩
  have g2 := gp.call st' ok'
  have np' : ¬ W'.P b := by rw [st'.pur]; exact np
  obtain ⟨st3, g3⟩ := (g2.frame hu np' no).land nf
  exact k (.ref b) ⟨W'.H, fun c => W'.U c ∧ c ≠ b, W'.P⟩ (.obj C ns ds) Γ1 (st.trans (stp.trans ((st'.sub fun _ z => .inl z).trans st3))) g3 ⟨b, dx, zs, rfl, hH, fun z => z.2 rfl, hl, rr.stp st3⟩ (q ds hd)
end
end Dw

/-! all() over a pure comprehension; one sign within a text; comparisons with their answers. -/
namespace Dw
open PySem PySem.Spec PyProof.Rows L2
section
variable {Γ : Gam} {K : PySem.W.Frag} {wi : TI} {g : TG} {tt : TT} {te : TE} {vs : List Nat}
theorem ev_all_lc {α : Type} {xs : List α} {c : α → D} {b : α → Bool} (h : Ei wi Γ (xs.map c)) (hz : xs.length ≤ 1000000)
    (he : ∀ x ∈ xs, ∃ is Γ2, DG g is (c x) (wipeG Γ vs) Γ2 ∧ (∀ i ∈ is, i ∈ vs) ∧ EvT tt Γ2 true ∧ Ev te Γ2 (.bl (b x))) : Ev (tCB (rAll K) (tCons (tLc wi g tt te vs) tNil)) Γ (.bl (xs.all b)) := by
  have e := evn_lc (p := fun _ => true) (f := fun x => D.bl (b x)) h hz fun x hx => by
    obtain ⟨is, Γ2, h1, h2, h3, h4⟩ := he x hx
    exact ⟨is, Γ2, h1, h2, h3, fun _ => h4⟩
  rw [List.filter_eq_self.mpr (fun _ _ => rfl)] at e
  have e2 : xs.map (fun x => D.bl (b x)) = (xs.map b).map D.bl := by rw [List.map_map]; rfl
  rw [e2] at e
  have r := ev_all (K := K) e.b
  rw [List.all_map] at r
  exact r
/-- a pure comprehension without a test -/
theorem evn_lc1 {α : Type} {xs : List α} {c f : α → D} (h : Ei wi Γ (xs.map c)) (hz : xs.length ≤ 1000000)
    (he : ∀ x ∈ xs, ∃ is Γ2, DG g is (c x) (wipeG Γ vs) Γ2 ∧ (∀ i ∈ is, i ∈ vs) ∧ EvT tt Γ2 true ∧ Ev te Γ2 (f x)) : EvN (tLc wi g tt te vs) Γ (xs.map f) := by
  have e := evn_lc (p := fun _ => true) (f := f) h hz fun x hx => by
    obtain ⟨is, Γ2, h1, h2, h3, h4⟩ := he x hx
    exact ⟨is, Γ2, h1, h2, h3, fun _ => h4⟩
  rw [List.filter_eq_self.mpr (fun _ _ => rfl)] at e
  exact e
end
theorem in_code {K : PySem.W.Frag} {l : List Nat} {c : Nat} : DR2 (rOr (rIn K false) rInS) (.str (ch c)) (.str (tx l)) (.bl (decide (c ∈ l))) := by
  have e := in_str' (K := K) (x := ch c) (y := tx l)
  rw [show (Builtin.Str.occurrences (tx l) (ch c) 0 (tx l).length 1).isEmpty = !decide (c ∈ l) from by rw [← Bool.not_not (Builtin.Str.occurrences (tx l) (ch c) 0 (tx l).length 1).isEmpty]; exact congrArg _ (SX.in_one l c), Bool.not_not] at e
  exact e
theorem nin_code {K : PySem.W.Frag} {l : List Nat} {c : Nat} : DR2 (rOr (rIn K true) rNinS) (.str (ch c)) (.str (tx l)) (.bl (!decide (c ∈ l))) := by
  refine dr2_r (dr2_flat fun W u v Q a b k => ⟨ch c, tx l, a, b, ?_⟩)
  rw [show (Builtin.Str.occurrences (tx l) (ch c) 0 (tx l).length 1).isEmpty = !decide (c ∈ l) from by rw [← Bool.not_not (Builtin.Str.occurrences (tx l) (ch c) 0 (tx l).length 1).isEmpty]; exact congrArg _ (SX.in_one l c), Bool.not_not]
  exact k _ rfl
section
variable {K : PySem.W.Frag} {i j : Int} {b : Bool} {x y : Str}
theorem le_b (h : decide (i ≤ j) = b) : DR2 (rI0 fun i j => .bl (decide (i ≤ j))) (.int i) (.int j) (.bl b) := h ▸ dr2_le
theorem ge_b (h : decide (j ≤ i) = b) : DR2 (rI0 fun i j => .bl (decide (j ≤ i))) (.int i) (.int j) (.bl b) := h ▸ dr2_ge
theorem gt_b (h : decide (j < i) = b) : DR2 (rI0 fun i j => .bl (decide (j < i))) (.int i) (.int j) (.bl b) := h ▸ dr2_gt
theorem lt_b (h : decide (i < j) = b) : DR2 (rOr (rI0 fun i j => .bl (decide (i < j))) rLtS) (.int i) (.int j) (.bl b) := h ▸ lt_int'
theorem lt_tx {l m : List Nat} : DR2 (rOr (rI0 fun i j => .bl (decide (i < j))) rLtS) (.str (tx l)) (.str (tx m)) (.bl (decide (l < m))) := by
  have e := lt_str' (x := tx l) (y := tx m)
  rw [tx_cps, tx_cps] at e
  exact e
theorem eq_ib (h : decide (i = j) = b) : DR2 (rEqX K) (.int i) (.int j) (.bl b) := h ▸ eq_int'
theorem eq_sb (h : decide (x = y) = b) : DR2 (rEqX K) (.str x) (.str y) (.bl b) := h ▸ eq_str'
theorem ne_sb (h : (!decide (x = y)) = b) : DR2 (rNeX K) (.str x) (.str y) (.bl b) := h ▸ ne_str'
end
/-- a and b, both true -/
theorem small {n : Nat} (h : n ≤ 100000) : n ≤ sizeLine := Nat.le_trans h (by decide)
end Dw

/-! Methods of lists with K named: within blocks X.K speaks of the block. -/
namespace Dw
open PySem PySem.Spec PyProof.Rows L2
variable {X : Cx} {o e : Expr} {es : List Expr} {to : TE} {t : TA} {name : Str} {apos cpos : Pos} {T id : String} {r : V → List V → Hp → VK → Prop}
theorem bmA (K : PySem.W.Frag) (pa : PlainAttrs T) (slot : Slot T name id) (hty : typeOf (.builtin id) = pure (.type "method_descriptor")) (hm : MtR X id r) (ho : PE X o to) (ha : PA X (e :: es) t) (hK : X.K = K := by rfl)
    (hbase : attributeBase o name X.env (eval o X.env) = eval o X.env := by rfl)
    (hfew : ((backTo cpos (starEach (e :: es) X.env)).all (fun x => !x.1) && (backToKw cpos (keywordEach [] X.env)).all (fun x => x.1.isSome)
      && decide ((e :: es).length + ([] : List Keyword).length + (if ([] : List Keyword).isEmpty then 0 else 1) < 30)) = true := by rfl)
    (hline : (apos.endLine == cpos.line) = true := by rfl) (hs : starEach (e :: es) X.env = (false, eval e X.env) :: starEach es X.env := by rfl) (hplain : (backTo cpos (starEach es X.env)).any (·.1) = false := by rfl) :
    PE X (.Call (.Attribute o name apos) (e :: es) [] cpos) (tBM K T r to t) := hK ▸ pe_bm pa slot hty hm ho ha hbase hfew hline hs hplain
theorem bm0A (K : PySem.W.Frag) (pa : PlainAttrs T) (slot : Slot T name id) (hty : typeOf (.builtin id) = pure (.type "method_descriptor")) (hm : MtR X id r) (ho : PE X o to) (hK : X.K = K := by rfl)
    (hbase : attributeBase o name X.env (eval o X.env) = eval o X.env := by rfl) (hline : (apos.endLine == cpos.line) = true := by rfl) : PE X (.Call (.Attribute o name apos) [] [] cpos) (tBM0 K T r to) := hK ▸ pe_bm0 pa slot hty hm ho hbase hline
end Dw

/-! The script (a list that the head gives), and a purse that is made and at once given on. -/
namespace Dw
open PySem PySem.Spec PyProof.Rows L2
section
variable {Γ : Gam} {K : PySem.W.Frag} {ta tb : TE} {vs : List V} {d : D} {i : Int}
theorem scr_sq {W : Wd} {v : V} (r : Rep W (.scr K vs) v) : ∃ a, v = .ref a ∧ SqL K W.H a vs := by
  obtain ⟨a, e, q⟩ := r
  refine ⟨a, e, ?_⟩
  rcases q with ⟨u, h, n, q⟩ | q
  · rcases q with rfl | ⟨o, rfl⟩
    · exact .inl (.inl h)
    · exact .inl (.inr ⟨o, h⟩)
  · exact .inr q
theorem rep_scr {H : Hp} {a : Addr} (h : SqL K H a vs) : Rep ⟨H, fun _ => False, fun _ => False⟩ (.scr K vs) (.ref a) := by
  refine ⟨a, rfl, ?_⟩
  rcases h with (h | ⟨o, h⟩) | q
  · exact .inl ⟨_, h, fun z => z, .inl rfl⟩
  · exact .inl ⟨_, h, fun z => z, .inr ⟨o, rfl⟩⟩
  · exact .inr q
theorem ev_lenX (h : Ev ta Γ (.scr K vs)) : Ev (tCB (rLen K) (tCons ta tNil)) Γ (.int vs.length) := fun F σ W Q g k => h F σ W _ g fun v H s r => by
  obtain ⟨a, e, q⟩ := scr_sq r
  exact .inl ⟨a, vs, by rw [e], .inl q, k _ H s rfl⟩
theorem ev_ixX {z : Int} (h : Ev ta Γ (.scr K vs)) (hb : Ev tb Γ (.int i)) (hz : atI vs i = some (.int z)) : Ev (tOp (rIx K) ta tb) Γ (.int z) := fun F σ W Q g k => h F σ W _ g fun v H s r => hb F σ (W.at H) _ (g.same s) fun u H' s' r' => by
  obtain ⟨a, e, q⟩ := scr_sq (r.same (W := W.at H) s')
  exact .inl ⟨a, vs, i, .int z, e, r', q, hz, k _ H' (Same.trans s s') rfl⟩
end
end Dw
namespace Dw
open PySem PySem.Spec PyProof.Rows L2
section
variable {Γ : Gam} {K : PySem.W.Frag} {ta tb te : TE} {ns : List Int} {d : D} {i : Int} {s : Spc} {E : XK}
def intD (ns : List Int) : List D := ns.map D.int
def cutI (ns : List Int) (lo hi : Option Int) : List Int := (ns.drop (HT.sIx ns.length 0 lo)).take (HT.sIx ns.length ns.length hi - HT.sIx ns.length 0 lo)
theorem evn_sliceX {tl th : TO} {lo hi : Option Int} (h : Ev te Γ (.scr K (ns.map V.int))) (h1 : Eo tl Γ lo) (h2 : Eo th Γ hi) : EvN (tSl (rSl K) te tl th) Γ (intD (cutI ns lo hi)) := fun F σ W Q g k => h F σ W _ g fun v H s r => h1 F σ (W.at H) _ (g.same s) fun H1 s1 => h2 F σ ((W.at H).at H1) _ ((g.same s).same s1) fun H2 s2 => by
  have sm : Same H H2 := Same.trans s1 s2
  obtain ⟨a, e, q⟩ := scr_sq (r.same (W := W.at H) sm)
  refine .inl ⟨a, _, e, q, fun p hp => k p _ _ (Same.trans s (Same.trans sm (same_upd hp))) (s.free (sm.free hp)) upd_same (RepL.ints.mpr ?_)⟩
  unfold cutI L2.cutV
  simp [List.map_take, List.map_drop]
theorem ev_int1 (h : Ev ta Γ (.int i)) : Ev (tCB (fun xs H Q => (∃ i, xs = [.int i] ∧ Q (.int i) H) ∨ ∃ k, xs = [.bl k] ∧ Q (.int (if k then 1 else 0)) H) (tCons ta tNil)) Γ (.int i) :=
  ev_cb (eva_cons h eva_nil) fun W us Q dom r k => by
    obtain ⟨v, _, rfl, rv, rfl⟩ := r
    exact .inl ⟨i, by rw [show v = V.int i from rv], k _ _ (Same.refl _) rfl⟩
theorem ev_abs (h : Ev ta Γ (.int i)) : Ev (tCB (fun xs H Q => ∃ i, xs = [.int i] ∧ Q (.int (if i < 0 then -i else i)) H) (tCons ta tNil)) Γ (.int (if i < 0 then -i else i)) :=
  ev_cb (eva_cons h eva_nil) fun W us Q dom r k => by
    obtain ⟨v, _, rfl, rv, rfl⟩ := r
    exact ⟨i, by rw [show v = V.int i from rv], k _ _ (Same.refl _) rfl⟩
theorem ev_max2 {j : Int} (h : Ev ta Γ (.int i)) (h' : Ev tb Γ (.int j)) : Ev (tCB (fun xs H Q => ∃ i j, xs = [.int i, .int j] ∧ Q (.int (if j > i then j else i)) H) (tCons ta (tCons tb tNil))) Γ (.int (if j > i then j else i)) :=
  ev_cb (eva_cons h (eva_cons h' eva_nil)) fun W us Q dom r k => by
    obtain ⟨v, _, rfl, rv, v', _, rfl, rv', rfl⟩ := r
    exact ⟨i, j, by rw [show v = V.int i from rv, show v' = V.int j from rv'], k _ _ (Same.refl _) rfl⟩
theorem ev_min2 {j : Int} (h : Ev ta Γ (.int i)) (h' : Ev tb Γ (.int j)) : Ev (tCB (fun xs H Q => ∃ i j, xs = [.int i, .int j] ∧ Q (.int (if j < i then j else i)) H) (tCons ta (tCons tb tNil))) Γ (.int (if j < i then j else i)) :=
  ev_cb (eva_cons h (eva_cons h' eva_nil)) fun W us Q dom r k => by
    obtain ⟨v, _, rfl, rv, v', _, rfl, rv', rfl⟩ := r
    exact ⟨i, j, by rw [show v = V.int i from rv, show v' = V.int j from rv'], k _ _ (Same.refl _) rfl⟩
/-- a def that makes a purse from the script -/
def toPurse (K : PySem.W.Frag) : Sp := fun vs H Q _ => ∃ (F : Addr → Prop) (W : Wd) (ns : List Int) (spot : Nat), W.H = H ∧ WOk F W ∧ RepL W [.scr K (ns.map V.int), .int spot] vs ∧ ns.length ≤ 63 ∧ spot ≤ 1000 ∧ (∀ z ∈ ns, Builtin.Int.intBits z ≤ 1048576) ∧
  ∀ (a : Addr) (x y c : Int) (W' : Wd) (H' : Hp), Stp F W W' → WOk F W' → Same W'.H H' → W'.H a = none → H' a = some (.lst [.int x, .int y, .int c]) → 0 ≤ x → 0 ≤ y → y < 2147483647 → Q (.ref a) H'
/-- one statement, where its ends are known -/
theorem ds_run {t : TS} {F : Addr → Prop} {σ : L2.St} {W : Wd} {Dr : Ends} {Γ' : Gam → Prop} (h : Ds t Γ ⟨Γ', fun _ => False, fun _ => False, fun _ => False⟩) (g : SR F Γ σ W) (k : ∀ σ' W' Γ2, Stp F W W' → SR F Γ2 σ' W' → Γ' Γ2 → Dr.nx σ' W'.H) : t Dr σ W.H :=
  h F σ W Dr g ⟨k, fun _ _ _ _ _ _ h => h.elim, fun _ _ _ _ _ h => h.elim, fun _ _ _ _ _ h => h.elim⟩
/-- right(purse(script, spot)) -/
theorem dl_purse {E2 : XK} {Q : D → Gam → Prop} {x : s.ty} {spot : Nat} (ha : s.args x = [.purse]) (ok : s.ok x) (hr : ∀ d, s.rel x d → d = .bl true) (h1 : Ev ta Γ (.scr K (ns.map V.int))) (h2 : Ev tb Γ (.int spot)) (hz : ns.length ≤ 63) (hs : spot ≤ 1000) (hbit : ∀ z ∈ ns, Builtin.Int.intBits z ≤ 1048576) (q : Q (.bl true) Γ) :
    Dl (tCall (toSp s) [] E (tCons (tCall (toPurse K) [] E2 (tCons ta (tCons tb tNil))) tNil)) Γ Q := fun F σ W R g k => by
  show tCons ta (tCons tb tNil) σ W.H (fun vs H1 => toPurse K (vs ++ []) H1 (fun v H2 => toSp s ([v] ++ []) H2 R E) E2)
  refine (eva_cons h1 (eva_cons h2 eva_nil)) F σ W _ g fun vs H s1 r => ?_
  have g1 := g.same s1
  rw [List.append_nil]
  refine ⟨_, W.at H, ns, spot, rfl, g1.callOk, r, hz, hs, hbit, fun a x' y c' W' H' st ok' sm hn ha' h0 h0' h0y => ?_⟩
  have g2 := g1.call st ok'
  have okc := g2.callOk
  have nu : ¬ W'.U a := g2.ok.new hn
  refine ⟨x, _, ⟨H', fun b => W'.U b ∨ b = a, fun b => W'.P b ∨ b = a⟩, rfl, ⟨fun b z => ?_, fun b z => .inl (okc.fu b z), fun b z => ?_⟩, ?_, ok, fun d v W2 hd st2 ok2 r2 => ?_⟩
  · rcases z with z | rfl
    · exact fun e => okc.dom b z (sm.free e)
    · show H' b ≠ none
      rw [ha']; exact fun e => nomatch e
  · rcases z with z | rfl
    · obtain ⟨u, f, p1, p2, e1, e2, e3, e4⟩ := okc.pu b z
      exact ⟨.inl u, f, p1, p2, e1, e2, e3, sm _ _ e4⟩
    · exact ⟨.inr rfl, fun z => nu (okc.fu b z), (x', c'), y, h0, h0', h0y, ha'⟩
  · rw [ha]
    exact RepL.one ⟨a, rfl, .inr rfl⟩
  · have hd' := hr d hd
    subst hd'
    have stc : Stp (fun b => F b ∨ ownA Γ σ b) W' ⟨W2.H, W2.U, W'.P⟩ := ⟨fun b u e n => by
        have nb : b ≠ a := fun z => by rw [z, hn] at e; cases e
        obtain ⟨e2, n2⟩ := st2.keep b u (sm _ _ e) fun z => z.elim n nb
        exact ⟨e2, n2⟩, rfl, fun b z => by
        refine (st2.fr b z).trans ?_
        show H' b = W'.H b
        cases q : W'.H b with
        | none => exact absurd q (okc.dom b (okc.fu b z))
        | some u => exact sm _ _ q⟩
    have okc2 : WOk (fun b => F b ∨ ownA Γ σ b) ⟨W2.H, W2.U, W'.P⟩ := ⟨ok2.dom, ok2.fu, fun b z => by
      have := ok2.pu b (by rw [st2.pur]; exact .inl z)
      exact this⟩
    have st0 : Stp F W ⟨W2.H, W2.U, W'.P⟩ := (Stp.of_same g.ok s1).trans (((st.trans stc)).sub fun _ z => .inl z)
    exact k v ⟨W2.H, W2.U, W'.P⟩ (.bl true) Γ st0 (g2.call stc okc2) r2 q
end
end Dw

/-! sorted(a tuple of ints), xs[::k]. -/
namespace Dw
open PySem PySem.Spec PyProof.Rows L2
section
variable {prog : Program} {w : World} {A : Around} {E : Value → Shared → Prop} {s : Shared}
/-- what sorted's own gathering gives of a tuple -/
theorem collect_T {l : Addr} {vs : List Value} {Q : List Value → Shared → Prop} (hl : s.heap.IsTuple l vs.toArray) (hz : vs.length ≤ sizeLine) (h : Q vs { s with heap := (s.heap.push (seqObj "list" #[] 0)).update s.heap.objs.size (Obj.mapSeq (· ++ vs.toArray)) }) : wpAny (model prog w) A (collect (.ref l)) Q E s := by
  obtain ⟨o, ho, hc, n, hd⟩ := id hl; unfold collect
  refine wpAny_bind (wpAny_runValue (codeAny_builtin entry_proto_collect' ?_))
  show wpAny _ _ (do again (.builtin "list.__iadd__" ⟨[← newList [], .ref l], []⟩)) _ _ s; refine wpAny_bind (wpAny_newList (wpAny_pure ⟨Code.quiet_builtin _ (by decide +kernel), codeAny_builtin entry_list_iadd' ?_⟩)); show wpAny _ _ (Builtin.List.listExtendWith (.ref s.heap.objs.size) (.ref l) (.ref s.heap.objs.size)) _ _ { s with heap := s.heap.push (seqObj "list" #[] 0) }; unfold Builtin.List.listExtendWith
  have ho' : (s.heap.push (seqObj "list" #[] 0)).get? l = some o := Heap.get?_push_of_some _ ho
  refine wpAny_bind (wpAny_typeOf (T := "tuple") ⟨o, ho', hc⟩ ?_)
  have ht : (Value.type "tuple" == Value.type "tuple") = true := by rfl
  rw [if_pos (by rw [ht]; simp)]
  refine wpAny_bind (listItems_at ho' hd ?_); refine wpAny_bind (listItems_at (xs := #[]) (n := 0) (Heap.get?_push_size _ rfl) rfl ?_)
  rw [if_neg (by simp)]
  refine wpAny_bind (listUpdate_at (xs := #[]) (n := 0) (Heap.get?_push_size _ rfl) rfl ?_ (Nat.zero_le _) (by show (#[] ++ vs.toArray).size ≤ sizeLine + 1; simp only [Array.size_append, List.size_toArray, List.length_nil]; omega)); refine wpAny_pure ?_
  show wpAny (model prog w) A (do
      let o ← load s.heap.objs.size
      match o.data with
      | .seq xs _ => pure xs.toList
      | _ => unsupported "internal:collect") Q E { s with heap := (s.heap.push (seqObj "list" #[] 0)).update s.heap.objs.size (Obj.mapSeq (· ++ vs.toArray)) }
  refine wpAny_bind (wpAny_load (get?_update_seq (Heap.get?_push_size _ rfl) _) ?_); show wpAny _ _ (pure ((#[] : Array Value) ++ vs.toArray).toList) Q E _
  rw [show ((#[] : Array Value) ++ vs.toArray).toList = vs by simp]; exact wpAny_pure h
theorem sorted_T {l : Addr} {vs : List Value} {ns : List Int} {Q : Value → Shared → Prop} (hl : s.heap.IsTuple l vs.toArray) (hI : IntsAre vs ns) (h64 : vs.length < 64) (h : ∀ (out : Array Value) (ns' : List Int), IntsAre out.toList ns' → ns'.Perm ns → ns'.Pairwise (· ≤ ·) → Q (.ref (s.heap.objs.size + 1)) { s with heap := sortedAll s.heap vs out }) : wpAny (model prog w) A (call (.builtin "sorted") [.ref l]) Q E s := by
  refine Calls.call_function_entry kind_sorted plain_sorted entry_sorted (args_sorted1 _) ?_; unfold Builtin.«sorted»
  refine wpAny_bind (m := checkCount "sorted" 1 1 _) (wpAny_pure ?_); refine wpAny_bind (collect_T hl (small64 h64) ?_); refine wpAny_bind (wpAny_newList ?_)
  have hsz : ((s.heap.push (seqObj "list" #[] 0)).update s.heap.objs.size (Obj.mapSeq (· ++ vs.toArray))).objs.size = s.heap.objs.size + 1 := by rw [Heap.size_update, size_push']
  have hoL : (((s.heap.push (seqObj "list" #[] 0)).update s.heap.objs.size (Obj.mapSeq (· ++ vs.toArray))).push (seqObj "list" vs.toArray 0)).get? (s.heap.objs.size + 1) = some (seqObj "list" vs.toArray 0) := by rw [← hsz]; exact Heap.get?_push_size _ rfl
  show wpAny _ _ _ _ _ { s with heap := ((s.heap.push (seqObj "list" #[] 0)).update s.heap.objs.size (Obj.mapSeq (· ++ vs.toArray))).push (seqObj "list" vs.toArray 0) }; rw [hsz]
  refine wpAny_bind (wpAny_holding (wpAny_call_entry slot_list_sort ⟨_, hoL, rfl⟩ entry_list_sort (list_sort_tree hoL hI h64 fun out ns' a1 a2 a3 => ⟨_, rfl, ?_⟩) (args_list_sort _))); exact wpAny_pure ⟨_, rfl, h out ns' a1 a2 a3⟩
end
/-- sorted(t), t a tuple of ints -/
def rSortT (K : PySem.W.Frag) : List V → Hp → VK → Prop := fun vs H Q => ∃ (a : Addr) (ns : List Int), vs = [V.ref a] ∧ SqT K H a (ns.map V.int) ∧ ns.length < 64 ∧
  ∀ (ns' : List Int) (p : Addr), ns'.Perm ns → ns'.Pairwise (· ≤ ·) → H p = none → Q (.ref p) (upd H p (.lst (ns'.map V.int)))
theorem cr_sortT {X : Cx} : CallR X (.builtin "sorted") (rSortT X.K) := by
  intro pins s σ H vs us Q I r h
  obtain ⟨a, ns, rfl, hs, h64, q⟩ := h
  obtain ⟨its, rv, hl, _⟩ := I.tuple hs
  rw [Vals.ref1 r]
  have hi := rv.ints
  refine sorted_T hl hi (by rw [hi.length]; exact h64) fun out ns' h1 h2 h3 => ?_
  obtain ⟨ep, he'⟩ := PyProof.Rows.sortedAll_at s.heap its out
  have hlen : (ns'.map V.int).length ≤ sizeLine := by rw [List.length_map, h2.length_eq]; exact small64 h64
  exact ⟨.ref _, upd H (s.heap.objs.size + 1) (.lst (ns'.map V.int)), I.laid (t' := s.toks) (fun _ _ => PyProof.Rows.sortedAll_old) (Nat.le_succ _) ⟨hlen, out.toList, ep, vals_of_ints h1, he'⟩, rfl, q ns' _ h2 h3 (I.hok.fresh (Nat.le_succ _))⟩
theorem sortTA {X : Cx} (K : PySem.W.Frag) (hK : X.K = K := by rfl) : CallR X (.builtin "sorted") (rSortT K) := hK ▸ cr_sortT

/-! ### xs[::k] -/
theorem pick_1 (items : Array Value) : slicePick items none none (some 1) = items := by
  have e : slicePick items none none (some 1) = slicePick items none none none := rfl
  rw [e, slicePick_all]
theorem fm_all {α β : Type} {f : α → Option β} {g : α → β} : ∀ {l : List α}, (∀ x ∈ l, f x = some (g x)) → l.filterMap f = l.map g
  | [], _ => rfl
  | a :: l, h => by rw [List.filterMap_cons, h a List.mem_cons_self, List.map_cons, fm_all fun x hx => h x (List.mem_cons_of_mem _ hx)]
theorem pick_m1 (items : Array Value) : slicePick items none none (some (-1)) = items.toList.reverse.toArray := by
  have e : sliceBounds none none (some (-1)) items.size = ((items.size : Int) - 1, -1, -1) := by simp [sliceBounds]
  unfold slicePick
  rw [e]
  congr 1
  have e2 : sliceRange ((items.size : Int) - 1) (-1) (-1) = (List.range items.size).map fun k => items.size - 1 - k := by
    unfold sliceRange
    rw [if_neg (by decide)]
    dsimp only
    have : ((if (items.size : Int) - 1 > -1 then ((items.size : Int) - 1 - -1 - -1 - 1) / (- -1) else 0 : Int)).toNat = items.size := by
      by_cases h : (items.size : Int) - 1 > -1
      · rw [if_pos h]
        have : ((items.size : Int) - 1 - -1 - -1 - 1) / (- -1) = items.size := by
          rw [show (- -1 : Int) = 1 by decide, Int.ediv_one]; omega
        rw [this]; simp
      · rw [if_neg h]; omega
    rw [this]
    apply List.map_congr_left
    intro k hk
    have := List.mem_range.mp hk
    omega
  rw [e2]
  apply List.ext_getElem?
  intro i
  have e3 : ((List.range items.size).map fun k => items.size - 1 - k).filterMap (items[·]?) = (List.range items.size).filterMap fun k => items[items.size - 1 - k]? := by
    rw [List.filterMap_map]; rfl
  simp only [e3]
  have e4 : (List.range items.size).filterMap (fun k => items[items.size - 1 - k]?) = (List.range items.size).map fun k => (items.toList.reverse)[k]?.getD default := by
    refine fm_all fun k hk => ?_
    have hk := List.mem_range.mp hk
    rw [List.getElem?_reverse (by simpa using hk)]
    have h1 : items.size - 1 - k < items.size := by omega
    rw [Array.getElem?_eq_getElem h1]
    simp only [Function.comp, Array.length_toList]
    rw [List.getElem?_eq_getElem (by simpa using h1)]
    simp
  rw [e4, List.getElem?_map]
  by_cases hi : i < items.size
  · rw [List.getElem?_range hi, Option.map_some, List.getElem?_eq_getElem (by simpa using hi)]; rfl
  · rw [List.getElem?_eq_none (by simpa using hi), List.getElem?_eq_none (by simpa using hi)]; rfl
def tSl3 (K : PySem.W.Frag) (ta tk : TE) : TE := fun σ H Q => ta σ H fun x H1 => tk σ H1 fun y H2 => ∃ a xs k, x = .ref a ∧ y = .int k ∧ SqL K H2 a xs ∧ ((k = 1 ∧ ∀ p, H2 p = none → Q (.ref p) (upd H2 p (.lst xs))) ∨ (k = -1 ∧ ∀ p, H2 p = none → Q (.ref p) (upd H2 p (.lst xs.reverse))))
theorem Vals_reverse {xs : List V} {us : List Value} (r : Vals xs us) : Vals xs.reverse us.reverse := by
  induction r with
  | nil => exact .nil
  | cons h r ih => rw [List.reverse_cons, List.reverse_cons]; exact ih.append (.cons h .nil)
theorem sl3_len {its us : List Value} {n : Nat} (h : its.length = n) (h' : us.length = its.length) : us.length = n := h'.trans h
theorem pe_slice3 {X : Cx} {e e3 : Expr} {ta tk : TE} {p2 pos : Pos} (he : PE X e ta) (hk : PE X e3 tk) : PE X (.Subscript e (.Slice none none (some e3) p2) pos) (tSl3 X.K ta tk) := by
  refine ⟨fun pins s σ H Q I h => ?_⟩
  refine Subscript_ (thn (he.run pins s σ H _ I h) fun v s1 ⟨x, H1, I1, r1, q1⟩ => ?_)
  refine wpAny_Slice ?_
  rw [evalPart_none]
  refine wpAny_pure (wpAny_pure ?_)
  refine thn (hk.run pins s1 σ H1 _ I1 q1) fun vk s3 ⟨y, H3, I3, rk, q3⟩ => ?_
  obtain ⟨a, xs, k, rfl, rfl, hx, q⟩ := q3
  obtain ⟨tk', rfl⟩ := rk
  cases r1
  have I4 : Inv X pins σ H3 { s3 with heap := s3.heap.push { cls := .type "slice", data := .fields #[.none, .none, .int k tk'] } } := I3.kept (t' := s3.toks) fun b ob q => Heap.get?_push_of_some _ q
  generalize hs4 : ({ s3 with heap := s3.heap.push { cls := .type "slice", data := .fields #[.none, .none, .int k tk'] } } : Shared) = s4 at I4 ⊢
  have hsl : s4.heap.IsSliceOf s3.heap.objs.size .none .none (.int k tk') := by rw [← hs4]; exact Heap.IsSliceOf.new ..
  obtain ⟨its, r, ht, hz⟩ := I4.list hx
  have hlen := r.length
  show wpAny (model X.prog X.w) X.A (subscriptTail e (.Slice none none (some e3) p2) (.ref a) (.ref s3.heap.objs.size)) (EP X pins σ Q) X.xe s4
  refine tail_any (ops := [.ref a, .ref s3.heap.objs.size]) ht.isList.typeIs slot_list_getitem.lookup ?_ (by with_unfolding_all rfl)
  refine wpAny_getItem_list_slice ht.isList hsl .none .none (.int k tk') (fun z => ?_) ?_ (by rw [List.size_toArray] <;> omega)
  · rcases q with ⟨rfl, _⟩ | ⟨rfl, _⟩ <;> cases z
  rcases q with ⟨rfl, q⟩ | ⟨rfl, q⟩
  · rw [pick_1]
    refine ⟨.ref s4.heap.objs.size, _, I4.laid (t' := s4.toks) (o := .lst xs) (fun b ob q => Heap.get?_push_of_some _ q) (Nat.le_refl _) ?_, rfl, q _ (I4.hok.fresh (Nat.le_refl _))⟩
    exact ⟨hz, its, 0, r, Heap.get?_push_size _ rfl⟩
  · rw [pick_m1, List.toList_toArray]
    refine ⟨.ref s4.heap.objs.size, _, I4.laid (t' := s4.toks) (o := .lst xs.reverse) (fun b ob q => Heap.get?_push_of_some _ q) (Nat.le_refl _) ?_, rfl, q _ (I4.hok.fresh (Nat.le_refl _))⟩
    exact ⟨by rw [List.length_reverse]; exact hz, its.reverse, 0, Vals_reverse r, Heap.get?_push_size _ rfl⟩
theorem slice3A {X : Cx} {e e3 : Expr} {ta tk : TE} {p2 pos : Pos} (K : PySem.W.Frag) (he : PE X e ta) (hk : PE X e3 tk) (hK : X.K = K := by rfl) : PE X (.Subscript e (.Slice none none (some e3) p2) pos) (tSl3 K ta tk) := hK ▸ pe_slice3 he hk
/-! ### text * int -/
def rMulS : R2 := fun x y H Q => ∃ i j, x = .str i ∧ y = .int j ∧ MulOk i j ∧ Q (.str (Txt.mul i j)) H
theorem op_mulS {X : Cx} : OpR X (binaryOp .Mult) rMulS := by
  intro pins s σ H x y v u Q I rx ry h
  obtain ⟨i, j, rfl, rfl, hz, q⟩ := h
  obtain ⟨t, rfl⟩ := rx
  obtain ⟨t', rfl⟩ := ry
  exact SB.mul hz fun t' tk => ⟨.str (Txt.mul i j), H, I.tok _, ⟨_, rfl⟩, q⟩
end Dw

/-! while, xs[::k], sorted of a tuple, equality of nested data. -/
namespace Dw
open PySem PySem.Spec PyProof.Rows L2
section
variable {K : PySem.W.Frag} {Γ : Gam} {ta tb te tk : TE} {De : DE} {ds es : List D} {d : D}
theorem ds_while {c : TT} {tb : TS} (J : Nat → Gam → Prop) (m0 : Nat) (h0 : J m0 Γ)
    (hs : ∀ m Γ', J m Γ' → DlT c Γ' fun b Γ1 => (b = true → Ds tb Γ1 ⟨fun Γ2 => ∃ m', m' < m ∧ J m' Γ2, De.rt, De.nx, fun Γ2 => ∃ m', m' < m ∧ J m' Γ2⟩) ∧ (b = false → De.nx Γ1)) : Ds (tWhile c tb) Γ De := fun F σ W Dr g l => by
  refine ⟨fun m σ' H' => ∃ W' Γ', W'.H = H' ∧ Stp F W W' ∧ SR F Γ' σ' W' ∧ J m Γ', ⟨m0, W, Γ, rfl, .refl _, g, h0⟩, ?_⟩
  rintro m σ' H' ⟨W', Γ', rfl, s', g', j⟩
  refine hs m Γ' j F σ' W' _ g' fun b W1 Γ1 s1 g1 q => ?_
  cases b with
  | false => rw [if_neg (by decide)]; exact l.nx σ' W1 Γ1 (s'.trans s1) g1 (q.2 rfl)
  | true =>
    rw [if_pos rfl]
    refine ⟨fun σ2 H2 => ∃ m', m' < m ∧ ∃ W2 Γ2, W2.H = H2 ∧ Stp F W W2 ∧ SR F Γ2 σ2 W2 ∧ J m' Γ2, fun σ2 H2 q => q, ?_⟩
    have s2 := s'.trans s1
    exact q.1 rfl F σ' W1 _ g1 ⟨fun σ4 W4 Γ4 s4 g4 ⟨m', hm, q⟩ => ⟨m', hm, W4, Γ4, rfl, s2.trans s4, g4, q⟩, fun v W4 d s4 ok4 r4 q => l.rt v W4 d (s2.trans s4) ok4 r4 q, fun σ4 W4 Γ4 s4 g4 q => l.nx σ4 W4 Γ4 (s2.trans s4) g4 q, fun σ4 W4 Γ4 s4 g4 ⟨m', hm, q⟩ => ⟨m', hm, W4, Γ4, rfl, s2.trans s4, g4, q⟩⟩
theorem repL_rev {W : Wd} : ∀ {ds : List D} {vs : List V}, RepL W ds vs → RepL W ds.reverse vs.reverse
  | [], vs, l => by rw [show vs = [] from l]; rfl
  | d :: ds, _, ⟨v, vs, rfl, h, l⟩ => by
    rw [List.reverse_cons, List.reverse_cons]
    exact (repL_rev l).append (RepL.one h)
theorem evn_slice3 {k : Int} (h : EvB ta Γ ds) (hk : Ev tk Γ (.int k)) (h1 : k = 1 ∨ k = -1) : EvN (tSl3 K ta tk) Γ (if k = 1 then ds else ds.reverse) := fun F σ W Q g q =>
  h F σ W _ g fun a vs H s e l => hk F σ (W.at H) _ (g.same s) fun u H2 s2 r => ⟨a, vs, k, rfl, r, .of (s2 _ _ e), by
    rcases h1 with rfl | rfl
    · exact .inl ⟨rfl, fun p hp => q p vs _ (Same.trans s (Same.trans s2 (same_upd hp))) (s.free (s2.free hp)) upd_same (by
        rw [if_pos rfl]
        exact RepL.plus (W := W.at H2) hp (same_upd hp) (RepL.same (W := W.at H) s2 l))⟩
    · exact .inr ⟨rfl, fun p hp => q p vs.reverse _ (Same.trans s (Same.trans s2 (same_upd hp))) (s.free (s2.free hp)) upd_same (by
        rw [if_neg (by decide)]
        exact RepL.plus (W := W.at H2) hp (same_upd hp) (repL_rev (RepL.same (W := W.at H) s2 l)))⟩⟩
theorem evn_sortT {ns ms : List Int} (h : Ev ta Γ (.tup (ns.map D.int))) (h64 : ns.length < 64) (hu : ∀ ns' : List Int, ns'.Perm ns → ns'.Pairwise (· ≤ ·) → ns' = ms) : EvN (tCB (rSortT K) (tCons ta tNil)) Γ (ms.map D.int) := fun F σ W Q g k =>
  h F σ W _ g fun v H s ⟨a, vs, ev, e, nu, l⟩ => by
    subst ev
    refine ⟨a, ns, rfl, (RepL.ints.mp l ▸ e.sq), h64, fun ns' p hp hs hn => ?_⟩
    have := hu ns' hp hs
    subst this
    exact k p _ _ (Same.trans s (same_upd hn)) (s.free hn) upd_same (RepL.ints.mpr rfl)
end
/-! ### nested data: what may be compared -/
mutual
def dOk : Nat → D → Bool
  | _, .non => true | _, .bl _ => true | _, .int _ => true | _, .str x => PyData.strOk x
  | 0, _ => false
  | k + 1, .tup ds => dOks k ds | k + 1, .lst ds => dOks k ds | k + 1, .tupN ds => dOks k ds
  | _ + 1, .obj _ _ _ => false | _ + 1, .raw _ => false | _ + 1, .purse => false | _ + 1, .rng _ _ => false | _ + 1, .dct _ _ => false | _ + 1, .scr _ _ => false
def dOks : Nat → List D → Bool
  | _, [] => true
  | k, d :: ds => dOk k d && dOks k ds
end
mutual
theorem dOk_py : ∀ (k : Nat) (d : D), dOk k d = true → isPy d = true ∧ PyData.canLay0 (py d) = true ∧ PyData.depth (py d) ≤ k
  | k, .non, _ => ⟨rfl, rfl, Nat.zero_le _⟩
  | k, .bl _, _ => ⟨rfl, rfl, Nat.zero_le _⟩
  | k, .int _, _ => ⟨rfl, rfl, Nat.zero_le _⟩
  | k, .str x, h => ⟨rfl, by cases k <;> exact h, Nat.zero_le _⟩
  | k + 1, .tup ds, h => by
    obtain ⟨h1, h2, h3⟩ := dOks_py k ds h
    exact ⟨h1, h2, Nat.succ_le_succ h3⟩
  | k + 1, .lst ds, h => by
    obtain ⟨h1, h2, h3⟩ := dOks_py k ds h
    exact ⟨h1, h2, Nat.succ_le_succ h3⟩
  | k + 1, .tupN ds, h => by
    obtain ⟨h1, h2, h3⟩ := dOks_py k ds h
    exact ⟨h1, h2, Nat.succ_le_succ h3⟩
  | 0, .tupN _, h => nomatch h
  | 0, .tup _, h => nomatch h
  | 0, .lst _, h => nomatch h
  | 0, .obj _ _ _, h => nomatch h
  | 0, .raw _, h => nomatch h
  | 0, .purse, h => nomatch h
  | 0, .rng _ _, h => nomatch h
  | 0, .dct _ _, h => nomatch h
  | 0, .scr _ _, h => nomatch h
  | _ + 1, .obj _ _ _, h => nomatch h
  | _ + 1, .raw _, h => nomatch h
  | _ + 1, .purse, h => nomatch h
  | _ + 1, .rng _ _, h => nomatch h
  | _ + 1, .dct _ _, h => nomatch h
  | _ + 1, .scr _ _, h => nomatch h
theorem dOks_py : ∀ (k : Nat) (ds : List D), dOks k ds = true → isPys ds = true ∧ PyData.canLayAll0 (pys ds) = true ∧ PyData.depthAll (pys ds) ≤ k
  | k, [], _ => ⟨rfl, rfl, Nat.zero_le _⟩
  | k, d :: ds, h => by
    have h : (dOk k d && dOks k ds) = true := by cases k <;> exact h
    rw [Bool.and_eq_true] at h
    obtain ⟨a1, a2, a3⟩ := dOk_py k d h.1
    obtain ⟨b1, b2, b3⟩ := dOks_py k ds h.2
    exact ⟨by show (isPy d && isPys ds) = true; rw [a1, b1]; rfl, by show (PyData.canLay0 (py d) && PyData.canLayAll0 (pys ds)) = true; rw [a2, b2]; rfl, Nat.max_le.mpr ⟨a3, b3⟩⟩
end
theorem dOk_shaped {k : Nat} {d : D} (h : dOk k d = true) (hk : k ≤ 64) : isPy d = true ∧ SeqAt.shaped (py d) = true := by
  obtain ⟨h1, h2, h3⟩ := dOk_py k d h
  refine ⟨h1, ?_⟩
  show (PyData.canLay0 (py d) && decide (PyData.depth (py d) ≤ 64)) = true
  rw [h2, decide_eq_true (Nat.le_trans h3 hk)]; rfl
theorem dOks_map {α : Type} {k : Nat} {f : α → D} : ∀ {l : List α}, (∀ x ∈ l, dOk k (f x) = true) → dOks k (l.map f) = true
  | [], _ => by cases k <;> rfl
  | x :: l, h => by
    have e : dOks k ((x :: l).map f) = (dOk k (f x) && dOks k (l.map f)) := by cases k <;> rfl
    rw [e, h x List.mem_cons_self, dOks_map fun y hy => h y (List.mem_cons_of_mem _ hy)]; rfl
section
variable {K : PySem.W.Frag} {d : D} {ds es : List D} {k : Nat}
theorem eq_self (h : dOk k d = true) (hk : k ≤ 64) : DR2 (rEqX K) d d (.bl true) := by
  obtain ⟨h1, h2⟩ := dOk_shaped h hk
  have := eq_deep (K := K) h1 h1 h2 h2
  rw [SeqAt.eqv_refl _ (dOk_py k d h).2.1] at this
  exact this
theorem ne_self (h : dOk k d = true) (hk : k ≤ 64) : DR2 (rNeX K) d d (.bl false) := by
  obtain ⟨h1, h2⟩ := dOk_shaped h hk
  have := ne_deep (K := K) h1 h1 h2 h2
  rw [SeqAt.eqv_refl _ (dOk_py k d h).2.1] at this
  exact this
theorem eqv_nil : ∀ ds : List D, PyData.eqvAll (pys ds) (pys []) = ds.isEmpty
  | [] => rfl
  | _ :: _ => rfl
theorem eq_nil (h : dOk k (.lst ds) = true) (hk : k ≤ 64) : DR2 (rEqX K) (.lst ds) (.lst []) (.bl ds.isEmpty) := by
  obtain ⟨h1, h2⟩ := dOk_shaped h hk
  have := eq_deep (K := K) (q := .lst []) h1 rfl h2 rfl
  rw [show PyData.eqv (py (.lst ds)) (py (.lst [])) = PyData.eqvAll (pys ds) (pys []) from rfl, eqv_nil] at this
  exact this
theorem ne_nil (h : dOk k (.lst ds) = true) (hk : k ≤ 64) : DR2 (rNeX K) (.lst ds) (.lst []) (.bl (!ds.isEmpty)) := by
  obtain ⟨h1, h2⟩ := dOk_shaped h hk
  have := ne_deep (K := K) (q := .lst []) h1 rfl h2 rfl
  rw [show PyData.eqv (py (.lst ds)) (py (.lst [])) = PyData.eqvAll (pys ds) (pys []) from rfl, eqv_nil] at this
  exact this
theorem ne_nilT (h : dOk k (.tup ds) = true) (hk : k ≤ 64) : DR2 (rNeX K) (.tup ds) (.tup []) (.bl (!ds.isEmpty)) := by
  obtain ⟨h1, h2⟩ := dOk_shaped h hk
  have := ne_deep (K := K) (q := .tup []) h1 rfl h2 rfl
  rw [show PyData.eqv (py (.tup ds)) (py (.tup [])) = PyData.eqvAll (pys ds) (pys []) from rfl, eqv_nil] at this
  exact this
theorem ne_bl (a b : Bool) : DR2 (rNeX K) (.bl a) (.bl b) (.bl (a != b)) := by
  have := ne_deep (K := K) (p := .bl a) (q := .bl b) rfl rfl rfl rfl
  rw [show PyData.eqv (py (.bl a)) (py (.bl b)) = (a == b) from rfl] at this
  exact this
end
section
variable {K : PySem.W.Frag} {Γ : Gam} {ta tb : TE}
theorem mul_ok {n : Nat} (h : n ≤ 8) : MulOk (Str.ofString ".") (n : Int) ∧ Txt.mul (Str.ofString ".") (n : Int) = tx (List.replicate n 46) := by
  have hn : n = 0 ∨ n = 1 ∨ n = 2 ∨ n = 3 ∨ n = 4 ∨ n = 5 ∨ n = 6 ∨ n = 7 ∨ n = 8 := by omega
  unfold MulOk
  rcases hn with rfl | rfl | rfl | rfl | rfl | rfl | rfl | rfl | rfl <;> exact ⟨by decide +kernel, by decide +kernel⟩
theorem mul_dots {n : Nat} (h : n ≤ 8) : DR2 rMulS (.str (Str.ofString ".")) (.int n) (.str (tx (List.replicate n 46))) := dr2_flat fun W u v Q a b k => ⟨_, _, a, b, (mul_ok h).1, k _ (by rw [(mul_ok h).2]; rfl)⟩
theorem ev_neg {i : Int} (h : Ev ta Γ (.int i)) : Ev (tUn (rU fun i => .int (-i)) ta) Γ (.int (-i)) := ev_un h fun W u Q dom r k => ⟨i, r, k _ _ (Same.refl _) rfl⟩
/-- whole numbers in a list -/
def ordN (o : List Nat) : List D := o.map fun (k : Nat) => D.int k
theorem inV_ord (c : Nat) : ∀ l : List Nat, inV (.int (c : Int)) ((ordN l).map scV) = decide (c ∈ l)
  | [] => rfl
  | b :: l => by
    show ((decide ((b : Int) = (c : Int))) || inV (.int (c : Int)) ((ordN l).map scV)) = _
    rw [inV_ord c l, Bool.eq_iff_iff]
    simp only [Bool.or_eq_true, decide_eq_true_eq, List.mem_cons, Int.natCast_inj]
    constructor
    · rintro (h | h)
      · exact .inl h.symm
      · exact .inr h
    · rintro (h | h)
      · exact .inl h.symm
      · exact .inr h
theorem sc_ord (l : List Nat) : (ordN l).all isSc = true := by
  unfold ordN
  rw [List.all_map, List.all_eq_true]
  exact fun _ _ => rfl
theorem ev_inO {neg : Bool} {r' : R2} {c : Nat} {l : List Nat} (ha : Ev ta Γ (.int c)) (h : EvB tb Γ (ordN l)) : Ev (tOp (rOr (rIn K neg) r') ta tb) Γ (.bl (if neg then !decide (c ∈ l) else decide (c ∈ l))) := by
  have e := ev_in (neg := neg) (K := K) (r' := r') ha h rfl (sc_ord l)
  rw [show scV (.int (c : Int)) = V.int (c : Int) from rfl, inV_ord c l] at e
  exact e
end
end Dw

/-! sorted(set(t)), t a tuple of ints. -/
namespace Dw
open PySem PySem.Spec PyProof.Rows L2
def rSetT (K : PySem.W.Frag) (w : World) : List V → Hp → VK → Prop := fun vs H Q => ∃ (a : Addr) (ns : List Int), vs = [V.ref a] ∧ SqT K H a (ns.map V.int) ∧ ns.length < 64 ∧
  ∀ (p : Addr) (c : Nat), H p = none → c ≤ ns.length → Q (.ref p) (upd H p (SetO w p (fun j => decide (j ∈ ns)) c))
theorem cr_setT {X : Cx} (hc : X.calm = true) : CallR X (.type "set") (rSetT X.K X.w) := by
  intro pins s σ H vs us Q I r h
  obtain ⟨a, ns, rfl, hs, h64, q⟩ := h
  obtain ⟨its, rv, pt, _⟩ := I.tuple hs
  rw [Vals.ref1 r]
  have hi : IntsAre its.toArray.toList ns := ints_of_vals rv
  refine call_set_tupI ns (I.ok.hd hc) (show s.heap.IsTuple a its.toArray from pt) hi (by unfold scanBound; omega) fun h' tk c R1 hcn k => ?_
  exact ⟨.ref _, upd H s.heap.objs.size (SetO X.w s.heap.objs.size (fun j => decide (j ∈ ns)) c), I.laid (t' := tk) k (Nat.le_refl _) (setO_new R1), rfl, q _ c (I.hok.fresh (Nat.le_refl _)) hcn⟩
theorem setTA {X : Cx} (K : PySem.W.Frag) (w : World) (hc : X.calm = true := by rfl) (hK : X.K = K := by rfl) (hw : X.w = w := by rfl) : CallR X (.type "set") (rSetT K w) := hK ▸ hw ▸ cr_setT hc
theorem sortSetA {X : Cx} (w : World) (hc : X.calm = true := by rfl) (hw : X.w = w := by rfl) : CallR X (.builtin "sorted") (rSortedSet w) := hw ▸ cr_sortedSet hc
theorem pw_ext : ∀ {a b : List Int}, a.Pairwise (· < ·) → b.Pairwise (· < ·) → (∀ k, k ∈ a ↔ k ∈ b) → a = b := by
  intro a b ha hb h
  have nd : ∀ {l : List Int}, l.Pairwise (· < ·) → l.Nodup := fun h => h.imp fun {a b} h => by omega
  have np : ∀ (a b : List Int), a.Nodup → b.Nodup → (∀ k, k ∈ a ↔ k ∈ b) → a.Perm b := by
    intro a
    induction a with
    | nil =>
      intro b _ _ h
      cases b with
      | nil => exact .refl _
      | cons x b => exact absurd ((h x).mpr List.mem_cons_self) (by simp)
    | cons x a ih =>
      intro b na nb h
      have hx : x ∈ b := (h x).mp List.mem_cons_self
      have p := List.perm_cons_erase hx
      obtain ⟨n1, n2⟩ := List.nodup_cons.mp na
      refine ((ih (b.erase x) n2 (nb.erase x) fun k => ?_).cons x).trans p.symm
      constructor
      · intro hk
        have hne : k ≠ x := fun e => n1 (by rw [← e]; exact hk)
        exact (List.mem_erase_of_ne hne).mpr ((h k).mp (List.mem_cons_of_mem _ hk))
      · intro hk
        have hk2 := List.mem_of_mem_erase hk
        have hne : k ≠ x := fun e => by
          subst e
          exact nb.not_mem_erase hk
        rcases List.mem_cons.mp ((h k).mpr hk2) with e | e
        · exact absurd e hne
        · exact e
  exact List.Perm.eq_of_pairwise (le := (· ≤ ·)) (fun a b _ _ h h' => Int.le_antisymm h h') (ha.imp fun {a b} h => by omega) (hb.imp fun {a b} h => by omega) (np a b (nd ha) (nd hb) h)
section
variable {K : PySem.W.Frag} {w : World} {Γ : Gam} {ta : TE}
/-- sorted(set(t)) of a rising tuple is that tuple's list -/
theorem evn_sortSet {ns : List Int} (h : Ev ta Γ (.tup (ns.map D.int))) (h64 : ns.length < 64) (hp : ns.Pairwise (· < ·)) : EvN (tCB (rSortedSet w) (tCons (tCB (rSetT K w) (tCons ta tNil)) tNil)) Γ (ns.map D.int) := fun F σ W Q g k =>
  h F σ W _ g fun v H s ⟨a, vs, ev, e, nu, l⟩ => by
    subst ev
    refine ⟨a, ns, rfl, (RepL.ints.mp l ▸ e.sq), h64, fun p c hn hc => ?_⟩
    refine ⟨p, _, c, rfl, upd_same, by omega, fun ns' q h1 h2 h3 hq => ?_⟩
    have e2 : ns' = ns := pw_ext h1 hp fun k => by rw [h2 k, decide_eq_true_eq]
    subst e2
    have s2 : Same H (upd H p (SetO w p (fun j => decide (j ∈ ns')) c)) := same_upd hn
    exact k q _ _ (Same.trans s (Same.trans s2 (same_upd hq))) (s.free (s2.free hq)) upd_same (RepL.ints.mpr rfl)
end
section
variable {K : PySem.W.Frag} {Γ : Gam} {ta : TE} {xs : List D}
theorem ei_enumL {r : TI} (h : EvB ta Γ xs) : Ei (fun σ H R => iEnum K (tCons ta tNil) σ H R ∨ r σ H R) Γ (enumD xs) := fun F σ W R g k => .inl (h F σ W _ g fun a vs H s ha l => by
  refine ⟨a, vs, rfl, .of ha, k (Ite K a) H s ⟨fun W2 i x dm s2 ku pu hx => ?_, fun H2 s2 => ⟨vs, .of (s2 _ _ ha), by rw [enumD_length, l.length]; exact Nat.le_refl _⟩⟩⟩
  obtain ⟨y, hy, rfl⟩ := enumD_get hx
  obtain ⟨v, hv, rv⟩ := l.get hy
  have h2 : W2.H a = some (.lst vs) := s2 _ _ ha
  refine ⟨⟨vs, v, .of h2, hv⟩, fun u H' ⟨T, z, eu, hT, eH, hz⟩ => ?_⟩
  subst eu; subst eH
  have := hz vs (.of h2)
  rw [hv] at this; cases this
  exact ⟨same_upd hT, rep_new_tup dm hT ⟨_, _, rfl, rfl, v, _, rfl, Rep.mono (W := W.at H) (W' := W2) (fun b u e n => ⟨s2 b u e, ku b u e n⟩) (fun b z => by rw [pu]; exact z) _ _ rv, rfl⟩⟩)
end
theorem ds_cont {Γ : Gam} {De : DE} (h : De.ct Γ) : Ds tCont Γ De := fun F σ W Dr g l => l.ct σ W Γ (Stp.refl W) g h
end Dw

/-! repr of data: it asks that no other repr is under way (guards), so the defs that call it have a promise of their own. -/
namespace Dw
open PySem PySem.Spec PyProof.Rows L2
/-- as FnOk, but only where no repr is under way -/
def FnG (P : Program) (w : World) (K : PySem.W.Frag) (mg : Str → Option Value) (base : Heap) (k : Nat) (f : Addr) (fd : FuncData) (ps : List Str) (s : Spc) : Prop :=
  (∀ x, (s.args x).length = ps.length) ∧ ∀ (A : Around) (outer : List Env) (sh : Shared) (H : Hp) (args : Args) (us : List Value) (vs : List V) (Q : VK) (E : XK), Room k A → A.guards = some [] → Env0 P w K mg base A outer sh H → BindsTo sh fd args (ps.zip us) → Vals vs us → toSp s vs H Q E → codeAny (model P w) A (.call (.ref f) args) (CR CX0 outer P w H sh Q E) sh
section
variable {P : Program} {w : World} {K : PySem.W.Frag} {mg : Str → Option Value} {base : Heap}
theorem cells_in {N ps : List Str} {sc : Scope} {n : Nat} (S : FnScope N ps sc) (us : List Value) : ∀ y ∈ ps.zip us, sc.names.lookup y.1 = some .local ∨ (sc.names.lookup y.1 = some .cell ∧ ((cellsFrom n sc.names []).lookup y.1).isSome = true) := by
  rintro ⟨a, b⟩ hy
  exact (S.par a (List.of_mem_zip hy).1).imp id fun q => ⟨q, PySem.W.cellsFrom_some _ _ _ (.inl q)⟩
theorem fnG_ok {x qual : Str} {st : Stmt} {f : Addr} {fd : FuncData} {N ps : List Str} {k : Nat} {s : Spc} (F : Fun K x qual st f fd) (S : FnScope N ps (defScope st)) (len : ∀ x, (s.args x).length = ps.length)
    (hbody : ∀ (cdv : Value) (A : Around) (outer : List Env) (s' : Shared) (H : Hp) (E : XK), Room k (A.deeper (envOfC qual (defScope st) s'.heap.objs.size f cdv)) → (A.deeper (envOfC qual (defScope st) s'.heap.objs.size f cdv)).guards = some [] →
      ∃ t, PSs (cxOf CX0 P w K mg base N qual (defScope st) f cdv A outer s' H E).nox (defBody st) t ∧ ∀ x, s.ok x → Ds t (Gz0 N.length (s.args x)) ⟨fun _ => s.rel x .non, s.rel x, fun _ => False, fun _ => False⟩) : FnG P w K mg base (k + 1) f fd ps s := by
  obtain ⟨oc, od, kV, doc, pm, an, cdv, ct, osl, rfl, lk, hcd⟩ := F.ex
  refine ⟨len, fun A outer sh H args us vs Q E hr hg e0 hb r hsp => ?_⟩
  obtain ⟨t, p, hd⟩ := hbody cdv A outer sh H E (hr.deeper _) hg
  have old : ∀ b o, base.get? b = some o → sh.heap.get? b = some o := fun b o e => (e0.bs b o e).1
  have KX := e0.mod.kin.keeps old
  refine codeAny_call_function hr.depth (KX _ _ lk) rfl S.co S.gen rfl (PySem.W.codeRec_of KX hcd) (hb _ _ _ _ (wpAny_newFunctionEnv_cells S.kind (cells_in S us) ?_))
  rintro env rfl s1 x1
  refine ⟨(e0.mod.nolimit.keeps old).keeps x1.toInCall.keep, codeAny_func (wpAny_mono (p.nox.run [] s1 _ H _ (inv_start S hr.hd e0 (spc_len len _ _ _ _ hsp) r x1) (body_of hsp hd)) (fun fl s' hs => ?_) fun _ _ z => z)⟩
  have done : ∀ {σ' : L2.St} {H' : Hp} {v : V} {u : Value}, Inv (cxOf CX0 P w K mg base N qual (defScope st) f cdv A outer sh H E) [] σ' H' s' → RelV v u → Q v H' → CE outer P w H sh Q u s' := fun {_ H' v _} J rv q => ⟨v, H', J.os, J.bare, J.base, J.hok, rv, q⟩
  match fl, hs with
  | .ret _, ⟨_, _, _, J, rv, q⟩ => exact done J rv q
  | .next, ⟨_, _, J, q⟩ => exact done (v := .non) (u := .none) J rfl q
  | .brk, ⟨_, _, _, q⟩ => exact q.elim
  | .cont, ⟨_, _, _, q⟩ => exact q.elim
section
variable {X : Cx} {k : Nat} {f : Addr} {fd : FuncData} {ps : List Str} {s : Spc} {E : XK} {x : Str} {p pos : Pos} {e : Expr} {es : List Expr} {t : TA}
theorem pe_callG (F : FnG X.prog X.w X.K X.mg X.base k f fd ps s) (hr : Room k X.A) (hG : X.A.guards = some []) (hg : Gl X x) (hm : X.mg x = some (.ref f)) (hk : PySem.W.keepIn X.K (.ref f) = true) (hb : Binds X.K fd ps []) (ha : PA X (e :: es) t)
    (hdb : (x == ("__debug__" : Str)) = false := by decide) (he : starEach (e :: es) X.env = (false, eval e X.env) :: starEach es X.env := by rfl) (hpl : (backTo pos (starEach es X.env)).any (·.1) = false := by rfl) : PE X (.Call (.Name x p) (e :: es) [] pos) (tCall (toSp s) [] E t) := by
  refine ⟨fun pins s1 σ H Q I h => wpAny_Call_Name_kw (ld_glob I hg hm (PySem.W.callWith_K (h₀ := X.base) I.ok.mod.kin hk (thn (ha.run pos pins s1 σ H _ I h) fun us s2 ⟨vs, H1, I1, r, q⟩ => ⟨I1.kIn, ?_⟩) he hpl) hdb)⟩
  have q : toSp s vs H1 Q E := by rw [← List.append_nil vs]; exact q
  have hb := hb s2 us I1.kIn (by rw [List.append_nil, ← r.length]; exact spc_len F.1 _ _ _ _ q)
  rw [List.append_nil] at hb
  refine wpAny_call (codeAny_mono (F.2 X.A X.stack s2 H1 ⟨us, []⟩ us vs Q E hr hG I1.env0 hb r q) fun res s3 hq => ?_)
  match res, hq with
  | .error _, hq => exact (show False from hq).elim
  | .ok (.ret _), hq => exact I1.after hq
  | .ok .next, hq => exact (show False from hq).elim
  | .ok .brk, hq => exact (show False from hq).elim
  | .ok .cont, hq => exact (show False from hq).elim
end
end
/-! ### repr -/
def rRepr (K : PySem.W.Frag) : List V → Hp → VK → Prop := fun xs H Q => ∃ (a : Addr) (d : PyData), xs = [.ref a] ∧ Dp K H (.ref a) d ∧ d.showable = true ∧ d.hasDict = false ∧ d.depth ≤ 64 ∧ d.shown.length ≤ sizeLine ∧ Q (.str d.shown) H
theorem cr_repr {X : Cx} {k : Nat} (hr : Room k X.A) (hG : X.A.guards = some []) : CallR X (.builtin "repr") (rRepr X.K) := by
  intro pins s σ H xs us Q I r h
  obtain ⟨a, d, rfl, hd, h1, h2, h3, h4, q⟩ := h
  obtain ⟨u, rfl, ru⟩ := vals1 r
  cases ru
  obtain ⟨as, r1⟩ := Dp.reads I d _ _ hd rfl
  have := hr.un
  exact repr_of_reads' r1 h1 (PyData.noDict_hsm h2) hG (by omega) (fun _ _ e => e) (fun h' u tk hk => ⟨.str _, H, I.kept (t' := tk) hk, ⟨_, rfl⟩, q⟩) h4
theorem reprA {X : Cx} {k : Nat} (K : PySem.W.Frag) (hr : Room k X.A) (hG : X.A.guards = some []) (hK : X.K = K := by rfl) : CallR X (.builtin "repr") (rRepr K) := hK ▸ cr_repr hr hG
mutual
/-- what can be shown -/
def shOk : D → Bool
  | .non => true | .bl _ => true | .int i => PyData.showable (.int i) | .str x => PyData.showable (.str x)
  | .tup ds => shOks ds | .lst ds => shOks ds | .tupN ds => shOks ds | _ => false
def shOks : List D → Bool
  | [] => true
  | d :: ds => shOk d && shOks ds
end
mutual
theorem shOk_py : ∀ d : D, shOk d = true → PyData.showable (py d) = true ∧ PyData.hasDict (py d) = false
  | .non, _ => ⟨rfl, rfl⟩
  | .bl _, _ => ⟨rfl, rfl⟩
  | .int _, h => ⟨h, rfl⟩
  | .str _, h => ⟨h, rfl⟩
  | .tup ds, h => shOks_py ds h
  | .lst ds, h => shOks_py ds h
  | .tupN ds, h => shOks_py ds h
  | .obj _ _ _, h => nomatch h
  | .raw _, h => nomatch h
  | .purse, h => nomatch h
  | .rng _ _, h => nomatch h
  | .dct _ _, h => nomatch h
  | .scr _ _, h => nomatch h
theorem shOks_py : ∀ ds : List D, shOks ds = true → PyData.showableAll (pys ds) = true ∧ PyData.hasDictAll (pys ds) = false
  | [], _ => ⟨rfl, rfl⟩
  | d :: ds, h => by
    have h : (shOk d && shOks ds) = true := h
    rw [Bool.and_eq_true] at h
    obtain ⟨a1, a2⟩ := shOk_py d h.1
    obtain ⟨b1, b2⟩ := shOks_py ds h.2
    exact ⟨by show (PyData.showable (py d) && PyData.showableAll (pys ds)) = true; rw [a1, b1]; rfl, by show (PyData.hasDict (py d) || PyData.hasDictAll (pys ds)) = false; rw [a2, b2]; rfl⟩
end
section
variable {K : PySem.W.Frag} {Γ : Gam} {ta : TE} {ds : List D} {k : Nat}
theorem ev_reprL (h : Ev ta Γ (.lst ds)) (h1 : dOk k (.lst ds) = true) (hk : k ≤ 64) (h2 : shOk (.lst ds) = true) (h3 : (PyData.shown (py (.lst ds))).length ≤ sizeLine) : Ev (tCB (rRepr K) (tCons ta tNil)) Γ (.str (PyData.shown (py (.lst ds)))) := fun F σ W Q g q =>
  h F σ W _ g fun v H s r => by
    obtain ⟨a, vs, rfl, _⟩ := id r
    obtain ⟨p1, _, p3⟩ := dOk_py k _ h1
    obtain ⟨s1, s2⟩ := shOk_py _ h2
    exact ⟨a, _, rfl, dp_of (W := W.at H) (.lst ds) _ p1 r, s1, s2, Nat.le_trans p3 hk, h3, q _ H s rfl⟩
end
/-! ### the head, where the law's def has such a promise -/
section
variable {P : Program} {w : World} {K : PySem.W.Frag} {mg mb : Str → Option Value} {k : Nat} {fa a : Addr} {fd : FuncData} {x : Str} {s1 : Shared} {vs : List Value} {ns : List Int} {sp : Spc}
/-- what is tracked at the head: the script, unless the module has it -/
def headH (K : PySem.W.Frag) (a : Addr) (vs : List Value) (ns : List Int) : Hp := fun b => if b = a ∧ K.lookup a = none then some (.frz { cls := .type "list", data := .seq vs.toArray } (.lst (ns.map V.int))) else none
theorem headH_none {b : Addr} (h : b ≠ a) : headH K a vs ns b = none := if_neg fun z => h z.1
theorem head_call (KX : K.In s1.heap) (hns : s1.heap.Ns mainGlobals mg) (hb : s1.heap.Ns builtinsNs mb) (hbb : ∀ x : Str, x ≠ "__name__" → mb x = bootBuiltins x) (hlim : s1.heap.NoLimit) (hg : s1.gens = #[]) (ha : s1.heap.get? a = some { cls := .type "list", data := .seq vs.toArray }) (hi : IntsAre vs ns) (hl : ns.length ≤ sizeLine) (hr : Room k callerA)
    (F : ∀ base : Heap, FnG P w K mg base k fa fd [x] sp) (hbind : ∀ (s : Shared) (u : Value), BindsTo s fd ⟨[u], []⟩ [(x, u)]) (hx : ∃ y : sp.ty, sp.args y = [.scr K (ns.map V.int)] ∧ sp.ok y ∧ ∀ d, sp.rel y d → d = .bl true) :
    codeAny (model P w) callerA (.call (.ref fa) ⟨[.ref a], []⟩) (fun r s' => r = .ok (.ret (.bool true)) ∧ OldK s1.heap s'.heap ∧ s'.os = s1.os ∧ AllBare s'.gens) s1 := by
  have rv := vals_ints hi
  have nsK : ∀ {b : Addr} {m : Str → Option Value}, s1.heap.Ns b m → (hidT s1.heap (headH K a vs ns)).Ns b m := by
    rintro b m ⟨o, es, ep, e, d, r⟩
    refine ⟨o, es, ep, hidT_get e (headH_none fun z => ?_), d, r⟩
    rw [z, ha] at e
    cases e
    cases (show Data.seq vs.toArray _ = Data.dict es ep from d)
  have kin : K.In (hidT s1.heap (headH K a vs ns)) := fun b o e => hidT_get (KX b o e) (if_neg fun z => by rw [z.1, z.2] at e; cases e)
  have hS : SqL K (headH K a vs ns) a (ns.map V.int) := by
    cases q : K.lookup a with
    | none => exact .inl (.inr ⟨_, if_pos ⟨rfl, q⟩⟩)
    | some o =>
      have e := KX a o q
      rw [ha] at e; cases e
      exact .inr ⟨_, vs.toArray, _, q, rfl, rfl, rfl, by rw [List.size_toArray, hi.length]; exact hl, by simpa using rv⟩
  have hok : HOk P w (headH K a vs ns) s1.heap := fun b u z => by
    by_cases q : b = a ∧ K.lookup a = none
    · have z' := (if_pos q).symm.trans z
      cases z'
      rw [q.1]
      exact ⟨ha, by rw [List.length_map]; exact hl, vs, _, rv, ha⟩
    · cases (if_neg q).symm.trans z
  have hM : Mod K mg (hidT s1.heap (headH K a vs ns)) := ⟨kin, nsK hns, ⟨mb, nsK hb, hbb⟩, hlim.imp fun mc h => ⟨nsK h.1, h.2⟩⟩
  obtain ⟨y, e1, o1, r1⟩ := hx
  have hsp : toSp sp [.ref a] (headH K a vs ns) (fun v _ => v = .bl true) (fun _ _ _ => False) := ⟨y, fun _ => False, ⟨headH K a vs ns, fun _ => False, fun _ => False⟩, rfl, ⟨fun b h => h.elim, fun b h => h.elim, fun b h => h.elim⟩, by rw [e1]; exact RepL.one (rep_scr hS), o1, fun d v W' h _ _ rp => by
    rw [r1 d h] at rp; exact rp⟩
  refine codeAny_mono ((F _).2 callerA [] s1 _ ⟨[.ref a], []⟩ [.ref a] [.ref a] _ _ hr rfl ⟨rfl, hM, fun b o e => of_hidT e, Nat.le_of_eq (hidT_size _ _), trivial, fun b hb => absurd (show b ∈ ([] : List Addr) from hb) (by simp), hok, .of_eq hg⟩ (hbind s1 (.ref a)) (.cons rfl .nil) hsp) fun r s' h => ?_
  match r, h with
  | .error _, h => exact (show False from h).elim
  | .ok .next, h => exact (show False from h).elim
  | .ok .brk, h => exact (show False from h).elim
  | .ok .cont, h => exact (show False from h).elim
  | .ok (.ret u), ⟨v, H', os, bare, un, hok', r', q⟩ =>
    have q' : v = .bl true := q
    subst q'
    obtain rfl : u = Value.bool true := r'
    refine ⟨rfl, OldK.of_keep fun b o e => ?_, os, bare⟩
    by_cases c : b = a ∧ K.lookup a = none
    · have z : headH K a vs ns b = _ := if_pos c
      have e3 := (hok b _ z).1
      rw [e] at e3; cases e3
      exact (hok' b _ (un.frzs b _ _ z)).1
    · exact un.keep b o e (if_neg c) (by intro z; exact absurd (show b ∈ ([] : List Addr) from z) (by simp)) (by simp)
end
/-- the head's goal from such a promise of the law's def -/
theorem walk_G {l : PySem.W.OpenLaw} {k : Nat} {x : Str} {q : Program} {loose : List Str} {XP : (Str → Option Value) → Heap → Prop} {YP : World → Heap → Prop} {d : DefRec} {K : Params → PySem.W.Frag} {sp : PySem.W.Frag → Spc} (hn : l.most = some 63) (hdf : d.params.defaults = []) (hr : Room k callerA)
    (hY : ∀ (w : World) (h : Heap), YP w h → (K w.params).In h) (hsp : ∀ (K : PySem.W.Frag) (ns : List Int), ns.length ≤ 63 → ∃ y : (sp K).ty, (sp K).args y = [.scr K (ns.map V.int)] ∧ (sp K).ok y ∧ ∀ d, (sp K).rel y d → d = .bl true)
    (F : ∀ (w : World) (mg : Str → Option Value) (fa : Addr) (h : Heap), (K w.params).In h → h.Ns mainGlobals mg → mg d.name = some (.ref fa) → ∃ fd : FuncData, (∀ (s : Shared) (u : Value), BindsTo s fd ⟨[u], []⟩ [(x, u)]) ∧ ∀ base : Heap, FnG l.prog w (K w.params) mg base k fa fd [x] (sp (K w.params))) :
    PySem.W.WalkO q loose XP YP l.row.toRowW d [] (fun f vs => PySem.call f vs) :=
  Att.attach_call hn hdf fun w _ _ mg _ fa _ _ _ _ _ _ ns G Y _ _ _ hmg hobj hints hlen hg =>
    have ⟨_, hb, hF⟩ := F w mg fa _ (hY w _ Y) G.T.g hmg
    head_call (hY w _ Y) G.T.g G.T.b G.T.builtins G.T.nolimit hg hobj hints (Nat.le_trans hlen (by decide)) hr hF hb (hsp _ ns hlen)
end Dw

/-! Bits, sums, xs[k] = v, x |= y, reversed(range(n)). -/
namespace Dw
open PySem PySem.Spec PyProof.Rows L2
section
variable {K : PySem.W.Frag} {Γ : Gam} {ta tb te tk : TE} {De : DE} {ds : List D} {d : D}
abbrev rShl : R2 := rI CPow fun i j => .int (i * 2 ^ j.toNat)
abbrev rOrB : R2 := rI0 fun i j => .int (Builtin.bitOr i j)
abbrev rAndB : R2 := rI0 fun i j => .int (Builtin.bitAnd i j)
theorem dr2_shl1 {k : Nat} (h : k ≤ 1000) : DR2 rShl (.int 1) (.int k) (.int ((2 ^ k : Nat) : Int)) := dr2_rI ⟨by omega, by omega, by decide⟩ fun W => by
  show V.int (1 * 2 ^ (k : Int).toNat) = V.int ((2 ^ k : Nat) : Int)
  rw [Int.one_mul, Int.toNat_natCast, Int.natCast_pow]; rfl
theorem dr2_or {a b : Nat} : DR2 rOrB (.int a) (.int b) (.int ((a ||| b : Nat) : Int)) := dr2_rI0 fun W => by
  show V.int (Builtin.bitOr a b) = V.int ((a ||| b : Nat) : Int)
  rw [Bits.bitOr_pp (by omega) (by omega)]; rfl
theorem dr2_and {a b : Nat} : DR2 rAndB (.int a) (.int b) (.int ((a &&& b : Nat) : Int)) := dr2_rI0 fun W => by
  show V.int (Builtin.bitAnd a b) = V.int ((a &&& b : Nat) : Int)
  rw [bitAnd_pp (by omega) (by omega)]; rfl
theorem ev_sum {ns : List Int} (h : EvB ta Γ (ns.map D.int)) : Ev (tCB (rSum K) (tCons ta tNil)) Γ (.int ns.sum) := fun F σ W Q g k => h F σ W _ g fun p vs H s e l => ⟨p, ns, rfl, .of (by rw [e, RepL.ints.mp l]), k _ H s rfl⟩
theorem repL_rep {W : Wd} {vs : List V} (l : RepL W ds vs) : ∀ n : Nat, RepL W (List.replicate n ds).flatten (List.replicate n vs).flatten
  | 0 => rfl
  | n + 1 => by
    rw [List.replicate_succ, List.replicate_succ, List.flatten_cons, List.flatten_cons]
    exact l.append (repL_rep l n)
/-- xs * n, a new list -/
theorem evn_rep {n : Nat} (h : EvB ta Γ ds) (hn : Ev tb Γ (.int n)) (hz : ds.length * n ≤ sizeLine) (hb : n < 2 ^ 63) : EvN (tOp rTimes ta tb) Γ (List.replicate n ds).flatten := fun F σ W Q g k =>
  h F σ W _ g fun a vs H s e l => hn F σ (W.at H) _ (g.same s) fun u H2 s2 r => .inr ⟨a, n, vs, rfl, r, s2 _ _ e, by omega, by omega, by rw [← l.length, Int.toNat_natCast]; exact hz, fun p hp => by
    rw [Int.toNat_natCast]
    exact k p _ _ (Same.trans s (Same.trans s2 (same_upd hp))) (s.free (s2.free hp)) upd_same (RepL.plus (W := W.at H2) hp (same_upd hp) (repL_rep (RepL.same (W := W.at H) s2 l) n))⟩
/-- xs[k] = v, an own list -/
theorem ds_sub {i : Nat} (h0 : ∃ ds, Γ[i]? = some (.own ds)) (h : Dl te Γ fun d Γ1 => ∃ (ds : List D) (k : Nat), Γ1[i]? = some (.own ds) ∧ Ev tk Γ1 (.int k) ∧ k < ds.length ∧ De.nx (Γ1.set i (.own (ds.set k d)))) : Ds (tAsg te (gSub (tVar i) tk rSetL)) Γ De := fun F σ W Dr g l =>
  h F σ W _ g fun v W1 d Γ1 st g1 r ⟨ds, k, e1, hk, lt, q⟩ => by
    obtain ⟨a, vs, hs, u, f, p, q1, r1⟩ := g1.own i ds e1
    refine ⟨.ref a, hs, hk F σ W1 _ g1 fun w H2 s2 rk => ?_⟩
    have g2 := g1.same s2
    obtain ⟨a', vs', hs', _, _, _, q2, r2⟩ := g2.own i ds e1
    rw [hs] at hs'; cases hs'
    have hl : (k : Int) < (vs'.length : Int) := by rw [← r2.length]; omega
    obtain ⟨st3, g3⟩ := g2.write e1 hs (r2.set (r.same (W := W1) s2) k)
    refine ⟨a, vs', k, k, rfl, rk, q2, ?_, l.nx σ _ _ (st.trans ((Stp.of_same g1.ok s2).trans st3)) g3 q⟩
    unfold ixN
    rw [if_pos (by omega), if_pos hl]; rfl
/-- x |= y -/
theorem ds_orI {i a b : Nat} (h0 : Γ[i]? = some (.val (.int a))) (h : Ev te Γ (.int b)) (q : De.nx (Γ.set i (.val (.int ((a ||| b : Nat) : Int))))) : Ds (tAug i te rOrB) Γ De := fun F σ W Dr g l => by
  obtain ⟨v, e, r⟩ := g.val i _ h0
  refine ⟨v, e, h F σ W _ g fun u H s ru => ⟨a, b, r, ru, ?_⟩⟩
  have e2 : Builtin.bitOr (a : Int) (b : Int) = ((a ||| b : Nat) : Int) := by rw [Bits.bitOr_pp (by omega) (by omega)]; rfl
  show Dr.nx (σ.set i (some (V.int (Builtin.bitOr a b)))) H
  rw [e2]
  exact l.nx _ (W.at H) _ (Stp.of_same g.ok s) ((g.same s).set (d := .int ((a ||| b : Nat) : Int)) rfl) q
theorem di_rev {n : Nat} {Q : List D → Gam → Prop} (h : Ev ta Γ (.int n)) (hn : n < 2 ^ 62) (q : Q (rng n).reverse Γ) : Di (iRevR (tRg1 ta)) Γ Q := fun F σ W R g k => h F σ W _ g fun v H s r => by
  refine ⟨n, r, by omega, by omega, by omega, by omega, ?_⟩
  have hn0 : ((n : Int) - 0).toNat = n := by omega
  refine k (Itc (0 + (((((n : Int) - 0).toNat : Nat) : Int)) - 1) (-1) ((n : Int) - 0).toNat) (W.at H) _ Γ (Stp.of_same g.ok s) (g.same s) ⟨fun W2 i x s2 ok2 hx => ?_, fun W2 s2 ok2 => ?_⟩ q
  · have hi : i < n := by
      have := (List.getElem?_eq_some_iff.mp hx).1
      rw [List.length_reverse, rng_length] at this
      exact this
    rw [List.getElem?_reverse (by rw [rng_length]; exact hi), rng_length] at hx
    obtain ⟨_, rfl⟩ := rng_get hx
    refine ⟨by show i < _; omega, fun u H' ⟨e, hy⟩ => ?_⟩
    subst e hy
    refine ⟨Same.refl _, ?_⟩
    show V.int _ = V.int _
    congr 1
    omega
  · show _ ≤ _
    rw [List.length_reverse, rng_length]; omega
end
end Dw

/-! for i, c in enumerate(a text). -/
namespace Dw
open PySem PySem.Spec PyProof.Rows L2
/-- each sign of x in a new pair -/
def IteS (x : Str) : It :=
  ⟨fun i _ => i < x.cps.size, fun i H v H' => ∃ T c, v = .ref T ∧ H T = none ∧ H' = upd H T (.tup [.int (i : Nat), .str ⟨#[c]⟩]) ∧ x.cps[i]? = some c, fun i _ => x.cps.size ≤ i⟩
theorem turn_enumS {P : Program} {w : World} {K : PySem.W.Frag} {elts : List Expr} {kk : Nat} {tpos : Pos} (x : Str) (t0 : Tok) (e it : Addr) (nei : e ≠ it) :
    Turn P w K (.Tuple elts kk tpos) (IteS x) [e, it] e (fun i h => (∃ old, IsEnum h e it ((0 : Int) + (i : Int)) old) ∧ h.IsStrIter it (strIterType x) x t0 i ∧ i ≤ x.cps.size) where
  mem := by simp
  obj := fun i h ⟨⟨old, he⟩, ⟨o, ho, hc, hd⟩, _⟩ b hb => by
    rcases (show b = e ∨ b = it by simpa using hb) with z | z
    · subst z; exact ⟨_, he, fun v q => nomatch q⟩
    · subst z; exact ⟨o, ho, fun v q => by rw [hd] at q; cases q⟩
  keep := fun i h h' ⟨⟨old, he⟩, ⟨o, ho, r⟩, hl⟩ k => ⟨⟨old, k e (by simp) _ he⟩, ⟨o, k it (by simp) o ho, r⟩, hl⟩
  item := by
    intro X hP hw hK hc i pins s σ H E I hf st hg
    subst hP; subst hw; subst hK
    have G := GoesN.enumFrom (prog := X.prog) (w := X.w) (A := X.A) (elts := elts) (x1 := kk) (pos := tpos) 0 (Draws.text (A := X.A.in1) (I.ok.hd hc) it x t0) e nei (by simp [nei]) (by simp)
    refine thn (G.goes i s (fun v s2 => ∃ T t c u, v = Value.ref T ∧ s.heap.objs.size ≤ T ∧ x.cps[i]? = some c ∧ s2.heap.IsTuple T #[.int ((0 : Int) + (i : Int)) t, .str ⟨#[c]⟩ u] ∧
        (∃ old, IsEnum s2.heap e it ((0 : Int) + ((i + 1 : Nat) : Int)) old) ∧ s2.heap.IsStrIter it (strIterType x) x t0 (i + 1) ∧ (∀ b o, b ∉ [e, it] → s.heap.get? b = some o → s2.heap.get? b = some o) ∧ ∃ h' tk, s2 = { s with heap := h', toks := tk }) E hg ⟨st.1, st.2.1⟩
      fun v h' tk ⟨T, t, y, ev, hT, ⟨c, u, hy, ey⟩, htu⟩ ⟨ho, hit⟩ kp _ => ⟨T, t, c, u, ev, hT, hy, by rw [← ey]; exact htu, ho, hit, kp, h', tk, rfl⟩) fun r s1 ⟨v, er, hv⟩ => ⟨v, er, thn hv fun _ s2 ⟨T, t, c, u, ev, hT, hy, htu, ho, hit, kp, h', tk, es⟩ => ?_⟩
    subst es; subst ev
    have new : ObjOk X.prog X.w (upd H T (.tup [.int (i : Nat), .str ⟨#[c]⟩])) h' T (.tup [.int (i : Nat), .str ⟨#[c]⟩]) :=
      ⟨by show 2 ≤ sizeLine; decide, [.int ((0 : Int) + (i : Int)) t, .str ⟨#[c]⟩ u], .cons ⟨t, by rw [Int.zero_add]⟩ (.cons ⟨u, rfl⟩ .nil), htu⟩
    have I1 : Inv X pins σ (upd H T (.tup [.int (i : Nat), .str ⟨#[c]⟩])) { s with heap := h', toks := tk } := I.turnedNew (ch := [e, it]) kp hf hT new
    refine ⟨.ref T, _, I1, rfl, ⟨T, c, rfl, I.hok.fresh hT, rfl, hy⟩, ⟨ho, hit, hg⟩, fun b hb => ?_⟩
    have lt : b ≠ T := by
      rcases (show b = e ∨ b = it by simpa using hb) with z | z
      · obtain ⟨old, he⟩ := st.1
        rw [z]; exact Nat.ne_of_lt (Nat.lt_of_lt_of_le (Heap.lt_size he) hT)
      · obtain ⟨o, q, _⟩ := st.2.1
        rw [z]; exact Nat.ne_of_lt (Nat.lt_of_lt_of_le (Heap.lt_size q) hT)
    rw [upd_ne lt]
    exact (hf b hb).1
  done := by
    intro X hP hw hK hc i pins s σ H E I hf st hg
    subst hP; subst hw; subst hK
    have G := GoesN.enumFrom (prog := X.prog) (w := X.w) (A := X.A) (elts := elts) (x1 := kk) (pos := tpos) 0 (Draws.text (A := X.A.in1) (I.ok.hd hc) it x t0) e nei (by simp [nei]) (by simp)
    have en : x.cps.size = i := Nat.le_antisymm hg st.2.2
    rw [en] at G
    exact G.stops s _ E ⟨st.1, st.2.1⟩ fun h' tk kp _ => inv_turned I kp hf
  self := fun A i s Q E ⟨⟨_, he⟩, _⟩ h => wpAny_pyIter_enum he h
def iEnumS (ta : TA) : TI := fun σ H R => ta σ H fun vs H1 => ∃ x, vs = [.str x] ∧ R (IteS x) H1
theorem pi_enumS {X : Cx} {e : Expr} {ta : TA} {p pos tpos : Pos} {elts : List Expr} {kk : Nat} (hg : Gl X "enumerate") (hm : X.mg "enumerate" = none) (ha : PA X [e] ta) (hs : starEach [e] X.env = [(false, eval e X.env)] := by rfl) :
    PI X (.Tuple elts kk tpos) (.Call (.Name "enumerate" p) [e] [] pos) (iEnumS ta) := by
  refine ⟨fun pins s σ H R I h => ?_⟩
  refine Call_ (ld_blt I hg hm boot_enumerate (callWith_type1 (thn (ha.run pos pins s σ H _ I h) fun us s1 ⟨vs, H1, I1, r1, q1⟩ => ?_) hs rfl))
  obtain ⟨x, ex, q⟩ := q1
  subst ex
  obtain ⟨u, eu, ru⟩ := vals1 r1
  subst eu
  obtain ⟨t, rfl⟩ := ru
  refine call_enumerate_str fun h' he hit hsz hk => wpAny_pyIter_enum he ?_
  refine ⟨s1.heap.objs.size + 1, [s1.heap.objs.size + 1, s1.heap.objs.size], _, _, H1, rfl, I1.kept (t' := s1.toks) hk, turn_enumS x t (s1.heap.objs.size + 1) s1.heap.objs.size (Nat.succ_ne_self _), ⟨⟨_, he⟩, hit, Nat.zero_le _⟩, fun b hb => ?_, q⟩
  have hle : s1.heap.objs.size ≤ b := by
    rcases (show b = s1.heap.objs.size + 1 ∨ b = s1.heap.objs.size by simpa using hb) with z | z
    · rw [z]; exact Nat.le_succ _
    · rw [z]; exact Nat.le_refl _
  exact I1.fpOk hle (I1.hok.fresh hle)
theorem enumSA {X : Cx} {e : Expr} {ta : TA} {p pos tpos : Pos} {elts : List Expr} {kk : Nat} (hg : Gl X "enumerate") (hm : X.mg "enumerate" = none) (ha : PA X [e] ta) (hs : starEach [e] X.env = [(false, eval e X.env)] := by rfl) :
    PI X (.Tuple elts kk tpos) (.Call (.Name "enumerate" p) [e] [] pos) (iEnumS ta) := pi_enumS hg hm ha hs
section
variable {K : PySem.W.Frag} {Γ : Gam} {ta : TE}
theorem itS {W : Wd} {x : Str} : ∀ (W2 : Wd) (i : Nat) (d : D), (enumD (signs x))[i]? = some d → (∀ a, W2.U a → W2.H a ≠ none) → (IteS x).go i W2.H ∧ ∀ u H', (IteS x).yld i W2.H u H' → Same W2.H H' ∧ Rep (W2.at H') d u := fun W2 i d hx dm => by
  obtain ⟨y, hy, rfl⟩ := enumD_get hx
  obtain ⟨_, c, hc, rfl⟩ := signs_get hy
  refine ⟨(Array.getElem?_eq_some_iff.mp hc).1, fun u H' ⟨T, z, eu, hT, eH, hz⟩ => ?_⟩
  subst eu; subst eH
  rw [hc] at hz; cases hz
  exact ⟨same_upd hT, rep_new_tup dm hT ⟨_, _, rfl, rfl, _, _, rfl, rfl, rfl⟩⟩
theorem enumS_len (x : Str) : (enumD (signs x)).length = x.cps.size := by
  rw [enumD_length]
  unfold signs
  rw [List.length_map, Array.length_toList]
theorem ei_enumS {x : Str} (h : Ev ta Γ (.str x)) : Ei (iEnumS (tCons ta tNil)) Γ (enumD (signs x)) := fun F σ W R g k => h F σ W _ g fun v H s r => by
  refine ⟨x, by rw [show v = V.str x from r], k (IteS x) H s ⟨fun W2 i d dm s2 ku pu hx => itS (W := W) W2 i d hx dm, fun H2 s2 => ?_⟩⟩
  show x.cps.size ≤ _
  rw [enumS_len]; exact Nat.le_refl _
theorem di_enumS {x : Str} {Q : List D → Gam → Prop} (h : Ev ta Γ (.str x)) (q : Q (enumD (signs x)) Γ) : Di (iEnumS (tCons ta tNil)) Γ Q := fun F σ W R g k => h F σ W _ g fun v H s r => by
  refine ⟨x, by rw [show v = V.str x from r], k (IteS x) (W.at H) _ Γ (Stp.of_same g.ok s) (g.same s) ⟨fun W2 i d s2 ok2 hx => itS (W := W) W2 i d hx ok2.dom, fun W2 s2 ok2 => ?_⟩ q⟩
  show x.cps.size ≤ _
  rw [enumS_len]; exact Nat.le_refl _
end
end Dw

/-! *xs in a display, o.m(..). -/
namespace Dw
open PySem PySem.Spec PyProof.Rows L2
section
variable {K : PySem.W.Frag} {Γ : Gam} {ta te : TE} {t : TA} {ds es : List D} {d : D} {C : Addr} {s : Spc} {E : XK}
theorem eva_star (h : Ev te Γ (.tup ds)) (hr : EvA t Γ es) : EvA (StX.tStar K te t) Γ (ds ++ es) := fun F σ W Q g k =>
  h F σ W _ g fun v H s1 ⟨a, vs, ev, e, nu, l⟩ => ⟨a, vs, ev, .inl (e.sq), hr F σ (W.at H) _ (g.same s1) fun ws H2 s2 r2 => k (vs ++ ws) H2 (Same.trans s1 s2) ((RepL.same (W := W.at H) s2 l).append r2)⟩
theorem starA {X : Cx} {e : Expr} {es : List Expr} {p : Pos} (K : PySem.W.Frag) (he : PE X e te) (hr : PA X es t) (hK : X.K = K := by rfl) (hs : starEach (.Starred e p :: es) X.env = (true, eval e X.env) :: starEach es X.env := by rfl) : PA X (.Starred e p :: es) (StX.tStar K te t) := hK ▸ StX.pa_star he hr hs
theorem ev_cast_eva {es' : List D} (h : ds ++ es = es') (e : EvA t Γ (ds ++ es)) : EvA t Γ es' := h ▸ e
theorem zip_none {ns : List Str} {m : Str} (h : m ∉ ns) : ∀ vs : List V, (ns.zip vs).lookup m = none := by
  induction ns with
  | nil => intro vs; rfl
  | cons n ns ih =>
    intro vs
    cases vs with
    | nil => rfl
    | cons v vs =>
      have hn : (m == n) = false := by
        cases q : m == n with
        | false => rfl
        | true => exact absurd (by rw [eq_of_beq q]; exact List.mem_cons_self) h
      show ((n, v) :: ns.zip vs).lookup m = none
      rw [List.lookup_cons, hn]
      exact ih (fun z => h (List.mem_cons_of_mem _ z)) vs
/-- a method of an object, that draws nothing -/
theorem ev_meth {x : s.ty} {ns : List Str} {m : Str} (h : Ev ta Γ (.obj C ns ds)) (h2 : EvA t Γ es) (ha : s.args x = .obj C ns ds :: es) (np : noPs (s.args x) = true) (ok : s.ok x) (hm : m ∉ ns) (hd : ∀ d', s.rel x d' → d' = d) : Ev (tMeth C m (toSp s) [] E ta t) Γ d := fun F σ W R g k =>
  h F σ W _ g fun v H st ⟨a, dx, vs, ev, e, nu, l, rl⟩ => by
    subst ev
    refine ⟨a, dx, _, rfl, e, zip_none hm vs, h2 F σ (W.at H) _ (g.same st) fun us H2 st2 ru => ?_⟩
    have rr : RepL (W.at H2) (s.args x) (V.ref a :: us) := by
      rw [ha]
      exact ⟨V.ref a, us, rfl, Rep.same (W := W.at H) st2 ⟨a, dx, vs, rfl, e, nu, l, rl⟩, ru⟩
    rw [List.append_nil]
    exact pure_call (W := (W.at H).at H2) ((g.same st).same st2) (fun _ z => z) (RepL.delP _ _ np rr) ok fun d' v H' hd' s' r' => by
      rw [hd d' hd'] at r'
      exact k v H' (Same.trans st (Same.trans st2 s')) (Rep.addP (W := W) r')
end
end Dw

/-! a, b, c = x, y, z. -/
namespace Dw
open PySem PySem.Spec PyProof.Rows L2
theorem ds_par3 {Γ : Gam} {De : DE} {i j l : Nat} {ta : TA} (h : DlA ta Γ fun ds Γ1 => ∃ x y z, ds = [x, y, z] ∧ De.nx (((Γ1.set i (.val x)).set j (.val y)).set l (.val z))) : Ds (tPar3 i j l ta) Γ De := fun F σ W Dr g k =>
  h F σ W _ g fun vs W1 ds Γ1 s g1 r ⟨x, y, z, e, q⟩ => by
    subst e
    obtain ⟨u, _, rfl, r1, v, _, rfl, r2, w, _, rfl, r3, rfl⟩ := r
    exact ⟨u, v, w, rfl, k.nx _ W1 _ s (((g1.set r1).set r2).set r3) q⟩
end Dw

/-! enumerate of a list that draws go on beside, not, sign * n. -/
namespace Dw
open PySem PySem.Spec PyProof.Rows L2
section
variable {K : PySem.W.Frag} {Γ : Gam} {ta t : TE}
theorem di_enumL {Q : List D → Gam → Prop} {r : TI} (h : Dl ta Γ fun d Γ1 => ∃ xs, d = .lst xs ∧ Q (enumD xs) Γ1) : Di (fun σ H R => iEnum K (tCons ta tNil) σ H R ∨ r σ H R) Γ Q := fun F σ W R g k => .inl (h F σ W _ g fun v W1 d Γ1 st g1 rd ⟨xs, e, q⟩ => by
  subst e
  obtain ⟨a, vs, rfl, ha, nu, l⟩ := rd
  refine ⟨a, vs, rfl, .of ha, k (Ite K a) W1 (enumD xs) Γ1 st g1 ⟨fun W2 i x s2 ok2 hx => ?_, fun W2 s2 ok2 => ⟨vs, .of (s2.keep a _ ha nu).1, by rw [enumD_length, l.length]; exact Nat.le_refl _⟩⟩ q⟩
  obtain ⟨y, hy, rfl⟩ := enumD_get hx
  obtain ⟨v, hv, rv⟩ := l.get hy
  have h2 := (s2.keep a _ ha nu).1
  refine ⟨⟨vs, v, .of h2, hv⟩, fun u H' ⟨T, z, eu, hT, eH, hz⟩ => ?_⟩
  subst eu; subst eH
  have := hz vs (.of h2)
  rw [hv] at this; cases this
  exact ⟨same_upd hT, rep_new_tup ok2.dom hT ⟨_, _, rfl, rfl, v, _, rfl, rv.stp s2, rfl⟩⟩)
theorem dl_notT {Q : D → Gam → Prop} (h : DlT (tTru K t) Γ fun b Γ1 => Q (.bl (!b)) Γ1) : Dl (tNotT K t) Γ Q := fun F σ W R g k => by
  have e := h F σ W (fun c H => R (.bl (!c)) H) g fun b W1 Γ1 s g1 q => k (.bl (!b)) W1 (.bl (!b)) Γ1 s g1 rfl q
  exact e
theorem mul_okS {s : Str} {c n : Nat} (hc : (s = Str.ofString "+" ∧ c = 43) ∨ (s = Str.ofString "-" ∧ c = 45) ∨ (s = Str.ofString "." ∧ c = 46)) (h : n ≤ 8) : MulOk s (n : Int) ∧ Txt.mul s (n : Int) = tx (List.replicate n c) := by
  have hn : n = 0 ∨ n = 1 ∨ n = 2 ∨ n = 3 ∨ n = 4 ∨ n = 5 ∨ n = 6 ∨ n = 7 ∨ n = 8 := by omega
  unfold MulOk
  rcases hc with ⟨rfl, rfl⟩ | ⟨rfl, rfl⟩ | ⟨rfl, rfl⟩ <;> rcases hn with rfl | rfl | rfl | rfl | rfl | rfl | rfl | rfl | rfl <;> exact ⟨by decide +kernel, by decide +kernel⟩
theorem mul_sign {s : Str} {c n : Nat} (hc : (s = Str.ofString "+" ∧ c = 43) ∨ (s = Str.ofString "-" ∧ c = 45) ∨ (s = Str.ofString "." ∧ c = 46)) (h : n ≤ 8) : DR2 rMulS (.str s) (.int n) (.str (tx (List.replicate n c))) := dr2_flat fun W u v Q a b k => ⟨_, _, a, b, (mul_okS hc h).1, k _ (by rw [(mul_okS hc h).2]; rfl)⟩
/-! equality of lists of whole numbers, deep -/
theorem eqv_ints : ∀ a b : List Nat, PyData.eqvAll (pys (ordN a)) (pys (ordN b)) = decide (a = b)
  | [], [] => rfl
  | [], y :: ys => by
    show false = _
    simp
  | x :: xs, [] => by
    show false = _
    simp
  | x :: xs, y :: ys => by
    show ((((x : Nat) : Int) == ((y : Nat) : Int)) && PyData.eqvAll (pys (ordN xs)) (pys (ordN ys))) = _
    rw [eqv_ints xs ys, Bool.eq_iff_iff]
    simp
    intro _
    omega
theorem eqv_ordT : ∀ a b : List (List Nat), PyData.eqvAll (pys (a.map fun o => D.tup (ordN o))) (pys (b.map fun o => D.tup (ordN o))) = decide (a = b)
  | [], [] => rfl
  | [], y :: ys => by
    show false = _
    simp
  | x :: xs, [] => by
    show false = _
    simp
  | x :: xs, y :: ys => by
    show (PyData.eqvAll (pys (ordN x)) (pys (ordN y)) && PyData.eqvAll (pys (xs.map fun o => D.tup (ordN o))) (pys (ys.map fun o => D.tup (ordN o)))) = _
    rw [eqv_ints, eqv_ordT xs ys, Bool.eq_iff_iff]
    simp
theorem dOk_ordT (a : List (List Nat)) : dOk 2 (.lst (a.map fun o => D.tup (ordN o))) = true := dOks_map fun o _ => dOks_map fun _ _ => rfl
theorem eq_ordT (a b : List (List Nat)) : DR2 (rEqX K) (.lst (a.map fun o => D.tup (ordN o))) (.lst (b.map fun o => D.tup (ordN o))) (.bl (decide (a = b))) := by
  obtain ⟨h1, h2⟩ := dOk_shaped (dOk_ordT a) (by decide)
  obtain ⟨h3, h4⟩ := dOk_shaped (dOk_ordT b) (by decide)
  have := eq_deep (K := K) h1 h3 h2 h4
  rw [show PyData.eqv (py (.lst (a.map fun o => D.tup (ordN o)))) (py (.lst (b.map fun o => D.tup (ordN o)))) = PyData.eqvAll (pys (a.map fun o => D.tup (ordN o))) (pys (b.map fun o => D.tup (ordN o))) from rfl, eqv_ordT] at this
  exact this
theorem ne_strsT {xs ys : List Str} (h1 : ∀ x ∈ xs, okS x) (h2 : ∀ x ∈ ys, okS x) : DR2 (rNeX K) (.tup (xs.map D.str)) (.tup (ys.map D.str)) (.bl (!decide (xs = ys))) := by
  have := ne_deep (K := K) (p := .tup (xs.map D.str)) (q := .tup (ys.map D.str)) (isPys_strs xs) (isPys_strs ys) (shaped_tup h1) (shaped_tup h2)
  rw [show PyData.eqv (py (.tup (xs.map D.str))) (py (.tup (ys.map D.str))) = PyData.eqvAll (pys (xs.map D.str)) (pys (ys.map D.str)) from rfl, eqv_strs] at this
  exact this
end
end Dw

/-! first, *rest = a tuple; t[::-1]; t[a:b] of any bounds; x in a dict of the module; the head with the bits of the script. -/
namespace Dw
open PySem PySem.Spec PyProof.Rows L2
/-! ### first, *rest = t -/
theorem unpack_star1T {prog : Program} {w : World} {A : Around} {E : Value → Shared → Prop} {s : Shared} {l : Addr} {b : Value} {its : List Value} {Q : List Value → Shared → Prop} (hl : IsTup s.heap l (b :: its).toArray) (hh : A.handled = none)
    (hz : its.length ≤ 16000) (h : ∀ (h1 : Heap) (tk : Nat), (∀ c o, s.heap.get? c = some o → h1.get? c = some o) → Q [b, .ref h1.objs.size] { s with heap := h1.push { cls := .type "list", data := .seq its.toArray }, toks := tk }) :
    wpAny (model prog w) A (unpackItems (.ref l) 2 (some 1)) Q E s := by
  have lt : l < s.heap.objs.size := by obtain ⟨o, ho, _⟩ := hl; exact Heap.lt_size ho
  have ne : l ≠ s.heap.objs.size := Nat.ne_of_lt lt
  unfold unpackItems notIterableAtAll
  refine wpAny_bind (wpAny_bind (wpAny_specialOf hl.typeIs slot_tuple_iter.lookup (wpAny_pure ?_)))
  simp only [Bool.false_eq_true, if_false]
  refine wpAny_bind (wpAny_holding (iter_tuple hl ?_))
  refine wpAny_bind (wpAny_holding (draw_tuple ne 1 0 _ _ ⟨_, Heap.get?_push_size _ rfl, rfl, rfl⟩ (hl.push _) (by simp) fun ha hit hs => ?_))
  have hla : IsTup ha l (b :: its).toArray := (hl.push _).extBut hs.extBut ne
  rw [Nat.zero_add] at hit
  obtain ⟨oi, hoi, _⟩ := id hit
  obtain ⟨ol, hol, _⟩ := id hla
  rw [if_neg (show ¬ (((b :: its).toArray.toList.drop 0).take 1).length < 1 by simp)]
  refine wpAny_bind (wpAny_holding (PySem.W.kun_collect (s := { s with heap := ha }) (T := "tuple_iterator") (.inr (.inr (.inr rfl))) (Walks.tuple (A := A.in1) hh s.heap.objs.size l ne _) (fun j u st => st.1.typeIs) (k := 1) (by simp) ⟨hit, hla⟩
    (Heap.lt_size hoi) (Heap.lt_size hol) (fun hb tk kp => ?_) (by rw [sizeLine_eq]; simp; omega)))
  show wpAny _ _ (if its.length < 0 then _ else _) _ _ _
  rw [if_neg (Nat.not_lt_zero _)]
  show wpAny _ _ (newList (its.take (its.length - 0)) >>= fun d => pure ([b] ++ [d] ++ its.drop (its.length - 0))) _ _ _
  rw [Nat.sub_zero, List.take_length, List.drop_length]
  have k2 : ∀ c o, s.heap.get? c = some o → hb.get? c = some o := fun c o e => kp c o (Nat.ne_of_lt (Heap.lt_size e)) (hs.extBut c o (Nat.ne_of_lt (Heap.lt_size e)) (Heap.get?_push_of_some _ e))
  unfold newList
  refine wpAny_bind (wpAny_newObj_type (wpAny_pure ?_) (by show its.toArray.size ≤ sizeLine; rw [sizeLine_eq, List.size_toArray]; omega))
  exact h hb tk k2
/-- from a list or a tuple -/
def gStar1X (K : PySem.W.Frag) (g1 g2 : TG) : TG := fun v σ H Q => ∃ a z zs, v = .ref a ∧ (SqL K H a (z :: zs) ∨ SqT K H a (z :: zs)) ∧ zs.length ≤ 16000 ∧ ∀ p, H p = none → g1 z σ (upd H p (.lst zs)) fun σ1 H1 => g2 (.ref p) σ1 H1 Q
theorem pg_star1X {X : Cx} (hc : X.calm = true) {e1 e2 : Expr} {g1 g2 : TG} {k : Nat} {pos sp : Pos} (h1 : PG X e1 g1) (h2 : PG X e2 g2) (hlen : (assignEach [e1, .Starred e2 sp] X.env).length = 2 := by rfl)
    (hst : (assignEach [e1, .Starred e2 sp] X.env).findIdx? (·.1) = some 1 := by rfl) (hm : (assignEach [e1, .Starred e2 sp] X.env).map (·.2) = [assign e1 X.env, assign e2 X.env] := by rfl) :
    PG X (.Tuple [e1, .Starred e2 sp] k pos) (gStar1X X.K g1 g2) := by
  refine ⟨fun pins s σ H v u Q I r hw => ?_⟩
  obtain ⟨a, z, zs, ev, hq, hl, hw⟩ := hw
  rcases hq with hq | hq
  · exact (pg_star1 hc h1 h2 hlen hst hm).run pins s σ H v u Q I r ⟨a, z, zs, ev, hq, hl, hw⟩
  subst ev
  cases r
  obtain ⟨its, rv, pl, hz⟩ := I.tuple hq
  cases rv with
  | cons rz rr =>
    rename_i b l
    rw [assign_Tuple]
    refine wpAny_bind (wpAny_standAt ?_)
    unfold unpack
    rw [hlen, hst, hm]
    refine wpAny_bind (wpAny_holding (unpack_star1T pl (I.ok.hd hc) (by rw [← rr.length]; exact hl) fun ha tk kp => ?_))
    have I1 : Inv X pins σ H { s with heap := ha, toks := tk } := I.kept kp
    have I2 := I1.laid (t' := tk) (o := .lst zs) (h' := ha.push { cls := .type "list", data := .seq l.toArray }) (fun c o e => Heap.get?_push_of_some _ e) (Nat.le_refl _)
      ⟨by have hz' : zs.length + 1 ≤ sizeLine := hz
          omega, l, 0, rr, Heap.get?_push_size _ rfl⟩
    refine assignInOrder_cons (thn (h1.run pins _ σ _ z b _ I2 rz (hw _ (I1.hok.fresh (Nat.le_refl _)))) fun _ s3 ⟨σ3, H3, I3, q3⟩ => ?_)
    exact assignInOrder_cons (thn (h2.run pins s3 σ3 H3 (.ref ha.objs.size) _ Q I3 rfl q3) fun _ s4 ⟨σ4, H4, I4, q4⟩ => assignInOrder_nil ⟨σ4, H4, I4, q4⟩)
theorem star1XA (K : PySem.W.Frag) {X : Cx} (hc : X.calm = true) {e1 e2 : Expr} {g1 g2 : TG} {k : Nat} {pos sp : Pos} (h1 : PG X e1 g1) (h2 : PG X e2 g2) (hK : X.K = K := by rfl) (hlen : (assignEach [e1, .Starred e2 sp] X.env).length = 2 := by rfl)
    (hst : (assignEach [e1, .Starred e2 sp] X.env).findIdx? (·.1) = some 1 := by rfl) (hm : (assignEach [e1, .Starred e2 sp] X.env).map (·.2) = [assign e1 X.env, assign e2 X.env] := by rfl) :
    PG X (.Tuple [e1, .Starred e2 sp] k pos) (gStar1X K g1 g2) := hK ▸ pg_star1X hc h1 h2 hlen hst hm
section
variable {K : PySem.W.Frag} {Γ : Gam}
theorem ds_starL {te : TE} {De : DE} {a b : Nat} (h : Dl te Γ fun d Γ1 => ∃ d0 ds, (d = .lst (d0 :: ds) ∨ d = .tup (d0 :: ds)) ∧ ds.length ≤ 16000 ∧ De.nx ((Γ1.set a (.val d0)).set b (.val (.lst ds)))) : Ds (tAsg te (gStar1X K (gName a) (gName b))) Γ De := fun F σ W Dr s l => h F σ W _ s fun v W1 d Γ1 st g1 r ⟨d0, ds, e, hz, q⟩ => by
  rcases e with e | e
  · subst e
    obtain ⟨p, vs, rfl, hp, nu, z, zs, rfl, r0, r1⟩ := r
    refine ⟨p, z, zs, rfl, .inl (.of hp), by rw [← r1.length]; exact hz, fun n hn => ?_⟩
    have sm : Same W1.H (upd W1.H n (.lst zs)) := same_upd hn
    exact l.nx _ (W1.at _) _ (st.trans (Stp.of_same g1.ok sm)) (((g1.same sm).set (r0.same sm)).set (rep_new_lst g1.ok.dom hn r1)) q
  · subst e
    obtain ⟨p, vs, rfl, hp, nu, z, zs, rfl, r0, r1⟩ := r
    refine ⟨p, z, zs, rfl, .inr (hp.sq), by rw [← r1.length]; exact hz, fun n hn => ?_⟩
    have sm : Same W1.H (upd W1.H n (.lst zs)) := same_upd hn
    exact l.nx _ (W1.at _) _ (st.trans (Stp.of_same g1.ok sm)) (((g1.same sm).set (r0.same sm)).set (rep_new_lst g1.ok.dom hn r1)) q
end
/-! ### t[a:b] -/
abbrev rSlX (K : PySem.W.Frag) : V → Option Int → Option Int → Hp → VK → Prop := fun x lo hi H Q => rSlL K x lo hi H Q ∨ rSlA K x lo hi H Q
theorem slXA {X : Cx} (K : PySem.W.Frag) (hK : X.K = K := by rfl) : SlR X (rSlX K) := hK ▸ sl_list.or sl_tupA
section
variable {K : PySem.W.Frag} {Γ : Gam} {te : TE} {ds : List D}
theorem evn_sliceY {tl th : TO} {lo hi : Option Int} (h : EvB te Γ ds) (h1 : Eo tl Γ lo) (h2 : Eo th Γ hi) : EvN (tSl (rSlX K) te tl th) Γ (cutD ds lo hi) := fun F σ W Q g k => h F σ W _ g fun a vs H s e l => h1 F σ (W.at H) _ (g.same s) fun H1 s1 => h2 F σ ((W.at H).at H1) _ ((g.same s).same s1) fun H2 s2 => by
  have sm : Same H H2 := Same.trans s1 s2
  exact .inl ⟨a, vs, rfl, .of (sm _ _ e), fun p hp => k p _ _ (Same.trans s (Same.trans sm (same_upd hp))) (s.free (sm.free hp)) upd_same (RepL.plus (W := W.at H2) hp (same_upd hp) (repL_cut (RepL.same (W := W.at H) sm l)))⟩
theorem cut_whole {α : Type} (xs : List α) (n : Nat) (lo hi : Option Int) (hn : n = xs.length) (h : HT.sIx n 0 lo = 0 ∧ HT.sIx n n hi = n) : (xs.drop (HT.sIx n 0 lo)).take (HT.sIx n n hi - HT.sIx n 0 lo) = xs := by
  rw [h.1, h.2, List.drop_zero, Nat.sub_zero, hn, List.take_length]
theorem ev_sliceTY {tl th : TO} {lo hi : Option Int} (h : Ev te Γ (.tup ds)) (h1 : Eo tl Γ lo) (h2 : Eo th Γ hi) : Ev (tSl (rSlX K) te tl th) Γ (.tup (cutD ds lo hi)) := fun F σ W Q g k => h F σ W _ g fun v H s ⟨a, vs, ev, e, nu, l⟩ => h1 F σ (W.at H) _ (g.same s) fun H1 s1 => h2 F σ ((W.at H).at H1) _ ((g.same s).same s1) fun H2 s2 => by
  have sm : Same H H2 := Same.trans s1 s2
  subst ev
  refine .inr ⟨a, vs, rfl, (e.same sm).sq, fun hw => ?_, fun hw p hp => k _ _ (Same.trans s (Same.trans sm (same_upd hp))) (rep_new_tup (W := W.at H2) (((g.same s).same s1).same s2).ok.dom hp (repL_cut (RepL.same (W := W.at H) sm l)))⟩
  have e1 : cutD ds lo hi = ds := cut_whole ds ds.length lo hi rfl (by rw [l.length]; exact hw)
  rw [e1] at k
  exact k _ H2 (Same.trans s sm) ⟨a, vs, rfl, e.same sm, nu, RepL.same (W := W.at H) sm l⟩
end
/-! ### x in a written dict -/
abbrev rInKd (K : PySem.W.Frag) (d : Addr) (neg : Bool) : R2 := fun x y H Q => ∃ (z : Str) (r : Option Value), x = .str z ∧ y = .ref d ∧ PySem.W.nsIn K d z = some r ∧ Q (.bl (if neg then !r.isSome else r.isSome)) H
theorem inKd {X : Cx} (K : PySem.W.Frag) (w : World) {d : Addr} {es : Array DictEntry} {n : Nat} (D : KDict K w d es n) (hK : X.K = K := by rfl) (hw : X.w = w := by rfl) : OpR X (compareOp .In) (rInKd K d false) := by
  subst hK hw; exact op_in_kd D
theorem ninKd {X : Cx} (K : PySem.W.Frag) (w : World) {d : Addr} {es : Array DictEntry} {n : Nat} (D : KDict K w d es n) (hK : X.K = K := by rfl) (hw : X.w = w := by rfl) : OpR X (compareOp .NotIn) (rInKd K d true) := by
  subst hK hw; exact op_notIn_kd D
section
variable {K : PySem.W.Frag} {w : World} {Γ : Gam} {ta tb : TE} {x : Str}
theorem ev_inKd {d : Addr} {neg : Bool} {r : Option Value} (h : Ev ta Γ (.str x)) (hb : Ev tb Γ (.raw (.ref d))) (e : PySem.W.nsIn K d x = some r) : Ev (tOp (rInKd K d neg) ta tb) Γ (.bl (if neg then !r.isSome else r.isSome)) :=
  ev_op h hb (dr2_flat fun W u v Q r1 r2 k => ⟨x, r, r1, r2, e, k _ rfl⟩)
/-- d[x], a number -/
theorem ev_ixKi {p : Addr} {z : Int} (h : Ev tb Γ (.str x)) (hk : KDct K w p x (.int z)) : Ev (tOp (rIxD K w) (tC (.ref p)) tb) Γ (.int z) :=
  ev_op ev_raw h (dr2_flat fun W u v Q r1 r2 k => ⟨p, x, .int z, r1, r2, hk, k _ rfl⟩)
end
/-! ### the head, with the script's bits -/
theorem walk_GB {l : PySem.W.OpenLaw} {k : Nat} {x : Str} {q : Program} {loose : List Str} {XP : (Str → Option Value) → Heap → Prop} {YP : World → Heap → Prop} {d : DefRec} {K : Params → PySem.W.Frag} {sp : PySem.W.Frag → Spc} (hn : l.most = some 63) (hdf : d.params.defaults = []) (hr : Room k callerA)
    (hY : ∀ (w : World) (h : Heap), YP w h → (K w.params).In h) (hsp : ∀ (K : PySem.W.Frag) (ns : List Int), ns.length ≤ 63 → (∀ z ∈ ns, Builtin.Int.intBits z ≤ 1048576) → ∃ y : (sp K).ty, (sp K).args y = [.scr K (ns.map V.int)] ∧ (sp K).ok y ∧ ∀ d, (sp K).rel y d → d = .bl true)
    (F : ∀ (w : World) (mg : Str → Option Value) (fa : Addr) (h : Heap), (K w.params).In h → h.Ns mainGlobals mg → mg d.name = some (.ref fa) → ∃ fd : FuncData, (∀ (s : Shared) (u : Value), BindsTo s fd ⟨[u], []⟩ [(x, u)]) ∧ ∀ base : Heap, FnG l.prog w (K w.params) mg base k fa fd [x] (sp (K w.params))) :
    PySem.W.WalkO q loose XP YP l.row.toRowW d [] (fun f vs => PySem.call f vs) :=
  Att.attach_callB hn hdf fun w _ _ mg _ fa _ _ _ _ _ _ ns G Y _ _ _ hmg hobj hints hlen hbits hg =>
    have ⟨_, hb, hF⟩ := F w mg fa _ (hY w _ Y) G.T.g hmg
    head_call (hY w _ Y) G.T.g G.T.b G.T.builtins G.T.nolimit hg hobj hints (Nat.le_trans hlen (by decide)) hr hF hb (hsp _ ns hlen hbits)
end Dw

/-! xs[::-1] of lists and tuples, *xs in a list, written dicts as values. -/
namespace Dw
open PySem PySem.Spec PyProof.Rows L2 HT
section
variable {prog : Program} {w : World} {A : Around} {E : Value → Shared → Prop} {s : Shared}
theorem adjust_m1 (n : Nat) : Builtin.Slice.sliceAdjust none none (-1) (n : Int) = ((n : Int) - 1, -1) := rfl
theorem places_m1 (n : Nat) : Builtin.Slice.slicePlaces ((n : Int) - 1) (-1) (-1) = n := by
  unfold Builtin.Slice.slicePlaces
  have h1 : ¬ ((-1 : Int) > 0) := by omega
  rw [if_neg h1]
  by_cases h : (n : Int) - 1 > -1
  · rw [if_pos h, show (-(-1) : Int) = 1 by decide, Int.ediv_one]; omega
  · rw [if_neg h]; omega
theorem sliceApplied_m1 {sl : Addr} {tk : Tok} {n : Nat} {Q : Int × Int × Nat → Shared → Prop} (hs : s.heap.IsSliceOf sl .none .none (.int (-1) tk))
    (h : Q ((n : Int) - 1, -1, n) s) : wpAny (model prog w) A (Builtin.Slice.sliceApplied (.ref sl) (pure (n : Int))) Q E s := by
  obtain ⟨os, hos, hcs, hds⟩ := id hs
  unfold Builtin.Slice.sliceApplied Builtin.Slice.sliceFields
  refine wpAny_bind (wpAny_bind (wpAny_field hos hds (x := .none) rfl (wpAny_bind (wpAny_field hos hds (x := .none) rfl (wpAny_bind (wpAny_field hos hds (x := .int (-1) tk) rfl (wpAny_pure ?_)))))))
  refine wpAny_bind (slicePart_int ?_)
  show wpAny _ _ (if ((-1 : Int) == 0) = true then _ else _) _ _ s
  rw [if_neg (by decide)]
  refine wpAny_bind (slicePart_none (wpAny_bind (slicePart_none (wpAny_bind (wpAny_pure ?_)))))
  show wpAny _ _ (match Builtin.Slice.sliceAdjust none none (-1) (n : Int) with | (lo, hi) => pure (lo, (-1 : Int), Builtin.Slice.slicePlaces lo hi (-1))) _ _ s
  rw [adjust_m1 n]
  show wpAny _ _ (pure ((n : Int) - 1, (-1 : Int), Builtin.Slice.slicePlaces ((n : Int) - 1) (-1) (-1))) _ _ s
  rw [places_m1]
  exact wpAny_pure h
theorem pick_rev (xs : Array Value) : ((List.range xs.size).filterMap fun (m : Nat) => xs[((xs.size : Int) - 1 + (m : Int) * (-1)).toNat]?) = xs.toList.reverse := by
  apply List.ext_getElem?
  intro i
  have e4 : ((List.range xs.size).filterMap fun (m : Nat) => xs[((xs.size : Int) - 1 + (m : Int) * (-1)).toNat]?) = (List.range xs.size).map fun k => (xs.toList.reverse)[k]?.getD default := by
    refine fm_all fun k hk => ?_
    have hk := List.mem_range.mp hk
    rw [List.getElem?_reverse (by simpa using hk)]
    have h0 : ((xs.size : Int) - 1 + (k : Int) * (-1)).toNat = xs.size - 1 - k := by omega
    have h1 : xs.size - 1 - k < xs.size := by omega
    rw [h0, Array.getElem?_eq_getElem h1]
    simp only [Array.length_toList]
    rw [List.getElem?_eq_getElem (by simpa using h1)]
    simp
  rw [e4, List.getElem?_map]
  by_cases hi : i < xs.size
  · rw [List.getElem?_range hi, Option.map_some, List.getElem?_eq_getElem (by simpa using hi)]; rfl
  · rw [List.getElem?_eq_none (by simpa using hi), List.getElem?_eq_none (by simpa using hi)]; rfl
theorem getItem_tuple_rev {t sl : Addr} {items : Array Value} {tk : Tok} {Q : Value → Shared → Prop} (ht : IsTup s.heap t items) (hs : s.heap.IsSliceOf sl .none .none (.int (-1) tk))
    (h : Q (.ref s.heap.objs.size) { s with heap := s.heap.push { cls := .type "tuple", data := .seq items.toList.reverse.toArray } })
    (hsz : items.size ≤ sizeLine) : wpAny (model prog w) A (getItem (.ref t) (.ref sl)) Q E s := by
  have htake : sizeOk (.seq items.toList.reverse.toArray) := by
    show items.toList.reverse.toArray.size ≤ sizeLine
    rw [List.size_toArray, List.length_reverse, Array.length_toList]
    exact hsz
  obtain ⟨os, hos, hcs, hds⟩ := id hs
  have hTs : s.TypeIs (.ref sl) "slice" := ⟨os, hos, hcs⟩
  unfold getItem
  try with_reducible refine wpAny_holding ?_
  first | refine wpAny_bind (wpAny_pure ?_) | skip
  refine wpAny_bind (wpAny_sequenceKey ht.typeIs (by decide) ?_)
  refine wpAny_bind (wpAny_callSpecial?_slot (name := Str.ofString "__getitem__") ht.typeIs PyProof.Rows.slot_tuple_getitem
    (wpAny_call_entry PyProof.Rows.slot_tuple_getitem ht.typeIs entry_tuple_getitem ?_ (args_tuple_getitem _ _)))
  show wpAny _ _ (Builtin.Tuple.tupleItemsOf (.ref t) >>= _) _ _ s
  refine wpAny_bind (tupleItemsOf_ ht ?_)
  refine wpAny_bind (wpAny_typeOf hTs ?_)
  rw [if_pos (by decide)]
  refine wpAny_bind (sliceApplied_m1 hs ?_)
  have hno : ¬ ((((items.size : Int) - 1) == 0 && (-1 : Int) == 1 && items.size == items.size) = true) := by
    intro q
    rw [Bool.and_eq_true, Bool.and_eq_true] at q
    have q1 : (-1 : Int) = 1 := eq_of_beq q.1.2
    omega
  show wpAny _ _ (if (((items.size : Int) - 1) == 0 && (-1 : Int) == 1 && items.size == items.size) = true then _ else _) _ _ s
  rw [if_neg hno, pick_rev]
  first
    | exact wpAny_bind (m := Builtin.Tuple.tupleExact _) (wpAny_newObj_type (wpAny_pure ⟨_, rfl, wpAny_pure h⟩) htake)
    | exact wpAny_bind (m := Builtin.Tuple.tupleExact _) (wpAny_newObj_type (wpAny_bind (wpAny_pure (wpAny_pure ⟨_, rfl, wpAny_pure h⟩))) htake)
    | exact wpAny_bind (wpAny_bind (m := Builtin.Tuple.tupleExact _) (wpAny_newObj_type (wpAny_pure (wpAny_pure ⟨_, rfl, wpAny_pure h⟩)) htake))
    | exact wpAny_bind (wpAny_bind (m := Builtin.Tuple.tupleExact _) (wpAny_newObj_type (wpAny_pure ⟨_, rfl, wpAny_pure h⟩) htake))
end
/-- xs[::-1] -/
def tSlR (K : PySem.W.Frag) (ta tk : TE) : TE := fun σ H Q => ta σ H fun x H1 => tk σ H1 fun y H2 => ∃ a xs, x = .ref a ∧ y = .int (-1) ∧ ((SqL K H2 a xs ∧ ∀ p, H2 p = none → Q (.ref p) (upd H2 p (.lst xs.reverse))) ∨ (SqT K H2 a xs ∧ ∀ p, H2 p = none → Q (.ref p) (upd H2 p (.tup xs.reverse))))
theorem pe_sliceR {X : Cx} {e e3 : Expr} {ta tk : TE} {p2 pos : Pos} (he : PE X e ta) (hk : PE X e3 tk) : PE X (.Subscript e (.Slice none none (some e3) p2) pos) (tSlR X.K ta tk) := by
  refine ⟨fun pins s σ H Q I h => ?_⟩
  refine Subscript_ (thn (he.run pins s σ H _ I h) fun v s1 ⟨x, H1, I1, r1, q1⟩ => ?_)
  refine wpAny_Slice ?_
  rw [evalPart_none]
  refine wpAny_pure (wpAny_pure ?_)
  refine thn (hk.run pins s1 σ H1 _ I1 q1) fun vk s3 ⟨y, H3, I3, rk, q3⟩ => ?_
  obtain ⟨a, xs, rfl, rfl, q⟩ := q3
  obtain ⟨tk', rfl⟩ := rk
  cases r1
  have I4 : Inv X pins σ H3 { s3 with heap := s3.heap.push { cls := .type "slice", data := .fields #[.none, .none, .int (-1) tk'] } } := I3.kept (t' := s3.toks) fun b ob q => Heap.get?_push_of_some _ q
  generalize hs4 : ({ s3 with heap := s3.heap.push { cls := .type "slice", data := .fields #[.none, .none, .int (-1) tk'] } } : Shared) = s4 at I4 ⊢
  have hsl : s4.heap.IsSliceOf s3.heap.objs.size .none .none (.int (-1) tk') := by rw [← hs4]; exact Heap.IsSliceOf.new ..
  show wpAny (model X.prog X.w) X.A (subscriptTail e (.Slice none none (some e3) p2) (.ref a) (.ref s3.heap.objs.size)) (EP X pins σ Q) X.xe s4
  rcases q with ⟨hx, q⟩ | ⟨hx, q⟩
  · obtain ⟨its, r, ht, hz⟩ := I4.list hx
    have hlen := r.length
    refine tail_any (ops := [.ref a, .ref s3.heap.objs.size]) ht.isList.typeIs slot_list_getitem.lookup ?_ (by with_unfolding_all rfl)
    refine wpAny_getItem_list_slice ht.isList hsl .none .none (.int (-1) tk') (fun z => by cases z) ?_ (by rw [List.size_toArray] <;> omega)
    rw [pick_m1, List.toList_toArray]
    refine ⟨.ref s4.heap.objs.size, _, I4.laid (t' := s4.toks) (o := .lst xs.reverse) (fun b ob q => Heap.get?_push_of_some _ q) (Nat.le_refl _) ?_, rfl, q _ (I4.hok.fresh (Nat.le_refl _))⟩
    exact ⟨by rw [List.length_reverse]; exact hz, its.reverse, 0, Vals_reverse r, Heap.get?_push_size _ rfl⟩
  · obtain ⟨its, r, ht, hz⟩ := I4.tuple hx
    have hlen := r.length
    refine tail_any (ops := [.ref a, .ref s3.heap.objs.size]) ht.typeIs PyProof.Rows.slot_tuple_getitem.lookup ?_ (by with_unfolding_all rfl)
    refine getItem_tuple_rev ht hsl ?_ (by rw [List.size_toArray] <;> omega)
    rw [List.toList_toArray]
    refine ⟨.ref s4.heap.objs.size, _, I4.laid (t' := s4.toks) (o := .tup xs.reverse) (fun b ob q => Heap.get?_push_of_some _ q) (Nat.le_refl _) ?_, rfl, q _ (I4.hok.fresh (Nat.le_refl _))⟩
    exact ⟨by rw [List.length_reverse]; exact hz, its.reverse, Vals_reverse r, IsTup.new _ _⟩
theorem sliceRA {X : Cx} {e e3 : Expr} {ta tk : TE} {p2 pos : Pos} (K : PySem.W.Frag) (he : PE X e ta) (hk : PE X e3 tk) (hK : X.K = K := by rfl) : PE X (.Subscript e (.Slice none none (some e3) p2) pos) (tSlR K ta tk) := hK ▸ pe_sliceR he hk
section
variable {K : PySem.W.Frag} {Γ : Gam} {ta tk te : TE} {ds es : List D} {t : TA}
theorem ev_revT (h : Ev ta Γ (.tup ds)) (hk : Ev tk Γ (.int (-1))) : Ev (tSlR K ta tk) Γ (.tup ds.reverse) := fun F σ W Q g q =>
  h F σ W _ g fun v H s ⟨a, vs, ev, e, nu, l⟩ => hk F σ (W.at H) _ (g.same s) fun u H2 s2 r => by
    subst ev
    exact ⟨a, vs, rfl, r, .inr ⟨(e.same s2).sq, fun p hp => q _ _ (Same.trans s (Same.trans s2 (same_upd hp))) (rep_new_tup (W := W.at H2) ((g.same s).same (W := W.at H) s2).ok.dom hp (repL_rev (RepL.same (W := W.at H) s2 l)))⟩⟩
theorem evn_revL (h : EvB ta Γ ds) (hk : Ev tk Γ (.int (-1))) : EvN (tSlR K ta tk) Γ ds.reverse := fun F σ W Q g q =>
  h F σ W _ g fun a vs H s e l => hk F σ (W.at H) _ (g.same s) fun u H2 s2 r => ⟨a, vs, rfl, r, .inl ⟨.of (s2 _ _ e), fun p hp => q p vs.reverse _ (Same.trans s (Same.trans s2 (same_upd hp))) (s.free (s2.free hp)) upd_same (RepL.plus (W := W.at H2) hp (same_upd hp) (repL_rev (RepL.same (W := W.at H) s2 l)))⟩⟩
/-- *xs -/
theorem eva_starX (h : Ev te Γ (.tup ds) ∨ EvB te Γ ds) (hr : EvA t Γ es) : EvA (StX.tStar K te t) Γ (ds ++ es) := fun F σ W Q g k => by
  rcases h with h | h
  · exact h F σ W _ g fun v H s ⟨a, vs, ev, e, nu, l⟩ => ⟨a, vs, ev, .inl (e.sq), hr F σ (W.at H) _ (g.same s) fun ws H2 s2 r => k _ H2 (Same.trans s s2) ((RepL.same (W := W.at H) s2 l).append r)⟩
  · exact h F σ W _ g fun a vs H s e l => ⟨a, vs, rfl, .inr (.of e), hr F σ (W.at H) _ (g.same s) fun ws H2 s2 r => k _ H2 (Same.trans s s2) ((RepL.same (W := W.at H) s2 l).append r)⟩
/-! ### {}, {'a': 1} -/
theorem ev_dnew : Ev tDNewK Γ (.dct [] []) := fun F σ W Q g k => fun p hp => k _ _ (same_upd hp) ⟨p, [], rfl, upd_same, fun u => g.ok.dom p u hp, rfl, rfl⟩
theorem ev_disp1 {x : Str} {z : Int} : Ev (tDisp [(tC (.str x), tC (.int z))]) Γ (.dct [Sum.inr x] [.int z]) := fun F σ W Q g k => fun p hp =>
  ⟨upd_same, [(Sum.inr x, .int z)], rfl, by show 1 ≤ 15; omega, by
    rw [upd_upd]
    exact k _ _ (same_upd hp) ⟨p, [.int z], rfl, upd_same, fun u => g.ok.dom p u hp, rfl, .int z, [], rfl, rfl, rfl⟩⟩
end
end Dw

/-! t != (), a, b, c = [], x, y, tuple(xs) with draws, cuts of the script. -/
namespace Dw
open PySem PySem.Spec PyProof.Rows L2 HT
abbrev rNeT0 (K : PySem.W.Frag) : R2 := fun x y H Q => ∃ a b xs, x = .ref a ∧ y = .ref b ∧ SqT K H a xs ∧ SqT K H b [] ∧ Q (.bl (!xs.isEmpty)) H
theorem op_neT0 {X : Cx} (hu : X.A.units + 64 < cLine) : OpR X (compareOp .NotEq) (rNeT0 X.K) := by
  intro pins s σ H x y v u Q I rx ry h
  obtain ⟨a, b, xs, rfl, rfl, ha, hb, q⟩ := h
  cases rx
  cases ry
  obtain ⟨its, r1, ⟨o, ho, hc, n, hd⟩, _⟩ := I.tuple ha
  obtain ⟨its2, r2, ⟨o2, ho2, hc2, n2, hd2⟩, _⟩ := I.tuple hb
  cases r2
  have e : (!((List.range (min its.toArray.size ([] : List Value).toArray.size)).all (fun _ => true) && its.toArray.size == ([] : List Value).toArray.size)) = !xs.isEmpty := by
    have h1 := r1.length
    rw [show (List.range (min its.toArray.size ([] : List Value).toArray.size)).all (fun _ => true) = true from List.all_eq_true.mpr fun _ _ => rfl, Bool.true_and, List.size_toArray, List.size_toArray, ← h1]
    cases xs <;> rfl
  refine PySem.EqBoolInt.of_rcne (SeqAt.RcNeAt.tuples (e := fun _ => true) ⟨o, ho, hc, n, hd⟩ ⟨o2, ho2, hc2, n2, hd2⟩ (by omega) (fun j h1 h2 => absurd h2 (by simp))) ?_
  exact ⟨.bl _, H, I, by rw [e]; rfl, q⟩
theorem neT0A {X : Cx} (K : PySem.W.Frag) (hu : X.A.units + 64 < cLine) (hK : X.K = K := by rfl) : OpR X (compareOp .NotEq) (rNeT0 K) := hK ▸ op_neT0 hu
theorem ne_T0 {K : PySem.W.Frag} {ds : List D} : DR2 (rNeT0 K) (.tup ds) (.tup []) (.bl (!ds.isEmpty)) := dr2_flat fun W u v Q ⟨a, vs, eu, e, nu, l⟩ ⟨b, ws, ev, e2, nu2, l2⟩ k => ⟨a, b, vs, eu, ev, e.sq, by rw [show ws = [] from l2] at e2; exact e2.sq, k _ (by
  have := l.length
  cases ds <;> cases vs <;> first | rfl | (simp at this))⟩
theorem ds_par3_o {Γ : Gam} {De : DE} {i j l : Nat} {t1 : TE} {t2 : TA} {ds : List D} (h1 : EvN t1 Γ ds) (h : DlA t2 Γ fun es Γ1 => ∃ y z, es = [y, z] ∧ De.nx (((Γ1.set i (.own ds)).set j (.val y)).set l (.val z))) : Ds (tPar3 i j l (tCons t1 t2)) Γ De := fun F σ W Dr g k =>
  h1 F σ W _ g fun a vs H s n e r => by
    obtain ⟨st1, g1, no1, f1, p1⟩ := g.plus s n (by rw [e]; exact fun z => nomatch z)
    have g1' : SR (fun b => F b ∨ b = a) Γ σ (W.plus H a) := ⟨⟨g1.ok.dom, fun b z => z.elim (g1.ok.fu b) (fun z => z ▸ .inr rfl), fun b z => let ⟨u, f, p⟩ := g1.ok.pu b z; ⟨u, fun w => w.elim f (fun w => p1 (w ▸ z)), p⟩⟩, g1.len, g1.val, fun i ds e => let ⟨b, vs, e1, u, f, p, q, r⟩ := g1.own i ds e; ⟨b, vs, e1, u, fun w => w.elim f (fun w => no1 ⟨i, ds, e, w ▸ e1⟩), p, q, r⟩, g1.apart⟩
    refine h (fun b => F b ∨ b = a) σ (W.plus H a) _ g1' fun vs2 W1 es Γ1 st g2 r2 ⟨y, z, e2, q⟩ => ?_
    subst e2
    obtain ⟨v, _, rfl, ry, w, _, rfl, rz, rfl⟩ := r2
    have ea : W1.H a = some (.lst vs) := (st.fr a (.inr rfl)).trans e
    have g2' : SR F Γ1 σ W1 := ⟨⟨g2.ok.dom, fun b z => g2.ok.fu b (.inl z), fun b z => let ⟨u, f, p⟩ := g2.ok.pu b z; ⟨u, fun w => f (.inl w), p⟩⟩, g2.len, g2.val, fun i ds e => let ⟨b, vs, e1, u, f, p, q, r⟩ := g2.own i ds e; ⟨b, vs, e1, u, fun w => f (.inl w), p, q, r⟩, g2.apart⟩
    have no2 : ¬ ownA Γ1 σ a := fun ⟨i, ds, e1, e2⟩ => by
      obtain ⟨b, vs, e3, _, f, _⟩ := g2.own i ds e1
      rw [e2] at e3; cases e3
      exact f (.inr rfl)
    have p2 : ¬ W1.P a := fun z => (g2.ok.pu a z).2.1 (.inr rfl)
    have ra : RepL W1 ds vs := r.stp st
    have g3 := g2'.adopt (i := i) (g2.ok.fu a (.inr rfl)) f1 p2 ea ra no2
    exact ⟨.ref a, v, w, rfl, k.nx _ W1 _ (st1.trans (st.sub fun b z => .inl z)) ((g3.set ry).set rz) q⟩
section
variable {K : PySem.W.Frag} {Γ : Gam} {ta te : TE}
theorem dl_tuple {Q : D → Gam → Prop} (h : Dl ta Γ fun d Γ1 => ∃ ds, d = .lst ds ∧ Q (.tup ds) Γ1) : Dl (tCB (rTupleOf K) (tCons ta tNil)) Γ Q := fun F σ W R g k => h F σ W _ g fun v W1 d Γ1 st g1 r ⟨ds, e, q⟩ => by
  subst e
  obtain ⟨p, vs, rfl, e, nu, l⟩ := r
  exact ⟨p, vs, rfl, .inl ⟨.of e, fun n hn => k _ (W1.at _) (.tup ds) Γ1 (st.trans (Stp.of_same g1.ok (same_upd hn))) (g1.same (same_upd hn)) (rep_new_tup g1.ok.dom hn l) q⟩⟩
theorem evn_sliceXY {tl th : TO} {ns : List Int} {lo hi : Option Int} (h : Ev te Γ (.scr K (ns.map V.int))) (h1 : Eo tl Γ lo) (h2 : Eo th Γ hi) : EvN (tSl (rSlX K) te tl th) Γ (intD (cutI ns lo hi)) := fun F σ W Q g k => h F σ W _ g fun v H s r => h1 F σ (W.at H) _ (g.same s) fun H1 s1 => h2 F σ ((W.at H).at H1) _ ((g.same s).same s1) fun H2 s2 => by
  have sm : Same H H2 := Same.trans s1 s2
  obtain ⟨a, e, q⟩ := scr_sq (r.same (W := W.at H) sm)
  refine .inl ⟨a, _, e, q, fun p hp => k p _ _ (Same.trans s (Same.trans sm (same_upd hp))) (s.free (sm.free hp)) upd_same (RepL.ints.mpr ?_)⟩
  unfold cutI L2.cutV
  simp [List.map_take, List.map_drop]
end
theorem cut_take (ds : List D) (j : Nat) : Dw.cutD ds none (some (j : Int)) = ds.take j := by
  unfold Dw.cutD
  rw [sIx_none, sIx_nat, List.drop_zero, Nat.sub_zero]
  by_cases h : j ≤ ds.length
  · rw [Nat.min_eq_left h]
  · rw [Nat.min_eq_right (by omega), List.take_length, List.take_of_length_le (by omega)]
theorem cut_drop (ds : List D) (j : Nat) : Dw.cutD ds (some (j : Int)) none = ds.drop j := by
  unfold Dw.cutD
  rw [sIx_none, sIx_nat]
  by_cases h : j ≤ ds.length
  · rw [Nat.min_eq_left h, List.take_of_length_le (by rw [List.length_drop]; exact Nat.le_refl _)]
  · rw [Nat.min_eq_right (by omega), Nat.sub_self, List.take_zero, List.drop_eq_nil_of_le (by omega)]
theorem cut_mid (ds : List D) (j : Nat) (h : j < ds.length) : Dw.cutD ds (some (j : Int)) (some ((j : Int) + 1)) = (ds.drop j).take 1 := by
  unfold Dw.cutD
  rw [show ((j : Int) + 1) = ((j + 1 : Nat) : Int) by omega, sIx_nat, sIx_nat, Nat.min_eq_left (by omega : j ≤ ds.length), Nat.min_eq_left (by omega : j + 1 ≤ ds.length), Nat.add_sub_cancel_left]
theorem cut_drop1 (ds : List D) (j : Nat) : Dw.cutD ds (some ((j : Int) + 1)) none = ds.drop (j + 1) := by
  rw [show ((j : Int) + 1) = ((j + 1 : Nat) : Int) by omega, cut_drop]
end Dw

/-! tuple(range(n)), x not in a list of signs. -/
namespace Dw
open PySem PySem.Spec PyProof.Rows L2
section
variable {K : PySem.W.Frag} {Γ : Gam} {ta : TE}
theorem ev_tupRg {n : Nat} (h : Ev ta Γ (.int n)) (hn : n ≤ 16777216) : Ev (tTupRg (tRg1 ta)) Γ (.tup (rng n)) := fun F σ W Q g k => h F σ W _ g fun v H s r => ⟨n, r, RgOk.of_le (by omega) (by omega) (by omega) (by omega), fun q hq => by
  have e : rgV 0 n = (rng n).map scV := by
    unfold rgV rng
    rw [List.map_map]
    refine List.map_congr_left fun i _ => ?_
    show V.int (0 + (i : Int)) = V.int i
    rw [Int.zero_add]
  have l : RepL (W.at H) (rng n) (rgV 0 n) := by
    have := (RepL.ints (W := W.at H) (ns := (List.range n).map fun (i : Nat) => (i : Int)) (vs := rgV 0 n)).mpr (by
      rw [e]; unfold rng; rw [List.map_map, List.map_map]; rfl)
    rw [List.map_map] at this
    exact this
  exact k _ _ (Same.trans s (same_upd hq)) (rep_new_tup (W := W.at H) (g.same s).ok.dom hq l)⟩
end
end Dw

/-! cuts of texts, x is not False, t == (). -/
namespace Dw
open PySem PySem.Spec PyProof.Rows L2 HT
section
variable {K : PySem.W.Frag} {Γ : Gam} {ta te : TE} {x : Str}
theorem ev_sliceS {tl th : TO} {lo hi : Option Int} (h : Ev te Γ (.str x)) (hz : x.length ≤ sizeLine) (h1 : Eo tl Γ lo) (h2 : Eo th Γ hi) : Ev (tSl rSlS te tl th) Γ (.str (cutS x lo hi)) := fun F σ W Q g k => h F σ W _ g fun v H s r => h1 F σ (W.at H) _ (g.same s) fun H1 s1 => h2 F σ ((W.at H).at H1) _ ((g.same s).same s1) fun H2 s2 =>
  ⟨x, r, hz, k _ H2 (Same.trans s (Same.trans s1 s2)) rfl⟩
theorem cutS_take (l : List Nat) (j : Nat) : cutS (tx l) none (some (j : Int)) = tx (l.take j) := by
  unfold cutS
  rw [sIx_none, sIx_nat, List.drop_zero, Nat.sub_zero, tx_cps, tx_len]
  by_cases h : j ≤ l.length
  · rw [Nat.min_eq_left h]; rfl
  · rw [Nat.min_eq_right (by omega), List.take_length, List.take_of_length_le (by omega)]; rfl
theorem cutS_drop (l : List Nat) (j : Nat) : cutS (tx l) (some (j : Int)) none = tx (l.drop j) := by
  unfold cutS
  rw [sIx_none, sIx_nat, tx_cps, tx_len]
  by_cases h : j ≤ l.length
  · rw [Nat.min_eq_left h, List.take_of_length_le (by rw [List.length_drop]; exact Nat.le_refl _)]; rfl
  · rw [Nat.min_eq_right (by omega), Nat.sub_self, List.take_zero, List.drop_eq_nil_of_le (by omega)]; rfl
theorem cutS_drop1 (l : List Nat) (j : Nat) : cutS (tx l) (some ((j : Int) + 1)) none = tx (l.drop (j + 1)) := by
  rw [show ((j : Int) + 1) = ((j + 1 : Nat) : Int) by omega, cutS_drop]
theorem not_bl (a b : Bool) : DR2 rNotB (.bl a) (.bl b) (.bl (!decide (a = b))) := dr2_flat fun W u v Q r1 r2 k => ⟨a, b, r1, r2, k _ rfl⟩
theorem eq_nilX {k : Nat} {ds : List D} (h : dOk k (.tup ds) = true) (hk : k ≤ 64) : DR2 (rEqX K) (.tup ds) (.tup []) (.bl ds.isEmpty) := by
  obtain ⟨h1, h2⟩ := dOk_shaped h hk
  have := eq_deep (K := K) (q := .tup []) h1 rfl h2 rfl
  rw [show PyData.eqv (py (.tup ds)) (py (.tup [])) = PyData.eqvAll (pys ds) (pys []) from rfl, eqv_nil] at this
  exact this
end
end Dw

/-! xs != [] of any list. -/
namespace Dw
open PySem PySem.Spec PyProof.Rows L2 HT
abbrev rNeL0 (K : PySem.W.Frag) : R2 := fun x y H Q => ∃ a b xs, x = .ref a ∧ y = .ref b ∧ SqL K H a xs ∧ SqL K H b [] ∧ Q (.bl (!xs.isEmpty)) H
theorem op_neL0 {X : Cx} (hu : X.A.units + 64 < cLine) : OpR X (compareOp .NotEq) (rNeL0 X.K) := by
  intro pins s σ H x y v u Q I rx ry h
  obtain ⟨a, b, xs, rfl, rfl, ha, hb, q⟩ := h
  cases rx
  cases ry
  obtain ⟨its, r1, p1, _⟩ := I.list ha
  obtain ⟨its2, r2, p2, _⟩ := I.list hb
  cases r2
  cases xs with
  | nil =>
    cases r1
    refine PySem.EqBoolInt.of_rcne (SeqAt.RcNeAt.lists (e := fun _ => true) p1.isList p2.isList rfl (by omega) (fun j h1 h2 => absurd h2 (by simp))) ?_
    exact ⟨.bl _, H, I, rfl, q⟩
  | cons x xs =>
    cases r1
    refine PySem.EqBoolInt.of_rcne (SeqAt.RcNeAt.lists_lengths p1.isList p2.isList (by simp) (by omega)) ?_
    exact ⟨.bl _, H, I, rfl, q⟩
theorem neL0A {X : Cx} (K : PySem.W.Frag) (hu : X.A.units + 64 < cLine) (hK : X.K = K := by rfl) : OpR X (compareOp .NotEq) (rNeL0 K) := hK ▸ op_neL0 hu
theorem ne_L0 {K : PySem.W.Frag} {ds : List D} : DR2 (rNeL0 K) (.lst ds) (.lst []) (.bl (!ds.isEmpty)) := dr2_flat fun W u v Q ⟨a, vs, eu, e, nu, l⟩ ⟨b, ws, ev, e2, nu2, l2⟩ k => ⟨a, b, vs, eu, ev, .of e, by rw [show ws = [] from l2] at e2; exact .of e2, k _ (by
  have := l.length
  cases ds <;> cases vs <;> first | rfl | (simp at this))⟩
end Dw

/-! a, b = a list; {i: x, j: y}.get(k, z). -/
namespace Dw
open PySem PySem.Spec PyProof.Rows L2 HT
theorem lstUA (K : PySem.W.Frag) (n : Nat) {X : Cx} {pos : Pos} {es : List Expr} {k : Nat} {t : TGs} (hc : X.calm = true) (h : PGs X es t) (hK : X.K = K := by rfl)
    (hn : (assignEach es X.env).length = n := by rfl) (hst : (assignEach es X.env).findIdx? (·.1) = none := by rfl) : PG X (.Tuple es k pos) (gLst K n t) := hK ▸ pg_lst hc h hn hst
theorem dg_lst2 {K : PySem.W.Frag} {g1 g2 : TG} {is js : List Nat} {x y : D} {Γ Γ1 Γ2 : Gam} (h1 : DG g1 is x Γ Γ1) (h2 : DG g2 js y Γ1 Γ2) : DG (gLst K 2 (gCons g1 (gCons g2 gNil))) (is ++ js) (.lst [x, y]) Γ Γ2 := fun F σ W v R g r k => by
  obtain ⟨a, vs, e, ha, nu, v1, _, rfl, r1, v2, _, rfl, r2, rfl⟩ := r
  refine ⟨a, [v1, v2], e, .of ha, rfl, v1, [v2], rfl, h1 F σ W v1 _ g r1 fun σ1 g1 w1 => ⟨v2, [], rfl, h2 F σ1 W v2 _ g1 r2 fun σ2 g2 w2 => ⟨rfl, k σ2 g2 fun vs h => ?_⟩⟩⟩
  rw [w2 vs fun i hi => h i (List.mem_append_right _ hi), w1 vs fun i hi => h i (List.mem_append_left _ hi)]
section
variable {Γ : Gam} {td ty : TE}
theorem ev_disp_ij {a b : Nat} {i j : Int} {x y : Str} (h1 : Γ[a]? = some (.val (.int i))) (h2 : Γ[b]? = some (.val (.int j))) (hne : i ≠ j) : Ev (tDisp [(tVar a, tC (.str x)), (tVar b, tC (.str y))]) Γ (.dct [Sum.inl i, Sum.inl j] [.str x, .str y]) := fun F σ W Q g k => fun p hp => by
  obtain ⟨v0, e0, r0⟩ := g.val a _ h1
  obtain ⟨v1, e1, r1⟩ := g.val b _ h2
  rw [show v0 = V.int i from r0] at e0
  rw [show v1 = V.int j from r1] at e1
  refine ⟨.int i, e0, .int j, e1, upd_same, [(Sum.inl i, .str x), (Sum.inl j, .str y)], rfl, by show 2 ≤ 15; omega, ?_⟩
  rw [upd_upd]
  have : mergeK [] [((Sum.inl i : Key), V.str x), (Sum.inl j, V.str y)] = [(Sum.inl i, .str x), (Sum.inl j, .str y)] := by
    simp [mergeK, putK, hne]
  rw [this]
  exact k _ _ (same_upd hp) ⟨p, [.str x, .str y], rfl, upd_same, fun u => g.ok.dom p u hp, rfl, .str x, [.str y], rfl, rfl, .str y, [], rfl, rfl, rfl⟩
theorem ev_dget_ij {i j r : Int} {x y z : Str} (h : Ev td Γ (.dct [Sum.inl i, Sum.inl j] [.str x, .str y])) (hk : Ev ty Γ (.int r)) : Ev (tDGet2 td ty (tC (.str z))) Γ (.str (if i = r then x else if j = r then y else z)) := fun F σ W Q g k => h F σ W _ g fun v H s ⟨a, vs, ev, e, nu, hl, rl⟩ => by
  subst ev
  obtain ⟨u, _, rfl, r1, u2, _, rfl, r2, rfl⟩ := rl
  rw [show u = V.str x from r1, show u2 = V.str y from r2] at e
  refine ⟨a, rfl, .inl ⟨_, .inl e⟩, hk F σ (W.at H) _ (g.same s) fun w H2 s2 rw' => ?_⟩
  refine ⟨valV [((Sum.inl i : Key), V.str x), (Sum.inl j, V.str y)] (Sum.inl r), ?_, ?_⟩
  · rw [show w = V.int r from rw']; exact DGet.k (k := Sum.inl r) (s2 _ _ e)
  · refine k _ H2 (Same.trans s s2) ?_
    show _ = V.str _
    by_cases h1 : i = r
    · rw [valV_pos (by rw [h1]), if_pos h1]; rfl
    · rw [valV_neg (fun z => h1 (Sum.inl.inj z)), if_neg h1]
      by_cases h2 : j = r
      · rw [valV_pos (by rw [h2]), if_pos h2]; rfl
      · rw [valV_neg (fun z => h2 (Sum.inl.inj z)), if_neg h2]; rfl
end
end Dw

/-! [b for a in xs for b in a]; a value not in a list; repr of a tuple. -/
namespace Dw
open PySem PySem.Spec PyProof.Rows L2 HT
theorem repL_ord {W : Wd} : ∀ {o : List Nat} {vs : List V}, RepL W (o.map fun k : Nat => D.int k) vs → vs = o.map fun k : Nat => V.int k
  | [], vs, h => h
  | a :: o, vs, h => by
    obtain ⟨v, r, rfl, rv, rr⟩ := h
    rw [show v = V.int a from rv, repL_ord rr]; rfl
theorem ord_repL {W : Wd} : ∀ (o : List Nat), RepL W (o.map fun k : Nat => D.int k) (o.map fun k : Nat => V.int k)
  | [] => rfl
  | a :: o => ⟨_, _, rfl, rfl, ord_repL o⟩
theorem evn_lc2T {K : PySem.W.Frag} {wi : TI} {Γ : Gam} {a b : Nat} {xs : List (List Nat)} (h : Ei wi Γ (xs.map fun o => .tup (o.map fun k : Nat => D.int k))) (ha : a < Γ.length) (hb : b < Γ.length) (hab : b ≠ a) (hz : xs.flatten.length ≤ 1000000) :
    EvN (tLc2 wi (gName a) tYes (iAnyR K (tVar a)) (gName b) tYes (tVar b) [a, b] [b]) Γ (xs.flatten.map fun k : Nat => D.int k) := fun F σ W R s k =>
  h F σ W _ s fun I H1 st it => fun Dn hD => by
    have wd : W.H Dn = none := st.free hD
    have la : a < σ.length := by rw [← s.len]; exact ha
    have lb : b < σ.length := by rw [← s.len]; exact hb
    refine ⟨fun i m H' => m = xs.length - i ∧ i ≤ xs.length ∧ Same H1 H' ∧ H' Dn = some (.lst ((xs.take i).flatten.map fun k : Nat => V.int k)), ⟨_, rfl, Nat.zero_le _, same_upd hD, upd_same⟩, ?_⟩
    rintro i m H' ⟨rfl, hi, sm, hus⟩
    by_cases hlt : i < xs.length
    · have hx : xs[i]? = some xs[i] := List.getElem?_eq_getElem hlt
      have hx' : (xs.map fun o : List Nat => D.tup (o.map fun k : Nat => D.int k))[i]? = some (.tup (xs[i].map fun k : Nat => D.int k)) := by rw [List.getElem?_map, hx]; rfl
      obtain ⟨go, yl⟩ := it.go (W.plus H' Dn) i _ (fun b hb z => hb.elim (fun u => s.ok.dom b u ((Same.trans st sm).free z)) (fun e => by rw [e] at z; exact absurd (hus.symm.trans z) (fun q => nomatch q))) sm (fun b u e n z => z.elim n fun z => by rw [z] at e; exact absurd (e.symm.trans hD) (fun q => nomatch q)) rfl hx'
      refine .inr ⟨go, fun H2 => Same H1 H2 ∧ H2 Dn = some (.lst ((xs.take (i + 1)).flatten.map fun k : Nat => V.int k)), fun H2 q => ⟨xs.length - (i + 1), by omega, rfl, hlt, q⟩, fun v H2 y => ?_⟩
      obtain ⟨sm2, p, vs, rfl, hp, nu, rl⟩ := yl v H2 y
      have hp : TupAt H2 p vs := hp
      have hpD : p ≠ Dn := fun z => nu (Or.inr z)
      obtain rfl := repL_ord rl
      have hD2 : H2 Dn = some (.lst ((xs.take i).flatten.map fun k : Nat => V.int k)) := sm2 _ _ hus
      have sm3 : Same H1 H2 := Same.trans sm sm2
      have fl : (xs.take (i + 1)).flatten = (xs.take i).flatten ++ xs[i] := by rw [List.take_add_one, hx, List.flatten_append]; simp
      have lz : (xs.take i).flatten.length + xs[i].length ≤ 1000000 := by
        have e : xs.flatten = (xs.take (i + 1)).flatten ++ (xs.drop (i + 1)).flatten := by rw [← List.flatten_append, List.take_append_drop]
        rw [e, List.length_append, fl, List.length_append] at hz
        omega
      show wipe ((wipe σ [a, b]).set a (some (.ref p))) [a, b] = wipe σ [a, b] ∧ tYes _ H2 _
      refine ⟨by rw [wipe_set List.mem_cons_self, wipe_wipe], ?_⟩
      simp only [tYes]
      rw [if_pos trivial]
      refine .inl (.inr (.inl ?_))
      refine ⟨.ref p, by rw [List.getElem?_set_self (by rw [wipe_length]; exact la)], p, rfl, ⟨_, hp.sq⟩, ?_⟩
      refine ⟨fun j k H3 => k = xs[i].length - j ∧ j ≤ xs[i].length ∧ Same H1 H3 ∧ TupAt H3 p (xs[i].map fun k : Nat => V.int k) ∧ H3 Dn = some (.lst (((xs.take i).flatten ++ xs[i].take j).map fun k : Nat => V.int k)), ⟨_, rfl, Nat.zero_le _, sm3, hp, by rw [hD2, List.take_zero, List.append_nil]⟩, ?_⟩
      rintro j kk H3 ⟨rfl, hj, s3, hp3, hD3⟩
      by_cases hjl : j < xs[i].length
      · have hy : (xs[i].map fun k : Nat => V.int k)[j]? = some (V.int xs[i][j]) := by rw [List.getElem?_map, List.getElem?_eq_getElem hjl]; rfl
        refine .inr ⟨⟨_, _, hp3.sq, hy⟩, fun H4 => Same H1 H4 ∧ TupAt H4 p (xs[i].map fun k : Nat => V.int k) ∧ H4 Dn = some (.lst (((xs.take i).flatten ++ xs[i].take (j + 1)).map fun k : Nat => V.int k)), fun H4 q => ⟨xs[i].length - (j + 1), by omega, rfl, hjl, q⟩, fun y H4 hyy => ?_⟩
        obtain ⟨rfl, yy⟩ := hyy
        have e := yy _ hp3.sq
        rw [hy] at e
        cases e
        simp only [gName, tYes]
        refine ⟨by rw [wipe_set List.mem_cons_self, wipe_wipe], ?_⟩
        rw [if_pos trivial]
        refine ⟨V.int xs[i][j], by rw [List.getElem?_set_self (by rw [wipe_length, List.length_set, wipe_length]; exact lb)], _, hD3, ?_, ?_⟩
        · rw [List.length_map, List.length_append]
          refine Nat.lt_of_le_of_lt (m := 1000000) ?_ (show 1000000 < sizeLine by decide)
          have := List.length_take_le j xs[i]
          omega
        · refine ⟨fun b' u e => ?_, hp3.imp fun u e => by rw [upd_ne hpD]; exact e, ?_⟩
          · have nb : b' ≠ Dn := fun z => by rw [z, hD] at e; cases e
            rw [upd_ne nb]
            exact s3 _ _ e
          · have e2 : xs[i].take (j + 1) = xs[i].take j ++ [xs[i][j]] := by rw [List.take_add_one, List.getElem?_eq_getElem hjl]; rfl
            rw [upd_same, e2, ← List.append_assoc, List.map_append (l₁ := (xs.take i).flatten ++ xs[i].take j)]; rfl
      · have e : j = xs[i].length := by omega
        subst e
        refine .inl ⟨⟨_, hp3.sq, by rw [List.length_map]; exact Nat.le_refl _⟩, s3, ?_⟩
        rw [hD3, List.take_length, fl]
    · have e : i = xs.length := by omega
      subst e
      rw [List.take_length] at hus
      exact .inl ⟨by have := it.stop H' sm; rw [List.length_map] at this; exact this, k Dn _ H' (Same.trans st sm) wd hus (ord_repL _)⟩
/-! a tuple of whole numbers, not in a list of such -/
theorem notInDA {X : Cx} {k : Nat} (K : PySem.W.Frag) (r : Room k X.A) (hK : X.K = K := by rfl) : OpR X (compareOp .NotIn) (rNotInD K) := hK ▸ op_notInD (by have := r.un; omega)
theorem any_eqv (o : List Nat) : ∀ l : List (List Nat), ((pys (l.map fun p => D.tup (ordN p))).any fun z => PyData.eqv z (py (.tup (ordN o)))) = decide (o ∈ l)
  | [] => by simp [pys]
  | p :: l => by
    show (PyData.eqvAll (pys (ordN p)) (pys (ordN o)) || (pys (l.map fun p => D.tup (ordN p))).any _) = _
    rw [any_eqv o l, eqv_ints, Bool.eq_iff_iff, Bool.or_eq_true, decide_eq_true_eq, decide_eq_true_eq, decide_eq_true_eq, List.mem_cons]
    exact or_congr ⟨Eq.symm, Eq.symm⟩ Iff.rfl
theorem not_inD {K : PySem.W.Frag} (o : List Nat) (l : List (List Nat)) : DR2 (rNotInD K) (.tup (ordN o)) (.lst (l.map fun p => D.tup (ordN p))) (.bl (!decide (o ∈ l))) := dr2_flat fun W u v Q a b k => by
  have t1 : dOk 1 (.tup (ordN o)) = true := dOks_map fun _ _ => rfl
  obtain ⟨h1, h2⟩ := dOk_shaped t1 (by decide)
  obtain ⟨h3, h4⟩ := dOk_shaped (dOk_ordT l) (by decide)
  refine ⟨_, _, dp_of _ u h1 a, dp_of _ v h3 b, h2, h4, k _ ?_⟩
  show V.bl _ = V.bl _
  rw [any_eqv]
theorem ev_reprT {K : PySem.W.Frag} {Γ : Gam} {ta : TE} {ds : List D} {k : Nat} (h : Ev ta Γ (.tup ds)) (h1 : dOk k (.tup ds) = true) (hk : k ≤ 64) (h2 : shOk (.tup ds) = true) (h3 : (PyData.shown (py (.tup ds))).length ≤ sizeLine) : Ev (tCB (rRepr K) (tCons ta tNil)) Γ (.str (PyData.shown (py (.tup ds)))) := fun F σ W Q g q =>
  h F σ W _ g fun v H s r => by
    obtain ⟨a, vs, rfl, _⟩ := id r
    obtain ⟨p1, _, p3⟩ := dOk_py k _ h1
    obtain ⟨s1, s2⟩ := shOk_py _ h2
    exact ⟨a, _, rfl, dp_of (W := W.at H) (.tup ds) _ p1 r, s1, s2, Nat.le_trans p3 hk, h3, q _ H s rfl⟩
theorem strs_len : ∀ xs : List Str, (∀ x ∈ xs, okS x ∧ x.length ≤ 1000) → ((PyData.shownAll (pys (xs.map D.str))).map fun t => t.length + 2).sum ≤ 10004 * xs.length
  | [], _ => Nat.zero_le _
  | x :: xs, h => by
    obtain ⟨a, b⟩ := h x List.mem_cons_self
    have a' : x.cps.all (fun c => decide (c < 1114112)) = true := a
    rw [← Array.all_toList, List.all_eq_true] at a'
    have e := PySem.StrLaws.reprText_len x fun c hc => Nat.lt_of_lt_of_le (of_decide_eq_true (a' c hc)) (by decide)
    have ih := strs_len xs fun y hy => h y (List.mem_cons_of_mem _ hy)
    show (reprText x).length + 2 + ((PyData.shownAll (pys (xs.map D.str))).map fun t => t.length + 2).sum ≤ 10004 * (xs.length + 1)
    omega
end Dw

/-! dicts whose keys are tuples of whole numbers, made and walked by one def. -/
namespace Dw
open PySem PySem.Spec PyProof.Rows L2 HT
/-- {(): y}, or another tuple of whole numbers and texts -/
def tDispT1 (tk tv : TE) : TE := fun σ H Q => ∀ p, H p = none → tk σ (upd H p (.dT [])) fun x H1 => tv σ H1 fun y H2 => ∃ (b : Addr) (k : List Key), x = .ref b ∧ H2 p = some (.dT []) ∧ H2 b = some (.tup (k.map kV)) ∧ Q (.ref p) (upd H2 p (.dT [(k, y)]))
theorem pe_dispT1 {X : Cx} {pos : Pos} {k v : Expr} {tk tv : TE} (hu : X.A.units + 1 < cLine) (hk : PE X k tk) (hv : PE X v tv) : PE X (.Dict [some k] [v] pos) (tDispT1 tk tv) := by
  refine ⟨fun pins s σ H Q I q => ?_⟩
  have hn := I.hok.fresh (Nat.le_refl s.heap.objs.size)
  have I1 := I.laid (a := s.heap.objs.size) (o := .dT []) (h' := s.heap.push { cls := .type "dict", data := .dict #[] }) (t' := s.toks) (fun _ _ e => Heap.get?_push_of_some _ e) (Nat.le_refl _) (dt_empty s.heap I.big)
  rw [arm_eval_Dict, zip_pairTrees [some k] [v] X.env pos rfl rfl, dictDisplay_pairs _ (by intro h; cases h) (by show 1 < 17; decide)]
  refine wpAny_bind (wpAny_standAt (wpAny_bind (wpAny_subDictH (knd := tupleKind (mixKind X.prog X.w)) (Nat.lt_of_succ_lt hu) (by show 1 ≤ 15; decide) ?_)))
  refine pairTrees_cons_walk (thn (hk.run pins _ σ _ _ I1 (q _ hn)) fun u s1 ⟨x, H1, I2, rx, q1⟩ => thn (hv.run pins s1 σ H1 _ I2 q1) fun w2 s2 ⟨y, H2, I3, ry, b, key, ex, e, eb, q2⟩ => pairTrees_nil_walk ?_)
  subst ex
  cases (show u = Value.ref b from rx)
  obtain ⟨z, hd, xs, rel, dd⟩ := dt_of I3.hok e
  have kt := rel.put key eb ry
  cases rel
  refine ⟨[(key, b, w2)], ⟨rfl, rfl, key_of I3.hok eb, trivial⟩, dd, fun h' tk dd' hs => wpAny_pure ⟨.ref s.heap.objs.size, _, ?_, rfl, q2⟩⟩
  obtain ⟨o, es, ep, hq, h2, h3, h4, _, h5⟩ := dd'
  refine d_write I3 (by rw [e]; exact True.intro) hs ⟨o, hq⟩ ⟨(by decide : 1 ≤ sizeLine), hd, _, kt.keeps fun c ys ec => ?_, o, es, ep, hq, h2, h3, h4, h5⟩
  rw [upd_ne (ne_of ec e (fun z => nomatch z))]
  exact ec
theorem evn_sortI {K : PySem.W.Frag} {Γ : Gam} {ta : TE} {ns ms : List Int} {r' : List V → Hp → VK → Prop} (h : EvB ta Γ (ns.map D.int)) (h64 : ns.length < 64) (hu : ∀ ns' : List Int, ns'.Perm ns → ns'.Pairwise (· ≤ ·) → ns' = ms) : EvN (tCB (fun xs H Q => rSorted K xs H Q ∨ r' xs H Q) (tCons ta tNil)) Γ (ms.map D.int) := fun F σ W Q g k =>
  h F σ W _ g fun a vs H s e l => .inl (by
    refine ⟨a, ns, rfl, .of (by rw [e, RepL.ints.mp l]), h64, fun ns' p hp hs hn => ?_⟩
    have := hu ns' hp hs
    subst this
    exact k p _ _ (Same.trans s (same_upd hn)) (s.free hn) upd_same (RepL.ints.mpr rfl))
/-! worlds without a frame and without a purse: U holds the dicts -/
abbrev NoF : Addr → Prop := fun _ => False
def PW (H : Hp) (U : Addr → Prop) : Wd := ⟨H, U, fun _ => False⟩
def NO (Γ : Gam) : Prop := ∀ (i : Nat) (ds : List D), Γ[i]? ≠ some (.own ds)
theorem NO.set {Γ : Gam} (h : NO Γ) (i : Nat) (d : D) : NO (Γ.set i (.val d)) := fun j ds e => by
  by_cases hij : i = j
  · subst hij
    by_cases hl : i < Γ.length
    · rw [List.getElem?_set_self hl] at e; cases e
    · rw [List.getElem?_eq_none (by rw [List.length_set]; omega)] at e; cases e
  · rw [List.getElem?_set_ne hij] at e; exact h j ds e
abbrev SP (Γ : Gam) (σ : L2.St) (H : Hp) (U : Addr → Prop) : Prop := SR NoF Γ σ (PW H U)
theorem sp_mk {Γ : Gam} {σ : L2.St} {H : Hp} {U : Addr → Prop} (dom : ∀ c, U c → H c ≠ none) (len : Γ.length = σ.length) (val : ∀ (i : Nat) (d : D), Γ[i]? = some (.val d) → ∃ v, σ[i]? = some (some v) ∧ Rep (PW H U) d v) (no : NO Γ) : SP Γ σ H U :=
  ⟨⟨dom, fun _ h => h.elim, fun _ h => h.elim⟩, len, val, fun i ds e => absurd e (no i ds), fun i j a ds es e => absurd e (no i ds)⟩
theorem SP.move {Γ : Gam} {σ : L2.St} {H H' : Hp} {U U' : Addr → Prop} (g : SP Γ σ H U) (no : NO Γ) (dom : ∀ c, U' c → H' c ≠ none) (keep : ∀ c u, H c = some u → ¬ U c → H' c = some u ∧ ¬ U' c) : SP Γ σ H' U' :=
  sp_mk dom g.len (fun i d e => let ⟨v, e1, r⟩ := g.val i d e; ⟨v, e1, Rep.mono (W := PW H U) (W' := PW H' U') keep (fun _ h => h) d v r⟩) no
theorem SP.same' {Γ : Gam} {σ : L2.St} {H H' : Hp} {U : Addr → Prop} (g : SP Γ σ H U) (s : Same H H') : SP Γ σ H' U := SR.same (W := PW H U) s g
/-! for over a range; for over a dict with tuple keys -/
theorem for_rng1 {k v n : Nat} {tb : TS} {D : Ends} {σ : L2.St} {H : Hp} (hσ : σ[k]? = some (some (V.int (n : Nat)))) (hn : n < 2 ^ 62) (I : Nat → L2.St → Hp → Prop) (h0 : I 0 σ H)
    (step : ∀ (i : Nat) σ H (E : Ends), i < n → I i σ H → (∀ σ' H', I (i + 1) σ' H' → E.nx σ' H') → tb E (σ.set v (some (.int i))) H) (fin : ∀ σ H, I n σ H → D.nx σ H) : tFor (iRng1 (tCons (tVar k) tNil)) (gName v) tb D σ H := by
  refine ⟨.int n, hσ, n, rfl, by omega, by omega, fun i m σ' H' => m = n - i ∧ i ≤ n ∧ I i σ' H', ⟨_, rfl, Nat.zero_le _, h0⟩, ?_⟩
  rintro i m σ' H' ⟨rfl, hi, hI⟩
  by_cases hlt : i < n
  · refine .inr ⟨by show i < (n : Int).toNat; omega, I (i + 1), fun σ2 H2 h => ⟨n - (i + 1), by omega, rfl, hlt, h⟩, fun x H2 hx => ?_⟩
    obtain ⟨rfl, rfl⟩ := hx
    have e : (0 : Int) + (i : Int) = i := by omega
    show tb _ (σ'.set v (some (.int (0 + (i : Int))))) H2
    rw [e]
    exact step i σ' H2 _ hlt hI fun _ _ h => h
  · have e : i = n := by omega
    subst e
    exact .inl ⟨by show (i : Int).toNat ≤ i; omega, fin _ _ hI⟩
theorem for_keysT {k v : Nat} {a : Addr} {kvs : List (List Key × V)} {tb : TS} {D : Ends} {σ : L2.St} {H : Hp} (hσ : σ[k]? = some (some (V.ref a))) (ha : H a = some (.dT kvs)) (I : Obj → Nat → L2.St → Hp → Prop)
    (h0 : ∀ od, I od 0 σ (upd H a (.frz od (.dT kvs)))) (hI : ∀ od i σ H, I od i σ H → H a = some (.frz od (.dT kvs)))
    (step : ∀ od (i : Nat) σ H (E : Ends) key x q, kvs[i]? = some (key, x) → H q = some (.tup (key.map kV)) → I od i σ H → (∀ σ' H', I od (i + 1) σ' H' → E.nx σ' H') → tb E (σ.set v (some (.ref q))) H)
    (fin : ∀ od σ H, I od kvs.length σ H → D.nx σ (upd H a (.dT kvs))) : tLock (tFor (iKeys (tVar k)) (gName v) tb) D σ H := by
  refine ⟨a, .dT kvs, ha, trivial, fun od => ?_⟩
  refine ⟨V.ref a, hσ, a, od, rfl, .inr ⟨kvs, upd_same, fun i m σ' H' => m = kvs.length - i ∧ i ≤ kvs.length ∧ I od i σ' H', ⟨_, rfl, Nat.zero_le _, h0 od⟩, ?_⟩⟩
  rintro i m σ' H' ⟨rfl, hi, hh⟩
  have hf := hI od i σ' H' hh
  by_cases hlt : i < kvs.length
  · refine .inr ⟨⟨hf, hlt⟩, I od (i + 1), fun σ2 H2 h => ⟨kvs.length - (i + 1), by omega, rfl, hlt, h⟩, fun x H2 hx => ?_⟩
    obtain ⟨rfl, key, y, q, e1, rfl, e2⟩ := hx
    exact step od i σ' H2 _ key y q e1 e2 hh fun _ _ h => h
  · have e : i = kvs.length := by omega
    subst e
    exact .inl ⟨⟨hf, Nat.le_refl _⟩, hf, fin od σ' H' hh⟩
end Dw

/-! How long a repr may be. -/
namespace Dw
open PySem PySem.Spec PyProof.Rows L2 HT
/-! ### the length of a repr -/
mutual
def shB : D → Nat
  | .int i => (PyData.shown (.int i)).length | .str x => 10 * x.length + 2
  | .tup ds => shBs ds + 4 | .lst ds => shBs ds + 4 | .tupN ds => shBs ds + 4
  | _ => 5
def shBs : List D → Nat
  | [] => 0
  | d :: ds => shB d + 2 + shBs ds
end
theorem listText_le (ts : List Str) : (listText ts).length ≤ piled ts + 4 := by
  cases ts with
  | nil => decide
  | cons t r =>
    have h := textFrom_length_pos r 1 (("[" : Str) ++ (if (0 : Nat) > 0 then ", " else "" : String) ++ t) (Nat.succ_pos 0)
    have e : ((("[" : Str) ++ (if (0 : Nat) > 0 then ", " else "" : String) ++ t)).length = 1 + t.length := by
      rw [strLen_append, strLen_append]; rfl
    have hX : (listText (t :: r)).length = (textFrom 1 (("[" : Str) ++ (if (0 : Nat) > 0 then ", " else "" : String) ++ t) r).length + 1 := by
      unfold listText
      rw [strLen_append]; rfl
    rw [hX, h, e, piled_cons]
    omega
theorem tupleText_le (ts : List Str) : (tupleText ts).length ≤ piled ts + 4 := by
  unfold tupleText
  rw [strLen_append, strLen_append]
  have e1 : ((("(" : String) : Str)).length = 1 := rfl
  have e3 : (((if ts.length == 1 then ",)" else ")" : String) : Str)).length ≤ 2 := by split <;> decide
  rw [e1]
  by_cases h : ts = []
  · subst h
    have : (Str.join ", " []).length = 0 := rfl
    omega
  · have := join_length_add ts h
    omega
mutual
theorem shB_le : ∀ (k : Nat) (d : D), dOk k d = true → (PyData.shown (py d)).length ≤ shB d
  | _, .non, _ => by show (("None" : String) : Str).length ≤ 5; decide
  | _, .bl b, _ => by cases b <;> (show (PyData.shown (.bool _)).length ≤ 5) <;> decide
  | _, .int i, _ => Nat.le_refl _
  | k, .str x, h => by
    have e : dOk k (.str x) = PyData.strOk x := by cases k <;> rfl
    rw [e] at h
    have a' : x.cps.all (fun c => decide (c < 1114112)) = true := h
    rw [← Array.all_toList, List.all_eq_true] at a'
    exact PySem.StrLaws.reprText_len x fun c hc => Nat.lt_of_lt_of_le (of_decide_eq_true (a' c hc)) (by decide)
  | k + 1, .tup ds, h => by
    have ih := shBs_le k ds h
    show (tupleText (PyData.shownAll (pys ds))).length ≤ shBs ds + 4
    have := tupleText_le (PyData.shownAll (pys ds))
    omega
  | k + 1, .lst ds, h => by
    have ih := shBs_le k ds h
    show (listText (PyData.shownAll (pys ds))).length ≤ shBs ds + 4
    have := listText_le (PyData.shownAll (pys ds))
    omega
  | k + 1, .tupN ds, h => by
    have ih := shBs_le k ds h
    show (tupleText (PyData.shownAll (pys ds))).length ≤ shBs ds + 4
    have := tupleText_le (PyData.shownAll (pys ds))
    omega
  | 0, .tup _, h => nomatch h
  | 0, .lst _, h => nomatch h
  | 0, .tupN _, h => nomatch h
  | k, .obj _ _ _, h => by cases k <;> exact nomatch h
  | k, .raw _, h => by cases k <;> exact nomatch h
  | k, .purse, h => by cases k <;> exact nomatch h
  | k, .rng _ _, h => by cases k <;> exact nomatch h
  | k, .dct _ _, h => by cases k <;> exact nomatch h
  | k, .scr _ _, h => by cases k <;> exact nomatch h
theorem shBs_le : ∀ (k : Nat) (ds : List D), dOks k ds = true → piled (PyData.shownAll (pys ds)) ≤ shBs ds
  | _, [], _ => Nat.zero_le _
  | k, d :: ds, h => by
    have e : dOks k (d :: ds) = (dOk k d && dOks k ds) := by cases k <;> rfl
    rw [e, Bool.and_eq_true] at h
    have h1 := shB_le k d h.1
    have h2 := shBs_le k ds h.2
    show piled (PyData.shown (py d) :: PyData.shownAll (pys ds)) ≤ shB d + 2 + shBs ds
    rw [piled_cons]
    omega
end
/-- a number below n -/
theorem shB_nat : ∀ k : Nat, k < 1000 → shB (.int (k : Int)) ≤ 5 := by decide +kernel
theorem shOk_nat {k : Nat} (h : k < 1000) : shOk (.int (k : Int)) = true := by
  show decide ((Int.natAbs (k : Int)).log2 < 1920) = true
  rw [Int.natAbs_natCast]
  exact decide_eq_true (Nat.lt_of_le_of_lt (Nat.log2_le_self k) (by omega))
theorem ev_repr {K : PySem.W.Frag} {Γ : Gam} {ta : TE} {d : D} {ds : List D} {k : Nat} (hd : d = .tup ds ∨ d = .lst ds) (h : Ev ta Γ d) (h1 : dOk k d = true) (hk : k ≤ 64) (h2 : shOk d = true) (h3 : shB d ≤ sizeLine) : Ev (tCB (rRepr K) (tCons ta tNil)) Γ (.str (PyData.shown (py d))) := by
  rcases hd with rfl | rfl
  · exact ev_reprT h h1 hk h2 (Nat.le_trans (shB_le k _ h1) h3)
  · exact ev_reprL h h1 hk h2 (Nat.le_trans (shB_le k _ h1) h3)
end Dw
namespace Dw
open PySem PySem.Spec PyProof.Rows L2 HT
def seqD : D → Bool
  | .tup _ => true | .lst _ => true | .tupN _ => true | _ => false
theorem drl_repr {K : PySem.W.Frag} {d : D} {k : Nat} (hd : seqD d = true) (h1 : dOk k d = true) (hk : k ≤ 64) (h2 : shOk d = true) (h3 : shB d ≤ sizeLine) : DRL (rRepr K) [d] (.str (PyData.shown (py d))) := fun W us Q dom ⟨v, _, e, r, e2⟩ q => by
  subst e
  obtain rfl : _ = [] := e2
  obtain ⟨a, rfl⟩ : ∃ a, v = V.ref a := by
    cases d <;> first | exact absurd hd Bool.false_ne_true | skip
    · obtain ⟨a, _, e, _⟩ := r; exact ⟨a, e⟩
    · obtain ⟨a, _, e, _⟩ := r; exact ⟨a, e⟩
    · obtain ⟨a, _, e, _⟩ := r; exact ⟨a, e⟩
  obtain ⟨p1, _, p3⟩ := dOk_py k _ h1
  obtain ⟨s1, s2⟩ := shOk_py _ h2
  exact ⟨a, _, rfl, dp_of (W := W) d _ p1 r, s1, s2, Nat.le_trans p3 hk, Nat.le_trans (shB_le k _ h1) h3, q _ W.H (Same.refl _) rfl⟩
theorem dl_repr {K : PySem.W.Frag} {Γ : Gam} {ta : TE} {Q : D → Gam → Prop} (h : Dl ta Γ fun d Γ1 => seqD d = true ∧ (∃ k, k ≤ 64 ∧ dOk k d = true) ∧ shOk d = true ∧ shB d ≤ sizeLine ∧ Q (.str (PyData.shown (py d))) Γ1) : Dl (tCB (rRepr K) (tCons ta tNil)) Γ Q :=
  dl_cb (dla_cons (h.imp fun d Γ1 ⟨h1, ⟨k, hk, h2⟩, h3, h4, q⟩ => dla_nil ⟨_, drl_repr h1 h2 hk h3 h4, q⟩))
end Dw

/-! Tuples that are known to have no dict of their own: displays, sums, tuple(xs); t.index(x). -/
namespace Dw
open PySem PySem.Spec PyProof.Rows L2 HT
theorem Rep.dn {W : Wd} {ds : List D} {v : V} (h : Rep W (.tupN ds) v) : Rep W (.tup ds) v := let ⟨a, vs, e, h, r⟩ := h; ⟨a, vs, e, h.at, r⟩
theorem ev_dn {t : TE} {Γ : Gam} {ds : List D} (h : Ev t Γ (.tupN ds)) : Ev t Γ (.tup ds) := fun F σ W Q g k => h F σ W Q g fun v H s r => k v H s r.dn
theorem ev_weak {t : TE} {Γ : Gam} {d d' : D} (e : weakD d = d') (h : Ev t Γ d) : Ev t Γ d' := fun F σ W Q g k => h F σ W Q g fun v H s r => k v H s (e ▸ Rep.weak d v r)
theorem Dl.weak {t : TE} {Γ : Gam} {Q : D → Gam → Prop} (h : Dl t Γ fun d Γ1 => Q (weakD d) Γ1) : Dl t Γ Q := fun F σ W R g k => h F σ W R g fun v W' d Γ' s r' l q => k v W' (weakD d) Γ' s r' (Rep.weak d v l) q
theorem rep_new_tupN {W : Wd} {p : Addr} {ds : List D} {vs : List V} {ob : Obj} (dom : ∀ a, W.U a → W.H a ≠ none) (h : W.H p = none) (c : ob.cls = .type "tuple") (d : ob.dict = none) (l : RepL W ds vs) : Rep (W.at (upd W.H p (.frz ob (.tup vs)))) (.tupN ds) (.ref p) :=
  ⟨p, vs, rfl, ⟨ob, upd_same, c, d⟩, fun u => dom p u h, l.same (same_upd h)⟩
/-- a new tuple: its cell is known -/
abbrev NewT (H : Hp) (xs : List V) (Q : VK) : Prop := ∀ (p : Addr) (ob : Obj), ob.cls = .type "tuple" → ob.dict = none → H p = none → Q (.ref p) (upd H p (.frz ob (.tup xs)))
section
variable {X : Cx} {pins : List (Addr × Obj)} {σ : L2.St} {H : Hp} {s : Shared}
theorem new_tup {xs : List V} {us : List Value} {Q : VK} (I : Inv X pins σ H s) (r : Vals xs us) (z : xs.length ≤ sizeLine) (q : NewT H xs Q) : EP X pins σ Q (.ref s.heap.objs.size) { s with heap := s.heap.push { cls := .type "tuple", data := .seq us.toArray } } := by
  have st : (s.heap.push { cls := .type "tuple", data := .seq us.toArray }).get? s.heap.objs.size = some { cls := .type "tuple", data := .seq us.toArray } := Heap.get?_push_size _ rfl
  have J := I.laid (t' := s.toks) (o := .frz { cls := .type "tuple", data := .seq us.toArray } (.tup xs)) (fun b u e => Heap.get?_push_of_some _ e) (Nat.le_refl _) ⟨st, z, us, r, _, st, rfl, _, rfl⟩
  exact ⟨.ref s.heap.objs.size, _, J, rfl, q _ _ rfl rfl (I.hok.fresh (Nat.le_refl _))⟩
end
/-! ### (x, y) -/
def tTupF (t : TA) : TE := fun σ H Q => t σ H fun xs H1 => xs.length ≤ sizeLine ∧ NewT H1 xs Q
theorem pe_tupF {X : Cx} {es : List Expr} {t : TA} {pos : Pos} {x1} (h : PA X es t) : PE X (.Tuple es x1 pos) (tTupF t) :=
  ⟨fun pins s σ H Q I q0 => wpAny_Tuple_spliced (thn (h.run pos pins s σ H _ I q0) fun us s1 ⟨xs, H1, I1, r, z, q⟩ => ⟨r.length ▸ z, new_tup I1 r z q⟩)⟩
section
variable {Γ : Gam} {t : TA} {ds : List D}
theorem ev_tupN (h : EvA t Γ ds) (hz : ds.length ≤ sizeLine) : Ev (tTupF t) Γ (.tupN ds) := fun F σ W Q g k => h F σ W _ g fun vs H s l => ⟨by rw [← l.length]; exact hz, fun p ob c d hp =>
  k _ _ (Same.trans s (same_upd hp)) (rep_new_tupN (W := W.at H) (g.same s).ok.dom hp c d l)⟩
theorem ev_tupF (h : EvA t Γ ds) (hz : ds.length ≤ sizeLine) : Ev (tTupF t) Γ (.tup ds) := ev_dn (ev_tupN h hz)
theorem dl_tupN {Q : D → Gam → Prop} (h : DlA t Γ fun ds Γ1 => ds.length ≤ sizeLine ∧ Q (.tupN ds) Γ1) : Dl (tTupF t) Γ Q := fun F σ W R g k => h F σ W _ g fun vs W1 ds Γ1 s g1 l ⟨hz, q⟩ => ⟨by rw [← l.length]; exact hz, fun p ob c d hp =>
  k _ (W1.at _) (.tupN ds) Γ1 (s.trans (Stp.of_same g1.ok (same_upd hp))) (g1.same (same_upd hp)) (rep_new_tupN g1.ok.dom hp c d l) q⟩
end
/-! ### t + (x,) -/
abbrev rCatTF (K : PySem.W.Frag) : R2 := fun x y H Q => ∃ a b xs ys, x = .ref a ∧ y = .ref b ∧ SqT K H a xs ∧ SqT K H b ys ∧ xs ≠ [] ∧ ys ≠ [] ∧ xs.length + ys.length ≤ sizeLine ∧ NewT H (xs ++ ys) Q
theorem op_catTF {X : Cx} : OpR X (binaryOp .Add) (rCatTF X.K) := by
  intro pins s σ H x y v u Q I rx ry ⟨a, b, xs, ys, ex, ey, ha, hb, hx, hy, hz, q⟩
  subst ex; subst ey
  cases rx; cases ry
  obtain ⟨i1, r1, p1, _⟩ := I.tuple ha
  obtain ⟨i2, r2, p2, _⟩ := I.tuple hb
  have n1 : i1 ≠ [] := fun z => hx (r1.nil_iff.mp z)
  have n2 : i2 ≠ [] := fun z => hy (r2.nil_iff.mp z)
  exact HT.cat_tup p1 p2 n1 (fun z => absurd z n2) (fun _ => new_tup I (r1.append r2) (by rw [List.length_append]; exact hz) q) (by rw [← r1.length, ← r2.length]; exact hz)
abbrev rPlusF (K : PySem.W.Frag) : R2 := rOr (rPlusE K) (rCatTF K)
theorem plusF {X : Cx} (K : PySem.W.Frag) (hK : X.K = K := by rfl) : OpR X (binaryOp .Add) (rPlusF K) := hK ▸ (plusE X.K).or op_catTF
theorem plF_of {K : PySem.W.Frag} {x y d : D} (h : DR2 (rPlusE K) x y d) : DR2 (rPlusF K) x y d := dr2_l h
theorem plF_tupN {K : PySem.W.Frag} {ds es : List D} (n : es ≠ []) (h : ds.length + es.length ≤ sizeLine) : DR2 (rPlusF K) (.tup ds) (.tupN es) (.tupN (ds ++ es)) := by
  by_cases n0 : ds = []
  · subst n0
    exact dr2_l (dr2_r (dr2_flat fun W u v Q ⟨a, vs, e1, h1, n1, l1⟩ b k => by
      obtain ⟨c, ws, e2, h2, n2, l2⟩ := id b
      obtain rfl : vs = [] := l1
      exact ⟨a, c, ws, e1, e2, h1.sq, h2.at.sq, by rw [← e2]; exact k v b⟩))
  · refine dr2_r fun W u v Q dom ⟨a, vs, e1, h1, _, l1⟩ ⟨b, ws, e2, h2, _, l2⟩ k => ?_
    have nv : vs ≠ [] := fun z => n0 (List.length_eq_zero_iff.mp (by rw [l1.length, z]; rfl))
    have nw : ws ≠ [] := fun z => n (List.length_eq_zero_iff.mp (by rw [l2.length, z]; rfl))
    exact ⟨a, b, vs, ws, e1, e2, h1.sq, h2.at.sq, nv, nw, by rw [← l1.length, ← l2.length]; exact h, fun p ob c d hp => k _ _ (same_upd hp) (rep_new_tupN dom hp c d (l1.append l2))⟩
theorem plF_evn {K : PySem.W.Frag} {Γ : Gam} {ta tb : TE} {ds es : List D} (ha : EvB ta Γ ds) (hb : EvB tb Γ es) (h : ds.length + es.length ≤ sizeLine) : EvN (tOp (rPlusF K) ta tb) Γ (ds ++ es) := fun F σ W Q g k =>
  ha F σ W _ g fun p vs H s e l => hb F σ (W.at H) _ (g.same s) fun q ws H' s' e' l' => .inl (.inl (.inr (.inr (.inl ⟨p, q, vs, ws, rfl, rfl, s' _ _ e, e', by rw [← l.length, ← l'.length]; exact h, fun n hn =>
    k n (vs ++ ws) _ (Same.trans s (Same.trans s' (same_upd hn))) (s.free (s'.free hn)) upd_same (RepL.plus (W := W.at H') hn (same_upd hn) ((RepL.same (W := W.at H) s' l).append l'))⟩))))
/-! ### tuple(xs) -/
abbrev rTupleF (K : PySem.W.Frag) : List V → Hp → VK → Prop := fun xs H Q => ∃ p ys, xs = [.ref p] ∧ SqL K H p ys ∧ NewT H ys Q
theorem cr_tupleF {X : Cx} : CallR X (.type "tuple") (rTupleF X.K) := by
  intro pins s σ H xs us Q I r ⟨p, ys, ex, hq, q⟩
  subst ex
  obtain ⟨u, eu, rx⟩ := vals1 r
  subst eu; cases rx
  obtain ⟨its, r', pl, hz⟩ := I.list hq
  have hl := r'.length
  exact call_tuple_list pl.isList (fun h' kp => new_tup (I.kept (t' := s.toks) kp) r' hz q) (by simp only [List.size_toArray]; omega)
theorem tupleFA {X : Cx} (K : PySem.W.Frag) (hK : X.K = K := by rfl) : CallR X (.type "tuple") (rTupleF K) := hK ▸ cr_tupleF
theorem ev_tupleN {K : PySem.W.Frag} {Γ : Gam} {ta : TE} {ds : List D} (h : EvB ta Γ ds) : Ev (tCB (rTupleF K) (tCons ta tNil)) Γ (.tupN ds) := fun F σ W Q g k => h F σ W _ g fun p vs H s e l =>
  ⟨p, vs, rfl, .of e, fun n ob c d hn => k _ _ (Same.trans s (same_upd hn)) (rep_new_tupN (W := W.at H) (g.same s).ok.dom hn c d l)⟩
theorem ev_tupleF {K : PySem.W.Frag} {Γ : Gam} {ta : TE} {ds : List D} (h : EvB ta Γ ds) : Ev (tCB (rTupleF K) (tCons ta tNil)) Γ (.tup ds) := ev_dn (ev_tupleN h)
theorem dl_tupleN {K : PySem.W.Frag} {Γ : Gam} {ta : TE} {Q : D → Gam → Prop} (h : Dl ta Γ fun d Γ1 => ∃ ds, d = .lst ds ∧ Q (.tupN ds) Γ1) : Dl (tCB (rTupleF K) (tCons ta tNil)) Γ Q := fun F σ W R g k => h F σ W _ g fun v W1 d Γ1 st g1 r ⟨ds, e, q⟩ => by
  subst e
  obtain ⟨p, vs, rfl, e, nu, l⟩ := r
  exact ⟨p, vs, rfl, .of e, fun n ob c d hn => k _ (W1.at _) (.tupN ds) Γ1 (st.trans (Stp.of_same g1.ok (same_upd hn))) (g1.same (same_upd hn)) (rep_new_tupN g1.ok.dom hn c d l) q⟩
/-! ### t.m(x) of such a tuple -/
def tBMN (r : V → List V → Hp → VK → Prop) (to : TE) (t : TA) : TE := fun σ H Q => to σ H fun x H1 => (∃ a vs, x = .ref a ∧ TupN H1 a vs) ∧ t σ H1 fun xs H2 => r x xs H2 Q
section
variable {X : Cx} {o e : Expr} {es : List Expr} {to : TE} {t : TA} {nm : Str} {p1 p2 : Pos} {id : String} {r : V → List V → Hp → VK → Prop}
theorem pe_tm (sl : Slot "tuple" nm id) (ty : typeOf (.builtin id) = pure (.type "method_descriptor")) (hm : MtR X id r) (ho : PE X o to) (ha : PA X (e :: es) t)
    (b1 : attributeBase o nm X.env (eval o X.env) = eval o X.env := by rfl)
    (b2 : ((backTo p2 (starEach (e :: es) X.env)).all (fun z => !z.1) && (backToKw p2 (keywordEach [] X.env)).all (fun z => z.1.isSome) && decide ((e :: es).length + ([] : List Keyword).length + (if ([] : List Keyword).isEmpty then 0 else 1) < 30)) = true := by rfl)
    (b3 : (p1.endLine == p2.line) = true := by rfl) (b4 : starEach (e :: es) X.env = (false, eval e X.env) :: starEach es X.env := by rfl) (b5 : (backTo p2 (starEach es X.env)).any (·.1) = false := by rfl) :
    PE X (.Call (.Attribute o nm p1) (e :: es) [] p2) (tBMN r to t) := ⟨fun pins s σ H Q I q0 => by
  refine wpAny_Call_method_late b1 b2 b3 rfl (thn (ho.run pins s σ H _ I q0) fun v s1 ⟨x, H1, I1, r1, ⟨a, vs, ex, ob, hob, c, d⟩, q1⟩ => ?_)
  subst ex
  cases r1
  obtain ⟨g1, _⟩ : s1.heap.get? a = some ob ∧ _ := I1.hok a _ hob
  refine ⟨"tuple", id, PySem.F.plainAttrs_tuple, sl, ty, ⟨ob, g1, c⟩, fun b e => by cases e; exact ⟨ob, g1, d⟩, ?_⟩
  have A1 := ha.run p2 pins s1 σ H1 _ I1 q1
  rw [b4] at A1 ⊢
  refine Calls.callWith_builtin (by show (false || (backTo p2 (starEach es X.env)).any (·.1)) = false; rw [b5]; rfl) (Calls.evalArgs_plain ?_)
  exact thn A1 fun us s2 ⟨ws, H2, I2, r2, q2⟩ => hm pins s2 σ H2 (V.ref a) ws _ us Q I2 rfl r2 q2⟩
end
abbrev TIdx (K : PySem.W.Frag) (a : Addr) (ys : List V) (y : V) (j : Nat) (H : Hp) (Q : VK) : Prop := SqT K H a ys ∧ flatV y = true ∧ ys.all flatV = true ∧ (∃ z, ys[j]? = some z ∧ eqV z y = true) ∧ (∀ (m : Nat) (z : V), m < j → ys[m]? = some z → eqV z y = false) ∧ Q (.int (j : Nat)) H
def rTIdx (K : PySem.W.Frag) : V → List V → Hp → VK → Prop := fun x xs H Q => ∃ a ys y j, x = V.ref a ∧ xs = [y] ∧ TIdx K a ys y j H Q
theorem mt_tidx {X : Cx} : MtR X "tuple.index" (rTIdx X.K) := by
  intro pins s σ H x xs v us Q I rx rxs ⟨a, ys, y, j, ex, exs, hs, fy, fys, ⟨z, hz, hzj⟩, hno, q⟩
  subst ex; subst exs
  cases rx
  obtain ⟨uy, eu, ry⟩ := vals1 rxs
  subst eu
  obtain ⟨its, rv, ⟨⟨cls, dd, data, sl⟩, ho, hc, n, hd⟩, _⟩ := I.tuple hs
  simp only at hc hd
  subst hc; subst hd
  have look : ∀ (m : Nat) (w : V), ys[m]? = some w → ∃ (u : Value) (hm : m < its.toArray.size), its.toArray[m] = u ∧ eqU y u = eqV w y := fun m w hw => by
    obtain ⟨u, hu, ru⟩ := rv.get hw
    obtain ⟨h1, h2⟩ := List.getElem?_eq_some_iff.mp hu
    exact ⟨u, by simpa using h1, by simpa using h2, eqU_of ru (flat_at fys hw)⟩
  obtain ⟨u0, hj, e0, e1⟩ := look j z hz
  have hl := rv.length
  refine call_meets PySem.F.slot_tuple_index ⟨_, ho, rfl⟩ PySem.F.entry_tuple_index (PySem.F.args_tuple_index_2 _ _) (TI.tuple_indexAt a its.toArray n dd sl uy (eqU y) j hj (by rw [e0, e1]; exact hzj) fun m hm hmj => ?_)
    ⟨ho, fun u' hu' => mem_eqAt ry fy rv fys u' (by simpa using hu'), .int (j : Nat), H, I.tok _, ⟨_, rfl⟩, q⟩
  have hml : m < its.length := by simpa using hm
  have hw : ys[m]? = some ys[m] := List.getElem?_eq_getElem (by omega)
  obtain ⟨u2, _, e2, e3⟩ := look m _ hw
  rw [e2, e3]
  exact hno m _ hmj hw
theorem tidxA {X : Cx} (K : PySem.W.Frag) (hK : X.K = K := by rfl) : MtR X "tuple.index" (rTIdx K) := hK ▸ mt_tidx
section
variable {K : PySem.W.Frag} {Γ : Gam} {ta tb : TE}
theorem idx_not {α : Type} [DecidableEq α] {o : List α} {c : α} {m : Nat} (h : m < o.idxOf c) (hm : m < o.length) : o[m] ≠ c := fun e => by
  have h2 : m < o.findIdx (· == c) := h
  have := List.not_of_lt_findIdx h2
  simp [e] at this
theorem idx_at {α : Type} [DecidableEq α] {o : List α} {c : α} (h : c ∈ o) : o[o.idxOf c]? = some c := by
  have hl : o.idxOf c < o.length := List.idxOf_lt_length_iff.mpr h
  rw [List.getElem?_eq_getElem hl, List.getElem_idxOf hl]
theorem ev_tidx {o : List Nat} {c : Nat} (h : Ev ta Γ (.tupN (o.map fun k : Nat => D.int k))) (hb : Ev tb Γ (.int c)) (hm : c ∈ o) : Ev (tBMN (rTIdx K) ta (tCons tb tNil)) Γ (.int (o.idxOf c : Nat)) := fun F σ W Q g k =>
  h F σ W _ g fun v H s ⟨a, vs, ev, e, nu, l⟩ => by
    subst ev
    refine ⟨⟨a, vs, rfl, e⟩, hb F σ (W.at H) _ (g.same s) fun u H2 s2 r => ?_⟩
    obtain rfl : u = V.int c := r
    obtain rfl := repL_ord l
    refine ⟨a, _, _, o.idxOf c, rfl, rfl, (e.same s2).at.sq, rfl, by rw [List.all_map]; exact List.all_eq_true.mpr fun _ _ => rfl, ⟨V.int c, by rw [List.getElem?_map, idx_at hm]; rfl, by simp [eqV]⟩, fun m z' hmj hz => ?_, k _ H2 (Same.trans s s2) rfl⟩
    have hl : o.idxOf c < o.length := List.idxOf_lt_length_iff.mpr hm
    rw [List.getElem?_map, List.getElem?_eq_getElem (by omega)] at hz
    obtain rfl := Option.some.inj hz
    have ne := idx_not hmj (by omega)
    simp [eqV]
    omega
theorem ev_tidxS {o : List Str} {c : Str} (h : Ev ta Γ (.tupN (o.map D.str))) (hb : Ev tb Γ (.str c)) (hm : c ∈ o) : Ev (tBMN (rTIdx K) ta (tCons tb tNil)) Γ (.int (o.idxOf c : Nat)) := fun F σ W Q g k =>
  h F σ W _ g fun v H s ⟨a, vs, ev, e, nu, l⟩ => by
    subst ev
    refine ⟨⟨a, vs, rfl, e⟩, hb F σ (W.at H) _ (g.same s) fun u H2 s2 r => ?_⟩
    obtain rfl : u = V.str c := r
    obtain rfl := RepL.strs.mp l
    refine ⟨a, _, _, o.idxOf c, rfl, rfl, (e.same s2).at.sq, rfl, by rw [List.all_map]; exact List.all_eq_true.mpr fun _ _ => rfl, ⟨V.str c, by rw [List.getElem?_map, idx_at hm]; rfl, by simp [eqV]⟩, fun m z' hmj hz => ?_, k _ H2 (Same.trans s s2) rfl⟩
    have hl : o.idxOf c < o.length := List.idxOf_lt_length_iff.mpr hm
    rw [List.getElem?_map, List.getElem?_eq_getElem (by omega)] at hz
    obtain rfl := Option.some.inj hz
    have ne := idx_not hmj (by omega)
    simp [eqV, ne]
end
end Dw
namespace Dw
open PySem PySem.Spec PyProof.Rows L2 HT
/-! ### a new tuple, by its cell -/
def EvX (t : TE) (Γ : Gam) (ds : List D) : Prop := ∀ (F : Addr → Prop) (σ : L2.St) (W : Wd) (Q : VK), SR F Γ σ W → (∀ a vs H, Same W.H H → H a = some (.tup vs) → ¬ W.U a → RepL (W.at H) ds vs → Q (.ref a) H) → t σ W.H Q
section
variable {K : PySem.W.Frag} {Γ : Gam} {t : TA} {ta : TE} {ds : List D}
theorem evx_tup (h : EvA t Γ ds) (hz : ds.length ≤ sizeLine) : EvX (tTup t) Γ ds := fun F σ W Q g k => h F σ W _ g fun vs H s l => ⟨by rw [← l.length]; exact hz, fun p hp =>
  k p vs _ (Same.trans s (same_upd hp)) upd_same ((g.same s).ok.new hp) (RepL.same (W := W.at H) (same_upd hp) l)⟩
theorem evx_tuple (h : EvB ta Γ ds) : EvX (tCB (rTupleOf K) (tCons ta tNil)) Γ ds := fun F σ W Q g k => h F σ W _ g fun p vs H s e l => ⟨p, vs, rfl, .inl ⟨.of e, fun n hn => k n vs _ (Same.trans s (same_upd hn)) upd_same ((g.same s).ok.new hn) (RepL.same (W := W.at H) (same_upd hn) l)⟩⟩
theorem evx_tupRg {n : Nat} (h : Ev ta Γ (.int n)) (hn : n ≤ 16777216) : EvX (tTupRg (tRg1 ta)) Γ (rng n) := fun F σ W Q g k => h F σ W _ g fun v H s r => ⟨n, r, RgOk.of_le (by omega) (by omega) (by omega) (by omega), fun q hq => by
  have e : rgV 0 n = (List.range n).map fun i : Nat => V.int i := by
    unfold rgV
    refine List.map_congr_left fun i _ => ?_
    show V.int (0 + (i : Int)) = V.int i
    rw [Int.zero_add]
  have l : RepL (W.at H) (rng n) (rgV 0 n) := by
    rw [e]
    exact ord_repL (List.range n)
  exact k q _ _ (Same.trans s (same_upd hq)) upd_same ((g.same s).ok.new hq) (RepL.same (W := W.at H) (same_upd hq) l)⟩
end
end Dw
namespace Dw
open PySem PySem.Spec PyProof.Rows L2 HT
theorem is_bl (a b : Bool) : DR2 rIsB (.bl a) (.bl b) (.bl (decide (a = b))) := dr2_flat fun W u v Q r1 r2 k => ⟨a, b, r1, r2, k _ rfl⟩
end Dw

/-! {k: v for x in xs if ..}, k in d, d[k]; a call of a local name that holds a def. -/
namespace Dw
open PySem PySem.Spec PyProof.Rows L2 HT
def tNeverE : TE := fun _ _ _ => False
theorem pe_neverX {X : Cx} {e : Expr} : PE X e tNeverE := ⟨fun _ _ _ _ _ _ h => h.elim⟩
theorem put_newK {kvs : List (Key × V)} {k : Key} (h : k ∉ kvs.map (·.1)) (v : V) : putK kvs k v = kvs ++ [(k, v)] := by
  unfold putK
  have : (kvs.any fun kv => decide (kv.1 = k)) = false := by
    rw [List.any_eq_false]
    intro kv hkv z
    exact h (List.mem_map.mpr ⟨kv, hkv, of_decide_eq_true z⟩)
  rw [this]; rfl
theorem val_at : ∀ {ks : List Key} {vs : List V} {k : Key} {i : Nat} {v : V}, ks[i]? = some k → vs[i]? = some v → (∀ j < i, ks[j]? ≠ some k) → valV (ks.zip vs) k = some v
  | [], _, _, _, _, h, _, _ => by simp at h
  | a :: ks, [], _, _, _, _, h, _ => by simp at h
  | a :: ks, u :: vs, k, 0, v, h, h2, _ => by
    have h : a = k := by simpa using h
    have h2 : u = v := by simpa using h2
    subst h; subst h2
    exact valV_pos rfl
  | a :: ks, u :: vs, k, i + 1, v, h, h2, hn => by
    have ne : a ≠ k := fun e => hn 0 (by omega) (by rw [e]; rfl)
    show valV ((a, u) :: ks.zip vs) k = some v
    rw [valV_neg ne]
    exact val_at (by simpa using h) (by simpa using h2) fun j hj => by
      have := hn (j + 1) (by omega)
      simpa using this
theorem val_mem : ∀ {ks : List Key} {vs : List V} {k : Key}, ks.length = vs.length → (valV (ks.zip vs) k).isSome = ks.any fun a => decide (a = k)
  | [], vs, k, _ => by rw [List.zip_nil_left]; rfl
  | a :: ks, [], k, h => by simp at h
  | a :: ks, u :: vs, k, h => by
    show (valV ((a, u) :: ks.zip vs) k).isSome = (decide (a = k) || ks.any fun a => decide (a = k))
    by_cases e : a = k
    · rw [valV_pos (p := (a, u)) e, decide_eq_true e]; rfl
    · rw [valV_neg (p := (a, u)) e, val_mem (by simpa using h), decide_eq_false e]; rfl
section
variable {K : PySem.W.Frag} {Γ : Gam} {wi : TI} {g : TG} {tt : TT} {tk tv ta td ty : TE} {vs : List Nat}
theorem ev_dcS {α : Type} {xs : List α} {c : α → D} {p : α → Bool} {kf : α → Str} {vf : α → D} (h : Ei wi Γ (xs.map c)) (hz : xs.length ≤ 1000) (nd : (xs.filter p).Pairwise fun x y => kf x ≠ kf y)
    (he : ∀ x ∈ xs, ∃ is Γ2, DG g is (c x) (wipeG Γ vs) Γ2 ∧ (∀ i ∈ is, i ∈ vs) ∧ EvT tt Γ2 (p x) ∧ (p x = true → Ev tk Γ2 (.str (kf x)) ∧ Ev tv Γ2 (vf x))) :
    Ev (tDc wi g tt tk tv vs) Γ (.dct ((xs.filter p).map fun x => Sum.inr (kf x)) ((xs.filter p).map vf)) := fun F σ W R s k =>
  h F σ W _ s fun I H1 st it => fun Dn hD => by
    have wd : W.H Dn = none := st.free hD
    refine ⟨fun i m H' => m = xs.length - i ∧ i ≤ xs.length ∧ Same H1 H' ∧ ∃ us, H' Dn = some (.dK ((((xs.take i).filter p).map fun x => (Sum.inr (kf x) : Key)).zip us)) ∧ RepL (W.plus H' Dn) (((xs.take i).filter p).map vf) us, ⟨_, rfl, Nat.zero_le _, same_upd hD, [], upd_same, rfl⟩, ?_⟩
    rintro i m H' ⟨rfl, hi, sm, us, hus, rus⟩
    by_cases hlt : i < xs.length
    · have hx : xs[i]? = some xs[i] := List.getElem?_eq_getElem hlt
      have hx' : (xs.map c)[i]? = some (c xs[i]) := by rw [List.getElem?_map, hx]; rfl
      obtain ⟨is, Γ2, hg, his, ht, hel⟩ := he xs[i] (List.getElem_mem hlt)
      obtain ⟨go, yl⟩ := it.go (W.plus H' Dn) i (c xs[i]) (fun b hb z => hb.elim (fun u => s.ok.dom b u ((Same.trans st sm).free z)) (fun e => by rw [e] at z; exact absurd (hus.symm.trans z) (fun q => nomatch q))) sm (fun b u e n z => z.elim n fun z => by rw [z] at e; exact absurd (e.symm.trans hD) (fun q => nomatch q)) rfl hx'
      refine .inr ⟨go, fun H2 => Same H1 H2 ∧ ∃ us, H2 Dn = some (.dK ((((xs.take (i + 1)).filter p).map fun x => (Sum.inr (kf x) : Key)).zip us)) ∧ RepL (W.plus H2 Dn) (((xs.take (i + 1)).filter p).map vf) us, fun H2 q => ⟨xs.length - (i + 1), by omega, rfl, hlt, q⟩, fun v H2 y => ?_⟩
      obtain ⟨sm2, rv⟩ := yl v H2 y
      have sW : Same W.H H2 := Same.trans st (Same.trans sm sm2)
      obtain ⟨_, gp, _, _, _⟩ := s.plus sW wd (by rw [sm2 _ _ hus]; exact fun z => nomatch z)
      have gp := gp.wipe vs
      refine hg F _ (W.plus H2 Dn) v _ gp rv fun σ2 g2 w2 => ⟨by rw [w2 vs his, wipe_wipe], ?_⟩
      refine ht F σ2 (W.plus H2 Dn) _ g2 fun H3 s3 => ?_
      have e1 : (xs.take (i + 1)).filter p = (xs.take i).filter p ++ (if p xs[i] = true then [xs[i]] else []) := by
        rw [List.take_add_one, hx, List.filter_append]
        congr 1
        cases hp : p xs[i] <;> simp [hp]
      have mv : ∀ {H3 H4 : Hp} {ds us}, Same H3 H4 → RepL (W.plus H3 Dn) ds us → RepL (W.plus H4 Dn) ds us := fun {H3 H4 ds us} s34 r => RepL.mono (W := W.plus H3 Dn) (W' := W.plus H4 Dn) (fun b u e n => ⟨s34 b u e, n⟩) (fun _ h => h) ds us r
      cases hp : p xs[i] with
      | false =>
        rw [if_neg Bool.false_ne_true]
        refine ⟨Same.trans (Same.trans sm sm2) s3, us, ?_, ?_⟩
        · rw [e1, hp, if_neg Bool.false_ne_true, List.append_nil]
          exact s3 _ _ (sm2 _ _ hus)
        · rw [e1, hp, if_neg Bool.false_ne_true, List.append_nil]
          exact mv s3 (mv sm2 rus)
      | true =>
        rw [if_pos rfl]
        obtain ⟨hek, hev⟩ := hel hp
        refine hek F σ2 ((W.plus H2 Dn).at H3) _ (g2.same s3) fun y H4 s4 ry => ?_
        refine hev F σ2 (((W.plus H2 Dn).at H3).at H4) _ ((g2.same s3).same s4) fun z H5 s5 rz => ?_
        obtain rfl : y = V.str (kf xs[i]) := ry
        have h5 : H5 Dn = some (.dK ((((xs.take i).filter p).map fun x => (Sum.inr (kf x) : Key)).zip us)) := s5 _ _ (s4 _ _ (s3 _ _ (sm2 _ _ hus)))
        have un : ∀ {ds us}, RepL (W.plus H5 Dn) ds us → ∀ o, RepL (W.plus (upd H5 Dn o) Dn) ds us := fun {ds us} r o => RepL.mono (W := W.plus H5 Dn) (W' := W.plus (upd H5 Dn o) Dn) (fun b u e n => ⟨by
          show (upd H5 Dn o) b = some u
          rw [upd_ne (fun z : b = Dn => n (Or.inr z))]; exact e, n⟩) (fun _ h => h) ds us r
        have ll : (((xs.take i).filter p).map fun x => (Sum.inr (kf x) : Key)).length = us.length := by rw [List.length_map, ← rus.length, List.length_map]
        have lz : ((((xs.take i).filter p).map fun x => (Sum.inr (kf x) : Key)).zip us).length ≤ 1000 := by
          rw [List.length_zip, ← ll, Nat.min_self, List.length_map]
          exact Nat.le_trans (List.length_filter_le _ _) (Nat.le_trans (List.length_take_le _ _) (by omega))
        have nin : (Sum.inr (kf xs[i]) : Key) ∉ ((((xs.take i).filter p).map fun x => (Sum.inr (kf x) : Key)).zip us).map (·.1) := fun hm => by
          rw [List.map_fst_zip (by omega), List.mem_map] at hm
          obtain ⟨x, hx2, ex⟩ := hm
          have e2 : xs.filter p = (xs.take i).filter p ++ xs[i] :: (xs.drop (i + 1)).filter p := by
            conv => lhs; rw [← List.take_append_drop i xs, List.drop_eq_getElem_cons hlt]
            rw [List.filter_append, List.filter_cons_of_pos hp]
          rw [e2, List.pairwise_append] at nd
          exact nd.2.2 x hx2 _ List.mem_cons_self (Sum.inr.inj ex)
        refine ⟨_, Sum.inr (kf xs[i]), rfl, h5, Nat.lt_of_le_of_lt lz (by decide), fun b u e => ?_, us ++ [z], ?_, ?_⟩
        · have nb : b ≠ Dn := fun z => by rw [z, hD] at e; cases e
          rw [upd_ne nb]
          exact s5 _ _ (s4 _ _ (s3 _ _ (sm2 _ _ (sm _ _ e))))
        · rw [upd_same, put_newK nin, e1, hp, if_pos rfl, List.map_append, List.zip_append ll]; rfl
        · rw [e1, hp, if_pos rfl, List.map_append]
          exact un ((mv s5 (mv s4 (mv s3 (mv sm2 rus)))).append (RepL.one rz)) _
    · have e : i = xs.length := by omega
      subst e
      rw [List.take_length] at rus hus
      exact .inl ⟨by have := it.stop H' sm; rw [List.length_map] at this; exact this, k (.ref Dn) H' (Same.trans st sm) ⟨Dn, us, rfl, hus, s.ok.new wd, by rw [List.length_map, ← rus.length, List.length_map], rus.minus⟩⟩
theorem ev_dinS {x : Str} {ks : List Key} {ds : List D} (ha : Ev ty Γ (.str x)) (hd : Ev td Γ (.dct ks ds)) : Ev (tDIn ty td) Γ (.bl (ks.any fun a => decide (a = (Sum.inr x : Key)))) := fun F σ W Q g k =>
  ha F σ W _ g fun v H s r => hd F σ (W.at H) _ (g.same s) fun u H' s' ⟨a, vs, eu, e, nu, hl, rl⟩ => by
    obtain rfl : v = V.str x := r
    refine ⟨a, _, eu, .inl ⟨_, Sum.inr x, .inl e, rfl, rfl⟩, ?_⟩
    rw [val_mem hl]
    exact k _ H' (Same.trans s s') rfl
theorem ev_dgetS {x : Str} {ks : List Key} {ds : List D} {i : Nat} {d : D} (hd : Ev td Γ (.dct ks ds)) (ha : Ev ty Γ (.str x)) (h1 : ks[i]? = some (Sum.inr x)) (h2 : ds[i]? = some d) (h3 : ∀ j < i, ks[j]? ≠ some (Sum.inr x)) : Ev (tDGet td ty) Γ d := fun F σ W Q g k =>
  hd F σ W _ g fun u H s ⟨a, vs, eu, e, nu, hl, rl⟩ => ha F σ (W.at H) _ (g.same s) fun v H' s' r => by
    obtain rfl : v = V.str x := r
    obtain ⟨w, hw, rw'⟩ := rl.get h2
    exact ⟨a, w, eu, .inl ⟨_, Sum.inr x, .inl (s' _ _ e), rfl, (val_at h1 hw h3).symm⟩, k w H' (Same.trans s s') (Rep.same (W := W.at H) s' rw')⟩
/-! ### a call of a local name that holds a def -/
theorem ev_callL {s : Spc} {i : Nat} {f : Addr} {E : XK} {t : TA} {x : s.ty} {d : D} (hf : Γ[i]? = some (.val (.raw (.ref f)))) (h : EvA t Γ (s.args x)) (np : noPs (s.args x) = true) (ok : s.ok x) (hd : ∀ d', s.rel x d' → d' = d) : Ev (tCallL i f (toSp s) [] E t) Γ d := fun F σ W R g k => by
  obtain ⟨v, e, r⟩ := g.val i _ hf
  obtain rfl : v = V.ref f := r
  exact ⟨e, ev_call (E := E) h np ok hd F σ W R g k⟩
end
end Dw

/-! xs, y = [], e with a cell among them; xs.index(x) of texts. -/
namespace Dw
open PySem PySem.Spec PyProof.Rows L2 HT
theorem ds_asg_o2 {K : PySem.W.Frag} {Γ : Gam} {De : DE} {i j : Nat} {t1 t2 : TE} {ds : List D} (h1 : EvN t1 Γ ds) (h : Dl t2 Γ fun d Γ1 => De.nx ((Γ1.set i (.own ds)).set j (.val d))) : Ds (tAsg (tTup (tCons t1 (tCons t2 tNil))) (gTup K 2 (gCons (gName i) (gCons (gName j) gNil)))) Γ De := fun F σ W Dr g k =>
  h1 F σ W _ g fun a vs H s n e r => by
    obtain ⟨st1, g1, no1, f1, p1⟩ := g.plus s n (by rw [e]; exact fun z => nomatch z)
    have g1' : SR (fun b => F b ∨ b = a) Γ σ (W.plus H a) := ⟨⟨g1.ok.dom, fun b z => z.elim (g1.ok.fu b) (fun z => z ▸ .inr rfl), fun b z => let ⟨u, f, p⟩ := g1.ok.pu b z; ⟨u, fun w => w.elim f (fun w => p1 (w ▸ z)), p⟩⟩, g1.len, g1.val, fun i ds e => let ⟨b, vs, e1, u, f, p, q, r⟩ := g1.own i ds e; ⟨b, vs, e1, u, fun w => w.elim f (fun w => no1 ⟨i, ds, e, w ▸ e1⟩), p, q, r⟩, g1.apart⟩
    refine h (fun b => F b ∨ b = a) σ (W.plus H a) _ g1' fun v W1 d Γ1 st g2 rd q => ?_
    have ea : W1.H a = some (.lst vs) := (st.fr a (.inr rfl)).trans e
    have g2' : SR F Γ1 σ W1 := ⟨⟨g2.ok.dom, fun b z => g2.ok.fu b (.inl z), fun b z => let ⟨u, f, p⟩ := g2.ok.pu b z; ⟨u, fun w => f (.inl w), p⟩⟩, g2.len, g2.val, fun i ds e => let ⟨b, vs, e1, u, f, p, q, r⟩ := g2.own i ds e; ⟨b, vs, e1, u, fun w => f (.inl w), p, q, r⟩, g2.apart⟩
    have no2 : ¬ ownA Γ1 σ a := fun ⟨i, ds, e1, e2⟩ => by
      obtain ⟨b, vs, e3, _, f, _⟩ := g2.own i ds e1
      rw [e2] at e3; cases e3
      exact f (.inr rfl)
    have p2 : ¬ W1.P a := fun z => (g2.ok.pu a z).2.1 (.inr rfl)
    have ra : RepL W1 ds vs := r.stp st
    have g3 := g2'.adopt (i := i) (g2.ok.fu a (.inr rfl)) f1 p2 ea ra no2
    refine ⟨Nat.le_trans (show 2 ≤ 100000 by decide) (by decide), fun p hp => ?_⟩
    exact ⟨p, [.ref a, v], rfl, TupAt.sq (.mk upd_same), rfl, .ref a, [v], rfl, v, [], rfl, rfl, k.nx _ (W1.at _) _ ((st1.trans (st.sub fun b z => .inl z)).trans (Stp.of_same g2'.ok (same_upd hp))) ((g3.set rd).same (same_upd hp)) q⟩
section
variable {K : PySem.W.Frag} {Γ : Gam} {ta tb : TE}
theorem ev_lidxS {o : List Str} {c : Str} (h : EvB ta Γ (o.map D.str)) (hb : Ev tb Γ (.str c)) (hm : c ∈ o) : Ev (tBM K "list" (rIndex K) ta (tCons tb tNil)) Γ (.int (o.idxOf c : Nat)) := fun F σ W Q g k =>
  h F σ W _ g fun a vs H s e l => by
    refine ⟨?ty, hb F σ (W.at H) _ (g.same s) fun u H2 s2 r => ?_⟩
    case ty => exact tyV_lst e
    obtain rfl : u = V.str c := r
    obtain rfl := RepL.strs.mp l
    have hl : o.idxOf c < o.length := List.idxOf_lt_length_iff.mpr hm
    refine ⟨a, _, _, o.idxOf c, _, rfl, rfl, .of (s2 _ _ e), rfl, by rw [List.all_map]; exact List.all_eq_true.mpr fun _ _ => rfl, by rw [List.getElem?_map, idx_at hm]; rfl, by simp [eqV], fun m z' hmj hz => ?_, k _ H2 (Same.trans s s2) rfl⟩
    rw [List.getElem?_map, List.getElem?_eq_getElem (by omega)] at hz
    obtain rfl := Option.some.inj hz
    have ne := idx_not hmj (by omega)
    simp [eqV, ne]
end
end Dw

/-! an own list, lent for the time of one expression whose answer is a tuple of numbers. -/
namespace Dw
open PySem PySem.Spec PyProof.Rows L2 HT
theorem dl_lend {Γ : Gam} {t : TE} {Q : D → Gam → Prop} (i : Nat) {ds : List D} (hi : Γ[i]? = some (.own ds)) (one : ∀ j es, Γ[j]? = some (.own es) → j = i)
    (h : Dl t (Γ.set i (.val (.lst ds))) fun d Γ1 => Γ1 = Γ.set i (.val (.lst ds)) ∧ (∃ m : List Nat, d = .tup (m.map fun k : Nat => D.int k)) ∧ Q d Γ) : Dl t Γ Q := fun F σ W R g k => by
  obtain ⟨a, vs, hs, ua, fa, pa, ea, ra⟩ := g.own i ds hi
  obtain ⟨st0, g0⟩ := g.freeze hi hs
  refine h F σ ⟨W.H, fun b => W.U b ∧ b ≠ a, W.P⟩ R g0 fun v W1 d Γ1 st g1 r ⟨eΓ, ⟨m, ed⟩, q⟩ => ?_
  subst eΓ; subst ed
  have ea1 := st.keep a _ ea fun z => z.2 rfl
  have hp : W1.P = W.P := st.pur
  have stp : Stp F W ⟨W1.H, fun b => W1.U b ∨ b = a, W1.P⟩ := ⟨fun b u e n => by
    have hb := st.keep b u e fun z => n z.1
    exact ⟨hb.1, fun z => z.elim hb.2 fun z => n (z ▸ ua)⟩, hp, fun b z => st.fr b z⟩
  refine k v ⟨W1.H, fun b => W1.U b ∨ b = a, W1.P⟩ (.tup (m.map fun k : Nat => D.int k)) Γ stp ⟨⟨fun b z => z.elim (g1.ok.dom b) (fun z => by rw [z, ea1.1]; exact fun q => nomatch q), fun b z => .inl (g1.ok.fu b z), fun b z => let ⟨u, f, p⟩ := g1.ok.pu b z; ⟨.inl u, f, p⟩⟩, g.len, fun j d' e => ?_, fun j es e => ?_, g.apart⟩ ?_ q
  · obtain ⟨v', e1, r'⟩ := g.val j d' e
    exact ⟨v', e1, r'.stp stp⟩
  · obtain rfl := one j es e
    rw [hi] at e; cases e
    exact ⟨a, vs, hs, .inr rfl, fa, by rw [hp]; exact pa, ea1.1, ra.stp stp⟩
  · obtain ⟨b, ws, e1, hb, nu, l⟩ := r
    have nb : b ≠ a := fun z => by
      rw [z] at hb
      rcases hb with hb | ⟨o, hb⟩
      · rw [ea1.1] at hb; cases hb
      · rw [ea1.1] at hb; cases hb
    refine ⟨b, ws, e1, hb, fun z => z.elim nu nb, ?_⟩
    obtain rfl := repL_ord l
    exact ord_repL m
end Dw

/-! list(d.values()). -/
namespace Dw
open PySem PySem.Spec PyProof.Rows L2 HT
def rListVals : V → Hp → VK → Prop := fun x H Q => ∃ (d : Addr) (kvs : List (Key × V)), x = .ref d ∧ H d = some (.dK kvs) ∧ ∀ p, H p = none → Q (.ref p) (upd H p (.lst (kvs.map (·.2))))
def tListVals (te : TE) : TE := fun σ H Q => te σ H fun x H1 => rListVals x H1 Q
section
variable {X : Cx} {e : Expr} {te : TE} {p apos cpos pos : Pos}
theorem pe_listVals (hc : X.calm = true) (hg : Gl X "list") (hm : X.mg "list" = none) (he : PE X e te) (hv : bootBuiltins "list" = some (.type "list") := by decide +kernel) (hbase : attributeBase e "values" X.env (eval e X.env) = eval e X.env := by rfl) (hline : (apos.endLine == cpos.line) = true := by rfl)
    (hs : starEach [.Call (.Attribute e "values" apos) [] [] cpos] X.env = (false, eval (.Call (.Attribute e "values" apos) [] [] cpos) X.env) :: starEach [] X.env := by rfl) :
    PE X (.Call (.Name "list" p) [.Call (.Attribute e "values" apos) [] [] cpos] [] pos) (tListVals te) := by
  refine ⟨fun pins s σ H Q I hq => ?_⟩
  refine wpAny_Call_Name_kw (ld_blt I hg hm hv ?_)
  refine PyProof.Rows.callWith_type1 ?_ hs rfl
  rw [hs]
  show wpAny _ _ (spliced ((false, eval (.Call (.Attribute e "values" apos) [] [] cpos) X.env) :: backTo pos (starEach [] X.env))) _ _ s
  refine Calls.spliced_cons ?_
  refine wpAny_Call_method (T := "dict") (id := "dict.values") hbase rfl hline F.plainAttrs_dict F.slot_dict_values F.type_dict_values (thn (he.run pins s σ H _ I hq) fun u s1 ⟨x, H1, I1, rx, d, kvs, ex, hd, q⟩ => ?_)
  subst ex
  obtain rfl : u = Value.ref d := rx
  obtain ⟨hz, hs0, vs, kv, hdo⟩ := I1.hok d _ hd
  obtain ⟨ep, hat⟩ := hdo.dictAt
  have lk : kvs.length = vs.length := Paired.length kv
  have I2 : Inv X pins σ H1 { s1 with heap := s1.heap.push { cls := .type "dict_values", data := .fields #[.ref d] } } := I1.kept (t' := s1.toks) fun b ob q => Heap.get?_push_of_some _ q
  refine ⟨hdo.typeIs, hdo.mapOf.noDict, ?_⟩
  show wpAny _ _ (callWith cpos (.builtin "dict.values") [.ref d] [] []) _ X.xe s1
  refine method_meetsIn F.slot_dict_values F.entry_dict_values rfl (PySem.evalArgs_none ⟨rfl, hdo.typeIs, F.args_dict_values_1 _, _, meets_dict_values (mixKind X.prog X.w) d hs0, ⟨vs, hdo⟩, ?_⟩)
  refine Calls.spliced_nil ?_
  refine PySem.W.kdl_call (PySem.W.kdl_values (knd := mixKind X.prog X.w) (kvs := vs) (ep := ep)) (I1.ok.hd hc) ⟨⟨_, Heap.get?_push_size _ rfl, rfl, rfl⟩, hat.push _⟩ (by omega) fun h' tk acc' c' hkeep hS hacc => ?_
  refine ⟨.ref _, upd H1 _ (.lst (kvs.map (·.2))), I2.laid hkeep (Nat.le_refl _) (show ObjOk X.prog X.w _ _ _ (.lst (kvs.map (·.2))) from ⟨?_, acc'.toList, c', ?_, ?_⟩), rfl, q _ (I2.hok.fresh (Nat.le_refl _))⟩
  · rw [List.length_map]; exact hz
  · have el : acc'.toList.length = acc'.size := by simp
    refine vals_of_at (by rw [List.length_map, el, hacc.1, lk]) fun j x w h1 h2 => ?_
    obtain ⟨k, hky⟩ := hacc.2 j w (by rw [← Array.getElem?_toList]; exact h2)
    obtain ⟨x2, h3, h4⟩ := KV.at' kv hky
    rw [List.getElem?_map, h3] at h1
    cases h1
    exact h4
  · rw [Array.toArray_toList]; exact hS
variable {Γ : Gam} {td : TE}
theorem evn_listVals {ks : List Key} {ds : List D} (h : Ev td Γ (.dct ks ds)) : EvN (tListVals td) Γ ds := fun F σ W Q g k =>
  h F σ W _ g fun u H s ⟨a, vs, eu, e, nu, hl, rl⟩ => ⟨a, ks.zip vs, eu, e, fun n hn => by
    rw [List.map_snd_zip (by omega)]
    exact k n vs _ (Same.trans s (same_upd hn)) (s.free hn) upd_same (RepL.plus (W := W.at H) hn (same_upd hn) rl)⟩
end
end Dw

/-! xs == [] of any list. -/
namespace Dw
open PySem PySem.Spec PyProof.Rows L2 HT
abbrev rEqL0 (K : PySem.W.Frag) : R2 := fun x y H Q => ∃ a b xs, x = .ref a ∧ y = .ref b ∧ SqL K H a xs ∧ SqL K H b [] ∧ Q (.bl xs.isEmpty) H
theorem op_eqL0 {X : Cx} (hu : X.A.units + 64 < cLine) : OpR X (compareOp .Eq) (rEqL0 X.K) := by
  intro pins s σ H x y v u Q I rx ry h
  obtain ⟨a, b, xs, rfl, rfl, ha, hb, q⟩ := h
  cases rx
  cases ry
  obtain ⟨its, r1, p1, _⟩ := I.list ha
  obtain ⟨its2, r2, p2, _⟩ := I.list hb
  cases r2
  cases xs with
  | nil =>
    cases r1
    refine PySem.EqBoolInt.of_rc (SeqAt.RcAt.lists (e := fun _ => true) p1.isList p2.isList rfl (by omega) (fun j h1 h2 => absurd h2 (by simp))) ?_
    exact ⟨.bl _, H, I, rfl, q⟩
  | cons x xs =>
    cases r1
    refine PySem.EqBoolInt.of_rc (SeqAt.RcAt.lists_lengths p1.isList p2.isList (by simp) (by omega)) ?_
    exact ⟨.bl _, H, I, rfl, q⟩
theorem eqL0A {X : Cx} (K : PySem.W.Frag) (hu : X.A.units + 64 < cLine) (hK : X.K = K := by rfl) : OpR X (compareOp .Eq) (rEqL0 K) := hK ▸ op_eqL0 hu
theorem eq_L0 {K : PySem.W.Frag} {ds : List D} : DR2 (rEqL0 K) (.lst ds) (.lst []) (.bl ds.isEmpty) := dr2_flat fun W u v Q ⟨a, vs, eu, e, nu, l⟩ ⟨b, ws, ev, e2, nu2, l2⟩ k => ⟨a, b, vs, eu, ev, .of e, by rw [show ws = [] from l2] at e2; exact .of e2, k _ (by
  have := l.length
  cases ds <;> cases vs <;> first | rfl | (simp at this))⟩
/-- the comprehension's answer against [] -/
theorem ev_eqL0 {K : PySem.W.Frag} {Γ : Gam} {ta tb : TE} {ds : List D} {b : Bool} (ha : EvN ta Γ ds) (hb : Ev tb Γ (.lst [])) (e : ds.isEmpty = b) : Ev (tOp (rEqL0 K) ta tb) Γ (.bl b) := ev_op ha.ev hb (e ▸ eq_L0)
theorem ev_neL0 {K : PySem.W.Frag} {Γ : Gam} {ta tb : TE} {ds : List D} {b : Bool} (ha : EvN ta Γ ds) (hb : Ev tb Γ (.lst [])) (e : (!ds.isEmpty) = b) : Ev (tOp (rNeL0 K) ta tb) Γ (.bl b) := ev_op ha.ev hb (e ▸ ne_L0)
theorem filter_no {α β : Type} (xs : List α) (p : α → Bool) (f : α → β) : ((xs.filter p).map f).isEmpty = xs.all fun x => !p x := by
  induction xs with
  | nil => rfl
  | cons x r ih =>
    cases h : p x with
    | true => simp [List.filter_cons, h]
    | false => simp only [List.filter_cons, h, List.all_cons, Bool.not_false, Bool.true_and]; exact ih
/-! ### texts, >= -/
theorem op_ge_str {X : Cx} : OpR X (compareOp .GtE) (fun x y H Q => ∃ i j, x = .str i ∧ y = .str j ∧ Q (.bl (!decide (i.cps.toList < j.cps.toList))) H) := by
  intro pins s σ H x y v u Q I rx ry h
  obtain ⟨i, j, rfl, rfl, q⟩ := h
  obtain ⟨t, rfl⟩ := rx
  obtain ⟨t', rfl⟩ := ry
  exact PySem.P.ge_str (fin_bl I q rfl)
abbrev rGeS : R2 := fun x y H Q => ∃ i j, x = .str i ∧ y = .str j ∧ Q (.bl (!decide (i.cps.toList < j.cps.toList))) H
theorem opGeS {X : Cx} : OpR X (compareOp .GtE) rGeS := op_ge_str
theorem ge_txS {a b : List Nat} : DR2 rGeS (.str (tx a)) (.str (tx b)) (.bl (!decide (a < b))) := dr2_flat fun W u v Q r1 r2 k => ⟨tx a, tx b, r1, r2, by rw [tx_cps, tx_cps]; exact k _ rfl⟩
/-! ### range(a, b) -/
def rng2 (a n : Nat) : List D := (List.range n).map fun (i : Nat) => D.int ((a + i : Nat) : Int)
theorem rng2_get {a n i : Nat} {x : D} (h : (rng2 a n)[i]? = some x) : i < n ∧ x = .int ((a + i : Nat) : Int) := by
  unfold rng2 at h
  rw [List.getElem?_map] at h
  by_cases hi : i < n
  · rw [List.getElem?_range hi] at h
    cases h; exact ⟨hi, rfl⟩
  · rw [List.getElem?_eq_none (by simpa using hi)] at h; cases h
theorem rng2_length (a n : Nat) : (rng2 a n).length = n := by simp [rng2]
theorem ei_range2 {Γ : Gam} {ta : TA} {a b : Nat} (h : EvA ta Γ [.int a, .int b]) (ha : a < 2 ^ 62) (hb : b < 2 ^ 62) : Ei (iRng2 ta) Γ (rng2 a (b - a)) := fun F σ W R g k => h F σ W _ g fun vs H st r => by
  obtain ⟨v, _, rfl, rv, v2, _, rfl, rv2, rfl⟩ := r
  refine ⟨a, b, by rw [show v = V.int a from rv, show v2 = V.int b from rv2], ⟨by omega, by omega, by omega, by omega⟩, k (Itr a ((b : Int) - a).toNat) H st ⟨fun W2 i x dm s2 ku pu hx => ?_, fun H2 s2 => ?_⟩⟩
  · obtain ⟨hi, rfl⟩ := rng2_get hx
    refine ⟨by show i < ((b : Int) - a).toNat; omega, fun u H' ⟨e, hy⟩ => ?_⟩
    subst e hy
    exact ⟨Same.refl _, by show V.int ((a : Int) + (i : Int)) = V.int ((a + i : Nat) : Int); congr 1⟩
  · show ((b : Int) - a).toNat ≤ _
    rw [rng2_length]; omega
end Dw

/-! {"a": 1, ..}, d.get(k, z); cuts and sums of tuples whose cells are known. -/
namespace Dw
open PySem PySem.Spec PyProof.Rows L2 HT
section
variable {Γ : Gam} {td ty : TE}
theorem tPairs_si (σ : L2.St) (H : Hp) : ∀ (kvs : List (Str × Int)) (Q : List (V × V) → Hp → Prop), Q (kvs.map fun p => (V.str p.1, V.int p.2)) H → tPairs (kvs.map fun p => (tC (.str p.1), tC (.int p.2))) σ H Q
  | [], Q, h => h
  | p :: r, Q, h => tPairs_si σ H r _ h
theorem zip_kv (kvs : List (Str × Int)) : (kvs.map fun p => (Sum.inr p.1 : Key)).zip (kvs.map fun p => V.int p.2) = kvs.map fun p => (Sum.inr p.1, V.int p.2) := by
  induction kvs with
  | nil => rfl
  | cons p r ih => rw [List.map_cons, List.map_cons, List.zip_cons_cons, ih]; rfl
theorem repL_si {W : Wd} : ∀ kvs : List (Str × Int), RepL W (kvs.map fun p => D.int p.2) (kvs.map fun p => V.int p.2)
  | [] => rfl
  | p :: r => ⟨.int p.2, _, rfl, rfl, repL_si r⟩
theorem repL_si' {W : Wd} : ∀ {kvs : List (Str × Int)} {vs : List V}, RepL W (kvs.map fun p => D.int p.2) vs → vs = kvs.map fun p => V.int p.2
  | [], _, h => h
  | p :: r, _, ⟨v, rs, e, h1, h2⟩ => by rw [e, show v = V.int p.2 from h1, repL_si' h2]; rfl
theorem ev_dispS {trs : List (TE × TE)} (kvs : List (Str × Int)) (ht : trs = kvs.map fun p => (tC (.str p.1), tC (.int p.2))) (hl : kvs.length ≤ 15) (hm : mergeK [] (kvs.map fun p => ((Sum.inr p.1 : Key), V.int p.2)) = kvs.map fun p => (Sum.inr p.1, .int p.2)) :
    Ev (tDisp trs) Γ (.dct (kvs.map fun p => Sum.inr p.1) (kvs.map fun p => .int p.2)) := fun F σ W Q g k => fun p hp => by
  subst ht
  refine tPairs_si σ _ kvs _ ⟨upd_same, kvs.map fun p => (Sum.inr p.1, .int p.2), by rw [List.map_map]; rfl, by rw [List.length_map]; exact hl, ?_⟩
  rw [upd_upd, hm]
  exact k _ _ (same_upd hp) ⟨p, kvs.map fun p => V.int p.2, rfl, by rw [zip_kv]; exact upd_same, fun u => g.ok.dom p u hp, by rw [List.length_map, List.length_map], repL_si kvs⟩
theorem valV_si (kvs : List (Str × Int)) (x : Str) : valV (kvs.map fun p => ((Sum.inr p.1 : Key), V.int p.2)) (Sum.inr x) = ((kvs.find? fun p => decide (p.1 = x)).map fun p => V.int p.2) := by
  induction kvs with
  | nil => rfl
  | cons p r ih =>
    rw [List.map_cons, List.find?_cons]
    by_cases h : p.1 = x
    · rw [valV_pos (by rw [h]), decide_eq_true h]; rfl
    · rw [valV_neg (fun z => h (Sum.inr.inj z)), decide_eq_false h]; exact ih
theorem ev_dget2S {kvs : List (Str × Int)} {x : Str} {z : Int} (h : Ev td Γ (.dct (kvs.map fun p => Sum.inr p.1) (kvs.map fun p => .int p.2))) (hk : Ev ty Γ (.str x)) : Ev (tDGet2 td ty (tC (.int z))) Γ (.int (((kvs.find? fun p => decide (p.1 = x)).map (·.2)).getD z)) := fun F σ W Q g k => h F σ W _ g fun v H s ⟨a, vs, ev, e, nu, hl, rl⟩ => by
  subst ev
  obtain rfl := repL_si' rl
  rw [zip_kv] at e
  refine ⟨a, rfl, .inl ⟨_, .inl e⟩, hk F σ (W.at H) _ (g.same s) fun w H2 s2 rw' => ?_⟩
  refine ⟨valV (kvs.map fun p => ((Sum.inr p.1 : Key), V.int p.2)) (Sum.inr x), ?_, ?_⟩
  · rw [show w = V.str x from rw']; exact DGet.k (k := Sum.inr x) (s2 _ _ e)
  · refine k _ H2 (Same.trans s s2) ?_
    rw [valV_si]
    show _ = V.int _
    cases kvs.find? fun p => decide (p.1 = x) <;> rfl
end
/-! ### t[a:b], its cell known -/
abbrev rSlN (K : PySem.W.Frag) : V → Option Int → Option Int → Hp → VK → Prop := fun x lo hi H Q => ∃ a xs, x = .ref a ∧ SqT K H a xs ∧ ((HT.sIx xs.length 0 lo = 0 ∧ HT.sIx xs.length xs.length hi = xs.length) → Q (.ref a) H) ∧ (¬ (HT.sIx xs.length 0 lo = 0 ∧ HT.sIx xs.length xs.length hi = xs.length) → NewT H (cutV xs lo hi) Q)
theorem sl_tupN {X : Cx} : SlR X (rSlN X.K) := by
  intro pins s σ H x v vl vu lo hi sl Q I rx hs pl pu h
  obtain ⟨a, xs, rfl, hx, q1, q2⟩ := h
  cases rx
  obtain ⟨its, r, ht, hz⟩ := I.tuple hx
  have hlen : its.toArray.size = xs.length := by rw [List.size_toArray]; exact r.length.symm
  refine ⟨"tuple", _, PyProof.Rows.slot_tuple_getitem.lookup, ht.typeIs, ?_⟩
  by_cases hw : HT.sIx xs.length 0 lo = 0 ∧ HT.sIx xs.length xs.length hi = xs.length
  · exact getItem_tuple_whole ht hs pl pu (by rw [hlen]; exact hw) ⟨.ref a, H, I, rfl, q1 hw⟩
  · refine HT.getItem_tuple_cut ht hs pl pu (by rw [hlen]; exact hw) ?_ (by rw [hlen]; exact hz)
    rw [hlen]
    exact new_tup I ((r.drop (HT.sIx xs.length 0 lo)).take (HT.sIx xs.length xs.length hi - HT.sIx xs.length 0 lo)) (Nat.le_trans (cutV_length xs lo hi) hz) (q2 hw)
abbrev rSlXN (K : PySem.W.Frag) : V → Option Int → Option Int → Hp → VK → Prop := fun x lo hi H Q => rSlX K x lo hi H Q ∨ rSlN K x lo hi H Q
theorem slXNA {X : Cx} (K : PySem.W.Frag) (hK : X.K = K := by rfl) : SlR X (rSlXN K) := by subst hK; exact (slXA X.K).or sl_tupN
section
variable {K : PySem.W.Frag} {Γ : Gam} {te : TE} {ds : List D}
theorem ev_sliceTN {tl th : TO} {lo hi : Option Int} (h : Ev te Γ (.tupN ds)) (h1 : Eo tl Γ lo) (h2 : Eo th Γ hi) : Ev (tSl (rSlXN K) te tl th) Γ (.tupN (cutD ds lo hi)) := fun F σ W Q g k => h F σ W _ g fun v H s ⟨a, vs, ev, e, nu, l⟩ => h1 F σ (W.at H) _ (g.same s) fun H1 s1 => h2 F σ ((W.at H).at H1) _ ((g.same s).same s1) fun H2 s2 => by
  have sm : Same H H2 := Same.trans s1 s2
  subst ev
  refine .inr ⟨a, vs, rfl, (e.same sm).at.sq, fun hw => ?_, fun hw p ob c d hp => k _ _ (Same.trans s (Same.trans sm (same_upd hp))) (rep_new_tupN (W := W.at H2) (((g.same s).same s1).same s2).ok.dom hp c d (repL_cut (RepL.same (W := W.at H) sm l)))⟩
  have e1 : cutD ds lo hi = ds := cut_whole ds ds.length lo hi rfl (by rw [l.length]; exact hw)
  rw [e1] at k
  exact k _ H2 (Same.trans s sm) ⟨a, vs, rfl, e.same sm, nu, RepL.same (W := W.at H) sm l⟩
theorem plF_NN {es : List D} (h : ds.length + es.length ≤ sizeLine) : DR2 (rPlusF K) (.tupN ds) (.tupN es) (.tupN (ds ++ es)) := by
  by_cases n : es = []
  · subst n
    rw [List.append_nil]
    by_cases n0 : ds = []
    · subst n0
      exact dr2_l (dr2_r (dr2_flat fun W u v Q ⟨a, vs, e1, h1, n1, l1⟩ b k => by
        obtain ⟨c, ws, e2, h2, n2, l2⟩ := id b
        obtain rfl : vs = [] := l1
        exact ⟨a, c, ws, e1, e2, h1.at.sq, h2.at.sq, by rw [← e2]; exact k v b⟩))
    · refine dr2_l (dr2_l (dr2_r (dr2_r (dr2_r fun W u v Q dom ⟨a, vs, e1, h1, n1, l1⟩ ⟨b, ws, e2, h2, n2, l2⟩ k => ?_))))
      have nv : vs ≠ [] := fun z => n0 (List.length_eq_zero_iff.mp (by rw [l1.length, z]; rfl))
      obtain rfl : ws = [] := l2
      subst e1
      exact ⟨a, b, vs, [], rfl, e2, h1.at.sq, h2.at.sq, nv, by rw [← l1.length]; exact h, fun _ => k _ W.H (Same.refl _) ⟨a, vs, rfl, h1, n1, l1⟩, fun z => absurd rfl z⟩
  · exact fun W u v Q dom r1 r2 k => plF_tupN (K := K) n h W u v Q dom r1.dn r2 k
end
/-! ### t == () -/
abbrev rEqT0 (K : PySem.W.Frag) : R2 := fun x y H Q => ∃ a b xs, x = .ref a ∧ y = .ref b ∧ SqT K H a xs ∧ SqT K H b [] ∧ Q (.bl xs.isEmpty) H
theorem op_eqT0 {X : Cx} (hu : X.A.units + 64 < cLine) : OpR X (compareOp .Eq) (rEqT0 X.K) := by
  intro pins s σ H x y v u Q I rx ry h
  obtain ⟨a, b, xs, rfl, rfl, ha, hb, q⟩ := h
  cases rx
  cases ry
  obtain ⟨its, r1, ⟨o, ho, hc, n, hd⟩, _⟩ := I.tuple ha
  obtain ⟨its2, r2, ⟨o2, ho2, hc2, n2, hd2⟩, _⟩ := I.tuple hb
  cases r2
  have e : ((List.range (min its.toArray.size ([] : List Value).toArray.size)).all (fun _ => true) && its.toArray.size == ([] : List Value).toArray.size) = xs.isEmpty := by
    have h1 := r1.length
    rw [show (List.range (min its.toArray.size ([] : List Value).toArray.size)).all (fun _ => true) = true from List.all_eq_true.mpr fun _ _ => rfl, Bool.true_and, List.size_toArray, List.size_toArray, ← h1]
    cases xs <;> rfl
  refine PySem.EqBoolInt.of_rc (SeqAt.RcAt.tuples (e := fun _ => true) ⟨o, ho, hc, n, hd⟩ ⟨o2, ho2, hc2, n2, hd2⟩ (by omega) (fun j h1 h2 => absurd h2 (by simp))) ?_
  exact ⟨.bl _, H, I, by rw [e]; rfl, q⟩
theorem eqT0A {X : Cx} (K : PySem.W.Frag) (hu : X.A.units + 64 < cLine) (hK : X.K = K := by rfl) : OpR X (compareOp .Eq) (rEqT0 K) := hK ▸ op_eqT0 hu
theorem eq_T0 {K : PySem.W.Frag} {ds : List D} : DR2 (rEqT0 K) (.tup ds) (.tup []) (.bl ds.isEmpty) := dr2_flat fun W u v Q ⟨a, vs, eu, e, nu, l⟩ ⟨b, ws, ev, e2, nu2, l2⟩ k => ⟨a, b, vs, eu, ev, e.sq, by rw [show ws = [] from l2] at e2; exact e2.sq, k _ (by
  have := l.length
  cases ds <;> cases vs <;> first | rfl | (simp at this))⟩
/-! ### a text's count -/
theorem ev_countS {Γ : Gam} {ta tb : TE} {a b : Str} {n : Int} (ha : Ev ta Γ (.str a)) (hb : Ev tb Γ (.str b)) (hn : (Txt.count a b : Int) = n) : Ev (tM1 (fun x xs H Q => ∃ a b, x = .str a ∧ xs = [.str b] ∧ Q (.int (Txt.count a b)) H) ta tb) Γ (.int n) := fun F σ W Q g k =>
  ha F σ W _ g fun v H s r => ⟨⟨a, r⟩, hb F σ (W.at H) _ (g.same s) fun u H1 s1 r1 => ⟨a, b, r, by rw [show u = V.str b from r1], k _ H1 (Same.trans s s1) (by rw [← hn]; rfl)⟩⟩
end Dw

/-! min(xs); xs.extend(ys) of an own list; a purse that is made of a number. -/
namespace Dw
open PySem PySem.Spec PyProof.Rows L2 HT
theorem minA {X : Cx} (K : PySem.W.Frag) (hc : X.calm = true := by rfl) (hK : X.K = K := by rfl) : CallR X (.builtin "min") (rMin K) := hK ▸ cr_min hc
section
variable {K : PySem.W.Frag} {Γ : Gam} {ta tb : TE}
theorem ev_min1 {ns : List Int} {M : Int} (h : EvB ta Γ (ns.map D.int)) (hne : 0 < ns.length) (hu : ∀ m ∈ ns, (∀ y ∈ ns, m ≤ y) → m = M) : Ev (tCB (rMin K) (tCons ta tNil)) Γ (.int M) := fun F σ W Q g k => h F σ W _ g fun a vs H s e l => by
  refine ⟨a, ns, rfl, .of (by rw [e, RepL.ints.mp l]), hne, fun m hm hy => ?_⟩
  obtain rfl := hu m hm hy
  exact k _ H s rfl
theorem dl_extend {i : Nat} {ds es : List D} {Q : D → Gam → Prop} (h0 : Γ[i]? = some (.own ds)) (hb : EvB tb Γ es) (hz : ds.length + es.length ≤ sizeLine) (q : Q .non (Γ.set i (.own (ds ++ es)))) : Dl (tBM K "list" rExtend (tVar i) (tCons tb tNil)) Γ Q := fun F σ W R g k => by
  obtain ⟨a, vs, hs, u, f, p, q0, r0⟩ := g.own i ds h0
  refine ⟨.ref a, hs, tyV_lst q0, hb F σ W _ g fun b ws H s e l => ?_⟩
  have g1 := g.same s
  obtain ⟨a', vs', hs', u', f', p', q1, r1⟩ := g1.own i ds h0
  rw [hs] at hs'; cases hs'
  obtain ⟨st, g2⟩ := g1.write h0 hs (r1.append l)
  exact ⟨a, b, vs', ws, rfl, rfl, q1, e, by rw [← r1.length, ← l.length]; exact hz, k .non _ .non _ ((Stp.of_same g.ok s).trans st) g2 rfl q⟩
end
/-- a def that makes a purse of a number -/
def toWell : Sp := fun vs H Q _ => ∃ (F : Addr → Prop) (W : Wd) (cell : Int), W.H = H ∧ WOk F W ∧ RepL W [.int cell] vs ∧
  ∀ (a : Addr) (x y c : Int) (W' : Wd) (H' : Hp), Stp F W W' → WOk F W' → Same W'.H H' → W'.H a = none → H' a = some (.lst [.int x, .int y, .int c]) → 0 ≤ x → 0 ≤ y → y < 2147483647 → Q (.ref a) H'
section
variable {s : Spc} {E : XK} {Γ : Gam} {ta : TE}
/-- right(well(number)) -/
theorem dl_well {E2 : XK} {Q : D → Gam → Prop} {x : s.ty} {z : Int} (ha : s.args x = [.purse]) (ok : s.ok x) (hr : ∀ d, s.rel x d → d = .bl true) (h1 : Ev ta Γ (.int z)) (q : Q (.bl true) Γ) :
    Dl (tCall (toSp s) [] E (tCons (tCall toWell [] E2 (tCons ta tNil)) tNil)) Γ Q := fun F σ W R g k => by
  show tCons ta tNil σ W.H (fun vs H1 => toWell (vs ++ []) H1 (fun v H2 => toSp s ([v] ++ []) H2 R E) E2)
  refine (eva_cons h1 eva_nil) F σ W _ g fun vs H s1 r => ?_
  have g1 := g.same s1
  rw [List.append_nil]
  refine ⟨_, W.at H, z, rfl, g1.callOk, r, fun a x' y c' W' H' st ok' sm hn ha' h0 h0' h0y => ?_⟩
  have g2 := g1.call st ok'
  have okc := g2.callOk
  have nu : ¬ W'.U a := g2.ok.new hn
  refine ⟨x, _, ⟨H', fun b => W'.U b ∨ b = a, fun b => W'.P b ∨ b = a⟩, rfl, ⟨fun b z => ?_, fun b z => .inl (okc.fu b z), fun b z => ?_⟩, ?_, ok, fun d v W2 hd st2 ok2 r2 => ?_⟩
  · rcases z with z | rfl
    · exact fun e => okc.dom b z (sm.free e)
    · show H' b ≠ none
      rw [ha']; exact fun e => nomatch e
  · rcases z with z | rfl
    · obtain ⟨u, f, p1, p2, e1, e2, e3, e4⟩ := okc.pu b z
      exact ⟨.inl u, f, p1, p2, e1, e2, e3, sm _ _ e4⟩
    · exact ⟨.inr rfl, fun z => nu (okc.fu b z), (x', c'), y, h0, h0', h0y, ha'⟩
  · rw [ha]
    exact RepL.one ⟨a, rfl, .inr rfl⟩
  · have hd' := hr d hd
    subst hd'
    have stc : Stp (fun b => F b ∨ ownA Γ σ b) W' ⟨W2.H, W2.U, W'.P⟩ := ⟨fun b u e n => by
        have nb : b ≠ a := fun z => by rw [z, hn] at e; cases e
        obtain ⟨e2, n2⟩ := st2.keep b u (sm _ _ e) fun z => z.elim n nb
        exact ⟨e2, n2⟩, rfl, fun b z => by
        refine (st2.fr b z).trans ?_
        show H' b = W'.H b
        cases q : W'.H b with
        | none => exact absurd q (okc.dom b (okc.fu b z))
        | some u => exact sm _ _ q⟩
    have okc2 : WOk (fun b => F b ∨ ownA Γ σ b) ⟨W2.H, W2.U, W'.P⟩ := ⟨ok2.dom, ok2.fu, fun b z => by
      have := ok2.pu b (by rw [st2.pur]; exact .inl z)
      exact this⟩
    have st0 : Stp F W ⟨W2.H, W2.U, W'.P⟩ := (Stp.of_same g.ok s1).trans (((st.trans stc)).sub fun _ z => .inl z)
    exact k v ⟨W2.H, W2.U, W'.P⟩ (.bl true) Γ st0 (g2.call stc okc2) r2 q
end
end Dw

/-! x, ys = e, [] with a cell among them. -/
namespace Dw
open PySem PySem.Spec PyProof.Rows L2 HT
theorem ds_asg_2o {K : PySem.W.Frag} {Γ : Gam} {De : DE} {i j : Nat} {t1 t2 : TE} (h : Dl t1 Γ fun d Γ1 => ∃ ds, EvN t2 Γ1 ds ∧ De.nx ((Γ1.set i (.val d)).set j (.own ds))) : Ds (tAsg (tTup (tCons t1 (tCons t2 tNil))) (gTup K 2 (gCons (gName i) (gCons (gName j) gNil)))) Γ De := fun F σ W Dr g k =>
  h F σ W _ g fun v W1 d Γ1 st1 g1 rd ⟨ds, h2, q⟩ => h2 F σ W1 _ g1 fun a vs H s n e r => by
    obtain ⟨st2, g2, no2, f2, p2⟩ := g1.plus s n (by rw [e]; exact fun z => nomatch z)
    have rd2 : Rep (W1.plus H a) d v := rd.stp st2
    have g3 := g2.set (i := i) rd2
    have no3 : ¬ ownA (Γ1.set i (.val d)) (σ.set i (some v)) a := fun ⟨k, es, e1, e2⟩ => by
      by_cases hk : i = k
      · subst hk
        by_cases hl : i < Γ1.length
        · rw [List.getElem?_set_self hl] at e1; cases e1
        · rw [List.getElem?_eq_none (by rw [List.length_set]; omega)] at e1; cases e1
      · rw [List.getElem?_set_ne hk] at e1 e2
        exact no2 ⟨k, es, e1, e2⟩
    have g4 := g3.adopt (i := j) (.inr rfl) f2 p2 e r no3
    refine ⟨Nat.le_trans (show 2 ≤ 100000 by decide) (by decide), fun p hp => ?_⟩
    exact ⟨p, [v, .ref a], rfl, TupAt.sq (.mk upd_same), rfl, v, [.ref a], rfl, .ref a, [], rfl, rfl, k.nx _ ((W1.plus H a).at _) _ ((st1.trans st2).trans (Stp.of_same g2.ok (same_upd hp))) (g4.same (same_upd hp)) q⟩
section
variable {s : Spc} {E : XK} {Γ : Gam} {ta : TE}
/-- right(well(number)) -/
theorem dl_wellD {E2 : XK} {Q : D → Gam → Prop} {x : s.ty} (ha : s.args x = [.purse]) (ok : s.ok x) (hr : ∀ d, s.rel x d → d = .bl true) (h1 : Dl ta Γ fun d Γ1 => (∃ z : Int, d = .int z) ∧ Q (.bl true) Γ1) :
    Dl (tCall (toSp s) [] E (tCons (tCall toWell [] E2 (tCons ta tNil)) tNil)) Γ Q := fun F σ W R g k => by
  show tCons ta tNil σ W.H (fun vs H1 => toWell (vs ++ []) H1 (fun v H2 => toSp s ([v] ++ []) H2 R E) E2)
  refine h1 F σ W _ g fun v0 W1 d0 Γ1 s1 g1 r0 ⟨⟨z, ez⟩, q⟩ => ?_
  subst ez
  have r : RepL W1 [.int z] [v0] := RepL.one r0
  refine ⟨_, W1, z, rfl, g1.callOk, r, fun a x' y c' W' H' st ok' sm hn ha' h0 h0' h0y => ?_⟩
  have g2 := g1.call st ok'
  have okc := g2.callOk
  have nu : ¬ W'.U a := g2.ok.new hn
  refine ⟨x, _, ⟨H', fun b => W'.U b ∨ b = a, fun b => W'.P b ∨ b = a⟩, rfl, ⟨fun b z => ?_, fun b z => .inl (okc.fu b z), fun b z => ?_⟩, ?_, ok, fun d v W2 hd st2 ok2 r2 => ?_⟩
  · rcases z with z | rfl
    · exact fun e => okc.dom b z (sm.free e)
    · show H' b ≠ none
      rw [ha']; exact fun e => nomatch e
  · rcases z with z | rfl
    · obtain ⟨u, f, p1, p2, e1, e2, e3, e4⟩ := okc.pu b z
      exact ⟨.inl u, f, p1, p2, e1, e2, e3, sm _ _ e4⟩
    · exact ⟨.inr rfl, fun z => nu (okc.fu b z), (x', c'), y, h0, h0', h0y, ha'⟩
  · rw [ha]
    exact RepL.one ⟨a, rfl, .inr rfl⟩
  · have hd' := hr d hd
    subst hd'
    have stc : Stp (fun b => F b ∨ ownA Γ1 σ b) W' ⟨W2.H, W2.U, W'.P⟩ := ⟨fun b u e n => by
        have nb : b ≠ a := fun z => by rw [z, hn] at e; cases e
        obtain ⟨e2, n2⟩ := st2.keep b u (sm _ _ e) fun z => z.elim n nb
        exact ⟨e2, n2⟩, rfl, fun b z => by
        refine (st2.fr b z).trans ?_
        show H' b = W'.H b
        cases q : W'.H b with
        | none => exact absurd q (okc.dom b (okc.fu b z))
        | some u => exact sm _ _ q⟩
    have okc2 : WOk (fun b => F b ∨ ownA Γ1 σ b) ⟨W2.H, W2.U, W'.P⟩ := ⟨ok2.dom, ok2.fu, fun b z => by
      have := ok2.pu b (by rw [st2.pur]; exact .inl z)
      exact this⟩
    have st0 : Stp F W ⟨W2.H, W2.U, W'.P⟩ := s1.trans (((st.trans stc)).sub fun _ z => .inl z)
    exact k v ⟨W2.H, W2.U, W'.P⟩ (.bl true) Γ1 st0 (g2.call stc okc2) r2 q
end
end Dw

namespace K26
open PySem PySem.Spec PyProof.Rows L2 Dw
/-! ### the text by places -/
def topS (i : Nat) : Stmt := PySem.Challenge.pw_rankedrules_k26_whole_winners_by_own_com.main.body.getD i (.Pass ⟨0, 0, 0, 0⟩)
abbrev s_is_name : Stmt := topS 13
abbrev N_is_name : List Str := ["value", "letter"]
theorem sc_is_name : FnScope N_is_name ["value"] (defScope s_is_name) := ⟨rfl, rfl, rfl, by decide +kernel, rfl, by decide +kernel, by decide +kernel⟩
abbrev s_are_names : Stmt := topS 14
abbrev N_are_names : List Str := ["values", "one", "other", "value"]
theorem sc_are_names : FnScope N_are_names ["values"] (defScope s_are_names) := ⟨rfl, rfl, rfl, by decide +kernel, rfl, by decide +kernel, by decide +kernel⟩
abbrev s_is_number : Stmt := topS 15
abbrev N_is_number : List Str := ["word", "digit"]
theorem sc_is_number : FnScope N_is_number ["word"] (defScope s_is_number) := ⟨rfl, rfl, rfl, by decide +kernel, rfl, by decide +kernel, by decide +kernel⟩
abbrev s_is_whole : Stmt := topS 16
abbrev N_is_whole : List Str := ["value"]
theorem sc_is_whole : FnScope N_is_whole ["value"] (defScope s_is_whole) := ⟨rfl, rfl, rfl, by decide +kernel, rfl, by decide +kernel, by decide +kernel⟩
abbrev s_is_ranking : Stmt := topS 17
abbrev N_is_ranking : List Str := ["value", "many", "rule"]
theorem sc_is_ranking : FnScope N_is_ranking ["value", "many"] (defScope s_is_ranking) := ⟨rfl, rfl, rfl, by decide +kernel, rfl, by decide +kernel, by decide +kernel⟩
abbrev s_check_ranking : Stmt := topS 18
abbrev N_check_ranking : List Str := ["ranking", "many"]
theorem sc_check_ranking : FnScope N_check_ranking ["ranking", "many"] (defScope s_check_ranking) := ⟨rfl, rfl, rfl, by decide +kernel, rfl, by decide +kernel, by decide +kernel⟩
abbrev s_check_known : Stmt := topS 19
abbrev N_check_known : List Str := ["name", "names"]
theorem sc_check_known : FnScope N_check_known ["name", "names"] (defScope s_check_known) := ⟨rfl, rfl, rfl, by decide +kernel, rfl, by decide +kernel, by decide +kernel⟩
abbrev s_read_mark : Stmt := topS 22
abbrev N_read_mark : List Str := ["word"]
theorem sc_read_mark : FnScope N_read_mark ["word"] (defScope s_read_mark) := ⟨rfl, rfl, rfl, by decide +kernel, rfl, by decide +kernel, by decide +kernel⟩
abbrev s_read_candidates : Stmt := topS 23
abbrev N_read_candidates : List Str := ["text", "read_word", "parts", "names", "many", "marks", "part", "words", "row", "word"]
theorem sc_read_candidates : FnScope N_read_candidates ["text", "read_word"] (defScope s_read_candidates) := ⟨rfl, rfl, rfl, by decide +kernel, rfl, by decide +kernel, by decide +kernel⟩
abbrev s_read_case : Stmt := topS 24
abbrev N_read_case : List Str := ["text"]
theorem sc_read_case : FnScope N_read_case ["text"] (defScope s_read_case) := ⟨rfl, rfl, rfl, by decide +kernel, rfl, by decide +kernel, by decide +kernel⟩
abbrev s_row_holds : Stmt := topS 26
abbrev N_row_holds : List Str := ["row", "ranking", "rule"]
theorem sc_row_holds : FnScope N_row_holds ["row", "ranking"] (defScope s_row_holds) := ⟨rfl, rfl, rfl, by decide +kernel, rfl, by decide +kernel, by decide +kernel⟩
abbrev s_all_hold : Stmt := topS 27
abbrev N_all_hold : List Str := ["rows", "ranking", "row"]
theorem sc_all_hold : FnScope N_all_hold ["rows", "ranking"] (defScope s_all_hold) := ⟨rfl, rfl, rfl, by decide +kernel, rfl, by decide +kernel, by decide +kernel⟩
abbrev s_sign_of : Stmt := topS 28
abbrev N_sign_of : List Str := ["mark", "rival"]
theorem sc_sign_of : FnScope N_sign_of ["mark", "rival"] (defScope s_sign_of) := ⟨rfl, rfl, rfl, by decide +kernel, rfl, by decide +kernel, by decide +kernel⟩
abbrev s_row_between : Stmt := topS 29
abbrev N_row_between : List Str := ["mine", "theirs", "mark", "rival"]
theorem sc_row_between : FnScope N_row_between ["mine", "theirs"] (defScope s_row_between) := ⟨rfl, rfl, rfl, by decide +kernel, rfl, by decide +kernel, by decide +kernel⟩
abbrev s_has_sign : Stmt := topS 31
abbrev N_has_sign : List Str := ["row", "rules", "sign", "rule"]
theorem sc_has_sign : FnScope N_has_sign ["row", "rules", "sign"] (defScope s_has_sign) := ⟨rfl, rfl, rfl, by decide +kernel, rfl, by decide +kernel, by decide +kernel⟩
abbrev s_split : Stmt := topS 32
abbrev N_split : List Str := ["rows", "many", "made", "left", "still", "barred", "layer", "index", "row", "rule"]
theorem sc_split : FnScope N_split ["rows", "many"] (defScope s_split) := ⟨rfl, rfl, rfl, by decide +kernel, rfl, by decide +kernel, by decide +kernel⟩
abbrev s_some_fits : Stmt := topS 33
abbrev N_some_fits : List Str := ["rows", "many", "_", "still"]
theorem sc_some_fits : FnScope N_some_fits ["rows", "many"] (defScope s_some_fits) := ⟨rfl, rfl, rfl, by decide +kernel, rfl, by decide +kernel, by decide +kernel⟩
abbrev s_check_case : Stmt := topS 36
abbrev N_check_case : List Str := ["case"]
theorem sc_check_case : FnScope N_check_case ["case"] (defScope s_check_case) := ⟨rfl, rfl, rfl, by decide +kernel, rfl, by decide +kernel, by decide +kernel⟩
abbrev s_Case_marks : Stmt := inClass (topS 35) 3
abbrev N_Case_marks : List Str := ["self"]
theorem sc_Case_marks : FnScope N_Case_marks ["self"] (defScope s_Case_marks) := ⟨rfl, rfl, rfl, by decide +kernel, rfl, by decide +kernel, by decide +kernel⟩
abbrev s_Case_names : Stmt := inClass (topS 35) 2
abbrev N_Case_names : List Str := ["self"]
theorem sc_Case_names : FnScope N_Case_names ["self"] (defScope s_Case_names) := ⟨rfl, rfl, rfl, by decide +kernel, rfl, by decide +kernel, by decide +kernel⟩
abbrev s_row_against : Stmt := topS 37
abbrev N_row_against : List Str := ["case", "one", "other"]
theorem sc_row_against : FnScope N_row_against ["case", "one", "other"] (defScope s_row_against) := ⟨rfl, rfl, rfl, by decide +kernel, rfl, by decide +kernel, by decide +kernel⟩
abbrev s_rows_of : Stmt := topS 38
abbrev N_rows_of : List Str := ["case", "one", "other"]
theorem sc_rows_of : FnScope N_rows_of ["case", "one"] (defScope s_rows_of) := ⟨rfl, rfl, rfl, by decide +kernel, rfl, by decide +kernel, by decide +kernel⟩
abbrev s_against : Stmt := topS 39
abbrev N_against : List Str := ["case", "one", "other"]
theorem sc_against : FnScope N_against ["case", "one", "other"] (defScope s_against) := ⟨rfl, rfl, rfl, by decide +kernel, rfl, by decide +kernel, by decide +kernel⟩
abbrev s_winners : Stmt := topS 40
abbrev N_winners : List Str := ["case", "ranking", "name"]
theorem sc_winners : FnScope N_winners ["case", "ranking"] (defScope s_winners) := ⟨rfl, rfl, rfl, by decide +kernel, rfl, by decide +kernel, by decide +kernel⟩
abbrev s_told_by : Stmt := topS 41
abbrev N_told_by : List Str := ["case", "one"]
theorem sc_told_by : FnScope N_told_by ["case", "one"] (defScope s_told_by) := ⟨rfl, rfl, rfl, by decide +kernel, rfl, by decide +kernel, by decide +kernel⟩
abbrev s_barred : Stmt := topS 42
abbrev N_barred : List Str := ["case", "many", "name"]
theorem sc_barred : FnScope N_barred ["case"] (defScope s_barred) := ⟨rfl, rfl, rfl, by decide +kernel, rfl, by decide +kernel, by decide +kernel⟩
abbrev s__law_cell : Stmt := topS 44
abbrev N__law_cell : List Str := ["_law_cells", "_law_k", "_law_made", "_law_own"]
theorem sc__law_cell : FnScope N__law_cell ["_law_cells", "_law_k"] (defScope s__law_cell) := ⟨rfl, rfl, rfl, by decide +kernel, rfl, by decide +kernel, by decide +kernel⟩
abbrev s__law_well : Stmt := topS 45
abbrev N__law_well : List Str := ["_law_cell_here"]
theorem sc__law_well : FnScope N__law_well ["_law_cell_here"] (defScope s__law_well) := ⟨rfl, rfl, rfl, by decide +kernel, rfl, by decide +kernel, by decide +kernel⟩
abbrev s__law_dip : Stmt := topS 46
abbrev N__law_dip : List Str := ["_law_jar", "_law_many", "_law_mixed", "_law_stock", "_law_digit"]
theorem sc__law_dip : FnScope N__law_dip ["_law_jar", "_law_many"] (defScope s__law_dip) := ⟨rfl, rfl, rfl, by decide +kernel, rfl, by decide +kernel, by decide +kernel⟩
abbrev s__law_pick : Stmt := topS 47
abbrev N__law_pick : List Str := ["_law_jar", "_law_things"]
theorem sc__law_pick : FnScope N__law_pick ["_law_jar", "_law_things"] (defScope s__law_pick) := ⟨rfl, rfl, rfl, by decide +kernel, rfl, by decide +kernel, by decide +kernel⟩
abbrev s__law_tags : Stmt := topS 48
abbrev N__law_tags : List Str := ["_law_jar", "_law_many", "_law_stock", "_law_at", "_law_step", "_law_k"]
theorem sc__law_tags : FnScope N__law_tags ["_law_jar", "_law_many"] (defScope s__law_tags) := ⟨rfl, rfl, rfl, by decide +kernel, rfl, by decide +kernel, by decide +kernel⟩
abbrev s__law_orders : Stmt := topS 49
abbrev N__law_orders : List Str := ["_law_many", "_law_found", "_law_turn", "_law_longer", "_law_part", "_law_k"]
theorem sc__law_orders : FnScope N__law_orders ["_law_many"] (defScope s__law_orders) := ⟨rfl, rfl, rfl, by decide +kernel, rfl, by decide +kernel, by decide +kernel⟩
abbrev s__law_holds : Stmt := topS 50
abbrev N__law_holds : List Str := ["_law_row", "_law_order", "_law_k"]
theorem sc__law_holds : FnScope N__law_holds ["_law_row", "_law_order"] (defScope s__law_holds) := ⟨rfl, rfl, rfl, by decide +kernel, rfl, by decide +kernel, by decide +kernel⟩
abbrev s__law_folk : Stmt := topS 51
abbrev N__law_folk : List Str := ["_law_jar", "_law_many", "_law_least", "_law_most", "_law_top", "_law_found", "_law_tag", "_law_marks", "_law_k"]
theorem sc__law_folk : FnScope N__law_folk ["_law_jar", "_law_many", "_law_least", "_law_most"] (defScope s__law_folk) := ⟨rfl, rfl, rfl, by decide +kernel, rfl, by decide +kernel, by decide +kernel⟩
abbrev s__law_case_page : Stmt := topS 52
abbrev N__law_case_page : List Str := ["_law_folk_here", "_law_tag", "_law_marks", "_law_mark"]
theorem sc__law_case_page : FnScope N__law_case_page ["_law_folk_here"] (defScope s__law_case_page) := ⟨rfl, rfl, rfl, by decide +kernel, rfl, by decide +kernel, by decide +kernel⟩
abbrev s__law_best : Stmt := topS 53
abbrev N__law_best : List Str := ["_law_folk_here", "_law_order", "_law_found", "_law_k", "_law_least", "_law_pair", "_law_tag", "_law_marks"]
theorem sc__law_best : FnScope N__law_best ["_law_folk_here", "_law_order"] (defScope s__law_best) := ⟨rfl, rfl, rfl, by decide +kernel, rfl, by decide +kernel, by decide +kernel⟩
abbrev s__law_beside : Stmt := topS 54
abbrev N__law_beside : List Str := ["_law_own", "_law_rival", "_law_a", "_law_b"]
theorem sc__law_beside : FnScope N__law_beside ["_law_own", "_law_rival"] (defScope s__law_beside) := ⟨rfl, rfl, rfl, by decide +kernel, rfl, by decide +kernel, by decide +kernel⟩
abbrev s__law_rows_right : Stmt := topS 55
abbrev N__law_rows_right : List Str := ["_law_mine", "_law_folk_here", "_law_tag", "_law_marks", "_law_rows", "_law_mate", "_law_others", "_law_due", "_law_pair"]
theorem sc__law_rows_right : FnScope N__law_rows_right ["_law_mine", "_law_folk_here"] (defScope s__law_rows_right) := ⟨rfl, rfl, rfl, by decide +kernel, rfl, by decide +kernel, by decide +kernel⟩
abbrev s_Case___init__ : Stmt := inClass (topS 35) 0
abbrev N_Case___init__ : List Str := ["self", "text", "parts"]
theorem sc_Case___init__ : FnScope N_Case___init__ ["self", "text"] (defScope s_Case___init__) := ⟨rfl, rfl, rfl, by decide +kernel, rfl, by decide +kernel, by decide +kernel⟩
abbrev s__law_right : Stmt := topS 56
abbrev N__law_right : List Str := ["_law_jar", "_law_turn", "_law_many", "_law_folk_here", "_law_mine", "_law_ever", "_law_order", "_law_due", "_law_tag", "_law_marks", "_law_row"]
theorem sc__law_right : FnScope N__law_right ["_law_jar"] (defScope s__law_right) := ⟨rfl, rfl, rfl, by decide +kernel, rfl, by decide +kernel, by decide +kernel⟩
abbrev s_law : Stmt := topS 57
abbrev N_law : List Str := ["_law_cells", "_law_k"]
theorem sc_law : FnScope N_law ["_law_cells"] (defScope s_law) := ⟨rfl, rfl, rfl, by decide +kernel, rfl, by decide +kernel, by decide +kernel⟩
/-! ### what the top has written -/
structure Txt (K : PySem.W.Frag) (w : World) (mg : Str → Option Value) where
  C_Case : Addr
  m_Case : mg "Case" = some (.ref C_Case)
  cl_Case : Cls K C_Case
  f_is_name : Addr
  e_is_name : FuncData
  F_is_name : Fun K "is_name" "is_name" s_is_name f_is_name e_is_name
  b_is_name : Binds K e_is_name ["value"] []
  m_is_name : mg "is_name" = some (.ref f_is_name)
  f_are_names : Addr
  e_are_names : FuncData
  F_are_names : Fun K "are_names" "are_names" s_are_names f_are_names e_are_names
  b_are_names : Binds K e_are_names ["values"] []
  m_are_names : mg "are_names" = some (.ref f_are_names)
  f_is_number : Addr
  e_is_number : FuncData
  F_is_number : Fun K "is_number" "is_number" s_is_number f_is_number e_is_number
  b_is_number : Binds K e_is_number ["word"] []
  m_is_number : mg "is_number" = some (.ref f_is_number)
  f_is_whole : Addr
  e_is_whole : FuncData
  F_is_whole : Fun K "is_whole" "is_whole" s_is_whole f_is_whole e_is_whole
  b_is_whole : Binds K e_is_whole ["value"] []
  m_is_whole : mg "is_whole" = some (.ref f_is_whole)
  f_is_ranking : Addr
  e_is_ranking : FuncData
  F_is_ranking : Fun K "is_ranking" "is_ranking" s_is_ranking f_is_ranking e_is_ranking
  b_is_ranking : Binds K e_is_ranking ["value", "many"] []
  m_is_ranking : mg "is_ranking" = some (.ref f_is_ranking)
  f_check_ranking : Addr
  e_check_ranking : FuncData
  F_check_ranking : Fun K "check_ranking" "check_ranking" s_check_ranking f_check_ranking e_check_ranking
  b_check_ranking : Binds K e_check_ranking ["ranking", "many"] []
  m_check_ranking : mg "check_ranking" = some (.ref f_check_ranking)
  f_check_known : Addr
  e_check_known : FuncData
  F_check_known : Fun K "check_known" "check_known" s_check_known f_check_known e_check_known
  b_check_known : Binds K e_check_known ["name", "names"] []
  m_check_known : mg "check_known" = some (.ref f_check_known)
  f_read_mark : Addr
  e_read_mark : FuncData
  F_read_mark : Fun K "read_mark" "read_mark" s_read_mark f_read_mark e_read_mark
  b_read_mark : Binds K e_read_mark ["word"] []
  m_read_mark : mg "read_mark" = some (.ref f_read_mark)
  f_read_candidates : Addr
  e_read_candidates : FuncData
  F_read_candidates : Fun K "read_candidates" "read_candidates" s_read_candidates f_read_candidates e_read_candidates
  b_read_candidates : Binds K e_read_candidates ["text", "read_word"] []
  m_read_candidates : mg "read_candidates" = some (.ref f_read_candidates)
  f_read_case : Addr
  e_read_case : FuncData
  F_read_case : Fun K "read_case" "read_case" s_read_case f_read_case e_read_case
  b_read_case : Binds K e_read_case ["text"] []
  m_read_case : mg "read_case" = some (.ref f_read_case)
  f_row_holds : Addr
  e_row_holds : FuncData
  F_row_holds : Fun K "row_holds" "row_holds" s_row_holds f_row_holds e_row_holds
  b_row_holds : Binds K e_row_holds ["row", "ranking"] []
  m_row_holds : mg "row_holds" = some (.ref f_row_holds)
  f_all_hold : Addr
  e_all_hold : FuncData
  F_all_hold : Fun K "all_hold" "all_hold" s_all_hold f_all_hold e_all_hold
  b_all_hold : Binds K e_all_hold ["rows", "ranking"] []
  m_all_hold : mg "all_hold" = some (.ref f_all_hold)
  f_sign_of : Addr
  e_sign_of : FuncData
  F_sign_of : Fun K "sign_of" "sign_of" s_sign_of f_sign_of e_sign_of
  b_sign_of : Binds K e_sign_of ["mark", "rival"] []
  m_sign_of : mg "sign_of" = some (.ref f_sign_of)
  f_row_between : Addr
  e_row_between : FuncData
  F_row_between : Fun K "row_between" "row_between" s_row_between f_row_between e_row_between
  b_row_between : Binds K e_row_between ["mine", "theirs"] []
  m_row_between : mg "row_between" = some (.ref f_row_between)
  f_has_sign : Addr
  e_has_sign : FuncData
  F_has_sign : Fun K "has_sign" "has_sign" s_has_sign f_has_sign e_has_sign
  b_has_sign : Binds K e_has_sign ["row", "rules", "sign"] []
  m_has_sign : mg "has_sign" = some (.ref f_has_sign)
  f_split : Addr
  e_split : FuncData
  F_split : Fun K "split" "split" s_split f_split e_split
  b_split : Binds K e_split ["rows", "many"] []
  m_split : mg "split" = some (.ref f_split)
  f_some_fits : Addr
  e_some_fits : FuncData
  F_some_fits : Fun K "some_fits" "some_fits" s_some_fits f_some_fits e_some_fits
  b_some_fits : Binds K e_some_fits ["rows", "many"] []
  m_some_fits : mg "some_fits" = some (.ref f_some_fits)
  f_check_case : Addr
  e_check_case : FuncData
  F_check_case : Fun K "check_case" "check_case" s_check_case f_check_case e_check_case
  b_check_case : Binds K e_check_case ["case"] []
  m_check_case : mg "check_case" = some (.ref f_check_case)
  f_Case_marks : Addr
  e_Case_marks : FuncData
  F_Case_marks : Fun K "marks" "Case.marks" s_Case_marks f_Case_marks e_Case_marks
  b_Case_marks : Binds K e_Case_marks ["self"] []
  q_Case_marks : Addr
  p_Case_marks : PropOf K C_Case "marks" q_Case_marks f_Case_marks
  f_Case_names : Addr
  e_Case_names : FuncData
  F_Case_names : Fun K "names" "Case.names" s_Case_names f_Case_names e_Case_names
  b_Case_names : Binds K e_Case_names ["self"] []
  q_Case_names : Addr
  p_Case_names : PropOf K C_Case "names" q_Case_names f_Case_names
  f_row_against : Addr
  e_row_against : FuncData
  F_row_against : Fun K "row_against" "row_against" s_row_against f_row_against e_row_against
  b_row_against : Binds K e_row_against ["case", "one", "other"] []
  m_row_against : mg "row_against" = some (.ref f_row_against)
  f_rows_of : Addr
  e_rows_of : FuncData
  F_rows_of : Fun K "rows_of" "rows_of" s_rows_of f_rows_of e_rows_of
  b_rows_of : Binds K e_rows_of ["case", "one"] []
  m_rows_of : mg "rows_of" = some (.ref f_rows_of)
  f_against : Addr
  e_against : FuncData
  F_against : Fun K "against" "against" s_against f_against e_against
  b_against : Binds K e_against ["case", "one", "other"] []
  m_against : mg "against" = some (.ref f_against)
  f_winners : Addr
  e_winners : FuncData
  F_winners : Fun K "winners" "winners" s_winners f_winners e_winners
  b_winners : Binds K e_winners ["case", "ranking"] []
  m_winners : mg "winners" = some (.ref f_winners)
  f_told_by : Addr
  e_told_by : FuncData
  F_told_by : Fun K "told_by" "told_by" s_told_by f_told_by e_told_by
  b_told_by : Binds K e_told_by ["case", "one"] []
  m_told_by : mg "told_by" = some (.ref f_told_by)
  f_barred : Addr
  e_barred : FuncData
  F_barred : Fun K "barred" "barred" s_barred f_barred e_barred
  b_barred : Binds K e_barred ["case"] []
  m_barred : mg "barred" = some (.ref f_barred)
  f__law_cell : Addr
  e__law_cell : FuncData
  F__law_cell : Fun K "_law_cell" "_law_cell" s__law_cell f__law_cell e__law_cell
  b__law_cell : Binds K e__law_cell ["_law_cells", "_law_k"] []
  m__law_cell : mg "_law_cell" = some (.ref f__law_cell)
  f__law_well : Addr
  e__law_well : FuncData
  F__law_well : Fun K "_law_well" "_law_well" s__law_well f__law_well e__law_well
  b__law_well : Binds K e__law_well ["_law_cell_here"] []
  m__law_well : mg "_law_well" = some (.ref f__law_well)
  f__law_dip : Addr
  e__law_dip : FuncData
  F__law_dip : Fun K "_law_dip" "_law_dip" s__law_dip f__law_dip e__law_dip
  b__law_dip : Binds K e__law_dip ["_law_jar", "_law_many"] []
  m__law_dip : mg "_law_dip" = some (.ref f__law_dip)
  f__law_pick : Addr
  e__law_pick : FuncData
  F__law_pick : Fun K "_law_pick" "_law_pick" s__law_pick f__law_pick e__law_pick
  b__law_pick : Binds K e__law_pick ["_law_jar", "_law_things"] []
  m__law_pick : mg "_law_pick" = some (.ref f__law_pick)
  f__law_tags : Addr
  e__law_tags : FuncData
  F__law_tags : Fun K "_law_tags" "_law_tags" s__law_tags f__law_tags e__law_tags
  b__law_tags : Binds K e__law_tags ["_law_jar", "_law_many"] []
  m__law_tags : mg "_law_tags" = some (.ref f__law_tags)
  f__law_orders : Addr
  e__law_orders : FuncData
  F__law_orders : Fun K "_law_orders" "_law_orders" s__law_orders f__law_orders e__law_orders
  b__law_orders : Binds K e__law_orders ["_law_many"] []
  m__law_orders : mg "_law_orders" = some (.ref f__law_orders)
  f__law_holds : Addr
  e__law_holds : FuncData
  F__law_holds : Fun K "_law_holds" "_law_holds" s__law_holds f__law_holds e__law_holds
  b__law_holds : Binds K e__law_holds ["_law_row", "_law_order"] []
  m__law_holds : mg "_law_holds" = some (.ref f__law_holds)
  f__law_folk : Addr
  e__law_folk : FuncData
  F__law_folk : Fun K "_law_folk" "_law_folk" s__law_folk f__law_folk e__law_folk
  b__law_folk : Binds K e__law_folk ["_law_jar", "_law_many", "_law_least", "_law_most"] []
  m__law_folk : mg "_law_folk" = some (.ref f__law_folk)
  f__law_case_page : Addr
  e__law_case_page : FuncData
  F__law_case_page : Fun K "_law_case_page" "_law_case_page" s__law_case_page f__law_case_page e__law_case_page
  b__law_case_page : Binds K e__law_case_page ["_law_folk_here"] []
  m__law_case_page : mg "_law_case_page" = some (.ref f__law_case_page)
  f__law_best : Addr
  e__law_best : FuncData
  F__law_best : Fun K "_law_best" "_law_best" s__law_best f__law_best e__law_best
  b__law_best : Binds K e__law_best ["_law_folk_here", "_law_order"] []
  m__law_best : mg "_law_best" = some (.ref f__law_best)
  f__law_beside : Addr
  e__law_beside : FuncData
  F__law_beside : Fun K "_law_beside" "_law_beside" s__law_beside f__law_beside e__law_beside
  b__law_beside : Binds K e__law_beside ["_law_own", "_law_rival"] []
  m__law_beside : mg "_law_beside" = some (.ref f__law_beside)
  f__law_rows_right : Addr
  e__law_rows_right : FuncData
  F__law_rows_right : Fun K "_law_rows_right" "_law_rows_right" s__law_rows_right f__law_rows_right e__law_rows_right
  b__law_rows_right : Binds K e__law_rows_right ["_law_mine", "_law_folk_here"] []
  m__law_rows_right : mg "_law_rows_right" = some (.ref f__law_rows_right)
  f_Case___init__ : Addr
  e_Case___init__ : FuncData
  F_Case___init__ : Fun K "__init__" "Case.__init__" s_Case___init__ f_Case___init__ e_Case___init__
  b_Case___init__ : Binds K e_Case___init__ ["self", "text"] []
  mk_Case : Mk K C_Case f_Case___init__
  f__law_right : Addr
  e__law_right : FuncData
  F__law_right : Fun K "_law_right" "_law_right" s__law_right f__law_right e__law_right
  b__law_right : Binds K e__law_right ["_law_jar"] []
  m__law_right : mg "_law_right" = some (.ref f__law_right)
  f_law : Addr
  e_law : FuncData
  F_law : Fun K "law" "law" s_law f_law e_law
  b_law : Binds K e_law ["_law_cells"] []
  m_law : mg "law" = some (.ref f_law)
  n_abs : mg "abs" = none
  n_all : mg "all" = none
  n_bool : mg "bool" = none
  n_divmod : mg "divmod" = none
  n_enumerate : mg "enumerate" = none
  n_int : mg "int" = none
  n_isinstance : mg "isinstance" = none
  n_len : mg "len" = none
  n_list : mg "list" = none
  n_max : mg "max" = none
  n_min : mg "min" = none
  n_range : mg "range" = none
  n_repr : mg "repr" = none
  n_sorted : mg "sorted" = none
  n_str : mg "str" = none
  n_tuple : mg "tuple" = none
  n_zip : mg "zip" = none
  t_DIGITS : Tok
  c_DIGITS : mg "DIGITS" = some (.str "0123456789" t_DIGITS)
  t_LEAST_CANDIDATES : Tok
  c_LEAST_CANDIDATES : mg "LEAST_CANDIDATES" = some (.int 2 t_LEAST_CANDIDATES)
  t_LETTERS : Tok
  c_LETTERS : mg "LETTERS" = some (.str "abcdefghijklmnopqrstuvwxyz" t_LETTERS)
  t_MOST_CANDIDATES : Tok
  c_MOST_CANDIDATES : mg "MOST_CANDIDATES" = some (.int 8 t_MOST_CANDIDATES)
  t_MOST_LETTERS : Tok
  c_MOST_LETTERS : mg "MOST_LETTERS" = some (.int 8 t_MOST_LETTERS)
  t_MOST_MARKS : Tok
  c_MOST_MARKS : mg "MOST_MARKS" = some (.int 99 t_MOST_MARKS)
  t_MOST_RULES : Tok
  c_MOST_RULES : mg "MOST_RULES" = some (.int 8 t_MOST_RULES)
  k_told_by_one_case : KBinds K e_told_by ["case", "one"] ["one", "case"] (fun us ws => match us, ws with | [], [k0, k1] => [k1, k0] | _, _ => []) (fun us ws => match us, ws with | [], [k0, k1] => [k1, k0] | _, _ => [])
  k_against_other_one_case : KBinds K e_against ["case", "one", "other"] ["other", "one", "case"] (fun us ws => match us, ws with | [], [k0, k1, k2] => [k2, k1, k0] | _, _ => []) (fun us ws => match us, ws with | [], [k0, k1, k2] => [k2, k1, k0] | _, _ => [])
  k_winners_ranking_case : KBinds K e_winners ["case", "ranking"] ["ranking", "case"] (fun us ws => match us, ws with | [], [k0, k1] => [k1, k0] | _, _ => []) (fun us ws => match us, ws with | [], [k0, k1] => [k1, k0] | _, _ => [])
  k_barred_case : KBinds K e_barred ["case"] ["case"] (fun us ws => match us, ws with | [], [k0] => [k0] | _, _ => []) (fun us ws => match us, ws with | [], [k0] => [k0] | _, _ => [])
  cno_text : NoAttr K C_Case "_text"
  cno_names : NoAttr K C_Case "_names"
  cno_marks : NoAttr K C_Case "_marks"
  ins_Case : InsOk K C_Case
end K26

namespace K26
open PySem PySem.Spec PyProof.Rows L2 Dw
/-- a row's signs, as codes -/
def isSign (c : Nat) : Prop := c = 43 ∨ c = 45 ∨ c = 46
structure RowOk (l : List Nat) (n : Nat) : Prop where
  len : l.length = n
  all : ∀ c ∈ l, isSign c
def sgn (l : List Nat) (k : Nat) : Nat := l.getD k 46
theorem ch_dot : (Str.ofString ".") = ch 46 := by decide +kernel
theorem ch_plus : (Str.ofString "+") = ch 43 := by decide +kernel
theorem ch_minus : (Str.ofString "-") = ch 45 := by decide +kernel
theorem sgn_at {l : List Nat} {n k : Nat} (h : l.length = n) (hk : k < n) : atI (tx l).cps.toList (k : Int) = some (sgn l k) := by
  have hl : k < l.length := by omega
  rw [tx_cps]
  refine atI_nat ?_
  unfold sgn
  rw [List.getElem?_eq_getElem hl, List.getD_eq_getElem?_getD, List.getElem?_eq_getElem hl]
  rfl
theorem sgn_is {l : List Nat} {n : Nat} (h : RowOk l n) (k : Nat) : isSign (sgn l k) := by
  unfold sgn
  rw [List.getD_eq_getElem?_getD]
  cases q : l[k]? with
  | none => exact .inr (.inr rfl)
  | some c => exact h.all c (List.mem_of_getElem? q)
theorem isSign.lt {c : Nat} (h : isSign c) : c < 1114112 := by rcases h with h | h | h <;> omega
/-- the signs of a row along an order, without the dots -/
def told (l : List Nat) (o : List Nat) : List Nat := (o.map (sgn l)).filter (fun c => !decide (c = 46))
/-- whether a row holds -/
def holdsB (l : List Nat) (o : List Nat) : Bool :=
  match told l o with
  | [] => true
  | c :: _ => decide (c = 43)
def ordD (o : List Nat) : List D := o.map fun (k : Nat) => D.int k
theorem small8 {n : Nat} (h : n ≤ 8) : n ≤ sizeLine := Nat.le_trans h (by decide)
theorem told_strs (l o : List Nat) : (o.filter fun k => !decide (ch (sgn l k) = Str.ofString ".")).map (fun k => D.str (ch (sgn l k))) = ((told l o).map ch).map D.str := by
  unfold told
  rw [List.filter_map, List.map_map, List.map_map]
  have e : (fun k => !decide (ch (sgn l k) = Str.ofString ".")) = ((fun c => !decide (c = 46)) ∘ sgn l) := by
    funext k
    show (!decide (ch (sgn l k) = Str.ofString ".")) = !decide (sgn l k = 46)
    rw [ch_dot, Bool.eq_iff_iff]
    simp [ch_eq]
  rw [e]
  rfl
theorem told_ok {l : List Nat} {n : Nat} (h : RowOk l n) (o : List Nat) : ∀ x ∈ (told l o).map ch, okS x := by
  intro x hx
  obtain ⟨c, hc, rfl⟩ := List.mem_map.mp hx
  obtain ⟨k, _, rfl⟩ := List.mem_map.mp (List.mem_filter.mp hc).1
  exact okS_ch (sgn_is h k).lt
def spHolds : Spc where
  ty := List Nat × List Nat × Bool
  args := fun x => [.str (tx x.1), if x.2.2 then .lst (ordD x.2.1) else .tup (ordD x.2.1)]
  ok := fun x => ∃ n, RowOk x.1 n ∧ n ≤ 8 ∧ x.2.1.length ≤ 8 ∧ ∀ k ∈ x.2.1, k < n
  rel := fun x d => d = .bl (holdsB x.1 x.2.1)
end K26

namespace K26
open PySem PySem.Spec PyProof.Rows L2 Dw
theorem small8L {α : Type} {l : List α} (h : l.length ≤ 8) : l.length ≤ 1000000 := by omega
theorem line8 {n : Nat} (h : n ≤ 1000) : n ≤ sizeLine := Nat.le_trans h (by decide)
/-! flipped -/
def flip1 (c : Nat) : Nat := if c = 43 then 45 else if c = 45 then 43 else 46
def flipped (l : List Nat) : List Nat := l.map flip1
theorem flip_get {c : Nat} (h : isSign c) : valV (mergeK [] ([(Str.ofString "+", Str.ofString "-"), (Str.ofString "-", Str.ofString "+"), (Str.ofString ".", Str.ofString ".")].map fun p => ((Sum.inr p.1 : Key), V.str p.2))) (Sum.inr (ch c)) = some (.str (ch (flip1 c))) := by
  rcases h with rfl | rfl | rfl <;> decide +kernel
theorem flip1_is {c : Nat} (h : isSign c) : isSign (flip1 c) := by
  rcases h with rfl | rfl | rfl <;> first | exact .inl rfl | exact .inr (.inl rfl) | exact .inr (.inr rfl)
def spFlip : Spc where
  ty := List Nat
  args := fun l => [.str (tx l)]
  ok := fun l => ∃ n, RowOk l n ∧ n ≤ 8
  rel := fun l d => d = .str (tx (flipped l))
def spSigns : Spc where
  ty := Nat
  args := fun n => [.purse, .int n]
  ok := fun n => n ≤ 8
  rel := fun n d => ∃ l, RowOk l n ∧ d = .str (tx l)
def spDraw : Spc where
  ty := Nat
  args := fun n => [.purse, .int n]
  ok := fun n => 0 < n ∧ n < 100000
  rel := fun n d => ∃ r : Nat, r < n ∧ d = .int r
end K26

namespace K26
open PySem PySem.Spec PyProof.Rows L2 Dw
structure NameOk (l : List Nat) : Prop where
  lo : 1 ≤ l.length
  hi : l.length ≤ 8
  all : ∀ c ∈ l, 97 ≤ c ∧ c ≤ 122
theorem lettersS : Str.ofString "abcdefghijklmnopqrstuvwxyz" = tx ((List.range 26).map (97 + ·)) := by decide +kernel
theorem signsS : Str.ofString "+-." = tx [43, 45, 46] := by decide +kernel
theorem NameOk.len {l : List Nat} (h : NameOk l) : (tx l).length ≤ sizeLine := by rw [tx_len]; exact small8 h.hi
theorem RowOk.sz {l : List Nat} {n : Nat} (h : RowOk l n) (hn : n ≤ 8) : (tx l).length ≤ sizeLine := by rw [tx_len, h.len]; exact small8 hn
theorem all_yes {α : Type} {xs : List α} {b : α → Bool} (h : ∀ x ∈ xs, b x = true) : xs.all b = true := List.all_eq_true.mpr h
theorem ev_cast {t : TE} {Γ : Gam} {d d' : D} (h : d = d') (e : Ev t Γ d) : Ev t Γ d' := h ▸ e
theorem sIx1 {n : Nat} (h : 1 ≤ n) : HT.sIx n 0 (some 1) = 1 := by
  show (if (1 : Int) < 0 then ((1 : Int) + (n : Int)).toNat else min (1 : Int).toNat n) = 1
  rw [if_neg (by decide)]
  show min 1 n = 1
  omega
def spName : Spc where
  ty := List Nat
  args := fun l => [.str (tx l)]
  ok := fun l => NameOk l
  rel := fun _ d => d = .bl true
def spAny : Spc where
  ty := List Nat
  args := fun l => [.str (tx l)]
  ok := fun l => ∃ n, RowOk l n ∧ 1 ≤ n ∧ n ≤ 8
  rel := fun _ d => d = .bl true
def spRow : Spc where
  ty := List Nat × Nat
  args := fun x => [.str (tx x.1), .int x.2]
  ok := fun x => RowOk x.1 x.2 ∧ 1 ≤ x.2 ∧ x.2 ≤ 8
  rel := fun _ d => d = .bl true
def nameD (ls : List (List Nat)) : List D := ls.map fun l => D.str (tx l)
structure NamesOk (ls : List (List Nat)) : Prop where
  lo : 1 ≤ ls.length
  hi : ls.length ≤ 8
  all : ∀ l ∈ ls, NameOk l
  inc : ∀ p ∈ ls.zip (ls.drop 1), p.1 < p.2
def spNames : Spc where
  ty := List (List Nat)
  args := fun ls => [.tup (nameD ls)]
  ok := fun ls => NamesOk ls
  rel := fun _ d => d = .bl true
theorem zip_names (ls ms : List (List Nat)) : zipD (nameD ls) (nameD ms) = (ls.zip ms).map fun p => D.tup [.str (tx p.1), .str (tx p.2)] := by
  unfold zipD nameD
  rw [List.zip_map, List.map_map]; rfl
end K26

namespace K26
open PySem PySem.Spec PyProof.Rows L2 Dw
theorem ev_notT {K : PySem.W.Frag} {t : TE} {Γ : Gam} {b : Bool} (h : EvT (tTru K t) Γ b) : Ev (tNotT K t) Γ (.bl (!b)) := fun F σ W Q g k => by
  have e := h F σ W (fun c H => Q (.bl (!c)) H) g fun H s => k _ H s rfl
  exact e
def spWhole : Spc where
  ty := Nat
  args := fun n => [.int n]
  ok := fun _ => True
  rel := fun _ d => d = .bl true
def spIndex : Spc where
  ty := Nat × Nat
  args := fun x => [.int x.1, .int x.2]
  ok := fun x => x.1 < x.2
  rel := fun _ d => d = .bl true
structure LotOk (o : List Nat) (m : Nat) : Prop where
  lt : ∀ k ∈ o, k < m
  inc : o.Pairwise (· < ·)
def spLot : Spc where
  ty := List Nat × Nat
  args := fun x => [.tup (ordD x.1), .int x.2]
  ok := fun x => LotOk x.1 x.2
  rel := fun _ d => d = .non
theorem pair_next {o : List Nat} (h : o.Pairwise (· < ·)) {i j a b : Nat} (hi : o[i]? = some a) (hj : o[j]? = some b) (hij : i < j) : a < b := by
  obtain ⟨h1, e1⟩ := List.getElem?_eq_some_iff.mp hi
  obtain ⟨h2, e2⟩ := List.getElem?_eq_some_iff.mp hj
  have := List.pairwise_iff_getElem.mp h i j h1 h2 hij
  rw [e1, e2] at this
  exact this
end K26

namespace K26
open PySem PySem.Spec PyProof.Rows L2 Dw
/-! plain data: what a claim or a certificate may be -/
mutual
def plW (z : Nat) : Nat → D → Bool
  | _, .non => true | _, .bl _ => true | _, .int _ => true | _, .str x => PyData.strOk x && decide (x.length ≤ 100000)
  | k + 1, .tup ds => decide (ds.length ≤ z) && plWs z k ds
  | k + 1, .lst ds => decide (ds.length ≤ z) && plWs z k ds
  | k + 1, .dct ks ds => decide (ds.length ≤ z) && plWs z k ds
  | 0, .tup _ => false | 0, .lst _ => false | 0, .dct _ _ => false
  | _, .obj _ _ _ => false | _, .raw _ => false | _, .purse => false | _, .rng _ _ => false | _, .scr _ _ => false | _, .tupN _ => false
def plWs (z : Nat) : Nat → List D → Bool
  | _, [] => true
  | k, d :: ds => plW z k d && plWs z k ds
end
abbrev plB := plW 60
abbrev plBs := plWs 60
theorem plWs_iff {z k : Nat} : ∀ {ds : List D}, plWs z k ds = true ↔ ∀ d ∈ ds, plW z k d = true
  | [] => by simp [plWs]
  | d :: ds => by
    have e : plWs z k (d :: ds) = (plW z k d && plWs z k ds) := by cases k <;> rfl
    rw [e, Bool.and_eq_true, plWs_iff (ds := ds)]
    simp
theorem plBs_iff {k : Nat} {ds : List D} : plBs k ds = true ↔ ∀ d ∈ ds, plB k d = true := plWs_iff
mutual
theorem plW_mono {z z' : Nat} (hz : z ≤ z') : ∀ (k m : Nat) (d : D), k ≤ m → plW z k d = true → plW z' m d = true
  | _, _, .non, _, _ => by unfold plW; rfl
  | _, _, .bl _, _, _ => by unfold plW; rfl
  | _, _, .int _, _, _ => by unfold plW; rfl
  | k, m, .str x, _, h => by
    have e : plW z k (.str x) = (PyData.strOk x && decide (x.length ≤ 100000)) := by cases k <;> rfl
    have e2 : plW z' m (.str x) = (PyData.strOk x && decide (x.length ≤ 100000)) := by cases m <;> rfl
    rw [e2, ← e, h]
  | k + 1, m + 1, .tup ds, hm, h => by
    have h : (decide (ds.length ≤ z) && plWs z k ds) = true := h
    show (decide (ds.length ≤ z') && plWs z' m ds) = true
    rw [Bool.and_eq_true] at h ⊢
    exact ⟨decide_eq_true (Nat.le_trans (of_decide_eq_true h.1) hz), plWs_mono hz k m ds (by omega) h.2⟩
  | k + 1, m + 1, .lst ds, hm, h => by
    have h : (decide (ds.length ≤ z) && plWs z k ds) = true := h
    show (decide (ds.length ≤ z') && plWs z' m ds) = true
    rw [Bool.and_eq_true] at h ⊢
    exact ⟨decide_eq_true (Nat.le_trans (of_decide_eq_true h.1) hz), plWs_mono hz k m ds (by omega) h.2⟩
  | k + 1, m + 1, .dct ks ds, hm, h => by
    have h : (decide (ds.length ≤ z) && plWs z k ds) = true := h
    show (decide (ds.length ≤ z') && plWs z' m ds) = true
    rw [Bool.and_eq_true] at h ⊢
    exact ⟨decide_eq_true (Nat.le_trans (of_decide_eq_true h.1) hz), plWs_mono hz k m ds (by omega) h.2⟩
  | 0, _, .tup _, _, h => nomatch h
  | 0, _, .lst _, _, h => nomatch h
  | 0, _, .dct _ _, _, h => nomatch h
  | k + 1, 0, .tup _, hm, _ => absurd hm (by omega)
  | k + 1, 0, .lst _, hm, _ => absurd hm (by omega)
  | k + 1, 0, .dct _ _, hm, _ => absurd hm (by omega)
  | k, _, .obj _ _ _, _, h => by cases k <;> exact nomatch h
  | k, _, .raw _, _, h => by cases k <;> exact nomatch h
  | k, _, .purse, _, h => by cases k <;> exact nomatch h
  | k, _, .rng _ _, _, h => by cases k <;> exact nomatch h
  | k, _, .scr _ _, _, h => by cases k <;> exact nomatch h
  | k, _, .tupN _, _, h => by cases k <;> exact nomatch h
theorem plWs_mono {z z' : Nat} (hz : z ≤ z') : ∀ (k m : Nat) (ds : List D), k ≤ m → plWs z k ds = true → plWs z' m ds = true
  | _, _, [], _, _ => by unfold plWs; rfl
  | k, m, d :: ds, hm, h => by
    have e : plWs z k (d :: ds) = (plW z k d && plWs z k ds) := by cases k <;> rfl
    have e2 : plWs z' m (d :: ds) = (plW z' m d && plWs z' m ds) := by cases m <;> rfl
    rw [e, Bool.and_eq_true] at h
    rw [e2, plW_mono hz k m d hm h.1, plWs_mono hz k m ds hm h.2]; rfl
end
theorem plB_mono (k m : Nat) (d : D) (h : k ≤ m) (q : plB k d = true) : plB m d = true := plW_mono (Nat.le_refl _) k m d h q
mutual
theorem plB_np : ∀ (k : Nat) (d : D), plB k d = true → noP d = true
  | _, .non, _ => rfl
  | _, .bl _, _ => rfl
  | _, .int _, _ => rfl
  | _, .str _, _ => rfl
  | k + 1, .tup ds, h => plBs_np k ds (by have h : (decide (ds.length ≤ 60) && plBs k ds) = true := h; rw [Bool.and_eq_true] at h; exact h.2)
  | k + 1, .lst ds, h => plBs_np k ds (by have h : (decide (ds.length ≤ 60) && plBs k ds) = true := h; rw [Bool.and_eq_true] at h; exact h.2)
  | k + 1, .dct _ ds, h => plBs_np k ds (by have h : (decide (ds.length ≤ 60) && plBs k ds) = true := h; rw [Bool.and_eq_true] at h; exact h.2)
  | 0, .tup _, h => nomatch h
  | 0, .lst _, h => nomatch h
  | 0, .dct _ _, h => nomatch h
  | k, .obj _ _ _, h => by cases k <;> exact nomatch h
  | _, .raw _, _ => rfl
  | k, .purse, h => by cases k <;> exact nomatch h
  | _, .rng _ _, _ => rfl
  | _, .scr _ _, _ => rfl
  | k, .tupN _, h => by cases k <;> exact nomatch h
theorem plBs_np : ∀ (k : Nat) (ds : List D), plBs k ds = true → noPs ds = true
  | _, [], _ => rfl
  | k, d :: ds, h => by
    have e : plBs k (d :: ds) = (plB k d && plBs k ds) := by cases k <;> rfl
    rw [e, Bool.and_eq_true] at h
    show (noP d && noPs ds) = true
    rw [plB_np k d h.1, plBs_np k ds h.2]; rfl
end
/-- a plain value -/
def Pv (d : D) : Prop := plB 12 d = true
theorem Pv.ty {d : D} (h : Pv d) : hasTy d = true := by
  cases d <;> first | rfl | exact nomatch h
theorem Pv.np {d : D} (h : Pv d) : noP d = true := plB_np _ _ h
theorem Pv.str {x : Str} (h : Pv (.str x)) : okS x ∧ x.length ≤ 100000 := by
  have h : (PyData.strOk x && decide (x.length ≤ 100000)) = true := h
  rw [Bool.and_eq_true, decide_eq_true_eq] at h
  exact h
theorem Pv.tup {ds : List D} (h : Pv (.tup ds)) : ds.length ≤ 60 ∧ ∀ d ∈ ds, Pv d := by
  have h : (decide (ds.length ≤ 60) && plBs 11 ds) = true := h
  rw [Bool.and_eq_true, decide_eq_true_eq] at h
  exact ⟨h.1, fun d hd => plB_mono 11 12 d (by decide) (plBs_iff.mp h.2 d hd)⟩
theorem np1 {d : D} {r : List D} (h : Pv d) (hr : noPs r = true) : noPs (d :: r) = true := by
  show (noP d && noPs r) = true
  rw [h.np, hr]; rfl
theorem pv_strs {l : List Nat} (h : ∀ c ∈ l, c < 1114112) (hz : l.length ≤ 100000) : Pv (.str (tx l)) := by
  show (PyData.strOk (tx l) && decide ((tx l).length ≤ 100000)) = true
  rw [show PyData.strOk (tx l) = true from okS_tx h, tx_len, decide_eq_true hz]; rfl
/-! what isinstance tells -/
def isStrB : D → Bool | .str _ => true | _ => false
def isTupB : D → Bool | .tup _ => true | _ => false
def isIntB : D → Bool | .int _ => true | .bl _ => true | _ => false
def isBoolB : D → Bool | .bl _ => true | _ => false
section
variable {K : PySem.W.Frag} {d : D}
theorem kit_str (h : hasTy d = true) : PySem.W.kitOne K (tyD d) (.type "str") = some (isStrB d) := by cases d <;> first | rfl | exact nomatch h
theorem kit_tup (h : hasTy d = true) : PySem.W.kitOne K (tyD d) (.type "tuple") = some (isTupB d) := by cases d <;> first | rfl | exact nomatch h
theorem kit_int (h : hasTy d = true) : PySem.W.kitOne K (tyD d) (.type "int") = some (isIntB d) := by cases d <;> first | rfl | exact nomatch h
theorem kit_bool (h : hasTy d = true) : PySem.W.kitOne K (tyD d) (.type "bool") = some (isBoolB d) := by cases d <;> first | rfl | exact nomatch h
theorem str_of (h : isStrB d = true) : ∃ x, d = .str x := by cases d <;> first | exact ⟨_, rfl⟩ | exact nomatch h
theorem tup_of (h : isTupB d = true) : ∃ x, d = .tup x := by cases d <;> first | exact ⟨_, rfl⟩ | exact nomatch h
end
def spNever : Spc where
  ty := Unit
  args := fun _ => []
  ok := fun _ => False
  rel := fun _ _ => False
def wholeB : D → Bool | .int _ => true | _ => false
theorem whole_eq (d : D) : (isIntB d && !isBoolB d) = wholeB d := by cases d <;> rfl
theorem whole_of {d : D} (h : wholeB d = true) : ∃ i, d = .int i := by cases d <;> first | exact ⟨_, rfl⟩ | exact nomatch h
def spWholeG : Spc where
  ty := D
  args := fun d => [d]
  ok := fun d => Pv d
  rel := fun d e => e = .bl (wholeB d)
def idxB : D → Int → Bool | .int i, m => decide (0 ≤ i) && decide (i < m) | _, _ => false
theorem idx_whole (d : D) (m : Int) : (wholeB d && idxB d m) = idxB d m := by cases d <;> first | rfl | exact Bool.true_and _
def spIndexG : Spc where
  ty := D × Nat
  args := fun x => [x.1, .int x.2]
  ok := fun x => Pv x.1
  rel := fun x e => e = .bl (idxB x.1 x.2)
def difB : D → D → Bool | .int i, .int j => !decide (i = j) | _, _ => false
def spPairG : Spc where
  ty := D × D × Nat
  args := fun x => [x.1, x.2.1, .int x.2.2]
  ok := fun x => Pv x.1 ∧ Pv x.2.1
  rel := fun x e => e = .bl (idxB x.1 x.2.2 && idxB x.2.1 x.2.2 && difB x.1 x.2.1)
/-- a text of some codes -/
def rowC (l : List Nat) : Bool := decide (1 ≤ l.length) && decide (l.length ≤ 8) && l.all fun c => decide (c ∈ [43, 45, 46])
def anyRowB : D → Bool | .str x => rowC x.cps.toList | _ => false
theorem rowC_ok {l : List Nat} : rowC l = true ↔ RowOk l l.length ∧ 1 ≤ l.length ∧ l.length ≤ 8 := by
  unfold rowC
  rw [Bool.and_eq_true, Bool.and_eq_true, decide_eq_true_eq, decide_eq_true_eq, List.all_eq_true]
  constructor
  · rintro ⟨⟨h1, h2⟩, h⟩
    refine ⟨⟨rfl, fun c hc => ?_⟩, h1, h2⟩
    have := of_decide_eq_true (h c hc)
    simp only [List.mem_cons, List.not_mem_nil, or_false] at this
    exact this
  · rintro ⟨h, h1, h2⟩
    refine ⟨⟨h1, h2⟩, fun c hc => decide_eq_true ?_⟩
    rcases h.all c hc with rfl | rfl | rfl <;> decide
def spAnyG : Spc where
  ty := D
  args := fun d => [d]
  ok := fun d => Pv d
  rel := fun d e => e = .bl (anyRowB d)
def lenB : D → Nat → Bool | .str x, n => decide (x.length = n) | _, _ => false
def rowB (d : D) (n : Nat) : Bool := anyRowB d && lenB d n
def spRowG : Spc where
  ty := D × Nat
  args := fun x => [x.1, .int x.2]
  ok := fun x => Pv x.1
  rel := fun x e => e = .bl (rowB x.1 x.2)
theorem rowB_iff {d : D} {n : Nat} : rowB d n = true ↔ ∃ l, d = .str (tx l) ∧ RowOk l n ∧ 1 ≤ n ∧ n ≤ 8 := by
  constructor
  · intro h
    unfold rowB at h
    rw [Bool.and_eq_true] at h
    cases d <;> first | exact absurd h.1 Bool.false_ne_true | skip
    rename_i x
    obtain ⟨h1, h2⟩ := h
    obtain ⟨r, a, b⟩ := rowC_ok.mp h1
    have h2 : decide (x.length = n) = true := h2
    rw [decide_eq_true_eq] at h2
    have e : x.cps.toList.length = n := by rw [← h2]; rfl
    rw [e] at r a b
    exact ⟨x.cps.toList, congrArg D.str (of_tx x), r, a, b⟩
  · rintro ⟨l, rfl, r, a, b⟩
    show (rowC (tx l).cps.toList && decide ((tx l).length = n)) = true
    rw [tx_cps, tx_len, r.len, decide_eq_true rfl, Bool.and_true]
    exact rowC_ok.mpr (by rw [r.len]; exact ⟨r, a, b⟩)
def letterC (c : Nat) : Bool := decide (c ∈ (List.range 26).map (97 + ·))
theorem letter_iff {c : Nat} : letterC c = true ↔ 97 ≤ c ∧ c ≤ 122 := by
  unfold letterC
  rw [decide_eq_true_eq, List.mem_map]
  constructor
  · rintro ⟨a, h, rfl⟩
    have := List.mem_range.mp h
    omega
  · rintro ⟨h1, h2⟩
    exact ⟨c - 97, List.mem_range.mpr (by omega), by omega⟩
def nmC (l : List Nat) : Bool := decide (1 ≤ l.length) && decide (l.length ≤ 8) && l.all letterC
theorem nmC_ok {l : List Nat} : nmC l = true ↔ NameOk l := by
  unfold nmC
  rw [Bool.and_eq_true, Bool.and_eq_true, decide_eq_true_eq, decide_eq_true_eq, List.all_eq_true]
  exact ⟨fun ⟨⟨h1, h2⟩, h⟩ => ⟨h1, h2, fun c hc => letter_iff.mp (h c hc)⟩, fun h => ⟨⟨h.lo, h.hi⟩, fun c hc => letter_iff.mpr (h.all c hc)⟩⟩
def nmB : D → Bool | .str x => nmC x.cps.toList | _ => false
def spNameG : Spc where
  ty := D
  args := fun d => [d]
  ok := fun d => Pv d
  rel := fun d e => e = .bl (nmB d)
theorem nmB_iff {d : D} : nmB d = true ↔ ∃ l, d = .str (tx l) ∧ NameOk l := by
  constructor
  · intro h
    cases d <;> first | exact absurd h Bool.false_ne_true | skip
    rename_i x
    exact ⟨x.cps.toList, congrArg D.str (of_tx x), nmC_ok.mp h⟩
  · rintro ⟨l, rfl, h⟩
    show nmC (tx l).cps.toList = true
    rw [tx_cps]
    exact nmC_ok.mpr h
end K26

namespace K26
open PySem PySem.Spec PyProof.Rows L2 Dw
theorem d_is_whole {P : Program} {w : World} {K : PySem.W.Frag} {mg : Str → Option Value} {base : Heap} (T : Txt K w mg) : FnOk P w K mg base CX0 1 T.f_is_whole T.e_is_whole ["value"] (toSp (spWholeG)) := by
  refine fn_ok T.F_is_whole sc_is_whole (fun _ => rfl) fun cdv A outer s' H E hr => ?_
  refine ⟨_, (pss_one (ps_ret (pe_and (pe_callB (isiA K) (by rfl) T.n_isinstance (by decide +kernel) (pa_cons (pv 0) (pa_cons (pe_bltn (v := .ty "int") (by rfl) T.n_int (by decide +kernel) rfl) pa_nil))) (pe_one (notA K (pe_callB (isiA K) (by rfl) T.n_isinstance (by decide +kernel) (pa_cons (pv 0) (pa_cons (pe_bltn (v := .ty "bool") (by rfl) T.n_bool (by decide +kernel) rfl) pa_nil)))))))), fun x hx => ?_⟩
  obtain ⟨d, rfl⟩ : ∃ l : D, l = x := ⟨x, rfl⟩
  have hd : Pv d := hx
  refine ds_ret (Ev.dl (ev_cast (congrArg D.bl (whole_eq d)) (ev_andV (a := isIntB d) (b := !isBoolB d) (ev_isi (ev_var rfl) ev_raw (.inl hd.ty) (.ty "int") (kit_int hd.ty)) fun _ => ev_notT (b := isBoolB d) (evt_tru_bl (ev_isi (ev_var rfl) ev_raw (.inl hd.ty) (.ty "bool") (kit_bool hd.ty))))) rfl)
end K26

namespace K26
open PySem PySem.Spec PyProof.Rows L2 Dw
theorem d_is_name {P : Program} {w : World} {K : PySem.W.Frag} {mg : Str → Option Value} {base : Heap} (T : Txt K w mg) : FnOk P w K mg base CX0 1 T.f_is_name T.e_is_name ["value"] (toSp (spNameG)) := by
  refine fn_ok T.F_is_name sc_is_name (fun _ => rfl) fun cdv A outer s' H E hr => ?_
  refine ⟨_, (pss_cons (ps_if (PW.pt (pw_or (pt_not (truA K (pe_callB (isiA K) (by rfl) T.n_isinstance (by decide +kernel) (pa_cons (pv 0) (pa_cons (pe_bltn (v := .ty "str") (by rfl) T.n_str (by decide +kernel) rfl) pa_nil))))) (pw_or1 (pt_not (pt_chain opLe opLe pe_int (pe_callB (lenA K) (by rfl) T.n_len (by decide +kernel) (pa_cons (pv 0) pa_nil)) (pe_glob (v := .int 8) (by rfl) T.c_MOST_LETTERS ⟨_, rfl⟩)))))) (pss_one (ps_ret pe_bl)) pss_nil) (pss_one (ps_ret (pe_callB (allA K) (by rfl) T.n_all (by decide +kernel) (pa_cons (pe_lc (own := [("letter", 1)]) rfl sc_is_name.nd (piR K (pv 0)) (blkOk_by (own := [("letter", 1)]) (N := N_is_name) (sc := (defScope s_is_name)) (by decide +kernel)) (fun _ _ _ _ _ => pg_name (i := 1) sc_is_name.nd rfl (Or.inl rfl)) (fun _ _ _ _ _ => pts_nil) (fun _ _ _ _ _ => (pe_cmpR (inA K) (pv 1) (pe_glob (v := .str "abcdefghijklmnopqrstuvwxyz") (by rfl) T.c_LETTERS ⟨_, rfl⟩) (by rfl)))) pa_nil))))), fun x hx => ?_⟩
  obtain ⟨d, rfl⟩ : ∃ l : D, l = x := ⟨x, rfl⟩
  have hd : Pv d := hx
  by_cases hs : isStrB d = true
  · obtain ⟨s, rfl⟩ := str_of hs
    obtain ⟨l, rfl⟩ : ∃ l, s = tx l := ⟨_, of_tx s⟩
    have hz := hd.str.2
    rw [tx_len] at hz
    have hc : (decide ((1 : Int) ≤ ((tx l).length : Int)) && decide (((tx l).length : Int) ≤ 8)) = (decide (1 ≤ l.length) && decide (l.length ≤ 8)) := by
      rw [tx_len]
      congr 1
      · exact decide_eq_decide.mpr (by omega)
      · exact decide_eq_decide.mpr (by omega)
    refine ds_seq (ds_if (EvT.dl (b := !(decide (1 ≤ l.length) && decide (l.length ≤ 8))) ?_ ⟨fun h => ?_, fun h => ?_⟩))
    · have e := evt_or (Γ := Gz0 2 (spNameG.args (.str (tx l)))) (a := false) (b := !(decide ((1 : Int) ≤ ((tx l).length : Int)) && decide (((tx l).length : Int) ≤ 8))) (evt_not (a := true) (evt_tru_bl (K := K) (ev_isi (K := K) (ta := tVar 0) (d := .str (tx l)) (ev_var rfl) ev_raw (.inl rfl) (.ty "str") rfl))) fun _ => evt_not (evt_chain (ta := tC (.int 1)) (tb := tCB (Dw.rLen K) (tCons (tVar 0) tNil)) (tc := tC (.int 8)) ev_int (ev_lenS (ev_var rfl) (small (by rw [tx_len]; exact hz))) (fun _ => ev_int) dr2_le fun _ => dr2_le)
      rw [hc] at e
      exact e
    · refine ds_ret (Ev.dl ev_bl ?_)
      show D.bl false = D.bl (nmC (tx l).cps.toList)
      unfold nmC
      rw [tx_cps, show (decide (1 ≤ l.length) && decide (l.length ≤ 8)) = false by rw [Bool.not_eq_true'] at h; exact h]; rfl
    · refine ds_next (ds_ret (Ev.dl (ev_all_lc (xs := l) (c := fun c => .str (ch c)) (b := letterC) ?_ (by omega) fun c hc => ⟨[1], _, dg_name, fun i hi => hi, evt_yes, ev_op (ev_var rfl) ev_str ?_⟩) ?_))
      · have := ej_str (K := K) (ta := tVar 0) (Γ := Gz0 2 (spNameG.args (.str (tx l)))) (x := tx l) (ev_var rfl)
        rw [signs_tx, List.map_map] at this
        exact this
      · rw [lettersS]; exact in_code
      · show D.bl _ = D.bl (nmC (tx l).cps.toList)
        unfold nmC
        rw [tx_cps, show (decide (1 ≤ l.length) && decide (l.length ≤ 8)) = true by rw [Bool.not_eq_false'] at h; exact h]; rfl
  · have hs : isStrB d = false := by simpa using hs
    refine ds_seq (ds_if (EvT.dl (b := true) (evt_or (a := true) (b := false) (evt_not (a := false) (evt_tru_bl (ev_isi (ev_var rfl) ev_raw (.inl hd.ty) (.ty "str") (by rw [kit_str hd.ty, hs])))) fun h => (nomatch h)) ⟨fun _ => ds_ret (Ev.dl ev_bl ?_), fun h => (nomatch h)⟩))
    cases d <;> first | rfl | exact nomatch hs

end K26

namespace K26
open PySem PySem.Spec PyProof.Rows L2 Dw
def bookTx (ls rs : List (List Nat)) : List Nat := TL.joinL [32] ((TL.joinL [32] ls ++ [58]) :: rs)
def bookD (C : Addr) (ls rs : List (List Nat)) : D := .obj C ["_text", "_names", "_rows"] [.str (tx (bookTx ls rs)), .tup (nameD ls), .tup (nameD rs)]
structure BookOk (ls rs : List (List Nat)) : Prop where
  names : NamesOk ls
  few : rs.length ≤ 20
  rows : ∀ r ∈ rs, RowOk r ls.length
theorem kit_self {K : PySem.W.Frag} {C : Addr} : PySem.W.kitOne K (.ref C) (.ref C) = some true := by
  unfold PySem.W.kitOne
  rw [if_pos]
  first | exact beq_self_eq_true _ | simp | rfl
abbrev Bk := List (List Nat) × List (List Nat)
def spCheck (C : Addr) : Spc where
  ty := Bk
  args := fun x => [bookD C x.1 x.2]
  ok := fun _ => True
  rel := fun _ d => d = .non
def spBNames (C : Addr) : Spc where
  ty := Bk
  args := fun x => [bookD C x.1 x.2]
  ok := fun _ => True
  rel := fun x d => d = .tup (nameD x.1)
def spBRows (C : Addr) : Spc where
  ty := Bk
  args := fun x => [bookD C x.1 x.2]
  ok := fun _ => True
  rel := fun x d => d = .tup (nameD x.2)
/-! signs fused -/
def fuse (l : List Nat) : Nat := if 45 ∈ l then 45 else if 43 ∈ l then 43 else 46
def chD (l : List Nat) : List D := l.map fun c => D.str (ch c)
def spFs : Spc where
  ty := List Nat
  args := fun l => [.lst (chD l)]
  ok := fun _ => True
  rel := fun l d => d = .str (ch (fuse l))
theorem inV_ch (c : Nat) : ∀ l : List Nat, inV (.str (ch c)) ((chD l).map scV) = decide (c ∈ l)
  | [] => rfl
  | b :: l => by
    show ((ch b == ch c) || inV (.str (ch c)) ((chD l).map scV)) = _
    rw [inV_ch c l, Bool.eq_iff_iff]
    simp only [Bool.or_eq_true, beq_iff_eq, ch_eq, decide_eq_true_eq, List.mem_cons]
    constructor
    · rintro (h | h)
      · exact .inl h.symm
      · exact .inr h
    · rintro (h | h)
      · exact .inl h.symm
      · exact .inr h
theorem sc_ch (l : List Nat) : (chD l).all isSc = true := by
  induction l with
  | nil => rfl
  | cons c l ih => exact ih
theorem ev_in_ch {K : PySem.W.Frag} {t : TE} {Γ : Gam} {r' : R2} {s : Str} {c : Nat} {l : List Nat} (hs : s = ch c) (h : EvB t Γ (chD l)) : Ev (tOp (rOr (rIn K false) r') (tC (.str s)) t) Γ (.bl (decide (c ∈ l))) := by
  have e := ev_in (neg := false) (K := K) (r' := r') (ev_str (z := s) (Γ := Γ)) h rfl (sc_ch l)
  rw [hs] at e ⊢
  rw [show (if false = true then !inV (scV (.str (ch c))) ((chD l).map scV) else inV (scV (.str (ch c))) ((chD l).map scV)) = decide (c ∈ l) from inV_ch c l] at e
  exact e
theorem fuse_is (l : List Nat) : isSign (fuse l) := by
  unfold fuse
  by_cases h : 45 ∈ l
  · rw [if_pos h]; exact .inr (.inl rfl)
  · rw [if_neg h]
    by_cases h : 43 ∈ l
    · rw [if_pos h]; exact .inl rfl
    · rw [if_neg h]; exact .inr (.inr rfl)
def spOpp : Spc where
  ty := List Nat
  args := fun l => [.str (tx l)]
  ok := fun l => ∃ n, RowOk l n ∧ 1 ≤ n ∧ n ≤ 8
  rel := fun l d => d = .str (tx (flipped l))
end K26

namespace K26
open PySem PySem.Spec PyProof.Rows L2 Dw
theorem np_name (ls : List (List Nat)) : noPs (nameD ls) = true := noPs_map (fun _ => rfl) ls
theorem np_ord (o : List Nat) : noPs (ordD o) = true := noPs_map (fun _ => rfl) o
theorem np_ch (o : List Nat) : noPs (chD o) = true := noPs_map (fun _ => rfl) o
theorem np_tup {ds : List D} (h : noPs ds = true) : noPs [.tup ds] = true := by show (noPs ds && true) = true; rw [h]; rfl
theorem np_lst {ds : List D} (h : noPs ds = true) : noPs [.lst ds] = true := by show (noPs ds && true) = true; rw [h]; rfl
theorem np_book (C : Addr) (ls rs : List (List Nat)) : noPs [bookD C ls rs] = true := by
  show ((true && ((noPs (nameD ls)) && (noPs (nameD rs) && true))) && true) = true
  rw [np_name, np_name]; rfl
theorem joinL_len {m : Nat} : ∀ ls : List (List Nat), (∀ p ∈ ls, p.length ≤ m) → (TL.joinL [32] ls).length ≤ ls.length * (m + 1)
  | [], _ => Nat.zero_le _
  | [p], h => by
    have := h p (List.mem_singleton.mpr rfl)
    show p.length ≤ 1 * (m + 1)
    omega
  | p :: q :: r, h => by
    have h1 := h p List.mem_cons_self
    have h2 := joinL_len (q :: r) fun x hx => h x (List.mem_cons_of_mem _ hx)
    show (p ++ ([32] ++ TL.joinL [32] (q :: r))).length ≤ (List.length (q :: r) + 1) * (m + 1)
    rw [List.length_append, List.length_append, Nat.add_mul]
    show p.length + (1 + _) ≤ _
    omega
theorem joinL_mem {c : Nat} : ∀ ls : List (List Nat), c ∈ TL.joinL [32] ls → c = 32 ∨ ∃ p ∈ ls, c ∈ p
  | [], h => absurd h (by simp [TL.joinL])
  | [p], h => .inr ⟨p, List.mem_singleton.mpr rfl, h⟩
  | p :: q :: r, h => by
    have h : c ∈ p ++ ([32] ++ TL.joinL [32] (q :: r)) := h
    rcases List.mem_append.mp h with h | h
    · exact .inr ⟨p, List.mem_cons_self, h⟩
    · rcases List.mem_append.mp h with h | h
      · exact .inl (List.mem_singleton.mp h)
      · rcases joinL_mem (q :: r) h with h | ⟨x, hx, hc⟩
        · exact .inl h
        · exact .inr ⟨x, List.mem_cons_of_mem _ hx, hc⟩
theorem bookTx_eq (ls : List (List Nat)) : ∀ rs : List (List Nat), bookTx ls rs = TL.joinL [32] ls ++ ([58] ++ TL.joinL [32] ([] :: rs))
  | [] => rfl
  | q :: r => by
    show (TL.joinL [32] ls ++ [58]) ++ ([32] ++ TL.joinL [32] (q :: r)) = TL.joinL [32] ls ++ ([58] ++ ([] ++ ([32] ++ TL.joinL [32] (q :: r))))
    rw [List.nil_append, List.append_assoc]
theorem spaceS : Str.ofString " " = tx [32] := by decide +kernel
theorem colonS : Str.ofString ":" = tx [58] := by decide +kernel
theorem split_sp {ps : List (List Nat)} (hne : ps ≠ []) (h : ∀ p ∈ ps, 32 ∉ p) : Txt.split (tx (TL.joinL [32] ps)) (Str.ofString " ") = ps.map tx := by
  rw [spaceS]
  refine (SX.split_S (a := TL.joinL [32] ps) (b := [32]) (by simp) (by decide)).trans ?_
  rw [SX.spl_join hne h]; rfl
theorem part_sp {p q : List Nat} (h : 58 ∉ p) : Txt.partition (tx (p ++ ([58] ++ q))) (Str.ofString ":") = (tx p, tx [58], tx q) := by
  rw [colonS]
  exact SX.partition_some (by simp) (SX.par_head q h)
theorem BookOk.h58 {ls rs : List (List Nat)} (h : BookOk ls rs) : 58 ∉ TL.joinL [32] ls := fun hm => by
  rcases joinL_mem ls hm with h' | ⟨p, hp, hc⟩
  · cases h'
  · have := (h.names.all p hp).all 58 hc; omega
theorem BookOk.h32 {ls rs : List (List Nat)} (h : BookOk ls rs) : ∀ p ∈ ls, 32 ∉ p := fun p hp hc => by
  have := (h.names.all p hp).all 32 hc; omega
theorem BookOk.r32 {ls rs : List (List Nat)} (h : BookOk ls rs) : ∀ p ∈ [] :: rs, 32 ∉ p := fun p hp hc => by
  rcases List.mem_cons.mp hp with rfl | hp
  · exact absurd hc (by simp)
  · rcases (h.rows p hp).all 32 hc with h | h | h <;> cases h
theorem BookOk.hl {ls rs : List (List Nat)} (h : BookOk ls rs) : (TL.joinL [32] ls).length ≤ 72 := by
  have := joinL_len (m := 8) ls fun p hp => (h.names.all p hp).hi
  have := h.names.hi
  omega
theorem BookOk.tl {ls rs : List (List Nat)} (h : BookOk ls rs) : (TL.joinL [32] ([] :: rs)).length ≤ 189 := by
  have e := joinL_len (m := 8) ([] :: rs) fun p hp => by
    rcases List.mem_cons.mp hp with rfl | hp
    · exact Nat.zero_le _
    · rw [(h.rows p hp).len]; exact h.names.hi
  rw [List.length_cons] at e
  have := h.few
  omega
theorem BookOk.len {ls rs : List (List Nat)} (h : BookOk ls rs) : (tx (bookTx ls rs)).length ≤ 300 := by
  rw [tx_len, bookTx_eq, List.length_append, List.length_append]
  have := h.hl
  have := h.tl
  show _ + (1 + _) ≤ _
  omega
def spRead : Spc where
  ty := Bk
  args := fun x => [.str (tx (bookTx x.1 x.2))]
  ok := fun x => BookOk x.1 x.2
  rel := fun x d => d = .tup [.tup (nameD x.1), .tup (nameD x.2)]
def spInit : Spc where
  ty := Bk
  args := fun x => [.str (tx (bookTx x.1 x.2))]
  ok := fun x => BookOk x.1 x.2
  rel := fun x d => d = .tup [.str (tx (bookTx x.1 x.2)), .tup (nameD x.1), .tup (nameD x.2)]
theorem nameD_map (ls : List (List Nat)) : (ls.map tx).map D.str = nameD ls := by rw [List.map_map]; rfl
end K26

namespace K26
open PySem PySem.Spec PyProof.Rows L2 Dw
def selR (rs : List (List Nat)) (o : List Nat) : List (List Nat) := o.map fun i => rs.getD i []
def fusedRow (rs : List (List Nat)) (o : List Nat) (n : Nat) : List Nat := (List.range n).map fun k => fuse ((selR rs o).map fun r => sgn r k)
structure FuOk (ls rs : List (List Nat)) (o : List Nat) : Prop where
  book : BookOk ls rs
  lot : LotOk o rs.length
def spFusion (C : Addr) : Spc where
  ty := Bk × List Nat
  args := fun x => [bookD C x.1.1 x.1.2, .tup (ordD x.2)]
  ok := fun x => FuOk x.1.1 x.1.2 x.2
  rel := fun x d => d = .str (tx (fusedRow x.1.2 x.2 x.1.1.length))
theorem nameD_at {rs : List (List Nat)} {i : Nat} (h : i < rs.length) : atI (nameD rs) (i : Int) = some (.str (tx (rs.getD i []))) := by
  refine atI_nat ?_
  unfold nameD
  rw [List.getElem?_map, List.getElem?_eq_getElem h, List.getD_eq_getElem?_getD, List.getElem?_eq_getElem h]; rfl
theorem getD_ok {rs : List (List Nat)} {n i : Nat} (h : ∀ r ∈ rs, RowOk r n) (hi : i < rs.length) : RowOk (rs.getD i []) n := by
  rw [List.getD_eq_getElem?_getD, List.getElem?_eq_getElem hi]
  exact h _ (List.getElem_mem hi)
theorem inc_len {m : Nat} : ∀ (o : List Nat) (lo : Nat), lo ≤ m → (∀ k ∈ o, lo ≤ k ∧ k < m) → o.Pairwise (· < ·) → o.length + lo ≤ m
  | [], lo, h, _, _ => by rw [List.length_nil]; omega
  | a :: o, lo, h, hk, hp => by
    obtain ⟨h1, h2⟩ := hk a List.mem_cons_self
    obtain ⟨p1, p2⟩ := List.pairwise_cons.mp hp
    have := inc_len o (a + 1) (by omega) (fun k hm => ⟨p1 k hm, (hk k (List.mem_cons_of_mem _ hm)).2⟩) p2
    rw [List.length_cons]; omega
theorem lot_len {o : List Nat} {m : Nat} (h : LotOk o m) : o.length ≤ m := inc_len o 0 (Nat.zero_le _) (fun k hk => ⟨Nat.zero_le _, h.lt k hk⟩) h.inc
end K26

namespace K26
open PySem PySem.Spec PyProof.Rows L2 Dw
def lots : Nat → List (List Nat)
  | 0 => [[]]
  | n + 1 => lots n ++ (lots n).map (· ++ [n])
theorem lots_len : ∀ n, (lots n).length = 2 ^ n
  | 0 => rfl
  | n + 1 => by
    show (lots n ++ (lots n).map _).length = _
    rw [List.length_append, List.length_map, lots_len n, Nat.pow_succ]; omega
theorem lots_ok : ∀ n, ∀ o ∈ lots n, LotOk o n
  | 0, o, h => by
    rw [List.mem_singleton.mp h]
    exact ⟨fun k h => absurd h (by simp), List.Pairwise.nil⟩
  | n + 1, o, h => by
    rcases List.mem_append.mp h with h | h
    · have := lots_ok n o h
      exact ⟨fun k hk => Nat.lt_succ_of_lt (this.lt k hk), this.inc⟩
    · obtain ⟨p, hp, rfl⟩ := List.mem_map.mp h
      have := lots_ok n p hp
      refine ⟨fun k hk => ?_, List.pairwise_append.mpr ⟨this.inc, List.pairwise_singleton _ _, fun a ha b hb => ?_⟩⟩
      · rcases List.mem_append.mp hk with hk | hk
        · exact Nat.lt_succ_of_lt (this.lt k hk)
        · rw [List.mem_singleton.mp hk]; exact Nat.lt_succ_self n
      · rw [List.mem_singleton.mp hb]; exact this.lt a ha
def ordT (os : List (List Nat)) : List D := os.map fun o => D.tup (ordD o)
theorem ordD_snoc (o : List Nat) (i : Nat) : ordD o ++ [D.int i] = ordD (o ++ [i]) := by
  unfold ordD
  rw [List.map_append]; rfl
theorem ordD_len (o : List Nat) : (ordD o).length = o.length := List.length_map ..
theorem ordT_len (o : List (List Nat)) : (ordT o).length = o.length := List.length_map ..
def spLots : Spc where
  ty := Nat
  args := fun n => [.int n]
  ok := fun n => n ≤ 6
  rel := fun n d => d = .lst (ordT (lots n))
theorem pow6 {i n : Nat} (h : i ≤ n) (hn : n ≤ 6) : 2 ^ i ≤ 64 := Nat.le_trans (Nat.pow_le_pow_right (by decide) (Nat.le_trans h hn)) (by decide)
end K26

namespace K26
open PySem PySem.Spec PyProof.Rows L2 Dw
theorem erase_map {α β : Type} (f : α → β) : ∀ (l : List α) (i : Nat), (l.map f).eraseIdx i = (l.eraseIdx i).map f
  | [], i => rfl
  | a :: l, 0 => rfl
  | a :: l, i + 1 => congrArg (f a :: ·) (erase_map f l i)
theorem perm_erase {α : Type} {a : α} : ∀ {l : List α} {i : Nat}, l[i]? = some a → (a :: l.eraseIdx i).Perm l
  | [], i, h => by cases h
  | b :: l, 0, h => by
    have : b = a := by simpa using h
    subst this
    exact .refl _
  | b :: l, i + 1, h => (List.Perm.swap b a (l.eraseIdx i)).trans ((perm_erase (l := l) (i := i) (by simpa using h)).cons b)
def strs0 : List Str := ["a", "b", "cost", "far", "level", "near", "safe", "t", "width", "zzzzzzzz"]
def lab0 : List (List Nat) := strs0.map fun s => s.cps.toList
theorem lab0_D : nameD lab0 = strs0.map D.str := by
  unfold nameD lab0
  rw [List.map_map]
  exact List.map_congr_left fun s _ => congrArg D.str (of_tx s).symm
def nameB (l : List Nat) : Bool := decide (1 ≤ l.length) && decide (l.length ≤ 8) && l.all fun c => decide (97 ≤ c) && decide (c ≤ 122)
theorem nameB_ok {l : List Nat} (h : nameB l = true) : NameOk l := by
  unfold nameB at h
  rw [Bool.and_eq_true, Bool.and_eq_true, List.all_eq_true] at h
  exact ⟨of_decide_eq_true h.1.1, of_decide_eq_true h.1.2, fun c hc => by
    have := h.2 c hc
    rw [Bool.and_eq_true] at this
    exact ⟨of_decide_eq_true this.1, of_decide_eq_true this.2⟩⟩
theorem lab0_ok : ∀ l ∈ lab0, NameOk l := by
  have h : lab0.all nameB = true := by decide +kernel
  exact fun l hl => nameB_ok (List.all_eq_true.mp h l hl)
theorem lab0_nd : lab0.Nodup := by decide +kernel
theorem lab0_len : lab0.length = 10 := rfl
theorem lt_of_ne : ∀ a b : List Nat, a ≠ b → ¬ b < a → a < b
  | [], [], h, _ => absurd rfl h
  | [], b :: bs, _, _ => List.nil_lt_cons b bs
  | a :: as, [], _, h => absurd (List.nil_lt_cons a as) h
  | a :: as, b :: bs, h, h' => by
    rw [List.cons_lt_cons_iff] at h' ⊢
    by_cases e : a = b
    · subst e
      exact .inr ⟨rfl, lt_of_ne as bs (fun z => h (by rw [z])) fun z => h' (.inr ⟨rfl, z⟩)⟩
    · exact .inl (by
        have : ¬ b < a := fun z => h' (.inl z)
        omega)
theorem rising_inc : ∀ (x : Str) (r : List Str), risingS x r = true → (x :: r).Nodup → ∀ p ∈ (((x :: r).map fun s => s.cps.toList).zip (r.map fun s => s.cps.toList)), p.1 < p.2
  | x, [], _, _, p, hp => by cases hp
  | x, y :: r, h, nd, p, hp => by
    have h : (!ltCps y.cps.toList x.cps.toList && risingS y r) = true := h
    rw [Bool.and_eq_true, ltCps_eq, Bool.not_eq_true', decide_eq_false_iff_not] at h
    obtain ⟨n1, n2⟩ := List.nodup_cons.mp nd
    rcases List.mem_cons.mp hp with rfl | hp
    · exact lt_of_ne _ _ (fun z => n1 (by
        have z' : x.cps.toList = y.cps.toList := z
        have : x = y := by rw [of_tx x, of_tx y, z']
        rw [this]; exact List.mem_cons_self)) h.1
    · exact rising_inc y r h.2 n2 p hp
def spLabels : Spc where
  ty := Nat
  args := fun n => [.purse, .int n]
  ok := fun n => 1 ≤ n ∧ n ≤ 8
  rel := fun n d => ∃ ls, d = .lst (nameD ls) ∧ NamesOk ls ∧ ls.length = n
theorem nameD_len (ls : List (List Nat)) : (nameD ls).length = ls.length := List.length_map ..
theorem nodup_tx {l : List (List Nat)} (h : l.Nodup) : (l.map tx).Nodup := by
  rw [List.nodup_iff_pairwise_ne] at h ⊢
  exact List.pairwise_map.mpr (h.imp fun h z => h (tx_eq.mp z))
theorem names_of {zs : List Str} {acc left : List (List Nat)} {n : Nat} (hp : (acc ++ left).Perm lab0) (hz : zs.Perm (acc.map tx)) (hs : sortedS zs = true) (hl : acc.length = n) (h1 : 1 ≤ n) (h8 : n ≤ 8) :
    NamesOk (zs.map fun s => s.cps.toList) := by
  have ln : zs.length = n := by rw [hz.length_eq, List.length_map, hl]
  have nd : zs.Nodup := hz.nodup_iff.mpr (nodup_tx (List.nodup_append.mp (hp.nodup_iff.mpr lab0_nd)).1)
  refine ⟨by rw [List.length_map]; omega, by rw [List.length_map]; omega, fun l h => ?_, ?_⟩
  · obtain ⟨s, h1, rfl⟩ := List.mem_map.mp h
    obtain ⟨m, h2, rfl⟩ := List.mem_map.mp (hz.mem_iff.mp h1)
    show NameOk (tx m).cps.toList
    rw [tx_cps]
    exact lab0_ok m (hp.mem_iff.mp (List.mem_append_left _ h2))
  · cases zs with
    | nil => exact fun p hp => by cases hp
    | cons x r => exact rising_inc x r hs nd
end K26

namespace K26
open PySem PySem.Spec PyProof.Rows L2 Dw
def spRows : Spc where
  ty := Nat × Nat × Nat
  args := fun x => [.purse, .int x.1, .int x.2.1, .int x.2.2]
  ok := fun x => 1 ≤ x.1 ∧ x.1 ≤ 8 ∧ x.2.1 < 1000 ∧ 0 < x.2.2 ∧ x.2.2 < 1000
  rel := fun x d => ∃ rs, d = .lst (nameD rs) ∧ rs.length ≤ x.2.1 ∧ ∀ r ∈ rs, RowOk r x.1
theorem flipped_ok {l : List Nat} {n : Nat} (h : RowOk l n) : RowOk (flipped l) n := by
  refine ⟨by unfold flipped; rw [List.length_map, h.len], fun c hc => ?_⟩
  unfold flipped at hc
  obtain ⟨b, hb, rfl⟩ := List.mem_map.mp hc
  exact flip1_is (h.all b hb)
end K26

namespace K26
open PySem PySem.Spec PyProof.Rows L2 Dw
def spSpelled : Spc where
  ty := Bk
  args := fun x => [.lst (nameD x.1), .lst (nameD x.2)]
  ok := fun x => BookOk x.1 x.2
  rel := fun x d => d = .str (tx (bookTx x.1 x.2))
theorem sum_tx {m : Nat} : ∀ ls : List (List Nat), (∀ p ∈ ls, p.length ≤ m) → ((ls.map tx).map (·.length)).sum ≤ ls.length * m
  | [], _ => Nat.zero_le _
  | p :: r, h => by
    have h1 := h p List.mem_cons_self
    have h2 := sum_tx r fun x hx => h x (List.mem_cons_of_mem _ hx)
    rw [List.map_cons, List.map_cons, List.sum_cons, tx_len, List.length_cons, Nat.add_mul]
    omega
theorem join_sp (ls : List (List Nat)) : Txt.join (Str.ofString " ") (ls.map tx) = tx (TL.joinL [32] ls) := by rw [spaceS, join_tx]
end K26

namespace K26
open PySem PySem.Spec PyProof.Rows L2 Dw
theorem dr2_pow {i j : Int} (h : CPow i j) : DR2 (rI CPow fun i j => .int (i ^ j.toNat)) (.int i) (.int j) (.int (i ^ j.toNat)) := dr2_rI h fun _ => rfl
theorem ds_runS {t u : TS} {F : Addr → Prop} {σ : L2.St} {W : Wd} {Dr : Ends} {Γ : Gam} {Γ' : Gam → Prop} (h : Ds t Γ ⟨Γ', fun _ => False, fun _ => False, fun _ => False⟩) (g : SR F Γ σ W) (k : ∀ σ' W' Γ2, Stp F W W' → SR F Γ2 σ' W' → Γ' Γ2 → u Dr σ' W'.H) : tSeq t u Dr σ W.H :=
  h F σ W { Dr with nx := u Dr } g ⟨k, fun _ _ _ _ _ _ h => h.elim, fun _ _ _ _ _ h => h.elim, fun _ _ _ _ _ h => h.elim⟩
theorem scr_at {ns : List Int} {spot : Nat} (h : spot < ns.length) : atI (ns.map V.int) (spot : Int) = some (.int (ns.getD spot 0)) := by
  refine atI_nat ?_
  rw [List.getElem?_map, List.getElem?_eq_getElem h, List.getD_eq_getElem?_getD, List.getElem?_eq_getElem h]; rfl
theorem seed_ok {s z : Int} : 0 ≤ (s * 41539 + z % 2147483647 + 101) % 2147483647 ∧ (s * 41539 + z % 2147483647 + 101) % 2147483647 < 2147483647 := ⟨Int.emod_nonneg _ (by decide), Int.emod_lt_of_pos _ (by decide)⟩
end K26

namespace K26
open PySem PySem.Spec PyProof.Rows L2 Dw
/-! lots and rankings of any plain values -/
def wrongM (m : Int) : List D → Nat → Int → Option Nat
  | [], _, _ => none
  | d :: r, at_, least => if idxB d m && (match d with | .int i => decide (least ≤ i) | _ => false) then wrongM m r (at_ + 1) (match d with | .int i => i + 1 | _ => 0) else some at_
theorem wrong_int {m : Int} {i : Int} {r : List D} {k : Nat} {least : Int} : wrongM m (.int i :: r) k least = if (decide (0 ≤ i) && decide (i < m)) && decide (least ≤ i) then wrongM m r (k + 1) (i + 1) else some k := rfl
theorem wrong_not {m : Int} {d : D} {r : List D} {k : Nat} {least : Int} (h : idxB d m = false) : wrongM m (d :: r) k least = some k := by
  unfold wrongM
  rw [h]; rfl
def wrongD (m : Int) (ds : List D) : D := match wrongM m ds 0 0 with | none => .non | some k => .int k
def spWrongG : Spc where
  ty := List D × Nat
  args := fun x => [.tup x.1, .int x.2]
  ok := fun x => Pv (.tup x.1)
  rel := fun x e => e = wrongD x.2 x.1
def lotB : D → Int → Bool | .tup ds, m => (wrongM m ds 0 0).isNone | _, _ => false
def spLotG : Spc where
  ty := D × Nat
  args := fun x => [x.1, .int x.2]
  ok := fun x => Pv x.1
  rel := fun x e => e = .bl (lotB x.1 x.2)
theorem wrong_none {m : Int} : ∀ {ds : List D} {k : Nat} {least : Int}, 0 ≤ least → wrongM m ds k least = none → ∃ o : List Nat, ds = ordD o ∧ (∀ j ∈ o, least ≤ (j : Int) ∧ (j : Int) < m) ∧ o.Pairwise (· < ·)
  | [], _, _, _, _ => ⟨[], rfl, fun j h => absurd h (by simp), .nil⟩
  | d :: r, k, least, h0, h => by
    cases hd : idxB d m with
    | false => rw [wrong_not hd] at h; cases h
    | true =>
      cases d <;> first | exact absurd hd Bool.false_ne_true | skip
      rename_i i
      rw [wrong_int] at h
      by_cases hc : ((decide (0 ≤ i) && decide (i < m)) && decide (least ≤ i)) = true
      · rw [if_pos hc] at h
        rw [Bool.and_eq_true, Bool.and_eq_true, decide_eq_true_eq, decide_eq_true_eq, decide_eq_true_eq] at hc
        obtain ⟨⟨c1, c2⟩, c3⟩ := hc
        obtain ⟨o, e, ho, hp⟩ := wrong_none (least := i + 1) (by omega) h
        have ei : ((i.toNat : Nat) : Int) = i := by omega
        refine ⟨i.toNat :: o, ?_, fun j hj => ?_, List.pairwise_cons.mpr ⟨fun j hj => ?_, hp⟩⟩
        · show D.int i :: r = D.int ((i.toNat : Nat) : Int) :: ordD o
          rw [ei, e]
        · rcases List.mem_cons.mp hj with rfl | hj
          · omega
          · have := ho j hj; omega
        · have := ho j hj; omega
      · rw [if_neg hc] at h; cases h
theorem lot_wrong {m : Int} : ∀ {o : List Nat} {k : Nat} {least : Int}, (∀ j ∈ o, least ≤ (j : Int) ∧ (j : Int) < m) → o.Pairwise (· < ·) → wrongM m (ordD o) k least = none
  | [], _, _, _, _ => rfl
  | a :: o, k, least, h, hp => by
    obtain ⟨p1, p2⟩ := List.pairwise_cons.mp hp
    have ha := h a List.mem_cons_self
    show wrongM m (D.int (a : Int) :: ordD o) k least = none
    rw [wrong_int, if_pos (by rw [Bool.and_eq_true, Bool.and_eq_true, decide_eq_true_eq, decide_eq_true_eq, decide_eq_true_eq]; omega)]
    exact lot_wrong (fun j hj => ⟨by have := p1 j hj; omega, (h j (List.mem_cons_of_mem _ hj)).2⟩) p2
theorem lotB_iff {d : D} {m : Nat} : lotB d m = true ↔ ∃ o, d = .tup (ordD o) ∧ LotOk o m := by
  constructor
  · intro h
    cases d <;> first | exact absurd h Bool.false_ne_true | skip
    rename_i ds
    have h : (wrongM m ds 0 0).isNone = true := h
    rw [Option.isNone_iff_eq_none] at h
    obtain ⟨o, rfl, ho, hp⟩ := wrong_none (by decide) h
    exact ⟨o, rfl, fun k hk => by have := ho k hk; omega, hp⟩
  · rintro ⟨o, rfl, h⟩
    show (wrongM m (ordD o) 0 0).isNone = true
    rw [lot_wrong (fun j hj => ⟨by omega, by have := h.lt j hj; omega⟩) h.inc]; rfl
def intOf : D → Int | .int i => i | _ => 0
theorem all_ints : ∀ {ds : List D}, ds.all wholeB = true → ds = (ds.map intOf).map D.int
  | [], _ => rfl
  | d :: r, h => by
    rw [List.all_cons, Bool.and_eq_true] at h
    obtain ⟨i, rfl⟩ := whole_of h.1
    rw [List.map_cons, List.map_cons, ← all_ints h.2]; rfl
def rangeI (n : Nat) : List Int := (List.range n).map fun k : Nat => (k : Int)
def rkB : D → Nat → Bool | .tup ds, n => ds.all wholeB && decide ((ds.map intOf).mergeSort (fun a b => decide (a ≤ b)) = rangeI n) | _, _ => false
def spIsRkG : Spc where
  ty := D × Nat
  args := fun x => [x.1, .int x.2]
  ok := fun x => Pv x.1 ∧ x.2 ≤ 8
  rel := fun x e => e = .bl (rkB x.1 x.2)
theorem sort_u {ns ns' : List Int} (h1 : ns'.Perm ns) (h2 : ns'.Pairwise (· ≤ ·)) : ns' = ns.mergeSort (fun a b => decide (a ≤ b)) := by
  have p := List.mergeSort_perm ns (fun a b => decide (a ≤ b))
  have s := List.pairwise_mergeSort (le := fun a b : Int => decide (a ≤ b)) (fun a b c h1 h2 => by
    simp only [decide_eq_true_eq] at h1 h2 ⊢
    omega) (fun a b => by
    simp only [Bool.or_eq_true, decide_eq_true_eq]
    omega) ns
  refine List.Perm.eq_of_pairwise (le := (· ≤ ·)) (fun a b _ _ h h' => Int.le_antisymm h h') h2 (s.imp fun {a b} h => of_decide_eq_true h) (h1.trans p.symm)
theorem rkB_iff {d : D} {n : Nat} : rkB d n = true ↔ ∃ o, d = .tup (ordD o) ∧ o.Perm (List.range n) := by
  constructor
  · intro h
    cases d <;> first | exact absurd h Bool.false_ne_true | skip
    rename_i ds
    have h : (ds.all wholeB && decide ((ds.map intOf).mergeSort (fun a b => decide (a ≤ b)) = rangeI n)) = true := h
    rw [Bool.and_eq_true, decide_eq_true_eq] at h
    obtain ⟨h1, h2⟩ := h
    have p := List.mergeSort_perm (ds.map intOf) (fun a b => decide (a ≤ b))
    rw [h2] at p
    have nn : ∀ i ∈ ds.map intOf, 0 ≤ i := fun i hi => by
      have := p.symm.subset hi
      obtain ⟨k, _, rfl⟩ := List.mem_map.mp this
      omega
    refine ⟨(ds.map intOf).map Int.toNat, ?_, ?_⟩
    · have e : ordD ((ds.map intOf).map Int.toNat) = (ds.map intOf).map D.int := by
        unfold ordD
        rw [List.map_map]
        refine List.map_congr_left fun i hi => ?_
        have := nn i hi
        show D.int ((i.toNat : Nat) : Int) = D.int i
        rw [show ((i.toNat : Nat) : Int) = i by omega]
      rw [e, ← all_ints h1]
    · have := (p.symm).map Int.toNat
      have e : (rangeI n).map Int.toNat = List.range n := by
        unfold rangeI
        rw [List.map_map, show (Int.toNat ∘ fun k : Nat => (k : Int)) = id by funext k; simp, List.map_id]
      rw [e] at this
      exact this
  · rintro ⟨o, rfl, h⟩
    show ((ordD o).all wholeB && decide (((ordD o).map intOf).mergeSort (fun a b => decide (a ≤ b)) = rangeI n)) = true
    have e1 : (ordD o).all wholeB = true := by
      unfold ordD
      rw [List.all_map, List.all_eq_true]
      exact fun _ _ => rfl
    have e2 : (ordD o).map intOf = o.map fun k : Nat => (k : Int) := by unfold ordD; rw [List.map_map]; rfl
    rw [e1, e2, ← sort_u (ns' := rangeI n) ((h.map _).symm) (List.pairwise_map.mpr ((List.pairwise_lt_range (n := n)).imp fun {a b} h => by omega)), decide_eq_true rfl]; rfl
theorem eqv_ints : ∀ xs ys : List Int, PyData.eqvAll (pys (xs.map D.int)) (pys (ys.map D.int)) = decide (xs = ys)
  | [], [] => rfl
  | [], y :: ys => by
    show false = _
    simp
  | x :: xs, [] => by
    show false = _
    simp
  | x :: xs, y :: ys => by
    show ((x == y) && PyData.eqvAll (pys (xs.map D.int)) (pys (ys.map D.int))) = _
    rw [eqv_ints xs ys, Bool.eq_iff_iff]
    simp
theorem sh_ints (xs : List Int) : dOk 1 (.lst (xs.map D.int)) = true := dOks_map fun _ _ => rfl
theorem eq_intsL {K : PySem.W.Frag} {xs ys : List Int} : DR2 (rEqX K) (.lst (xs.map D.int)) (.lst (ys.map D.int)) (.bl (decide (xs = ys))) := by
  obtain ⟨p1, s1⟩ := dOk_shaped (sh_ints xs) (by decide)
  obtain ⟨p2, s2⟩ := dOk_shaped (sh_ints ys) (by decide)
  have := eq_deep (K := K) p1 p2 s1 s2
  rw [show PyData.eqv (py (.lst (xs.map D.int))) (py (.lst (ys.map D.int))) = PyData.eqvAll (pys (xs.map D.int)) (pys (ys.map D.int)) from rfl, eqv_ints] at this
  exact this
theorem rng_int (n : Nat) : rng n = (rangeI n).map D.int := by unfold rng rangeI; rw [List.map_map]; rfl
/-! names of any plain values -/
def codesOf : D → List Nat | .str x => x.cps.toList | _ => []
def incB (ls : List (List Nat)) : Bool := (ls.zip (ls.drop 1)).all fun p => decide (p.1 < p.2)
def namesB (ds : List D) : Bool := ds.all nmB && incB (ds.map codesOf)
theorem all_names : ∀ {ds : List D}, ds.all nmB = true → ds = nameD (ds.map codesOf) ∧ ∀ l ∈ ds.map codesOf, NameOk l
  | [], _ => ⟨rfl, fun l h => absurd h (by simp)⟩
  | d :: r, h => by
    rw [List.all_cons, Bool.and_eq_true] at h
    obtain ⟨l, rfl, hl⟩ := nmB_iff.mp h.1
    obtain ⟨e, hr⟩ := all_names h.2
    have ec : codesOf (.str (tx l)) = l := tx_cps l
    rw [List.map_cons, ec]
    refine ⟨?_, fun x hx => ?_⟩
    · show D.str (tx l) :: r = D.str (tx l) :: nameD (r.map codesOf)
      rw [← e]
    · rcases List.mem_cons.mp hx with rfl | hx
      · exact hl
      · exact hr x hx
theorem codes_name (ls : List (List Nat)) : (nameD ls).map codesOf = ls := by
  unfold nameD
  rw [List.map_map]
  have e : (codesOf ∘ fun l => D.str (tx l)) = id := by funext l; exact tx_cps l
  rw [e, List.map_id]
theorem namesB_iff {ds : List D} : namesB ds = true ↔ ∃ ls, ds = nameD ls ∧ (∀ l ∈ ls, NameOk l) ∧ ∀ p ∈ ls.zip (ls.drop 1), p.1 < p.2 := by
  unfold namesB incB
  rw [Bool.and_eq_true]
  constructor
  · rintro ⟨h1, h2⟩
    obtain ⟨e, hn⟩ := all_names h1
    exact ⟨_, e, hn, fun p hp => of_decide_eq_true (List.all_eq_true.mp h2 p hp)⟩
  · rintro ⟨ls, rfl, h1, h2⟩
    rw [codes_name]
    refine ⟨?_, List.all_eq_true.mpr fun p hp => decide_eq_true (h2 p hp)⟩
    unfold nameD
    rw [List.all_map, List.all_eq_true]
    exact fun l hl => nmB_iff.mpr ⟨l, rfl, h1 l hl⟩
def spNamesG : Spc where
  ty := List D
  args := fun ds => [.tup ds]
  ok := fun ds => Pv (.tup ds)
  rel := fun ds e => e = .bl (namesB ds)
theorem cut_tail (ds : List D) : Dw.cutD ds (some 1) none = ds.drop 1 := by
  unfold Dw.cutD
  rw [HT.sIx_none]
  have e : HT.sIx ds.length 0 (some 1) = min 1 ds.length := by
    show (if (1 : Int) < 0 then ((1 : Int) + (ds.length : Int)).toNat else min (1 : Int).toNat ds.length) = _
    rw [if_neg (by decide)]; rfl
  rw [e]
  cases ds with
  | nil => rfl
  | cons d r =>
    rw [show min 1 (d :: r).length = 1 by simp [Nat.min_def], List.take_of_length_le (by simp)]
theorem pv_names {ls : List (List Nat)} (h : ∀ l ∈ ls, NameOk l) (hz : ls.length ≤ 60) : Pv (.tup (nameD ls)) := by
  show (decide ((nameD ls).length ≤ 60) && plBs 11 (nameD ls)) = true
  rw [show (nameD ls).length = ls.length from List.length_map .., decide_eq_true hz, Bool.true_and, plBs_iff]
  intro d hd
  obtain ⟨l, hl, rfl⟩ := List.mem_map.mp hd
  have := h l hl
  exact pv_strs (fun c hc => by have := this.all c hc; omega) (by have := this.hi; omega)
theorem names_ok {ls : List (List Nat)} (h : NamesOk ls) : namesB (nameD ls) = true := namesB_iff.mpr ⟨ls, rfl, h.all, h.inc⟩
theorem row_ok {l : List Nat} {n : Nat} (h : RowOk l n) (h1 : 1 ≤ n) (h8 : n ≤ 8) : rowB (.str (tx l)) n = true := rowB_iff.mpr ⟨l, rfl, h, h1, h8⟩
theorem pv_row {l : List Nat} {n : Nat} (h : RowOk l n) (h8 : n ≤ 8) : Pv (.str (tx l)) := pv_strs (fun c hc => (h.all c hc).lt) (by rw [h.len]; omega)
end K26

namespace K26
open PySem PySem.Spec PyProof.Rows L2 Dw
theorem d_is_ranking {P : Program} {w : World} {K : PySem.W.Frag} {mg : Str → Option Value} {base : Heap} (T : Txt K w mg) : FnOk P w K mg base CX0 2 T.f_is_ranking T.e_is_ranking ["value", "many"] (toSp (spIsRkG)) := by
  refine fn_ok T.F_is_ranking sc_is_ranking (fun _ => rfl) fun cdv A outer s' H E hr => ?_
  refine ⟨_, (pss_cons (ps_if (PW.pt (pw_or (pt_not (truA K (pe_callB (isiA K) (by rfl) T.n_isinstance (by decide +kernel) (pa_cons (pv 0) (pa_cons (pe_bltn (v := .ty "tuple") (by rfl) T.n_tuple (by decide +kernel) rfl) pa_nil))))) (pw_or1 (pt_not (truA K (pe_callB (allA K) (by rfl) T.n_all (by decide +kernel) (pa_cons (pe_lc (own := [("rule", 2)]) rfl sc_is_ranking.nd (piR K (pv 0)) (blkOk_by (own := [("rule", 2)]) (N := N_is_ranking) (sc := (defScope s_is_ranking)) (by decide +kernel)) (fun _ _ _ _ _ => pg_name (i := 2) sc_is_ranking.nd rfl (Or.inl rfl)) (fun _ _ _ _ _ => pts_nil) (fun _ _ _ _ _ => (pe_call (d_is_whole T) (hr.mono (by decide)) (by rfl) T.m_is_whole T.F_is_whole.kp T.b_is_whole .nil pass0 (pa_cons (pv 2) pa_nil)))) pa_nil))))))) (pss_one (ps_ret pe_bl)) pss_nil) (pss_one (ps_ret (pe_cmpR (eqA K hr.units) (pe_callB (sortTA K) (by rfl) T.n_sorted (by decide +kernel) (pa_cons (pv 0) pa_nil)) (pe_listRg rfl (by rfl) T.n_list (prg_1 (by rfl) T.n_range (pv 1))) (nomark _))))), fun x hx => ?_⟩
  obtain ⟨d, n⟩ := x
  obtain ⟨hd, h8⟩ := hx
  have hd : Pv d := hd
  have h8 : n ≤ 8 := h8
  by_cases ht : isTupB d = true
  · obtain ⟨ds, rfl⟩ := tup_of ht
    obtain ⟨hz, hp⟩ := hd.tup
    refine ds_seq (ds_if (EvT.dl (b := !ds.all wholeB) (evt_or (a := false) (b := !ds.all wholeB) (evt_not (a := true) (evt_tru_bl (ev_isi (ev_var rfl) ev_raw (.inl rfl) (.ty "tuple") rfl))) fun _ => evt_not (evt_tru_bl (ev_all_lc (K := K) (xs := ds) (c := fun d => d) (b := wholeB) ?it (by omega) fun k hk => ⟨[2], _, dg_name, fun i hi => hi, evt_yes, ev_call (s := spWholeG) (x := k) (eva_cons (ev_var rfl) eva_nil) (np1 (hp k hk) rfl) (hp k hk) fun d h => h⟩))) ⟨fun h => ?_, fun h => ds_next ?_⟩))
    case it => rw [List.map_id']; exact ej_tup (ev_var rfl)
    · refine ds_ret (Ev.dl ev_bl ?_)
      show D.bl false = D.bl (ds.all wholeB && _)
      rw [Bool.not_eq_true'] at h
      rw [h]; rfl
    · rw [Bool.not_eq_false'] at h
      refine ds_ret (Ev.dl (ev_op (x := .lst (((ds.map intOf).mergeSort (fun a b => decide (a ≤ b))).map D.int)) (y := .lst ((rangeI n).map D.int)) (EvN.ev ?srt) (EvN.ev ?rg) eq_intsL) ?_)
      case srt => exact evn_sortT (ns := ds.map intOf) (ev_cast (congrArg D.tup (all_ints h)) (ev_var rfl)) (by rw [List.length_map]; omega) fun ns h1 h2 => sort_u h1 h2
      case rg => rw [← rng_int]; exact evn_listRg (ev_var rfl) (by omega)
      show D.bl _ = D.bl (ds.all wholeB && _)
      rw [h]; rfl
  · have ht : isTupB d = false := by simpa using ht
    refine ds_seq (ds_if (EvT.dl (b := true) (evt_or (a := true) (b := false) (evt_not (a := false) (evt_tru_bl (ev_isi (ev_var rfl) ev_raw (.inl hd.ty) (.ty "tuple") (by rw [kit_tup hd.ty, ht])))) fun h => (nomatch h)) ⟨fun _ => ds_ret (Ev.dl ev_bl ?_), fun h => (nomatch h)⟩))
    cases d <;> first | rfl | exact nomatch ht
end K26

namespace K26
open PySem PySem.Spec PyProof.Rows L2 Dw
theorem d_are_names {P : Program} {w : World} {K : PySem.W.Frag} {mg : Str → Option Value} {base : Heap} (T : Txt K w mg) : FnOk P w K mg base CX0 2 T.f_are_names T.e_are_names ["values"] (toSp (spNamesG)) := by
  refine fn_ok T.F_are_names sc_are_names (fun _ => rfl) fun cdv A outer s' H E hr => ?_
  refine ⟨_, (pss_cons (ps_if (pt_not (truA K (pe_callB (allA K) (by rfl) T.n_all (by decide +kernel) (pa_cons (pe_lc (own := [("value", 3)]) rfl sc_are_names.nd (piR K (pv 0)) (blkOk_by (own := [("value", 3)]) (N := N_are_names) (sc := (defScope s_are_names)) (by decide +kernel)) (fun _ _ _ _ _ => pg_name (i := 3) sc_are_names.nd rfl (Or.inl rfl)) (fun _ _ _ _ _ => pts_nil) (fun _ _ _ _ _ => (pe_call (d_is_name T) (hr.mono (by decide)) (by rfl) T.m_is_name T.F_is_name.kp T.b_is_name .nil pass0 (pa_cons (pv 3) pa_nil)))) pa_nil)))) (pss_one (ps_ret pe_bl)) pss_nil) (pss_one (ps_ret (pe_callB (allA K) (by rfl) T.n_all (by decide +kernel) (pa_cons (pe_lc (own := [("one", 1), ("other", 2)]) rfl sc_are_names.nd (zipA K (by rfl) T.n_zip (pa_cons (pv 0) (pa_cons (pe_slice (slXA K) (pv 0) (po_some pe_int) po_none) pa_nil))) (blkOk_by (own := [("one", 1), ("other", 2)]) (N := N_are_names) (sc := (defScope s_are_names)) (by decide +kernel)) (fun _ _ _ _ _ => tupA K 2 rfl (pgs_cons (pg_name (i := 1) sc_are_names.nd rfl (Or.inl rfl)) (pgs_cons (pg_name (i := 2) sc_are_names.nd rfl (Or.inl rfl)) pgs_nil))) (fun _ _ _ _ _ => pts_nil) (fun _ _ _ _ _ => (pe_cmpR opLt (pv 1) (pv 2) (nomark _)))) pa_nil))))), fun x hx => ?_⟩
  obtain ⟨ds, rfl⟩ : ∃ l : List D, l = x := ⟨x, rfl⟩
  have hd : Pv (.tup ds) := hx
  obtain ⟨hz, hp⟩ := hd.tup
  refine ds_seq (ds_if (EvT.dl (b := !ds.all nmB) (evt_not (evt_tru_bl (ev_all_lc (K := K) (xs := ds) (c := fun d => d) (b := nmB) ?it (by omega) fun k hk => ⟨[3], _, dg_name, fun i hi => hi, evt_yes, ev_call (s := spNameG) (x := k) (eva_cons (ev_var rfl) eva_nil) (np1 (hp k hk) rfl) (hp k hk) fun d h => h⟩))) ⟨fun h => ?_, fun h => ds_next ?_⟩))
  case it => rw [List.map_id']; exact ej_tup (ev_var rfl)
  · refine ds_ret (Ev.dl ev_bl ?_)
    show D.bl false = D.bl (namesB ds)
    unfold namesB
    rw [Bool.not_eq_true'] at h
    rw [h]; rfl
  · rw [Bool.not_eq_false'] at h
    obtain ⟨e, hn⟩ := all_names h
    generalize hls : ds.map codesOf = ls at e hn
    subst e
    have el : (nameD ls).length = ls.length := List.length_map ..
    refine ds_ret (Ev.dl (ev_all_lc (xs := ls.zip (ls.drop 1)) (c := fun p => .tup [.str (tx p.1), .str (tx p.2)]) (b := fun p => decide (p.1 < p.2)) ?_ ?_ ?_) ?_)
    · rw [← zip_names]
      have e : nameD (ls.drop 1) = Dw.cutD (nameD ls) (some 1) none := by
        rw [cut_tail]
        unfold nameD
        rw [List.map_drop]
      rw [e]
      exact ei_zipT (ev_var rfl) (ev_sliceTY (ev_var rfl) (eo_some ev_int) eo_none)
    · rw [List.length_zip]; omega
    · intro p hp
      exact ⟨[1] ++ [2], _, dg_tup2 dg_name dg_name, fun i hi => hi, evt_yes, ev_op (ev_var rfl) (ev_var rfl) lt_tx⟩
    · show D.bl (incB ls) = D.bl (namesB (nameD ls))
      unfold namesB
      rw [h, codes_name]; rfl

end K26

namespace K26
open PySem PySem.Spec PyProof.Rows L2 Dw
/-! the layers -/
def rowAt (rs : List (List Nat)) (i : Nat) : List Nat := rs.getD i []
def minB (rs : List (List Nat)) (still : List Nat) (k : Nat) : Bool := still.any fun i => decide (sgn (rowAt rs i) k = 45)
def plusB (rs : List (List Nat)) (lay : List Nat) (i : Nat) : Bool := lay.any fun k => decide (sgn (rowAt rs i) k = 43)
def openB (rs : List (List Nat)) (i : Nat) : Bool := (rowAt rs i).any fun c => !decide (c = 46)
def open0 (rs : List (List Nat)) : List Nat := (List.range rs.length).filter (openB rs)
def layF (rs : List (List Nat)) : Nat → List (List Nat) → List Nat → List Nat → List (List Nat) × List Nat
  | 0, made, _, still => (made, still)
  | f + 1, made, left, still =>
    if still = [] then (if left = [] then made else made ++ [left], [])
    else if left.filter (fun k => !minB rs still k) = [] then (made, still)
    else layF rs f (made ++ [left.filter fun k => !minB rs still k]) (left.filter (minB rs still)) (still.filter fun i => !plusB rs (left.filter fun k => !minB rs still k) i)
def splitM (rs : List (List Nat)) (n : Nat) : List (List Nat) × List Nat := layF rs (n + 1) [] (List.range n) (open0 rs)
/-- a row that some layer settles, all ahead of it being dots, and none of it a minus -/
def Settled (rs : List (List Nat)) (made : List (List Nat)) (i : Nat) : Prop := ∃ pre lay post, made = pre ++ lay :: post ∧ (∀ l ∈ pre, ∀ k ∈ l, sgn (rowAt rs i) k = 46) ∧ (∀ k ∈ lay, sgn (rowAt rs i) k ≠ 45) ∧ ∃ k ∈ lay, sgn (rowAt rs i) k = 43
structure LayI (rs : List (List Nat)) (n : Nat) (made : List (List Nat)) (left still : List Nat) : Prop where
  perm : (made.flatten ++ left).Perm (List.range n)
  ne : ∀ l ∈ made, l ≠ []
  sub : still.Sublist (open0 rs)
  dots : ∀ i ∈ still, ∀ l ∈ made, ∀ k ∈ l, sgn (rowAt rs i) k = 46
  done : ∀ i ∈ open0 rs, i ∉ still → Settled rs made i
  inc : left.Sublist (List.range n)
theorem Settled.more {rs made i} (l : List (List Nat)) (h : Settled rs made i) : Settled rs (made ++ l) i := by
  obtain ⟨pre, lay, post, rfl, h1, h2, h3⟩ := h
  exact ⟨pre, lay, post ++ l, by simp, h1, h2, h3⟩
theorem filter_split (p : Nat → Bool) : ∀ l : List Nat, ((l.filter fun k => !p k) ++ l.filter p).Perm l
  | [] => .refl _
  | a :: l => by
    have ih := filter_split p l
    cases h : p a with
    | true =>
      rw [List.filter_cons_of_neg (by simp [h]), List.filter_cons_of_pos h]
      exact (List.perm_middle).trans (ih.cons a)
    | false =>
      rw [List.filter_cons_of_pos (by simp [h]), List.filter_cons_of_neg (by simp [h])]
      exact ih.cons a
theorem LayI.next {rs n made left still} (hs : ∀ i c, sgn (rowAt rs i) c = 43 ∨ sgn (rowAt rs i) c = 45 ∨ sgn (rowAt rs i) c = 46) (h : LayI rs n made left still) (hl : left.filter (fun k => !minB rs still k) ≠ []) :
    LayI rs n (made ++ [left.filter fun k => !minB rs still k]) (left.filter (minB rs still)) (still.filter fun i => !plusB rs (left.filter fun k => !minB rs still k) i) := by
  have nomin : ∀ i ∈ still, ∀ k ∈ left.filter (fun k => !minB rs still k), sgn (rowAt rs i) k ≠ 45 := fun i hi k hk z => by
    have h1 := (List.mem_filter.mp hk).2
    have : minB rs still k = true := List.any_eq_true.mpr ⟨i, hi, decide_eq_true z⟩
    rw [this] at h1; cases h1
  refine ⟨?_, fun l hm => ?_, (List.filter_sublist).trans h.sub, fun i hi l hm k hk => ?_, fun i hi hn => ?_, (List.filter_sublist).trans h.inc⟩
  · rw [List.flatten_append, List.append_assoc]
    refine (List.Perm.append_left _ ?_).trans h.perm
    simp only [List.flatten_cons, List.flatten_nil, List.append_nil]
    exact filter_split _ left
  · rcases List.mem_append.mp hm with hm | hm
    · exact h.ne l hm
    · rw [List.mem_singleton.mp hm]; exact hl
  · obtain ⟨hi, hp⟩ := List.mem_filter.mp hi
    rcases List.mem_append.mp hm with hm | hm
    · exact h.dots i hi l hm k hk
    · rw [List.mem_singleton.mp hm] at hk
      rcases hs i k with z | z | z
      · have : plusB rs (left.filter fun k => !minB rs still k) i = true := List.any_eq_true.mpr ⟨k, hk, decide_eq_true z⟩
        rw [this] at hp; cases hp
      · exact absurd z (nomin i hi k hk)
      · exact z
  · by_cases hi2 : i ∈ still
    · have hp : plusB rs (left.filter fun k => !minB rs still k) i = true := by
        cases q : plusB rs (left.filter fun k => !minB rs still k) i with
        | true => rfl
        | false => exact absurd (List.mem_filter.mpr ⟨hi2, by rw [q]; rfl⟩) hn
      obtain ⟨k, hk, z⟩ := List.any_eq_true.mp hp
      exact ⟨made, _, [], by simp, fun l hm k hk => h.dots i hi2 l hm k hk, nomin i hi2, k, hk, of_decide_eq_true z⟩
    · exact (h.done i hi hi2).more _
theorem lay_len {rs : List (List Nat)} {left still : List Nat} (hl : left.filter (fun k => !minB rs still k) ≠ []) : (left.filter (minB rs still)).length < left.length := by
  have := (filter_split (minB rs still) left).length_eq
  rw [List.length_append] at this
  have h2 : 0 < (left.filter fun k => !minB rs still k).length := List.length_pos_iff.mpr hl
  omega
theorem layI_0 (rs : List (List Nat)) (n : Nat) : LayI rs n [] (List.range n) (open0 rs) :=
  ⟨.refl _, fun l h => absurd h (by simp), List.Sublist.refl _, fun i _ l h => absurd h (by simp), fun i h h' => absurd h h', List.Sublist.refl _⟩
/-- how the making ends -/
theorem layF_end {rs : List (List Nat)} {n : Nat} (hs : ∀ i c, sgn (rowAt rs i) c = 43 ∨ sgn (rowAt rs i) c = 45 ∨ sgn (rowAt rs i) c = 46) : ∀ (f : Nat) (made : List (List Nat)) (left still : List Nat), LayI rs n made left still → left.length < f →
    (∃ ls, layF rs f made left still = (ls, []) ∧ LayI rs n ls [] []) ∨ (∃ ls lf st, layF rs f made left still = (ls, st) ∧ st ≠ [] ∧ LayI rs n ls lf st ∧ lf.filter (fun k => !minB rs st k) = [])
  | 0, _, _, _, _, h => absurd h (Nat.not_lt_zero _)
  | f + 1, made, left, still, h, hf => by
    unfold layF
    by_cases h1 : still = []
    · subst h1
      rw [if_pos rfl]
      refine .inl ⟨_, rfl, ?_⟩
      by_cases h2 : left = []
      · rw [if_pos h2]; subst h2; exact h
      · rw [if_neg h2]
        refine ⟨?_, fun l hm => ?_, h.sub, fun i hi => absurd hi (by simp), fun i hi hn => (h.done i hi hn).more _, List.nil_sublist _⟩
        · have := h.perm
          simpa using this
        · rcases List.mem_append.mp hm with hm | hm
          · exact h.ne l hm
          · rw [List.mem_singleton.mp hm]; exact h2
    · rw [if_neg h1]
      by_cases h2 : left.filter (fun k => !minB rs still k) = []
      · rw [if_pos h2]; exact .inr ⟨_, _, _, rfl, h1, h, h2⟩
      · rw [if_neg h2]
        exact layF_end hs f _ _ _ (h.next hs h2) (by have := lay_len h2; omega)
/-- a row along an order: dots, then a sign -/
theorem told_dots {l : List Nat} : ∀ {p : List Nat}, (∀ k ∈ p, sgn l k = 46) → told l p = []
  | [], _ => rfl
  | k :: p, h => by
    have ih := told_dots (l := l) (p := p) fun j hj => h j (List.mem_cons_of_mem _ hj)
    unfold told at ih ⊢
    rw [List.map_cons, List.filter_cons_of_neg (by rw [h k List.mem_cons_self]; decide)]
    exact ih
theorem told_app (l p q : List Nat) : told l (p ++ q) = told l p ++ told l q := by
  unfold told
  rw [List.map_append, List.filter_append]
theorem holds_lay {l : List Nat} : ∀ {q : List Nat}, (∀ k ∈ q, sgn l k = 43 ∨ sgn l k = 46) → (∃ k ∈ q, sgn l k = 43) → ∀ r, holdsB l (q ++ r) = true
  | [], _, h, _ => by obtain ⟨k, hk, _⟩ := h; cases hk
  | k :: q, h, h2, r => by
    rcases h k List.mem_cons_self with z | z
    · unfold holdsB told
      rw [List.cons_append, List.map_cons, List.filter_cons_of_pos (by rw [z]; decide), z]; rfl
    · have : told l (k :: q ++ r) = told l (q ++ r) := by
        unfold told
        rw [List.cons_append, List.map_cons, List.filter_cons_of_neg (by rw [z]; decide)]
      unfold holdsB
      rw [this]
      obtain ⟨j, hj, zj⟩ := h2
      rcases List.mem_cons.mp hj with rfl | hj
      · rw [z] at zj; cases zj
      · exact holds_lay (fun x hx => h x (List.mem_cons_of_mem _ hx)) ⟨j, hj, zj⟩ r
theorem holds_pre {l p q : List Nat} (h : ∀ k ∈ p, sgn l k = 46) : holdsB l (p ++ q) = holdsB l q := by
  unfold holdsB
  rw [told_app, told_dots h]; rfl
theorem holds_dots {l p : List Nat} (h : ∀ k ∈ p, sgn l k = 46) : holdsB l p = true := by
  unfold holdsB
  rw [told_dots h]
/-- layers each in some order -/
def walked (g : List Nat → List Nat) (ls : List (List Nat)) : List Nat := (ls.map g).flatten
theorem walked_perm {g : List Nat → List Nat} (hg : ∀ l, (g l).Perm l) : ∀ ls : List (List Nat), (walked g ls).Perm ls.flatten
  | [] => .refl _
  | l :: ls => by
    show (g l ++ walked g ls).Perm (l ++ ls.flatten)
    exact (hg l).append (walked_perm hg ls)
theorem settled_holds {rs : List (List Nat)} {ls : List (List Nat)} {i : Nat} (hs : ∀ i c, sgn (rowAt rs i) c = 43 ∨ sgn (rowAt rs i) c = 45 ∨ sgn (rowAt rs i) c = 46) {g : List Nat → List Nat} (hg : ∀ l, (g l).Perm l) (h : Settled rs ls i) : holdsB (rowAt rs i) (walked g ls) = true := by
  obtain ⟨pre, lay, post, rfl, h1, h2, k, hk, hk2⟩ := h
  have e : walked g (pre ++ lay :: post) = walked g pre ++ (g lay ++ walked g post) := by
    unfold walked
    simp
  rw [e, holds_pre fun k hk => ?_]
  · refine holds_lay (fun j hj => ?_) ⟨k, (hg lay).mem_iff.mpr hk, hk2⟩ _
    rcases hs i j with z | z | z
    · exact .inl z
    · exact absurd z (h2 j ((hg lay).mem_iff.mp hj))
    · exact .inr z
  · have hm := (walked_perm hg pre).mem_iff.mp hk
    obtain ⟨l, hl, hk⟩ := List.mem_flatten.mp hm
    exact h1 l hl k hk
theorem closed_dots {rs : List (List Nat)} {i : Nat} (hi : i < rs.length) (h : i ∉ open0 rs) (k : Nat) : sgn (rowAt rs i) k = 46 := by
  have hn : openB rs i = false := by
    cases q : openB rs i with
    | false => rfl
    | true => exact absurd (List.mem_filter.mpr ⟨List.mem_range.mpr hi, q⟩) h
  unfold openB at hn
  unfold sgn
  rw [List.getD_eq_getElem?_getD]
  cases q : (rowAt rs i)[k]? with
  | none => rfl
  | some c =>
    have := (List.any_eq_false.mp hn) c (List.mem_of_getElem? q)
    simpa using this
/-- where the layers end well, each order through them fits -/
theorem lay_fits {rs : List (List Nat)} {n : Nat} {ls : List (List Nat)} (hs : ∀ i c, sgn (rowAt rs i) c = 43 ∨ sgn (rowAt rs i) c = 45 ∨ sgn (rowAt rs i) c = 46) (h : LayI rs n ls [] []) {g : List Nat → List Nat} (hg : ∀ l, (g l).Perm l) :
    (walked g ls).Perm (List.range n) ∧ ∀ i, i < rs.length → holdsB (rowAt rs i) (walked g ls) = true := by
  refine ⟨(walked_perm hg ls).trans (by have := h.perm; simpa using this), fun i hi => ?_⟩
  by_cases ho : i ∈ open0 rs
  · exact settled_holds hs hg (h.done i ho (by simp))
  · exact holds_dots fun k _ => closed_dots hi ho k
/-- where they end badly, no order fits -/
theorem lay_stuck' {rs : List (List Nat)} {n : Nat} {ls : List (List Nat)} {lf st : List Nat} (h : LayI rs n ls lf st) (hne : st ≠ []) (hl : lf.filter (fun k => !minB rs st k) = []) (hr : ∀ i, i < rs.length → (rowAt rs i).length ≤ n) (o : List Nat) (ho : o.Perm (List.range n)) : ∃ i ∈ st, holdsB (rowAt rs i) o = false := by
  have bar : ∀ k ∈ lf, ∃ i ∈ st, sgn (rowAt rs i) k = 45 := fun k hk => by
    have : minB rs st k = true := by
      cases q : minB rs st k with
      | true => rfl
      | false =>
        have hm : k ∈ lf.filter (fun k => !minB rs st k) := List.mem_filter.mpr ⟨hk, by rw [q]; rfl⟩
        rw [hl] at hm; cases hm
    obtain ⟨i, hi, z⟩ := List.any_eq_true.mp this
    exact ⟨i, hi, of_decide_eq_true z⟩
  have inn : ∀ i ∈ st, i < rs.length := fun i hi => List.mem_range.mp (List.mem_filter.mp (h.sub.subset hi)).1
  have pl : ∀ k < n, k ∉ lf → ∀ i ∈ st, sgn (rowAt rs i) k = 46 := fun k hk hn i hi => by
    have : k ∈ ls.flatten ++ lf := h.perm.mem_iff.mpr (List.mem_range.mpr hk)
    rcases List.mem_append.mp this with hm | hm
    · obtain ⟨l, hl, hk⟩ := List.mem_flatten.mp hm
      exact h.dots i hi l hl k hk
    · exact absurd hm hn
  have hlf : ∃ k ∈ lf, k < n := by
    obtain ⟨i, hi⟩ := List.exists_mem_of_ne_nil st hne
    have ho := (List.mem_filter.mp (h.sub.subset hi)).2
    obtain ⟨c, hc, z⟩ := List.any_eq_true.mp ho
    obtain ⟨k, hk, e⟩ := List.mem_iff_getElem.mp hc
    have hkn : k < n := Nat.lt_of_lt_of_le hk (hr i (inn i hi))
    by_cases hk2 : k ∈ lf
    · exact ⟨k, hk2, hkn⟩
    · have := pl k hkn hk2 i hi
      unfold sgn at this
      rw [List.getD_eq_getElem?_getD, List.getElem?_eq_getElem hk] at this
      have this : (rowAt rs i)[k] = 46 := this
      rw [e] at this
      rw [this] at z; cases z
  obtain ⟨k0, hk0, hk0n⟩ := hlf
  -- the first of the order that is in no layer
  have first : ∀ o : List Nat, (∃ k ∈ o, k ∈ lf) → ∃ p k q, o = p ++ k :: q ∧ k ∈ lf ∧ ∀ j ∈ p, j ∉ lf := fun o => by
    induction o with
    | nil => rintro ⟨k, hk, _⟩; cases hk
    | cons a o ih =>
      intro hx
      by_cases ha : a ∈ lf
      · exact ⟨[], a, o, rfl, ha, fun j hj => absurd hj (by simp)⟩
      · obtain ⟨k, hk, hk2⟩ := hx
        rcases List.mem_cons.mp hk with rfl | hk
        · exact absurd hk2 ha
        · obtain ⟨p, j, q, e, h1, h2⟩ := ih ⟨k, hk, hk2⟩
          refine ⟨a :: p, j, q, by rw [e]; rfl, h1, fun x hx => ?_⟩
          rcases List.mem_cons.mp hx with rfl | hx
          · exact ha
          · exact h2 x hx
  obtain ⟨p, k, q, e, h1, h2⟩ := first o ⟨k0, ho.mem_iff.mpr (List.mem_range.mpr hk0n), hk0⟩
  obtain ⟨i, hi, z⟩ := bar k h1
  refine ⟨i, hi, ?_⟩
  rw [e, holds_pre fun j hj => pl j (List.mem_range.mp (ho.mem_iff.mp (by rw [e]; exact List.mem_append_left _ hj))) (h2 j hj) i hi]
  unfold holdsB told
  rw [List.map_cons, List.filter_cons_of_pos (by rw [z]; decide), z]; rfl
theorem lay_stuck {rs : List (List Nat)} {n : Nat} {ls : List (List Nat)} {lf st : List Nat} (h : LayI rs n ls lf st) (hne : st ≠ []) (hl : lf.filter (fun k => !minB rs st k) = []) (hr : ∀ i, i < rs.length → (rowAt rs i).length ≤ n) (o : List Nat) (ho : o.Perm (List.range n)) : ∃ i, i < rs.length ∧ holdsB (rowAt rs i) o = false := by
  obtain ⟨i, hi, z⟩ := lay_stuck' h hne hl hr o ho
  exact ⟨i, List.mem_range.mp (List.mem_filter.mp (h.sub.subset hi)).1, z⟩
/-! all orders -/
def allM (n : Nat) : Nat → List (List Nat)
  | 0 => [[]]
  | i + 1 => (allM n i).flatMap fun o => ((List.range n).filter fun k => !decide (k ∈ o)).map fun k => o ++ [k]
theorem allM_mem (n : Nat) : ∀ (i : Nat) (o : List Nat), o ∈ allM n i ↔ o.length = i ∧ o.Nodup ∧ ∀ k ∈ o, k < n
  | 0, o => by
    show o ∈ [[]] ↔ _
    constructor
    · intro h; rw [List.mem_singleton.mp h]; exact ⟨rfl, List.nodup_nil, fun k h => absurd h (by simp)⟩
    · rintro ⟨h, _⟩
      rw [List.length_eq_zero_iff.mp h]; exact List.mem_singleton.mpr rfl
  | i + 1, o => by
    show o ∈ List.flatMap _ _ ↔ _
    rw [List.mem_flatMap]
    constructor
    · rintro ⟨p, hp, ho⟩
      obtain ⟨k, hk, rfl⟩ := List.mem_map.mp ho
      obtain ⟨hk1, hk2⟩ := List.mem_filter.mp hk
      obtain ⟨l, nd, lt⟩ := (allM_mem n i p).mp hp
      have hkp : k ∉ p := by simpa using hk2
      refine ⟨by rw [List.length_append, l]; rfl, ?_, fun j hj => ?_⟩
      · rw [List.nodup_append]
        exact ⟨nd, by simp, fun a ha b hb e => by rw [List.mem_singleton.mp hb] at e; subst e; exact hkp ha⟩
      · rcases List.mem_append.mp hj with hj | hj
        · exact lt j hj
        · rw [List.mem_singleton.mp hj]; exact List.mem_range.mp hk1
    · rintro ⟨l, nd, lt⟩
      have hne : o ≠ [] := fun z => by rw [z] at l; cases l
      have e := List.dropLast_concat_getLast hne
      have nd' := nd
      rw [← e, List.nodup_append] at nd'
      refine ⟨o.dropLast, (allM_mem n i _).mpr ⟨by rw [List.length_dropLast, l]; rfl, nd'.1, fun k hk => lt k (List.dropLast_subset o hk)⟩, List.mem_map.mpr ⟨o.getLast hne, List.mem_filter.mpr ⟨List.mem_range.mpr (lt _ (List.getLast_mem hne)), ?_⟩, e⟩⟩
      have : o.getLast hne ∉ o.dropLast := fun z => nd'.2.2 _ z _ (List.mem_singleton.mpr rfl) rfl
      simpa using this
theorem nd_perm : ∀ (o m : List Nat), o.Nodup → (∀ k ∈ o, k ∈ m) → m.length ≤ o.length → o.Perm m
  | [], m, _, _, h => by
    have : m = [] := List.length_eq_zero_iff.mp (Nat.le_zero.mp h)
    subst this; exact .refl _
  | a :: o, m, nd, hm, hl => by
    have p := List.perm_cons_erase (hm a List.mem_cons_self)
    obtain ⟨n1, n2⟩ := List.nodup_cons.mp nd
    refine ((nd_perm o (m.erase a) n2 (fun k hk => (List.mem_erase_of_ne (fun e : k = a => n1 (by rw [← e]; exact hk))).mpr (hm k (List.mem_cons_of_mem _ hk))) ?_).cons a).trans p.symm
    have := p.length_eq
    rw [List.length_cons] at this hl
    omega
theorem perm_iff {n : Nat} {o : List Nat} : o.Perm (List.range n) ↔ o.length = n ∧ o.Nodup ∧ ∀ k ∈ o, k < n := by
  constructor
  · intro h
    exact ⟨by rw [h.length_eq, List.length_range], h.nodup_iff.mpr List.nodup_range, fun k hk => List.mem_range.mp (h.mem_iff.mp hk)⟩
  · rintro ⟨l, nd, lt⟩
    exact nd_perm o _ nd (fun k hk => List.mem_range.mpr (lt k hk)) (by rw [List.length_range, l]; exact Nat.le_refl _)
def fitM (rs : List (List Nat)) (n : Nat) : List (List Nat) := (allM n n).filter fun o => rs.all fun r => holdsB r o
theorem fitM_mem {rs : List (List Nat)} {n : Nat} {o : List Nat} : o ∈ fitM rs n ↔ o.Perm (List.range n) ∧ ∀ r ∈ rs, holdsB r o = true := by
  unfold fitM
  rw [List.mem_filter, allM_mem, perm_iff, List.all_eq_true]
theorem all_rows {rs : List (List Nat)} {p : List Nat → Prop} : (∀ r ∈ rs, p r) ↔ ∀ i, i < rs.length → p (rowAt rs i) := by
  constructor
  · intro h i hi
    unfold rowAt
    rw [List.getD_eq_getElem?_getD, List.getElem?_eq_getElem hi]
    exact h _ (List.getElem_mem hi)
  · intro h r hr
    obtain ⟨i, hi, rfl⟩ := List.mem_iff_getElem.mp hr
    have := h i hi
    unfold rowAt at this
    rw [List.getD_eq_getElem?_getD, List.getElem?_eq_getElem hi] at this
    exact this
end K26

namespace K26
open PySem PySem.Spec PyProof.Rows L2 Dw
theorem small8' {n : Nat} (h : n ≤ 1000) : n ≤ 1000000 := by omega
theorem ordD_N (o : List Nat) : ordD o = ordN o := rfl
theorem ordD_int (o : List Nat) : ordD o = (o.map fun k : Nat => (k : Int)).map D.int := by unfold ordD; rw [List.map_map]; rfl
theorem np_to {o : List Nat} {r : List D} (h : noPs r = true) : noPs (.tup (ordD o) :: r) = true := by show (noPs (ordD o) && noPs r) = true; rw [np_ord, h]; rfl
theorem np_lo {o : List Nat} {r : List D} (h : noPs r = true) : noPs (.lst (ordD o) :: r) = true := by show (noPs (ordD o) && noPs r) = true; rw [np_ord, h]; rfl
theorem np_tn {o : List (List Nat)} {r : List D} (h : noPs r = true) : noPs (.tup (nameD o) :: r) = true := by show (noPs (nameD o) && noPs r) = true; rw [np_name, h]; rfl
theorem np_ln {o : List (List Nat)} {r : List D} (h : noPs r = true) : noPs (.lst (nameD o) :: r) = true := by show (noPs (nameD o) && noPs r) = true; rw [np_name, h]; rfl
theorem np_bk {C : Addr} {ls rs : List (List Nat)} {r : List D} (h : noPs r = true) : noPs (bookD C ls rs :: r) = true := by
  have e := np_book C ls rs
  have e : (noP (bookD C ls rs) && true) = true := e
  rw [Bool.and_true] at e
  show (noP (bookD C ls rs) && noPs r) = true
  rw [e, h]; rfl
theorem rowAt_at {rs : List (List Nat)} {i : Nat} (h : i < rs.length) : atI (nameD rs) (i : Int) = some (.str (tx (rowAt rs i))) := by
  refine atI_nat ?_
  unfold nameD rowAt
  rw [List.getElem?_map, List.getElem?_eq_getElem h, List.getD_eq_getElem?_getD, List.getElem?_eq_getElem h]; rfl
theorem rowAt_ok {rs : List (List Nat)} {n i : Nat} (h : ∀ r ∈ rs, RowOk r n) (hi : i < rs.length) : RowOk (rowAt rs i) n := by
  unfold rowAt
  rw [List.getD_eq_getElem?_getD, List.getElem?_eq_getElem hi]
  exact h _ (List.getElem_mem hi)
theorem rowAt_sgn {rs : List (List Nat)} {n : Nat} (h : ∀ r ∈ rs, RowOk r n) (i c : Nat) : sgn (rowAt rs i) c = 43 ∨ sgn (rowAt rs i) c = 45 ∨ sgn (rowAt rs i) c = 46 := by
  by_cases hi : i < rs.length
  · exact sgn_is (rowAt_ok h hi) c
  · unfold rowAt sgn
    rw [List.getD_eq_getElem?_getD (l := rs), List.getElem?_eq_none (by omega)]
    exact .inr (.inr rfl)
/-- the plain texts of a row -/
theorem ev_inC {K : PySem.W.Frag} {ta t : TE} {Γ : Gam} {r' : R2} {c : Nat} {l : List Nat} (ha : Ev ta Γ (.str (ch c))) (h : EvB t Γ (chD l)) : Ev (tOp (rOr (rIn K false) r') ta t) Γ (.bl (decide (c ∈ l))) := by
  have e := ev_in (neg := false) (K := K) (r' := r') ha h rfl (sc_ch l)
  rw [show (if false = true then !inV (scV (.str (ch c))) ((chD l).map scV) else inV (scV (.str (ch c))) ((chD l).map scV)) = decide (c ∈ l) from inV_ch c l] at e
  exact e
theorem sgn_ev {K : PySem.W.Frag} {ta tb : TE} {Γ : Gam} {l : List Nat} {n k : Nat} (h : RowOk l n) (h8 : n ≤ 8) (hk : k < n) (ha : Ev ta Γ (.str (tx l))) (hb : Ev tb Γ (.int k)) : Ev (tOp (rIx K) ta tb) Γ (.str (ch (sgn l k))) := ev_op ha hb (dr2_ixS (h.sz h8) (sgn_at h.len hk))
theorem mem_mapB {l : List Nat} {f : Nat → Nat} {c : Nat} : decide (c ∈ l.map f) = l.any fun k => decide (f k = c) := by
  rw [Bool.eq_iff_iff, decide_eq_true_eq, List.mem_map, List.any_eq_true]
  simp only [decide_eq_true_eq]
theorem ok_ordL (l : List Nat) : dOk 1 (.lst (ordD l)) = true := dOks_map fun _ _ => rfl
theorem ok_ordT1 (l : List Nat) : dOk 1 (.tup (ordD l)) = true := dOks_map fun _ _ => rfl
theorem ok_ordTs (l : List (List Nat)) : dOk 2 (.lst (ordT l)) = true := dOks_map fun o _ => ok_ordT1 o
theorem ok_ordTt (l : List (List Nat)) : dOk 2 (.tup (ordT l)) = true := dOks_map fun o _ => ok_ordT1 o
def spIsRk : Spc where
  ty := List Nat × Nat
  args := fun x => [.tup (ordD x.1), .int x.2]
  ok := fun x => x.1.Perm (List.range x.2) ∧ x.2 ≤ 8
  rel := fun _ d => d = .bl true
def spCkRk : Spc where
  ty := List Nat × Nat
  args := fun x => [.tup (ordD x.1), .int x.2]
  ok := fun x => x.1.Perm (List.range x.2) ∧ x.2 ≤ 8
  rel := fun _ d => d = .non
theorem sort_range {n : Nat} {o : List Nat} (h : o.Perm (List.range n)) (ns : List Int) (h1 : ns.Perm (o.map fun k : Nat => (k : Int))) (h2 : ns.Pairwise (· ≤ ·)) : ns = (List.range n).map fun k : Nat => (k : Int) := by
  refine List.Perm.eq_of_pairwise (le := (· ≤ ·)) (fun a b _ _ h h' => Int.le_antisymm h h') h2 ?_ (h1.trans (h.map _))
  refine List.pairwise_map.mpr ((List.pairwise_lt_range (n := n)).imp fun {a b} h => ?_)
  omega
def spRowHolds : Spc where
  ty := List Nat × List Nat
  args := fun x => [.str (tx x.1), .tup (ordD x.2)]
  ok := fun x => ∃ n, RowOk x.1 n ∧ n ≤ 8 ∧ ∀ k ∈ x.2, k < n
  rel := fun x d => d = .bl (holdsB x.1 x.2)
def spAllHold : Spc where
  ty := List (List Nat) × List Nat
  args := fun x => [.tup (nameD x.1), .tup (ordD x.2)]
  ok := fun x => ∃ n, (∀ r ∈ x.1, RowOk r n) ∧ n ≤ 8 ∧ x.1.length ≤ 1000 ∧ ∀ k ∈ x.2, k < n
  rel := fun x d => d = .bl (x.1.all fun r => holdsB r x.2)
theorem holds_at {l o : List Nat} {i k : Nat} (q : o[i]? = some k) (h : ∀ j ∈ o.take i, sgn l j = 46) (hk : sgn l k ≠ 46) : holdsB l o = decide (sgn l k = 43) := by
  obtain ⟨hi, e⟩ := List.getElem?_eq_some_iff.mp q
  have e1 : o = o.take i ++ k :: o.drop (i + 1) := by
    rw [← e, List.getElem_cons_drop, List.take_append_drop]
  have e2 : holdsB l o = holdsB l (o.take i ++ k :: o.drop (i + 1)) := by rw [← e1]
  rw [e2, holds_pre h]
  unfold holdsB told
  rw [List.map_cons, List.filter_cons_of_pos (by simp [hk])]
def spHasSign : Spc where
  ty := List Nat × List Nat × Nat
  args := fun x => [.str (tx x.1), .lst (ordD x.2.1), .str (ch x.2.2)]
  ok := fun x => ∃ n, RowOk x.1 n ∧ n ≤ 8 ∧ x.2.1.length ≤ 8 ∧ ∀ k ∈ x.2.1, k < n
  rel := fun x d => d = .bl (x.2.1.any fun k => decide (sgn x.1 k = x.2.2))
def rowsD (b : Bool) (rs : List (List Nat)) : D := if b = true then .lst (nameD rs) else .tup (nameD rs)
def spSplit : Spc where
  ty := List (List Nat) × Nat × Bool
  args := fun x => [rowsD x.2.2 x.1, .int x.2.1]
  ok := fun x => (∀ r ∈ x.1, RowOk r x.2.1) ∧ x.2.1 ≤ 8 ∧ x.1.length ≤ 1000
  rel := fun x d => d = .tup [.lst (ordT (splitM x.1 x.2.1).1), .lst (ordD (splitM x.1 x.2.1).2)]
theorem np_rd {b : Bool} {o : List (List Nat)} {r : List D} (h : noPs r = true) : noPs (rowsD b o :: r) = true := by
  cases b with
  | true => exact np_ln h
  | false => exact np_tn h
theorem ev_rowsD {K : PySem.W.Frag} {ta tb : TE} {Γ : Gam} {b : Bool} {rs : List (List Nat)} {i : Nat} (hi : i < rs.length) (ha : Ev ta Γ (rowsD b rs)) (hb : Ev tb Γ (.int i)) : Ev (tOp (rIx K) ta tb) Γ (.str (tx (rowAt rs i))) := by
  cases b with
  | true => exact ev_ix (Ev.b (ds := nameD rs) ha) hb (rowAt_at hi)
  | false => exact ev_ixT (ds := nameD rs) ha hb (rowAt_at hi)
theorem ei_rowsD {K : PySem.W.Frag} {ta : TE} {Γ : Gam} {b : Bool} {rs : List (List Nat)} (ha : Ev ta Γ (rowsD b rs)) : Ei (fun σ H R => iEnum K (tCons ta tNil) σ H R ∨ iEnumT K (tCons ta tNil) σ H R) Γ (enumD (nameD rs)) := by
  cases b with
  | true => exact ei_enumL (Ev.b (ds := nameD rs) ha)
  | false => exact ei_enumT ha
theorem enum_rows (rs : List (List Nat)) : enumD (nameD rs) = (List.range rs.length).map fun (i : Nat) => D.tup [.int i, .str (tx (rowAt rs i))] := by
  apply List.ext_getElem?
  intro i
  by_cases hi : i < rs.length
  · obtain ⟨x, hx⟩ : ∃ x, (enumD (nameD rs))[i]? = some x := ⟨_, List.getElem?_eq_getElem (by rw [enumD_length, nameD_len]; exact hi)⟩
    obtain ⟨y, hy, rfl⟩ := enumD_get hx
    rw [hx, List.getElem?_map, List.getElem?_range hi]
    have hy' : (rs.map fun l => D.str (tx l))[i]? = some y := hy
    rw [List.getElem?_map, List.getElem?_eq_getElem hi] at hy'
    cases hy'
    show _ = some (D.tup [.int i, .str (tx (rowAt rs i))])
    unfold rowAt
    rw [List.getD_eq_getElem?_getD, List.getElem?_eq_getElem hi]; rfl
  · rw [List.getElem?_eq_none (by rw [enumD_length, nameD_len]; omega), List.getElem?_eq_none (by simpa using hi)]
theorem open_of {rs : List (List Nat)} {n i : Nat} (h : RowOk (rowAt rs i) n) : (decide (43 ∈ rowAt rs i) || decide (45 ∈ rowAt rs i)) = openB rs i := by
  unfold openB
  rw [Bool.eq_iff_iff, Bool.or_eq_true, decide_eq_true_eq, decide_eq_true_eq, List.any_eq_true]
  constructor
  · rintro (h | h)
    · exact ⟨_, h, rfl⟩
    · exact ⟨_, h, rfl⟩
  · rintro ⟨c, hc, hn⟩
    rcases h.all c hc with rfl | rfl | rfl
    · exact .inl hc
    · exact .inr hc
    · exact absurd hn (by decide)
theorem nin_filter {p : Nat → Bool} (l : List Nat) : (l.filter fun k => !decide (k ∈ l.filter p)) = l.filter fun k => !p k := by
  refine List.filter_congr fun k hk => ?_
  congr 1
  rw [Bool.eq_iff_iff, decide_eq_true_eq, List.mem_filter]
  exact ⟨fun h => h.2, fun h => ⟨hk, h⟩⟩
theorem isEmpty_ord (l : List Nat) : (ordD l).isEmpty = decide (l = []) := by cases l <;> rfl
theorem isEmpty_ordT (l : List (List Nat)) : (ordT l).isEmpty = decide (l = []) := by cases l <;> rfl
theorem ordT_snoc (ms : List (List Nat)) (l : List Nat) : ordT ms ++ [D.tup (ordD l)] = ordT (ms ++ [l]) := by unfold ordT; rw [List.map_append]; rfl
end K26

namespace K26
open PySem PySem.Spec PyProof.Rows L2 Dw
theorem d_has_sign {P : Program} {w : World} {K : PySem.W.Frag} {mg : Str → Option Value} {base : Heap} (T : Txt K w mg) : FnOk P w K mg base CX0 1 T.f_has_sign T.e_has_sign ["row", "rules", "sign"] (toSp (spHasSign)) := by
  refine fn_ok T.F_has_sign sc_has_sign (fun _ => rfl) fun cdv A outer s' H E hr => ?_
  refine ⟨_, (pss_one (ps_ret (pe_cmpR (inA K) (pv 2) (pe_lc (own := [("rule", 3)]) rfl sc_has_sign.nd (piR K (pv 1)) (blkOk_by (own := [("rule", 3)]) (N := N_has_sign) (sc := (defScope s_has_sign)) (by decide +kernel)) (fun _ _ _ _ _ => pg_name (i := 3) sc_has_sign.nd rfl (Or.inl rfl)) (fun _ _ _ _ _ => pts_nil) (fun _ _ _ _ _ => (pe_ix (ixA K) (pv 0) (pv 3) (fun _ _ => rfl)))) (by rfl)))), fun x hx => ?_⟩
  obtain ⟨l, o, c⟩ := x
  obtain ⟨n, hl, h8, hz, hk⟩ := hx
  have hl : RowOk l n := hl
  have hz : o.length ≤ 8 := hz
  have hk : ∀ k ∈ o, k < n := hk
  refine ds_ret (Ev.dl (ev_cast (congrArg D.bl mem_mapB) (ev_inC (l := o.map (sgn l)) (ev_var rfl) (EvN.b ?_))) rfl)
  have e : chD (o.map (sgn l)) = o.map fun k => D.str (ch (sgn l k)) := by unfold chD; rw [List.map_map]; rfl
  rw [e]
  exact evn_lc1 (xs := o) (c := fun k : Nat => D.int k) (ej_list (ev_var (d := .lst (ordD o)) rfl).b) (by omega) fun k hk' => ⟨[3], _, dg_name, fun i hi => hi, evt_yes, sgn_ev hl h8 (hk k hk') (ev_var rfl) (ev_var rfl)⟩
end K26

namespace K26
open PySem PySem.Spec PyProof.Rows L2 Dw
theorem lay_step {rs : List (List Nat)} {f : Nat} {made : List (List Nat)} {left still : List Nat} (h1 : still ≠ []) : layF rs (f + 1) made left still = if left.filter (fun k => !minB rs still k) = [] then (made, still) else layF rs f (made ++ [left.filter fun k => !minB rs still k]) (left.filter (minB rs still)) (still.filter fun i => !plusB rs (left.filter fun k => !minB rs still k) i) := by
  show (if still = [] then _ else _) = _
  rw [if_neg h1]
theorem lay_done {rs : List (List Nat)} {f : Nat} {made : List (List Nat)} {left : List Nat} : layF rs (f + 1) made left [] = (if left = [] then made else made ++ [left], []) := by
  show (if _ then _ else _) = _
  rw [if_pos rfl]
def RowsOk (rs : List (List Nat)) (n : Nat) : Prop := (∀ r ∈ rs, RowOk r n) ∧ n ≤ 8 ∧ rs.length ≤ 1000
/-- what stays so while layers are made -/
structure Mk (rs : List (List Nat)) (n m : Nat) (made : List (List Nat)) (left still : List Nat) : Prop where
  eq : layF rs m made left still = splitM rs n
  lt : left.length < m
  few : made.length + left.length ≤ n
  ltn : ∀ k ∈ left, k < n
  ltr : ∀ i ∈ still, i < rs.length
  fst : still.length ≤ rs.length
  flat : made.flatten.length + left.length ≤ n
theorem mk_0 (rs : List (List Nat)) (n : Nat) : Mk rs n (n + 1) [] (List.range n) (open0 rs) := ⟨rfl, by rw [List.length_range]; omega, by rw [List.length_range]; exact Nat.le_of_eq (Nat.zero_add n), fun k h => List.mem_range.mp h, fun i h => List.mem_range.mp (List.mem_filter.mp h).1, by
  have := List.length_filter_le (openB rs) (List.range rs.length)
  rw [List.length_range] at this; exact this, by rw [List.length_range]; exact Nat.le_of_eq (Nat.zero_add n)⟩
theorem Mk.next {rs n m made left still} (h : Mk rs n (m + 1) made left still) (h1 : still ≠ []) (h2 : left.filter (fun k => !minB rs still k) ≠ []) : Mk rs n m (made ++ [left.filter fun k => !minB rs still k]) (left.filter (minB rs still)) (still.filter fun i => !plusB rs (left.filter fun k => !minB rs still k) i) := by
  have l := lay_len h2
  have e := h.eq
  rw [lay_step h1, if_neg h2] at e
  refine ⟨e, by have := h.lt; omega, ?_, fun k hk => h.ltn k (List.mem_filter.mp hk).1, fun i hi => h.ltr i (List.mem_filter.mp hi).1, Nat.le_trans (List.length_filter_le _ _) h.fst, ?_⟩
  · have := h.few
    rw [List.length_append]
    show made.length + 1 + _ ≤ n
    omega
  · have := h.flat
    have e2 := (filter_split (minB rs still) left).length_eq
    rw [List.length_append] at e2
    rw [List.flatten_append, List.length_append]
    simp only [List.flatten_cons, List.flatten_nil, List.append_nil]
    omega
def layOut (rs : List (List Nat)) (n : Nat) : D := .tup [.lst (ordT (splitM rs n).1), .lst (ordD (splitM rs n).2)]
theorem minB_any {rs : List (List Nat)} {still : List Nat} {k : Nat} : decide (45 ∈ still.map fun i => sgn (rowAt rs i) k) = minB rs still k := mem_mapB
def spLay (C : Addr) : Spc where
  ty := Bk
  args := fun x => [bookD C x.1 x.2]
  ok := fun x => BookOk x.1 x.2
  rel := fun x d => d = if (splitM x.2 x.1.length).2 = [] then .tup (ordT (splitM x.2 x.1.length).1) else .non
def spOver (C : Addr) : Spc where
  ty := Bk
  args := fun x => [bookD C x.1 x.2]
  ok := fun x => BookOk x.1 x.2
  rel := fun x d => d = if (splitM x.2 x.1.length).2 = [] then .non else .tup (ordD (splitM x.2 x.1.length).2)
def spFits (C : Addr) : Spc where
  ty := Bk × List Nat
  args := fun x => [bookD C x.1.1 x.1.2, .tup (ordD x.2)]
  ok := fun x => BookOk x.1.1 x.1.2 ∧ x.2.Perm (List.range x.1.1.length)
  rel := fun x d => d = .bl (x.1.2.all fun r => holdsB r x.2)
theorem BookOk.n8 {ls rs} (h : BookOk ls rs) : ls.length ≤ 8 := h.names.hi
theorem ev_names {C : Addr} {K : PySem.W.Frag} {t : TE} {Γ : Gam} {ls rs : List (List Nat)} (h : Ev t Γ (.tup (nameD ls))) : Ev (tCB (Dw.rLen K) (tCons t tNil)) Γ (.int (ls.length : Nat)) := ev_cast (congrArg (fun n : Nat => D.int n) (nameD_len ls)) (ev_lenT (ds := nameD ls) h)
end K26

namespace K26
open PySem PySem.Spec PyProof.Rows L2 Dw
theorem d_split {P : Program} {w : World} {K : PySem.W.Frag} {mg : Str → Option Value} {base : Heap} (T : Txt K w mg) : FnOk P w K mg base CX0 2 T.f_split T.e_split ["rows", "many"] (toSp (spSplit)) := by
  refine fn_ok T.F_split sc_split (fun _ => rfl) fun cdv A outer s' H E hr => ?_
  refine ⟨_, (pss_cons (ps_set (i := 2) sc_split.nd rfl (Or.inl rfl) (pe_lst pa_nil)) (pss_cons (ps_set (i := 3) sc_split.nd rfl (Or.inl rfl) (pe_listRg rfl (by rfl) T.n_list (prg_1 (by rfl) T.n_range (pv 1)))) (pss_cons (ps_set (i := 4) sc_split.nd rfl (Or.inr rfl) (pe_lc (own := [("index", 7), ("row", 8)]) rfl sc_split.nd (enumTA K (by rfl) T.n_enumerate (pa_cons (pv 0) pa_nil)) (blkOk_by (own := [("index", 7), ("row", 8)]) (N := N_split) (sc := (defScope s_split)) (by decide +kernel)) (fun _ _ _ _ _ => tupA K 2 rfl (pgs_cons (pg_name (i := 7) sc_split.nd rfl (Or.inl rfl)) (pgs_cons (pg_name (i := 8) sc_split.nd rfl (Or.inl rfl)) pgs_nil))) (fun _ _ _ _ _ => pts_one (PW.pt (pw_or (pt_cmpR (inA K) pe_str (pv 8) (by rfl)) (pw_or1 (pt_cmpR (inA K) pe_str (pv 8) (by rfl)))))) (fun _ _ _ _ _ => (pv 7)))) (pss_cons (ps_while PassesOwn.never (truA K (pv 4)) (pss_cons (ps_set (i := 5) sc_split.nd rfl (Or.inr rfl) (pe_lc (own := [("rule", 9)]) rfl sc_split.nd (piR K (pv 3)) (blkOk_by (own := [("rule", 9)]) (N := N_split) (sc := (defScope s_split)) (by decide +kernel)) (fun _ _ _ _ _ => pg_name (i := 9) sc_split.nd rfl (Or.inr rfl)) (fun _ _ _ _ _ => pts_one (pt_cmpR (inA K) pe_str (pe_lc (own := [("index", 7)]) rfl sc_split.nd (piR K (pv 4)) (blkOk_by (own := [("index", 7)]) (N := N_split) (sc := (relS { kind := .function, names := [(".0", .local), ("rule", .cell), ("rows", .free), ("still", .free)], isGenerator := false, isCoroutine := false, more := [] } (defScope s_split))) (by decide +kernel)) (fun _ _ _ _ _ => pg_name (i := 7) sc_split.nd rfl (Or.inl rfl)) (fun _ _ _ _ _ => pts_nil) (fun _ _ _ _ _ => (pe_ix (ixA K) (pe_ix (ixA K) (pv 0) (pv 7) (fun _ _ => rfl)) (pv 9) (fun _ _ => rfl)))) (by rfl))) (fun _ _ _ _ _ => (pv 9)))) (pss_cons (ps_set (i := 6) sc_split.nd rfl (Or.inr rfl) (pe_lc (own := [("rule", 9)]) rfl sc_split.nd (piR K (pv 3)) (blkOk_by (own := [("rule", 9)]) (N := N_split) (sc := (defScope s_split)) (by decide +kernel)) (fun _ _ _ _ _ => pg_name (i := 9) sc_split.nd rfl (Or.inl rfl)) (fun _ _ _ _ _ => pts_one (pt_cmpR (ninA K) (pv 9) (pv 5) (by rfl))) (fun _ _ _ _ _ => (pv 9)))) (pss_cons (ps_if (pt_not (truA K (pv 6))) (pss_one (ps_ret (pe_tup (pa_cons (pv 2) (pa_cons (pv 4) pa_nil))))) pss_nil) (pss_cons (ps_expr (bmA K PySem.F.plainAttrs_list PySem.F.slot_list_append PySem.F.type_list_append mt_append (pv 2) (pa_cons (pe_callTy (tupleA K) (by rfl) T.n_tuple (by decide +kernel) (pa_cons (pv 6) pa_nil)) pa_nil))) (pss_cons (ps_set (i := 3) sc_split.nd rfl (Or.inl rfl) (pv 5)) (pss_one (ps_set (i := 4) sc_split.nd rfl (Or.inr rfl) (pe_lc (own := [("index", 7)]) rfl sc_split.nd (piR K (pv 4)) (blkOk_by (own := [("index", 7)]) (N := N_split) (sc := (defScope s_split)) (by decide +kernel)) (fun _ _ _ _ _ => pg_name (i := 7) sc_split.nd rfl (Or.inl rfl)) (fun _ _ _ _ _ => pts_one (pt_not (truA K (pe_call (d_has_sign T) (hr.mono (by decide)) (by rfl) T.m_has_sign T.F_has_sign.kp T.b_has_sign .nil pass0 (pa_cons (pe_ix (ixA K) (pv 0) (pv 7) (fun _ _ => rfl)) (pa_cons (pv 6) (pa_cons pe_str pa_nil))))))) (fun _ _ _ _ _ => (pv 7))))))))))) (pss_cons (ps_if (truA K (pv 3)) (pss_one (ps_expr (bmA K PySem.F.plainAttrs_list PySem.F.slot_list_append PySem.F.type_list_append mt_append (pv 2) (pa_cons (pe_callTy (tupleA K) (by rfl) T.n_tuple (by decide +kernel) (pa_cons (pv 3) pa_nil)) pa_nil)))) pss_nil) (pss_one (ps_ret (pe_tup (pa_cons (pv 2) (pa_cons (pv 4) pa_nil)))))))))), fun x hx => ?_⟩
  obtain ⟨rs, n, b⟩ := x
  obtain ⟨hr', h8, hz⟩ := hx
  have hr' : ∀ r ∈ rs, RowOk r n := hr'
  have h8 : n ≤ 8 := h8
  have hz : rs.length ≤ 1000 := hz
  have hat : ∀ i, i < rs.length → RowOk (rowAt rs i) n := fun i hi => rowAt_ok hr' hi
  refine ds_seq (ds_asg_own (evn_lst eva_nil (Nat.zero_le _)) ?_)
  refine ds_seq (ds_asg (Ev.dl (EvN.ev (evn_listRg (n := n) (ev_var rfl) (by omega))) ?_))
  refine ds_seq (ds_asg (Ev.dl (ev_cast (d' := .lst (ordD (open0 rs))) rfl (EvN.ev (evn_lc (xs := List.range rs.length) (c := fun (i : Nat) => D.tup [.int i, .str (tx (rowAt rs i))]) (p := openB rs) (f := fun (i : Nat) => D.int i) ?it (by rw [List.length_range]; omega) fun i hi => ⟨[7] ++ [8], _, dg_tup2 dg_name dg_name, fun i hi => hi, ?tst, fun _ => ev_var rfl⟩))) ?_))
  case it =>
    rw [← enum_rows]
    exact ei_rowsD (ev_var rfl)
  case tst =>
    rw [← open_of (hat i (List.mem_range.mp hi))]
    have e1 := in_code (K := K) (l := rowAt rs i) (c := 43)
    have e2 := in_code (K := K) (l := rowAt rs i) (c := 45)
    rw [← ch_plus] at e1
    rw [← ch_minus] at e2
    exact evt_or (evt_test (ev_op ev_str (ev_var rfl) e1)) fun _ => evt_test (ev_op ev_str (ev_var rfl) e2)
  refine ds_seq (ds_while (fun m Γ' => ∃ (made : List (List Nat)) (left still : List Nat) (s5 s6 s7 s8 s9 : Sl), Γ' = [.val (rowsD b rs), .val (.int n), .own (ordT made), .val (.lst (ordD left)), .val (.lst (ordD still)), s5, s6, s7, s8, s9] ∧ Mk rs n m made left still)
    (n + 1) ⟨[], List.range n, open0 rs, _, _, _, _, _, rfl, mk_0 rs n⟩ fun m Γ' ⟨made, left, still, s5, s6, s7, s8, s9, e, mk⟩ => ?_)
  subst e
  obtain ⟨f, rfl⟩ : ∃ f, m = f + 1 := ⟨m - 1, by have := mk.lt; omega⟩
  refine EvT.dl (evt_tru_lst (ev_var (d := .lst (ordD still)) rfl).b) ⟨fun h => ?_, fun h => ?_⟩
  · have h1 : still ≠ [] := fun z => by rw [z] at h; cases h
    have l8 : left.length ≤ 8 := by have := mk.few; omega
    refine ds_seq (ds_asg (Ev.dl (ev_cast (d' := .lst (ordD (left.filter (minB rs still)))) rfl (EvN.ev (evn_lc (xs := left) (c := fun k : Nat => D.int k) (p := minB rs still) (f := fun k : Nat => D.int k) (ej_list (ev_var (d := .lst (ordD left)) rfl).b) (by omega) fun k hk => ⟨[9], _, dg_name, fun i hi => hi, ?bt, fun _ => ev_var rfl⟩))) ?_))
    case bt =>
      rw [← minB_any]
      refine evt_test (ev_inC (l := still.map fun i => sgn (rowAt rs i) k) (ev_cast (congrArg D.str ch_minus) ev_str) (EvN.b ?_))
      have e : chD (still.map fun i => sgn (rowAt rs i) k) = still.map fun i => D.str (ch (sgn (rowAt rs i) k)) := by unfold chD; rw [List.map_map]; rfl
      rw [e]
      exact evn_lc1 (xs := still) (c := fun i : Nat => D.int i) (ej_list (ev_var (d := .lst (ordD still)) rfl).b) (by have := mk.fst; omega) fun i hi => ⟨[7], _, dg_name, fun i hi => hi, evt_yes, sgn_ev (hat i (mk.ltr i hi)) h8 (mk.ltn k hk) (ev_rowsD (mk.ltr i hi) (ev_var (d := rowsD b rs) rfl) (ev_var rfl)) (ev_var rfl)⟩
    refine ds_seq (ds_asg (Ev.dl (ev_cast (d' := .lst (ordD (left.filter fun k => !minB rs still k))) ?c1 (EvN.ev (evn_lc (xs := left) (c := fun k : Nat => D.int k) (p := fun k => !decide (k ∈ left.filter (minB rs still))) (f := fun k : Nat => D.int k) (ej_list (ev_var (d := .lst (ordD left)) rfl).b) (by omega) fun k hk => ⟨[9], _, dg_name, fun i hi => hi, evt_test (ev_inO (neg := true) (l := left.filter (minB rs still)) (ev_var rfl) (ev_var (d := .lst (ordD (left.filter (minB rs still)))) rfl).b), fun _ => ev_var rfl⟩))) ?_))
    case c1 => rw [nin_filter]; rfl
    refine ds_seq (ds_if (EvT.dl (evt_not (evt_tru_lst (ev_var (d := .lst (ordD (left.filter fun k => !minB rs still k))) rfl).b)) ⟨fun h2 => ?_, fun h2 => ds_next ?_⟩))
    · rw [isEmpty_ord, Bool.not_not] at h2
      have h2 := of_decide_eq_true h2
      have e := mk.eq
      rw [lay_step h1, if_pos h2] at e
      refine ds_freeze 2 rfl (ds_ret (Ev.dl (ev_tup (eva_cons (ev_var (d := .lst (ordT made)) rfl) (eva_cons (ev_var (d := .lst (ordD still)) rfl) eva_nil)) (small (show 2 ≤ 100000 by decide))) ?_))
      show D.tup [.lst (ordT made), .lst (ordD still)] = layOut rs n
      unfold layOut
      rw [← e]
    · rw [isEmpty_ord, Bool.not_not] at h2
      have h2 := of_decide_eq_false h2
      have mk2 := mk.next h1 h2
      refine ds_seq (ds_drop (dl_append ⟨_, rfl⟩ (dla_cons (Ev.dl (ev_tuple (ev_var (d := .lst (ordD (left.filter fun k => !minB rs still k))) rfl).b) (dla_nil ⟨_, ordT made, rfl, rfl, ?_, ?_⟩)))))
      · rw [ordT_len]; have := mk.few; exact Nat.lt_of_le_of_lt (by omega : made.length ≤ 8) (by decide)
      · rw [ordT_snoc]
        refine ds_seq (ds_asg (Ev.dl (ev_var (d := .lst (ordD (left.filter (minB rs still)))) rfl) ?_))
        refine ds_asg (Ev.dl (EvN.ev (evn_lc (xs := still) (c := fun k : Nat => D.int k) (p := fun i => !plusB rs (left.filter fun k => !minB rs still k) i) (f := fun k : Nat => D.int k) (ej_list (ev_var (d := .lst (ordD still)) rfl).b) (by have := mk.fst; omega) fun i hi => ⟨[7], _, dg_name, fun i hi => hi, evt_not (evt_tru_bl (ev_call (s := spHasSign) (x := (rowAt rs i, left.filter fun k => !minB rs still k, 43)) (eva_cons (ev_rowsD (mk.ltr i hi) (ev_var (d := rowsD b rs) rfl) (ev_var rfl)) (eva_cons (ev_var rfl) (eva_cons (ev_cast (congrArg D.str ch_plus) ev_str) eva_nil))) (np_lo (r := [_]) rfl) ⟨n, hat i (mk.ltr i hi), h8, Nat.le_trans (List.length_filter_le _ _) l8, fun k hk => mk.ltn k (List.mem_filter.mp hk).1⟩ fun d h => h)), fun _ => ev_var rfl⟩)) ?_)
        exact ⟨f, Nat.lt_succ_self f, _, _, _, _, _, _, _, _, rfl, mk2⟩
  · have h1 : still = [] := by
      rw [isEmpty_ord] at h
      simpa using h
    subst h1
    have e := mk.eq
    rw [lay_done] at e
    have fin : ∀ (ms : List (List Nat)) (s3 s4' : Sl), ms = (splitM rs n).1 → Ds (tRet (tTup (tCons (tVar 2) (tCons (tVar 4) tNil)))) [.val (rowsD b rs), .val (.int n), .own (ordT ms), s3, .val (.lst (ordD [])), s5, s6, s7, s8, s9] { nx := fun _ => spSplit.rel (rs, n, b) D.non, rt := spSplit.rel (rs, n, b) } := fun ms s3 s4' hm => by
      refine ds_freeze 2 rfl (ds_ret (Ev.dl (ev_tup (eva_cons (ev_var (d := .lst (ordT ms)) rfl) (eva_cons (ev_var (d := .lst (ordD [])) rfl) eva_nil)) (small (show 2 ≤ 100000 by decide))) ?_))
      show D.tup [.lst (ordT ms), .lst (ordD [])] = layOut rs n
      unfold layOut
      rw [hm, show (splitM rs n).2 = [] by rw [← e]]
    refine ds_seq (ds_if (EvT.dl (evt_tru_lst (ev_var (d := .lst (ordD left)) rfl).b) ⟨fun h2 => ?_, fun h2 => ds_next ?_⟩))
    · have h2 : left ≠ [] := fun z => by rw [z] at h2; cases h2
      rw [if_neg h2] at e
      refine ds_drop (dl_append ⟨_, rfl⟩ (dla_cons (Ev.dl (ev_tuple (ev_var (d := .lst (ordD left)) rfl).b) (dla_nil ⟨_, ordT made, rfl, rfl, ?_, ?_⟩))))
      · rw [ordT_len]; have := mk.few; exact Nat.lt_of_le_of_lt (by omega : made.length ≤ 8) (by decide)
      · rw [ordT_snoc]
        exact fin _ _ s5 (by rw [← e])
    · have h2 : left = [] := by rw [isEmpty_ord] at h2; simpa using h2
      rw [if_pos h2] at e
      exact fin _ _ s5 (by rw [← e])
end K26

namespace K26
open PySem PySem.Spec PyProof.Rows L2 Dw
def fuseC (l : List Nat) : Nat := if 45 ∈ l then 45 else if 43 ∈ l then 43 else 46
def selQ (rs : List (List Nat)) (o : List Nat) : List (List Nat) := o.map fun i => rowAt rs i
def Fit (rs : List (List Nat)) (n : Nat) : Prop := ∃ o : List Nat, o.Perm (List.range n) ∧ ∀ r ∈ rs, holdsB r o = true
def SgnOk (rs : List (List Nat)) (n : Nat) : Prop := (∀ i c, sgn (rowAt rs i) c = 43 ∨ sgn (rowAt rs i) c = 45 ∨ sgn (rowAt rs i) c = 46) ∧ ∀ i, i < rs.length → (rowAt rs i).length ≤ n
theorem selQ_len (rs : List (List Nat)) (o : List Nat) : (selQ rs o).length = o.length := List.length_map ..
theorem selQ_at {rs : List (List Nat)} {o : List Nat} {j : Nat} (h : j < o.length) : rowAt (selQ rs o) j = rowAt rs o[j] := by
  unfold selQ
  conv => lhs; unfold rowAt
  rw [List.getD_eq_getElem?_getD, List.getElem?_map, List.getElem?_eq_getElem h]; rfl
theorem fit_sel {rs : List (List Nat)} {n : Nat} {p q : List Nat} (h : Fit (selQ rs q) n) (hs : ∀ k ∈ p, k ∈ q) : Fit (selQ rs p) n := by
  obtain ⟨o, ho, hh⟩ := h
  refine ⟨o, ho, fun r hr => ?_⟩
  obtain ⟨k, hk, rfl⟩ := List.mem_map.mp hr
  exact hh _ (List.mem_map.mpr ⟨k, hs k hk, rfl⟩)
/-- where the layers end badly, the rows that stay open fit no order -/
theorem stuck_open {rs : List (List Nat)} {n : Nat} {ls : List (List Nat)} {lf st : List Nat} (h : LayI rs n ls lf st) (hne : st ≠ []) (hl : lf.filter (fun k => !minB rs st k) = []) (hr : ∀ i, i < rs.length → (rowAt rs i).length ≤ n) : ¬ Fit (selQ rs st) n := by
  rintro ⟨o, ho, hh⟩
  obtain ⟨i, hi, z⟩ := lay_stuck' h hne hl hr o ho
  rw [hh _ (List.mem_map.mpr ⟨i, hi, rfl⟩)] at z; cases z
def Still (rs : List (List Nat)) (n : Nat) : List Nat := (splitM rs n).2
theorem still_cases {rs : List (List Nat)} {n : Nat} (h : SgnOk rs n) : (Still rs n = [] ∧ Fit rs n) ∨ ∃ ls lf, Still rs n ≠ [] ∧ LayI rs n ls lf (Still rs n) ∧ lf.filter (fun k => !minB rs (Still rs n) k) = [] ∧ ¬ Fit (selQ rs (Still rs n)) n := by
  rcases layF_end h.1 (n + 1) [] (List.range n) (open0 rs) (layI_0 rs n) (by rw [List.length_range]; omega) with ⟨ls, e, hh⟩ | ⟨ls, lf, st, e, h1, hh, h2⟩
  · have e : splitM rs n = (ls, []) := e
    refine .inl ⟨by unfold Still; rw [e], ?_⟩
    obtain ⟨w1, w2⟩ := lay_fits h.1 hh (g := fun l => l) (fun l => .refl _)
    exact ⟨_, w1, all_rows.mpr w2⟩
  · have e : splitM rs n = (ls, st) := e
    have e2 : Still rs n = st := by unfold Still; rw [e]
    refine .inr ⟨ls, lf, ?_⟩
    rw [e2]
    exact ⟨h1, hh, h2, stuck_open hh h1 h2 h.2⟩
theorem still_fit {rs : List (List Nat)} {n : Nat} (h : SgnOk rs n) : Still rs n = [] ↔ Fit rs n := by
  constructor
  · intro e
    rcases still_cases h with ⟨_, f⟩ | ⟨_, _, z, _⟩
    · exact f
    · exact absurd e z
  · intro f
    rcases still_cases h with ⟨e, _⟩ | ⟨ls, lf, z, hh, h2, nf⟩
    · exact e
    · obtain ⟨o, ho, hf⟩ := f
      refine absurd ⟨o, ho, fun r hr => ?_⟩ nf
      obtain ⟨k, hk, rfl⟩ := List.mem_map.mp hr
      exact all_rows.mp hf k (List.mem_range.mp (List.mem_filter.mp (hh.sub.subset hk)).1)
/-- fused signs -/
def fuseR (rs : List (List Nat)) (n : Nat) : List Nat := (List.range n).map fun k => fuseC (rs.map fun r => sgn r k)
def quarB (rs : List (List Nat)) (n : Nat) : Bool := decide (45 ∈ fuseR rs n) && !decide (43 ∈ fuseR rs n)
theorem fuse_45 {l : List Nat} : fuseC l = 45 ↔ 45 ∈ l := by
  unfold fuseC
  by_cases h : 45 ∈ l
  · simp [h]
  · rw [if_neg h]
    by_cases h' : 43 ∈ l
    · rw [if_pos h']; simp [h]
    · rw [if_neg h']; simp [h]
theorem fuse_43 {l : List Nat} : fuseC l = 43 ↔ 45 ∉ l ∧ 43 ∈ l := by
  unfold fuseC
  by_cases h : 45 ∈ l
  · simp [h]
  · rw [if_neg h]
    by_cases h' : 43 ∈ l
    · rw [if_pos h']; simp [h, h']
    · rw [if_neg h']; simp [h']
/-- what quarrels fits no order -/
theorem quar_nofit {rs : List (List Nat)} {n : Nat} (hs : ∀ r ∈ rs, ∀ c, sgn r c = 43 ∨ sgn r c = 45 ∨ sgn r c = 46) (h : quarB rs n = true) : ¬ Fit rs n := by
  rintro ⟨o, ho, hh⟩
  unfold quarB at h
  rw [Bool.and_eq_true, decide_eq_true_eq, Bool.not_eq_true', decide_eq_false_iff_not] at h
  obtain ⟨h1, h2⟩ := h
  obtain ⟨k0, hk0, e0⟩ := List.mem_map.mp h1
  have k0n := List.mem_range.mp hk0
  obtain ⟨r0, hr0, e1⟩ := List.mem_map.mp (fuse_45.mp e0)
  have nop : ∀ k < n, (∀ r ∈ rs, sgn r k ≠ 45) → ∀ r ∈ rs, sgn r k = 46 := fun k hk hn r hr => by
    rcases hs r hr k with z | z | z
    · refine absurd (List.mem_map.mpr ⟨k, List.mem_range.mpr hk, fuse_43.mpr ⟨fun hm => ?_, List.mem_map.mpr ⟨r, hr, z⟩⟩⟩) h2
      obtain ⟨r', hr', e'⟩ := List.mem_map.mp hm
      exact hn r' hr' e'
    · exact absurd z (hn r hr)
    · exact z
  have go : ∀ o : List Nat, (∀ k ∈ o, k < n) → (∃ k ∈ o, ∃ r ∈ rs, sgn r k = 45) → ∃ r ∈ rs, holdsB r o = false := fun o => by
    induction o with
    | nil => rintro _ ⟨k, hk, _⟩; cases hk
    | cons a o ih =>
      intro hn hx
      by_cases ha : ∃ r ∈ rs, sgn r a = 45
      · obtain ⟨r, hr, z⟩ := ha
        refine ⟨r, hr, ?_⟩
        unfold holdsB told
        rw [List.map_cons, List.filter_cons_of_pos (by rw [z]; decide), z]; rfl
      · obtain ⟨k, hk, hk2⟩ := hx
        have hk3 : k ∈ o := by
          rcases List.mem_cons.mp hk with rfl | hk
          · exact absurd hk2 ha
          · exact hk
        obtain ⟨r, hr, z⟩ := ih (fun j hj => hn j (List.mem_cons_of_mem _ hj)) ⟨k, hk3, hk2⟩
        refine ⟨r, hr, ?_⟩
        have e : holdsB r ([a] ++ o) = holdsB r o := holds_pre fun j hj => by
          rw [List.mem_singleton.mp hj]
          exact nop a (hn a List.mem_cons_self) (fun r' hr' z => ha ⟨r', hr', z⟩) r hr
        exact e.trans z
  obtain ⟨r, hr, z⟩ := go o (fun k hk => List.mem_range.mp (ho.mem_iff.mp hk)) ⟨k0, ho.mem_iff.mpr hk0, r0, hr0, e1⟩
  rw [hh r hr] at z; cases z
/-- a least lot that fits no order quarrels -/
theorem least_quar {rs : List (List Nat)} {n : Nat} (h : SgnOk rs n) (nf : ¬ Fit rs n) (hl : ∀ i < rs.length, Fit (selQ rs ((List.range rs.length).filter fun j => !decide (j = i))) n) : quarB rs n = true := by
  rcases still_cases h with ⟨_, f⟩ | ⟨ls, lf, z, hh, h2, nf2⟩
  · exact absurd f nf
  have all : ∀ i < rs.length, i ∈ Still rs n := fun i hi => by
    by_cases hm : i ∈ Still rs n
    · exact hm
    · refine absurd (fit_sel (hl i hi) fun k hk => List.mem_filter.mpr ⟨(List.mem_filter.mp (hh.sub.subset hk)).1, ?_⟩) nf2
      have : k ≠ i := fun e => hm (e ▸ hk)
      simp [this]
  have dots : ∀ k < n, k ∉ lf → ∀ r ∈ rs, sgn r k = 46 := fun k hk hn => all_rows.mpr fun i hi => by
    have : k ∈ ls.flatten ++ lf := hh.perm.mem_iff.mpr (List.mem_range.mpr hk)
    rcases List.mem_append.mp this with hm | hm
    · obtain ⟨l, hl, hk⟩ := List.mem_flatten.mp hm
      exact hh.dots i (all i hi) l hl k hk
    · exact absurd hm hn
  have bar : ∀ k ∈ lf, ∃ r ∈ rs, sgn r k = 45 := fun k hk => by
    have : minB rs (Still rs n) k = true := by
      cases q : minB rs (Still rs n) k with
      | true => rfl
      | false =>
        have hm : k ∈ lf.filter (fun k => !minB rs (Still rs n) k) := List.mem_filter.mpr ⟨hk, by rw [q]; rfl⟩
        rw [h2] at hm; cases hm
    obtain ⟨i, hi, z⟩ := List.any_eq_true.mp this
    have hi2 : i < rs.length := List.mem_range.mp (List.mem_filter.mp (hh.sub.subset hi)).1
    have e : rowAt rs i = rs[i] := by
      unfold rowAt
      rw [List.getD_eq_getElem?_getD, List.getElem?_eq_getElem hi2]; rfl
    exact ⟨rs[i], List.getElem_mem hi2, by rw [← e]; exact of_decide_eq_true z⟩
  have lfn : ∀ k ∈ lf, k < n := fun k hk => List.mem_range.mp (hh.perm.mem_iff.mp (List.mem_append_right _ hk))
  have lfe : ∃ k, k ∈ lf := by
    obtain ⟨i, hi⟩ := List.exists_mem_of_ne_nil _ z
    have hi2 : i < rs.length := List.mem_range.mp (List.mem_filter.mp (hh.sub.subset hi)).1
    obtain ⟨c, hc, zc⟩ := List.any_eq_true.mp (List.mem_filter.mp (hh.sub.subset hi)).2
    obtain ⟨k, hk, e⟩ := List.mem_iff_getElem.mp hc
    have hkn : k < n := Nat.lt_of_lt_of_le hk (h.2 i hi2)
    refine ⟨k, ?_⟩
    by_cases hk2 : k ∈ lf
    · exact hk2
    · have := all_rows.mp (dots k hkn hk2) i hi2
      unfold sgn at this
      rw [List.getD_eq_getElem?_getD, List.getElem?_eq_getElem hk] at this
      have this : (rowAt rs i)[k] = 46 := this
      rw [e] at this
      rw [this] at zc; cases zc
  unfold quarB
  rw [Bool.and_eq_true, decide_eq_true_eq, Bool.not_eq_true', decide_eq_false_iff_not]
  constructor
  · obtain ⟨k, hk⟩ := lfe
    obtain ⟨r, hr, e⟩ := bar k hk
    exact List.mem_map.mpr ⟨k, List.mem_range.mpr (lfn k hk), fuse_45.mpr (List.mem_map.mpr ⟨r, hr, e⟩)⟩
  · intro hm
    obtain ⟨k, hk, e⟩ := List.mem_map.mp hm
    obtain ⟨e1, e2⟩ := fuse_43.mp e
    by_cases hk2 : k ∈ lf
    · obtain ⟨r, hr, e3⟩ := bar k hk2
      exact e1 (List.mem_map.mpr ⟨r, hr, e3⟩)
    · obtain ⟨r, hr, e3⟩ := List.mem_map.mp e2
      rw [dots k (List.mem_range.mp hk) hk2 r hr] at e3; cases e3
/-! the lot that is told -/
def qStep (rs : List (List Nat)) (n : Nat) (kept : List Nat) (i : Nat) : List Nat :=
  if Still (selQ rs (kept.filter fun j => !decide (j = i))) n = [] then kept else kept.filter fun j => !decide (j = i)
def quarM (rs : List (List Nat)) (n : Nat) : List Nat := (Still rs n).foldl (qStep rs n) (Still rs n)
structure QI (rs : List (List Nat)) (n : Nat) (kept seen : List Nat) : Prop where
  sub : kept.Sublist (List.range rs.length)
  nf : ¬ Fit (selQ rs kept) n
  min : ∀ i ∈ seen, i ∈ kept → Fit (selQ rs (kept.filter fun j => !decide (j = i))) n
theorem sel_sgn {rs : List (List Nat)} {n : Nat} (h : SgnOk rs n) {o : List Nat} (ho : ∀ k ∈ o, k < rs.length) : SgnOk (selQ rs o) n := by
  refine ⟨fun i c => ?_, fun i hi => ?_⟩
  · by_cases hi : i < o.length
    · rw [selQ_at hi]; exact h.1 _ _
    · unfold rowAt sgn
      rw [List.getD_eq_getElem?_getD (l := selQ rs o), List.getElem?_eq_none (by rw [selQ_len]; omega)]
      exact .inr (.inr rfl)
  · rw [selQ_len] at hi
    rw [selQ_at hi]
    exact h.2 _ (ho _ (List.getElem_mem hi))
theorem QI.next {rs : List (List Nat)} {n : Nat} (h : SgnOk rs n) {kept seen : List Nat} (q : QI rs n kept seen) (i : Nat) : QI rs n (qStep rs n kept i) (seen ++ [i]) := by
  have hf : ∀ k ∈ kept.filter (fun j => !decide (j = i)), k < rs.length := fun k hk => List.mem_range.mp (q.sub.subset (List.mem_filter.mp hk).1)
  unfold qStep
  by_cases e : Still (selQ rs (kept.filter fun j => !decide (j = i))) n = []
  · rw [if_pos e]
    refine ⟨q.sub, q.nf, fun j hj hk => ?_⟩
    rcases List.mem_append.mp hj with hj | hj
    · exact q.min j hj hk
    · rw [List.mem_singleton.mp hj]
      exact (still_fit (sel_sgn h hf)).mp e
  · rw [if_neg e]
    refine ⟨List.filter_sublist.trans q.sub, fun f => e ((still_fit (sel_sgn h hf)).mpr f), fun j hj hk => ?_⟩
    have hk' := (List.mem_filter.mp hk).1
    rcases List.mem_append.mp hj with hj | hj
    · refine fit_sel (q.min j hj hk') fun k hk2 => ?_
      obtain ⟨a, b⟩ := List.mem_filter.mp hk2
      exact List.mem_filter.mpr ⟨(List.mem_filter.mp a).1, b⟩
    · have := (List.mem_filter.mp hk).2
      rw [List.mem_singleton.mp hj] at this
      simp at this
theorem quarM_I {rs : List (List Nat)} {n : Nat} (h : SgnOk rs n) (hne : Still rs n ≠ []) : QI rs n (quarM rs n) (Still rs n) := by
  rcases still_cases h with ⟨e, _⟩ | ⟨ls, lf, z, hh, h2, nf2⟩
  · exact absurd e hne
  have go : ∀ (l kept seen : List Nat), QI rs n kept seen → QI rs n (l.foldl (qStep rs n) kept) (seen ++ l) := fun l => by
    induction l with
    | nil => intro kept seen q; rw [List.append_nil]; exact q
    | cons a l ih =>
      intro kept seen q
      have := ih _ _ (q.next h a)
      rw [List.append_assoc] at this
      exact this
  have q0 : QI rs n (Still rs n) [] := ⟨hh.sub.trans List.filter_sublist, nf2, fun i hi => absurd hi (by simp)⟩
  have := go (Still rs n) _ _ q0
  rw [List.nil_append] at this
  exact this
theorem qStep_sub (rs : List (List Nat)) (n : Nat) (kept : List Nat) (i : Nat) : (qStep rs n kept i).Sublist kept := by
  unfold qStep
  split
  · exact List.Sublist.refl _
  · exact List.filter_sublist
theorem fold_sub (rs : List (List Nat)) (n : Nat) : ∀ (l kept : List Nat), (l.foldl (qStep rs n) kept).Sublist kept
  | [], kept => List.Sublist.refl _
  | a :: l, kept => (fold_sub rs n l _).trans (qStep_sub rs n kept a)
/-- a lot of the told one quarrels just if it is the whole -/
theorem lot_quar {rs : List (List Nat)} {n : Nat} (h : SgnOk rs n) (hne : Still rs n ≠ []) {o : List Nat} (ho : o.Sublist (quarM rs n)) : quarB (selQ rs o) n = decide (o.length = (quarM rs n).length) := by
  have q := quarM_I h hne
  have hq : ∀ k ∈ quarM rs n, k < rs.length := fun k hk => List.mem_range.mp (q.sub.subset hk)
  have nd : (quarM rs n).Nodup := q.sub.nodup List.nodup_range
  have seen : ∀ k ∈ quarM rs n, k ∈ Still rs n := fun k hk => (fold_sub rs n _ _).subset hk
  by_cases hl : o.length = (quarM rs n).length
  · have e : o = quarM rs n := ho.eq_of_length hl
    rw [decide_eq_true hl, e]
    refine least_quar (sel_sgn h hq) q.nf fun i hi => ?_
    rw [selQ_len] at hi
    have hm := List.getElem_mem hi
    obtain ⟨p, hp, hh⟩ := q.min _ (seen _ hm) hm
    refine ⟨p, hp, fun r hr => ?_⟩
    obtain ⟨j, hj, rfl⟩ := List.mem_map.mp hr
    obtain ⟨hj1, hj2⟩ := List.mem_filter.mp hj
    have hj1 := List.mem_range.mp hj1
    rw [selQ_len] at hj1
    rw [selQ_at hj1]
    refine hh _ (List.mem_map.mpr ⟨_, List.mem_filter.mpr ⟨List.getElem_mem hj1, ?_⟩, rfl⟩)
    have hne2 : j ≠ i := by simpa using hj2
    have : (quarM rs n)[j] ≠ (quarM rs n)[i] := fun e => hne2 ((List.getElem_inj nd).mp e)
    simp [this]
  · rw [decide_eq_false hl]
    cases c : quarB (selQ rs o) n with
    | false => rfl
    | true =>
      exfalso
      have ho2 : ∀ k ∈ o, k < rs.length := fun k hk => hq k (ho.subset hk)
      have sg : ∀ r ∈ selQ rs o, ∀ c, sgn r c = 43 ∨ sgn r c = 45 ∨ sgn r c = 46 := fun r hr c => by
        obtain ⟨k, _, rfl⟩ := List.mem_map.mp hr
        exact h.1 k c
      refine quar_nofit sg c ?_
      -- some index of the told lot is not in o
      have : ∃ i ∈ quarM rs n, i ∉ o := by
        apply Classical.byContradiction
        intro hx
        have hsub : ∀ i ∈ quarM rs n, i ∈ o := fun i hi => Classical.byContradiction fun hn => hx ⟨i, hi, hn⟩
        have p := nd_perm (quarM rs n) o nd hsub ho.length_le
        exact hl p.length_eq.symm
      obtain ⟨i, hi, hn⟩ := this
      refine fit_sel (q.min i (seen i hi) hi) fun k hk => List.mem_filter.mpr ⟨ho.subset hk, ?_⟩
      have : k ≠ i := fun e => hn (e ▸ hk)
      simp [this]
/-! all lots of some things -/
def lotsS (acc : List (List Nat)) (t : Nat) : List (List Nat) := acc ++ acc.map (· ++ [t])
def lotsT (l : List Nat) : List (List Nat) := l.foldl lotsS [[]]
theorem lots_sub : ∀ (l : List Nat) (acc : List (List Nat)) (p : List Nat), (∀ o ∈ acc, o.Sublist p) → ∀ o ∈ l.foldl lotsS acc, o.Sublist (p ++ l)
  | [], acc, p, h, o, ho => by rw [List.append_nil]; exact h o ho
  | a :: l, acc, p, h, o, ho => by
    have := lots_sub l (lotsS acc a) (p ++ [a]) (fun x hx => by
      rcases List.mem_append.mp hx with hx | hx
      · exact (h x hx).trans (List.sublist_append_left _ _)
      · obtain ⟨y, hy, rfl⟩ := List.mem_map.mp hx
        exact (h y hy).append (List.Sublist.refl _)) o ho
    rw [List.append_assoc] at this
    exact this
theorem lotsT_sub {l o : List Nat} (h : o ∈ lotsT l) : o.Sublist l := by
  have := lots_sub l [[]] [] (fun x hx => by rw [List.mem_singleton.mp hx]; exact List.Sublist.refl _) o h
  rw [List.nil_append] at this
  exact this
theorem lotsS_len (acc : List (List Nat)) (t : Nat) : (lotsS acc t).length = acc.length * 2 := by
  unfold lotsS
  rw [List.length_append, List.length_map]; omega
theorem lots_len' : ∀ (l : List Nat) (acc : List (List Nat)), (l.foldl lotsS acc).length = acc.length * 2 ^ l.length
  | [], acc => by simp
  | a :: l, acc => by
    show ((l.foldl lotsS (lotsS acc a)).length) = _
    rw [lots_len' l, lotsS_len, List.length_cons, Nat.pow_succ, Nat.mul_assoc, Nat.mul_comm 2]

theorem sgnOk {rs : List (List Nat)} {n : Nat} (h : ∀ r ∈ rs, RowOk r n) : SgnOk rs n := ⟨rowAt_sgn h, fun i hi => Nat.le_of_eq (rowAt_ok h hi).len⟩
theorem selQ_ok {rs : List (List Nat)} {n : Nat} {o : List Nat} (h : ∀ r ∈ rs, RowOk r n) (ho : ∀ k ∈ o, k < rs.length) : ∀ r ∈ selQ rs o, RowOk r n := fun r hr => by
  obtain ⟨i, hi, rfl⟩ := List.mem_map.mp hr
  exact rowAt_ok h (ho i hi)
theorem selQ_D (rs : List (List Nat)) (o : List Nat) : nameD (selQ rs o) = o.map fun i => D.str (tx (rowAt rs i)) := by unfold nameD selQ; rw [List.map_map]; rfl
theorem fit_iff {rs : List (List Nat)} {n : Nat} : fitM rs n ≠ [] ↔ Fit rs n := by
  constructor
  · intro h
    obtain ⟨o, ho⟩ := List.exists_mem_of_ne_nil _ h
    obtain ⟨p, q⟩ := fitM_mem.mp ho
    exact ⟨o, p, q⟩
  · rintro ⟨o, p, q⟩ z
    have := fitM_mem.mpr ⟨p, q⟩
    rw [z] at this; cases this
def spSome : Spc where
  ty := List (List Nat) × Nat × Bool
  args := fun x => [rowsD x.2.2 x.1, .int x.2.1]
  ok := fun x => (∀ r ∈ x.1, RowOk r x.2.1) ∧ x.2.1 ≤ 8 ∧ x.1.length ≤ 1000
  rel := fun x d => d = .bl (decide (Still x.1 x.2.1 = []))
def quarD (rs : List (List Nat)) (n : Nat) : D := if Still rs n = [] then .non else .tup (ordD (quarM rs n))
def spQuar (C : Addr) : Spc where
  ty := Bk
  args := fun x => [bookD C x.1 x.2]
  ok := fun x => BookOk x.1 x.2
  rel := fun x d => d = quarD x.2 x.1.length
theorem still_sub (rs : List (List Nat)) (n : Nat) (h : SgnOk rs n) : (Still rs n).Sublist (List.range rs.length) := by
  rcases still_cases h with ⟨e, _⟩ | ⟨ls, lf, z, hh, _⟩
  · rw [e]; exact List.nil_sublist _
  · exact hh.sub.trans List.filter_sublist
end K26

namespace K26
open PySem PySem.Spec PyProof.Rows L2 Dw
theorem d_some_fits {P : Program} {w : World} {K : PySem.W.Frag} {mg : Str → Option Value} {base : Heap} (T : Txt K w mg) : FnOk P w K mg base CX0 3 T.f_some_fits T.e_some_fits ["rows", "many"] (toSp (spSome)) := by
  refine fn_ok T.F_some_fits sc_some_fits (fun _ => rfl) fun cdv A outer s' H E hr => ?_
  refine ⟨_, (pss_cons (ps_asg (pe_call (d_split T) (hr.mono (by decide)) (by rfl) T.m_split T.F_split.kp T.b_split .nil pass0 (pa_cons (pv 0) (pa_cons (pv 1) pa_nil))) (tupA K 2 rfl (pgs_cons (pg_name (i := 2) sc_some_fits.nd rfl (Or.inl rfl)) (pgs_cons (pg_name (i := 3) sc_some_fits.nd rfl (Or.inl rfl)) pgs_nil)))) (pss_one (ps_ret (notA K (pv 3))))), fun x hx => ?_⟩
  obtain ⟨rs, n, b⟩ := x
  obtain ⟨hr', h8, hz⟩ := hx
  refine ds_seq (ds_asg_g (Ev.dl (ev_call (s := spSplit) (x := (rs, n, b)) (eva_cons (ev_var rfl) (eva_cons (ev_var rfl) eva_nil)) (np_rd (r := [_]) rfl) ⟨hr', h8, hz⟩ fun d h => h) ⟨[2] ++ [3], _, dg_tup2 dg_name dg_name, ?_⟩))
  refine ds_ret (Ev.dl (ev_notT (evt_tru_lst (ev_var (d := .lst (ordD (splitM rs n).2)) rfl).b)) ?_)
  show D.bl _ = D.bl _
  rw [isEmpty_ord, Bool.not_not]; rfl
end K26

namespace K26
open PySem PySem.Spec PyProof.Rows L2 Dw
def spLeastQ : Spc where
  ty := List (List Nat) × Nat
  args := fun x => [.tup (nameD x.1), .int x.2]
  ok := fun x => (∀ r ∈ x.1, RowOk r x.2) ∧ x.2 ≤ 8 ∧ x.1.length ≤ 100
  rel := fun x d => d = quarD x.1 x.2
theorem fit_nil (n : Nat) (rs : List (List Nat)) : Fit (selQ rs []) n := ⟨List.range n, .refl _, fun r hr => absurd hr (by simp [selQ])⟩
end K26

namespace K26
open PySem PySem.Spec PyProof.Rows L2 Dw
def fz (rs : List (List Nat)) (n : Nat) : List Nat := (List.range n).map fun k => fuse (rs.map fun r => sgn r k)
theorem fz_len (rs : List (List Nat)) (n : Nat) : (fz rs n).length = n := by unfold fz; rw [List.length_map, List.length_range]
def quB (rs : List (List Nat)) (n : Nat) : Bool := decide (45 ∈ fz rs n) && !decide (43 ∈ fz rs n)
def ordOf : D → List Nat | .tup ds => (ds.map intOf).map Int.toNat | _ => []
theorem ordOf_ord (o : List Nat) : ordOf (.tup (ordD o)) = o := by
  show ((ordD o).map intOf).map Int.toNat = o
  unfold ordD
  rw [List.map_map, List.map_map]
  have e : ((Int.toNat ∘ intOf) ∘ fun k : Nat => D.int k) = id := by funext k; simp [intOf]
  rw [e, List.map_id]
def pick (rs : List (List Nat)) (o : List Nat) : List (List Nat) := o.map (rowAt rs)
theorem pick_ok {rs : List (List Nat)} {n : Nat} {o : List Nat} (h : ∀ r ∈ rs, RowOk r n) (ho : ∀ k ∈ o, k < rs.length) : ∀ r ∈ pick rs o, RowOk r n := fun r hr => by
  obtain ⟨k, hk, rfl⟩ := List.mem_map.mp hr
  exact rowAt_ok h (ho k hk)
theorem pick_D (rs : List (List Nat)) (o : List Nat) : nameD (pick rs o) = o.map fun i => D.str (tx (rowAt rs i)) := by unfold nameD pick; rw [List.map_map]; rfl
def fitB (d : D) (rs : List (List Nat)) (n : Nat) : Bool := rkB d n && rs.all fun r => holdsB r (ordOf d)
def sqB (d : D) (rs : List (List Nat)) (n : Nat) : Bool := lotB d rs.length && quB (pick rs (ordOf d)) n
def sfB (d : D) (rs : List (List Nat)) (r : List Nat) (n : Nat) : Bool := lotB d rs.length && (((ordOf d).isEmpty && !decide (45 ∈ r)) || (quB (pick rs (ordOf d)) n || quB (pick rs (ordOf d) ++ [flipped r]) n))
def soB (d : D) (rs : List (List Nat)) (r : List Nat) (n : Nat) : Bool := match d with
  | .tup [a, b] => fitB a rs n && fitB b rs n && (holdsB r (ordOf a) && !holdsB r (ordOf b))
  | _ => false
def spTurn : Spc where
  ty := List Nat
  args := fun l => [.str (tx l)]
  ok := fun l => ∃ n, RowOk l n ∧ n ≤ 8
  rel := fun l d => d = .str (tx (flipped l))
def spFused : Spc where
  ty := List (List Nat) × Nat
  args := fun x => [.lst (nameD x.1), .int x.2]
  ok := fun x => (∀ r ∈ x.1, RowOk r x.2) ∧ x.2 ≤ 8 ∧ x.1.length ≤ 1000
  rel := fun x d => d = .str (tx (fz x.1 x.2))
def spAllHoldG : Spc where
  ty := List (List Nat) × List Nat × Bool
  args := fun x => [rowsD x.2.2 x.1, .tup (ordD x.2.1)]
  ok := fun x => ∃ n, (∀ r ∈ x.1, RowOk r n) ∧ n ≤ 8 ∧ x.1.length ≤ 1000 ∧ ∀ k ∈ x.2.1, k < n
  rel := fun x d => d = .bl (x.1.all fun r => holdsB r x.2.1)
theorem ej_rows {K : PySem.W.Frag} {ta : TE} {Γ : Gam} {b : Bool} {rs : List (List Nat)} (h : Ev ta Γ (rowsD b rs)) : Ei (iAnyR K ta) Γ (nameD rs) := by
  cases b with
  | true => exact ej_list (Ev.b (ds := nameD rs) h)
  | false => exact ej_tup h
theorem ev_lenR {K : PySem.W.Frag} {ta : TE} {Γ : Gam} {b : Bool} {rs : List (List Nat)} (h : Ev ta Γ (rowsD b rs)) : Ev (tCB (Dw.rLen K) (tCons ta tNil)) Γ (.int rs.length) := by
  have l : (nameD rs).length = rs.length := List.length_map ..
  cases b with
  | true => have := ev_len (K := K) (Ev.b (ds := nameD rs) h); rw [l] at this; exact this
  | false => have := ev_lenT (K := K) (ds := nameD rs) h; rw [l] at this; exact this
def spFitting : Spc where
  ty := D × List (List Nat) × Nat × Bool
  args := fun x => [x.1, rowsD x.2.2.2 x.2.1, .int x.2.2.1]
  ok := fun x => Pv x.1 ∧ (∀ r ∈ x.2.1, RowOk r x.2.2.1) ∧ x.2.2.1 ≤ 8 ∧ x.2.1.length ≤ 1000
  rel := fun x d => d = .bl (fitB x.1 x.2.1 x.2.2.1)
def spDoQ : Spc where
  ty := List (List Nat) × Nat
  args := fun x => [.lst (nameD x.1), .int x.2]
  ok := fun x => (∀ r ∈ x.1, RowOk r x.2) ∧ x.2 ≤ 8 ∧ x.1.length ≤ 1000
  rel := fun x d => d = .bl (quB x.1 x.2)
def spSQ : Spc where
  ty := D × List (List Nat) × Nat
  args := fun x => [x.1, .tup (nameD x.2.1), .int x.2.2]
  ok := fun x => Pv x.1 ∧ (∀ r ∈ x.2.1, RowOk r x.2.2) ∧ x.2.2 ≤ 8 ∧ x.2.1.length ≤ 900
  rel := fun x d => d = .bl (sqB x.1 x.2.1 x.2.2)
def spSF : Spc where
  ty := D × List (List Nat) × List Nat × Nat
  args := fun x => [x.1, .tup (nameD x.2.1), .str (tx x.2.2.1)]
  ok := fun x => Pv x.1 ∧ (∀ r ∈ x.2.1, RowOk r x.2.2.2) ∧ x.2.2.2 ≤ 8 ∧ x.2.1.length ≤ 900 ∧ RowOk x.2.2.1 x.2.2.2
  rel := fun x d => d = .bl (sfB x.1 x.2.1 x.2.2.1 x.2.2.2)
def spSO : Spc where
  ty := D × List (List Nat) × List Nat × Nat
  args := fun x => [x.1, .tup (nameD x.2.1), .str (tx x.2.2.1)]
  ok := fun x => Pv x.1 ∧ (∀ r ∈ x.2.1, RowOk r x.2.2.2) ∧ x.2.2.2 ≤ 8 ∧ x.2.1.length ≤ 900 ∧ RowOk x.2.2.1 x.2.2.2
  rel := fun x d => d = .bl (soB x.1 x.2.1 x.2.2.1 x.2.2.2)
theorem ev_len_row {K : PySem.W.Frag} {ta : TE} {Γ : Gam} {r : List Nat} {n : Nat} (h : RowOk r n) (h8 : n ≤ 8) (he : Ev ta Γ (.str (tx r))) : Ev (tCB (Dw.rLen K) (tCons ta tNil)) Γ (.int n) := by
  have := ev_lenS (K := K) he (h.sz h8)
  rw [tx_len, h.len] at this
  exact this
theorem eqv_nilB : ∀ ds : List D, PyData.eqvAll (pys ds) (pys []) = ds.isEmpty
  | [] => rfl
  | _ :: _ => rfl
theorem eq_nilT {K : PySem.W.Frag} {o : List Nat} : DR2 (rEqX K) (.tup (ordD o)) (.tup []) (.bl o.isEmpty) := by
  obtain ⟨h1, h2⟩ := dOk_shaped (ok_ordT1 o) (by decide)
  have := eq_deep (K := K) (q := .tup []) h1 rfl h2 rfl
  rw [show PyData.eqv (py (.tup (ordD o))) (py (.tup [])) = PyData.eqvAll (pys (ordD o)) (pys []) from rfl, eqv_nilB] at this
  rw [show (ordD o).isEmpty = o.isEmpty by cases o <;> rfl] at this
  exact this
theorem np_rD {b : Bool} {rs : List (List Nat)} {r : List D} (h : noPs r = true) : noPs (rowsD b rs :: r) = true := np_rd h
theorem eq_int_dec {a b : Nat} : decide ((a : Int) = (b : Int)) = decide (a = b) := decide_eq_decide.mpr (by omega)
theorem evt_tru_tup {K : PySem.W.Frag} {t : TE} {Γ : Gam} {ds : List D} (h : Ev t Γ (.tup ds)) : EvT (tTru K t) Γ (!ds.isEmpty) := fun F σ W Q g k => h F σ W _ g fun v H s ⟨a, vs, ev, e, nu, l⟩ => ⟨_, by
  rw [ev]
  exact .inr (.inl ⟨vs, e.sq, by
    have := l.length
    cases ds <;> cases vs <;> simp_all⟩), k H s⟩
abbrev rNotNone : R2 := fun x y H Q => y = .non ∧ Q (.bl (!decide (x = .non))) H
theorem dr2_notN {d : D} {b : Bool} (h : ∀ (W : Wd) v, Rep W d v → (!decide (v = V.non)) = b) : DR2 rNotNone d .non (.bl b) := dr2_flat fun W u v Q r1 r2 k => ⟨r2, by rw [h W u r1]; exact k _ rfl⟩
end K26

namespace K26
open PySem PySem.Spec PyProof.Rows L2 Dw
theorem d_row_holds {P : Program} {w : World} {K : PySem.W.Frag} {mg : Str → Option Value} {base : Heap} (T : Txt K w mg) : FnOk P w K mg base CX0 1 T.f_row_holds T.e_row_holds ["row", "ranking"] (toSp (spRowHolds)) := by
  refine fn_ok T.F_row_holds sc_row_holds (fun _ => rfl) fun cdv A outer s' H E hr => ?_
  refine ⟨_, (pss_cons (ps_for PassesOwn.never rfl (piR K (pv 1)) (pg_name (i := 2) sc_row_holds.nd rfl (Or.inl rfl)) (pss_one (ps_if (pt_cmpR (neA K hr.units) (pe_ix (ixA K) (pv 0) (pv 2) (fun _ _ => rfl)) pe_str (nomark _)) (pss_one (ps_ret (pe_cmpR (eqA K hr.units) (pe_ix (ixA K) (pv 0) (pv 2) (fun _ _ => rfl)) pe_str (nomark _)))) pss_nil))) (pss_one (ps_ret pe_bl))), fun x hx => ?_⟩
  obtain ⟨l, o⟩ := x
  obtain ⟨n, hl, h8, hk⟩ := hx
  have hl : RowOk l n := hl
  have hk : ∀ k ∈ o, k < n := hk
  refine ds_seq (ds_for (fun xs i Γ' => xs = ordD o ∧ ∃ s : Sl, Γ' = [.val (.str (tx l)), .val (.tup (ordD o)), s] ∧ ∀ k ∈ o.take i, sgn l k = 46)
    (dj_tup (Ev.dl (ev_var rfl) ⟨ordD o, rfl, ⟨rfl, _, rfl, fun k h => absurd h (by simp)⟩, fun i x Γ' hx' ⟨exs, s, e, hd⟩ => ?_, fun Γ' ⟨exs, s, e, hd⟩ => ?_⟩)))
  · subst e
    have hx3 : (o.map fun k : Nat => D.int k)[i]? = some x := hx'
    rw [List.getElem?_map] at hx3
    cases q : o[i]? with
    | none => rw [q] at hx3; cases hx3
    | some k =>
      rw [q] at hx3; cases hx3
      have hkn := hk k (List.mem_of_getElem? q)
      refine ⟨[2], _, dg_name, ds_if (EvT.dl (evt_test (ev_op (sgn_ev hl h8 hkn (ev_var rfl) (ev_var rfl)) ev_str ne_str')) ⟨fun h => ?_, fun h => ?_⟩)⟩
      · refine ds_ret (Ev.dl (ev_op (sgn_ev hl h8 hkn (ev_var rfl) (ev_var rfl)) ev_str eq_str') ?_)
        show D.bl _ = D.bl (holdsB l o)
        have hne : sgn l k ≠ 46 := fun z => by
          rw [z, ← ch_dot] at h
          simp at h
        rw [holds_at q hd hne, ch_plus]
        congr 1
        rw [Bool.eq_iff_iff]; simp [ch_eq]
      · refine ds_next ⟨exs, _, rfl, fun j hj => ?_⟩
        have hz : sgn l k = 46 := by
          rw [ch_dot] at h
          simpa [ch_eq] using h
        rw [List.take_add_one, q] at hj
        rcases List.mem_append.mp hj with hj | hj
        · exact hd j hj
        · rw [List.mem_singleton.mp hj]; exact hz
  · subst e
    rw [ordD_len, List.take_length] at hd
    exact ds_ret (Ev.dl ev_bl (congrArg D.bl (holds_dots hd).symm))
end K26

namespace K26
open PySem PySem.Spec PyProof.Rows L2 Dw
theorem d_all_hold {P : Program} {w : World} {K : PySem.W.Frag} {mg : Str → Option Value} {base : Heap} (T : Txt K w mg) : FnOk P w K mg base CX0 2 T.f_all_hold T.e_all_hold ["rows", "ranking"] (toSp (spAllHoldG)) := by
  refine fn_ok T.F_all_hold sc_all_hold (fun _ => rfl) fun cdv A outer s' H E hr => ?_
  refine ⟨_, (pss_one (ps_ret (pe_callB (allA K) (by rfl) T.n_all (by decide +kernel) (pa_cons (pe_lc (own := [("row", 2)]) rfl sc_all_hold.nd (piR K (pv 0)) (blkOk_by (own := [("row", 2)]) (N := N_all_hold) (sc := (defScope s_all_hold)) (by decide +kernel)) (fun _ _ _ _ _ => pg_name (i := 2) sc_all_hold.nd rfl (Or.inl rfl)) (fun _ _ _ _ _ => pts_nil) (fun _ _ _ _ _ => (pe_call (d_row_holds T) (hr.mono (by decide)) (by rfl) T.m_row_holds T.F_row_holds.kp T.b_row_holds .nil pass0 (pa_cons (pv 2) (pa_cons (pv 1) pa_nil))))) pa_nil)))), fun x hx => ?_⟩
  obtain ⟨rs, o, b⟩ := x
  obtain ⟨n, hr', h8, hz, hk⟩ := hx
  have hr' : ∀ r ∈ rs, RowOk r n := hr'
  have hz : rs.length ≤ 1000 := hz
  exact ds_ret (Ev.dl (ev_all_lc (K := K) (xs := rs) (c := fun r => .str (tx r)) (b := fun r => holdsB r o) (ej_rows (ev_var (d := rowsD b rs) rfl)) (by omega) fun r hr => ⟨[2], _, dg_name, fun i hi => hi, evt_yes, ev_call (s := spRowHolds) (x := (r, o)) (eva_cons (ev_var rfl) (eva_cons (ev_var rfl) eva_nil)) (np_to (r := []) rfl) ⟨n, hr' r hr, h8, hk⟩ fun d h => h⟩) rfl)
end K26

namespace K26
open PySem PySem.Spec PyProof.Rows L2 Dw
/-! claims about a book -/
inductive Cw where
  | fits | quarrels | follows (d : D) | opn (d : D) | above (a b : D)
def Cw.word : Cw → Str
  | .fits => "fits" | .quarrels => "quarrels" | .follows _ => "follows" | .opn _ => "open" | .above _ _ => "above"
def Cw.parts : Cw → List D
  | .fits => [] | .quarrels => [] | .follows d => [d] | .opn d => [d] | .above a b => [a, b]
def natOf (d : D) : Nat := (intOf d).toNat
def pairRow (a b n : Nat) : List Nat := (List.range n).map fun k => if a = k then 43 else if b = k then 45 else 46
theorem pairRow_ok (a b n : Nat) : RowOk (pairRow a b n) n := ⟨by unfold pairRow; rw [List.length_map, List.length_range], fun c hc => by
  obtain ⟨k, _, rfl⟩ := List.mem_map.mp hc
  by_cases h1 : a = k
  · rw [if_pos h1]; exact .inl rfl
  · rw [if_neg h1]
    by_cases h2 : b = k
    · rw [if_pos h2]; exact .inr (.inl rfl)
    · rw [if_neg h2]; exact .inr (.inr rfl)⟩
def pairB (a b : D) (n : Nat) : Bool := idxB a n && idxB b n && difB a b
theorem pairB_iff {a b : D} {n : Nat} (h : pairB a b n = true) : ∃ i j : Nat, a = .int i ∧ b = .int j ∧ i < n ∧ j < n ∧ i ≠ j := by
  unfold pairB at h
  rw [Bool.and_eq_true, Bool.and_eq_true] at h
  obtain ⟨⟨h1, h2⟩, h3⟩ := h
  cases a <;> first | exact absurd h1 Bool.false_ne_true | skip
  cases b <;> first | exact absurd h2 Bool.false_ne_true | skip
  rename_i i j
  have h1 : (decide (0 ≤ i) && decide (i < (n : Int))) = true := h1
  have h2 : (decide (0 ≤ j) && decide (j < (n : Int))) = true := h2
  have h3 : (!decide (i = j)) = true := h3
  rw [Bool.and_eq_true, decide_eq_true_eq, decide_eq_true_eq] at h1 h2
  rw [Bool.not_eq_true', decide_eq_false_iff_not] at h3
  exact ⟨i.toNat, j.toNat, congrArg D.int (by omega), congrArg D.int (by omega), by omega, by omega, by omega⟩
def abB (p : D) (rs : List (List Nat)) (n : Nat) (a b : D) : Bool := pairB a b n && sfB p rs (pairRow (natOf a) (natOf b) n) n
def accB (c : Cw) (rs : List (List Nat)) (n : Nat) (p : D) : Bool := match c with
  | .fits => fitB p rs n
  | .quarrels => sqB p rs n
  | .follows d => rowB d n && sfB p rs (codesOf d) n
  | .opn d => rowB d n && soB p rs (codesOf d) n
  | .above a b => abB p rs n a b
def spPairRow : Spc where
  ty := Nat × Nat × Nat
  args := fun x => [.int x.1, .int x.2.1, .int x.2.2]
  ok := fun x => x.1 ≠ x.2.1 ∧ x.2.2 ≤ 8
  rel := fun x d => d = .str (tx (pairRow x.1 x.2.1 x.2.2))
def spSAb : Spc where
  ty := D × List (List Nat) × Nat × D × D
  args := fun x => [x.1, .tup (nameD x.2.1), .int x.2.2.1, .lst [x.2.2.2.1, x.2.2.2.2]]
  ok := fun x => Pv x.1 ∧ (∀ r ∈ x.2.1, RowOk r x.2.2.1) ∧ x.2.2.1 ≤ 8 ∧ x.2.1.length ≤ 900 ∧ Pv x.2.2.2.1 ∧ Pv x.2.2.2.2
  rel := fun x d => d = .bl (abB x.1 x.2.1 x.2.2.1 x.2.2.2.1 x.2.2.2.2)
def spAOB : Spc where
  ty := Cw × Bk × D
  args := fun x => [.str x.1.word, .tup [.tup (nameD x.2.1.1), .tup (nameD x.2.1.2)], .lst x.1.parts, x.2.2]
  ok := fun x => BookOk x.2.1.1 x.2.1.2 ∧ Pv x.2.2 ∧ ∀ d ∈ x.1.parts, Pv d
  rel := fun x e => e = .bl (accB x.1 x.2.1.2 x.2.1.1.length x.2.2)
def spAcc : Spc where
  ty := Cw × Bk × D
  args := fun x => [.tup (.str x.1.word :: .str (tx (bookTx x.2.1.1 x.2.1.2)) :: x.1.parts), x.2.2]
  ok := fun x => BookOk x.2.1.1 x.2.1.2 ∧ Pv x.2.2 ∧ ∀ d ∈ x.1.parts, Pv d
  rel := fun x e => e = .bl (accB x.1 x.2.1.2 x.2.1.1.length x.2.2)
theorem ds_word {K : PySem.W.Frag} {x y : Str} {i : Nat} {t : TS} {Γ : Gam} {De : DE} (b : Bool) (h : decide (x = y) = b) (hv : Γ[i]? = some (.val (.str x))) (h1 : b = true → Ds t Γ De) (h2 : b = false → De.nx Γ) : Ds (tIfS (tTest (tOp (rEqX K) (tVar i) (tC (.str y)))) t tNext) Γ De :=
  ds_if (EvT.dl (evt_test (ev_op (ev_var hv) ev_str (eq_sb h))) ⟨h1, fun z => ds_next (h2 z)⟩)
theorem nps_of {ds : List D} (h : ∀ d ∈ ds, Pv d) : noPs ds = true := by
  induction ds with
  | nil => rfl
  | cons d r ih =>
    show (noP d && noPs r) = true
    rw [(h d List.mem_cons_self).np, ih fun x hx => h x (List.mem_cons_of_mem _ hx)]; rfl
theorem np_bt {ls rs : List (List Nat)} {r : List D} (h : noPs r = true) : noPs (.tup [.tup (nameD ls), .tup (nameD rs)] :: r) = true := by
  show ((noPs (nameD ls) && (noPs (nameD rs) && true)) && noPs r) = true
  rw [np_name, np_name, h]; rfl
end K26

namespace K26
open PySem PySem.Spec PyProof.Rows L2 Dw
/-! the law's own draws -/
theorem dr2_mulX {i j : Int} (h : CMulX i j) : DR2 (rI CMulX fun i j => .int (i * j)) (.int i) (.int j) (.int (i * j)) := dr2_rI h fun _ => rfl
def spAnyOf : Spc where
  ty := Bool × List D
  args := fun x => [.purse, if x.1 then .lst x.2 else .tup x.2]
  ok := fun x => 0 < x.2.length ∧ x.2.length < 100000
  rel := fun x d => d ∈ x.2
def spHas : Spc where
  ty := List Nat × List Nat
  args := fun x => [.str (tx x.1), .tup (ordD x.2)]
  ok := fun x => ∃ n, RowOk x.1 n ∧ n ≤ 8 ∧ ∀ k ∈ x.2, k < n
  rel := fun x d => d = .bl (holdsB x.1 x.2)
def spOrder : Spc where
  ty := Nat
  args := fun n => [.purse, .int n]
  ok := fun n => n ≤ 8
  rel := fun n d => ∃ o, d = .tup (ordD o) ∧ o.Perm (List.range n)
def spLRows : Spc where
  ty := Nat × Nat
  args := fun x => [.purse, .int x.1, .int x.2]
  ok := fun x => 1 ≤ x.1 ∧ x.1 ≤ 8 ∧ x.2 < 1000
  rel := fun x d => ∃ rs, d = .tup (nameD rs) ∧ rs.length ≤ x.2 ∧ ∀ r ∈ rs, RowOk r x.1
def spWords : Spc where
  ty := Nat
  args := fun n => [.purse, .int n]
  ok := fun n => 1 ≤ n ∧ n ≤ 8
  rel := fun n d => ∃ ls, d = .tup (nameD ls) ∧ NamesOk ls ∧ ls.length = n
def spLBook : Spc where
  ty := Nat × Nat
  args := fun x => [.purse, .int x.1, .int x.2]
  ok := fun x => 1 ≤ x.1 ∧ x.1 ≤ 8 ∧ x.2 ≤ 20
  rel := fun x d => ∃ ls rs, d = .tup [.tup (nameD ls), .tup (nameD rs)] ∧ BookOk ls rs ∧ rs.length ≤ x.2 ∧ ls.length ≤ x.1
def spSaid : Spc where
  ty := Bk
  args := fun x => [.tup (nameD x.1), .tup (nameD x.2)]
  ok := fun x => BookOk x.1 x.2
  rel := fun x d => d = .str (tx (bookTx x.1 x.2))
def spThing : Spc where
  ty := Unit
  args := fun _ => [.purse]
  ok := fun _ => True
  rel := fun _ d => plW 2 2 d = true
def spBent (n : Nat) : Spc where
  ty := Nat × Nat × D
  args := fun x => [.purse, x.2.2]
  ok := fun x => plW x.2.1 x.1 x.2.2 = true ∧ x.1 < n ∧ 2 ≤ x.2.1 ∧ x.2.1 ≤ 40
  rel := fun x d => plW (x.2.1 + 1) (x.1 + 2) d = true
def strs1 : List Str := ["a", "ab", "abc", "b", "cost", "d", "ever", "fits", "k", "near", "row", "s", "safe", "z", "zzzzzzzz"]
def lab1 : List (List Nat) := strs1.map fun s => s.cps.toList
theorem lab1_D : nameD lab1 = strs1.map D.str := by
  unfold nameD lab1
  rw [List.map_map]
  exact List.map_congr_left fun s _ => congrArg D.str (of_tx s).symm
theorem lab1_ok : ∀ l ∈ lab1, NameOk l := by
  have h : lab1.all nameB = true := by decide +kernel
  exact fun l hl => nameB_ok (List.all_eq_true.mp h l hl)
theorem lab1_nd : lab1.Nodup := by decide +kernel
theorem lab1_len : lab1.length = 15 := rfl
theorem names_ofG {lab : List (List Nat)} (hok : ∀ l ∈ lab, NameOk l) (hnd : lab.Nodup) {zs : List Str} {acc left : List (List Nat)} {n : Nat} (hp : (acc ++ left).Perm lab) (hz : zs.Perm (acc.map tx)) (hs : sortedS zs = true) (hl : acc.length = n) (h1 : 1 ≤ n) (h8 : n ≤ 8) :
    NamesOk (zs.map fun s => s.cps.toList) := by
  have ln : zs.length = n := by rw [hz.length_eq, List.length_map, hl]
  have nd : zs.Nodup := hz.nodup_iff.mpr (nodup_tx (List.nodup_append.mp (hp.nodup_iff.mpr hnd)).1)
  refine ⟨by rw [List.length_map]; omega, by rw [List.length_map]; omega, fun l h => ?_, ?_⟩
  · obtain ⟨s, h1, rfl⟩ := List.mem_map.mp h
    obtain ⟨m, h2, rfl⟩ := List.mem_map.mp (hz.mem_iff.mp h1)
    show NameOk (tx m).cps.toList
    rw [tx_cps]
    exact hok m (hp.mem_iff.mp (List.mem_append_left _ h2))
  · cases zs with
    | nil => exact fun p hp => by cases hp
    | cons x r => exact rising_inc x r hs nd
theorem joinL_cons (s a : List Nat) : ∀ rs : List (List Nat), TL.joinL s (a :: rs) = a ++ (rs.map (s ++ ·)).flatten
  | [] => by simp [TL.joinL]
  | q :: r => by
    show a ++ (s ++ TL.joinL s (q :: r)) = a ++ ((s ++ q) ++ (r.map (s ++ ·)).flatten)
    rw [joinL_cons s q r, List.append_assoc]
theorem said_eq (ls rs : List (List Nat)) : tx (TL.joinL [32] ls) ++ Str.ofString ":" ++ Txt.join (Str.ofString "") ((rs.map ([32] ++ ·)).map tx) = tx (bookTx ls rs) := by
  rw [colonS, tx_append, show Str.ofString "" = tx [] by decide +kernel, join_tx, joinL_nil, tx_append]
  congr 1
  exact (joinL_cons [32] (TL.joinL [32] ls ++ [58]) rs).symm
theorem plW_tup {z k : Nat} {ds : List D} (h1 : ds.length ≤ z) (h2 : ∀ d ∈ ds, plW z k d = true) : plW z (k + 1) (.tup ds) = true := by
  show (decide (ds.length ≤ z) && plWs z k ds) = true
  rw [decide_eq_true h1, Bool.true_and]
  exact plWs_iff.mpr h2
theorem plW_lst {z k : Nat} {ds : List D} (h1 : ds.length ≤ z) (h2 : ∀ d ∈ ds, plW z k d = true) : plW z (k + 1) (.lst ds) = true := by
  show (decide (ds.length ≤ z) && plWs z k ds) = true
  rw [decide_eq_true h1, Bool.true_and]
  exact plWs_iff.mpr h2
theorem plW_of_tup {z k : Nat} {ds : List D} (h : plW z k (.tup ds) = true) : ∃ m, k = m + 1 ∧ ds.length ≤ z ∧ ∀ d ∈ ds, plW z m d = true := by
  cases k with
  | zero => exact nomatch h
  | succ m =>
    have h : (decide (ds.length ≤ z) && plWs z m ds) = true := h
    rw [Bool.and_eq_true, decide_eq_true_eq] at h
    exact ⟨m, rfl, h.1, plWs_iff.mp h.2⟩
theorem plW_ty {z k : Nat} {d : D} (h : plW z k d = true) : hasTy d = true := by
  cases d <;> first | rfl | (cases k <;> exact nomatch h)
theorem plW_int (z k : Nat) (i : Int) : plW z k (.int i) = true := by cases k <;> rfl
theorem plW_pv {z k : Nat} {d : D} (h : plW z k d = true) (hz : z ≤ 60) (hk : k ≤ 12) : Pv d := plW_mono hz k 12 d hk h
theorem plW_ord {o : List Nat} {z : Nat} (h : o.length ≤ z) : plW z 1 (.tup (ordD o)) = true := plW_tup (by rw [ordD_len]; exact h) fun d hd => by
  obtain ⟨k, _, rfl⟩ := List.mem_map.mp hd
  exact plW_int _ _ _
def menu1 : List D := [.non, .bl true, .bl false, .int 0, .int 1, .int (-1), .int 2, .int ((10 : Int) ^ (30 : Int).toNat), .str "", .str "a", .str "a:", .str "+", .str "+-", .str "cost near: +-", .tup [], .tup [.int 0], .tup [.int 1, .int 0]]
def menu2 : List D := [.tup [.int 0, .int 1], .lst [], .lst [.int 0], .dct [] [], .dct [Sum.inr "a"] [.int 1], .tup [.str "fits", .str "a:"], .tup [.tup [.int 0], .tup [.int 0]], .tup [.non], .tup [.str "a"], .str "a 0; b 1"]
def menu3 : List D := [.tup [.int 0, .int 0], .tup [.bl true]]
theorem menu_ok : ∀ d ∈ menu1 ++ menu2 ++ menu3, plW 2 2 d = true := List.all_eq_true.mp (by decide +kernel)
end K26

namespace K26
open PySem PySem.Spec PyProof.Rows L2 Dw
def spAllHave : Spc where
  ty := List (List Nat) × List Nat
  args := fun x => [.tup (nameD x.1), .tup (ordD x.2)]
  ok := fun x => ∃ n, (∀ r ∈ x.1, RowOk r n) ∧ n ≤ 8 ∧ x.1.length ≤ 1000 ∧ ∀ k ∈ x.2, k < n
  rel := fun x d => d = .bl (x.1.all fun r => holdsB r x.2)
theorem filt_nil (rs : List (List Nat)) (p : List Nat → Bool) : decide ((rs.filter fun r => !p r).map tx = []) = rs.all p := by
  rw [Bool.eq_iff_iff, decide_eq_true_eq, List.all_eq_true, List.map_eq_nil_iff, List.filter_eq_nil_iff]
  exact forall_congr' fun r => forall_congr' fun _ => by cases p r <;> simp
def spIsOrd : Spc where
  ty := D × Nat
  args := fun x => [x.1, .int x.2]
  ok := fun x => Pv x.1 ∧ x.2 ≤ 8
  rel := fun x d => d = .bl (rkB x.1 x.2)
theorem rkB_tup {d : D} {n : Nat} (h : isTupB d = false) : rkB d n = false := by cases d <;> first | rfl | exact nomatch h
theorem rkB_no {ds : List D} {n : Nat} (h : ∀ o, ds = ordD o → o.Perm (List.range n) → False) : rkB (.tup ds) n = false := by
  cases q : rkB (.tup ds) n with
  | false => rfl
  | true =>
    obtain ⟨o, e, ho⟩ := rkB_iff.mp q
    injection e with e
    exact (h o e ho).elim
theorem ordD_inj {o p : List Nat} (h : ordD o = ordD p) : o = p := by
  have := congrArg (fun l => l.map fun d => (intOf d).toNat) h
  unfold ordD at this
  rw [List.map_map, List.map_map] at this
  have e : ((fun d => (intOf d).toNat) ∘ fun k : Nat => D.int k) = id := by funext k; exact Int.toNat_natCast k
  rw [e, List.map_id, List.map_id] at this
  exact this
end K26

namespace K26
open PySem PySem.Spec PyProof.Rows L2 Dw
/-! lots, quarrels and the rows that stay open, by the law's own look -/
theorem evt_castB {t : TT} {Γ : Gam} {b b' : Bool} (h : b = b') (e : EvT t Γ b) : EvT t Γ b' := h ▸ e
def colsM (rs : List (List Nat)) (n : Nat) : List (List Nat) := (List.range n).map fun k => rs.map fun r => sgn r k
theorem fz_cols (rs : List (List Nat)) (n : Nat) : fz rs n = (colsM rs n).map fuse := by unfold fz colsM; rw [List.map_map]; rfl
theorem fuse45 (l : List Nat) : fuse l = 45 ↔ 45 ∈ l := by
  unfold fuse
  by_cases h : 45 ∈ l
  · simp [h]
  · rw [if_neg h]
    by_cases h2 : 43 ∈ l <;> simp [h, h2]
theorem fuse43 (l : List Nat) : fuse l = 43 ↔ 43 ∈ l ∧ 45 ∉ l := by
  unfold fuse
  by_cases h : 45 ∈ l
  · simp [h]
  · rw [if_neg h]
    by_cases h2 : 43 ∈ l <;> simp [h, h2]
theorem filt_isE {α : Type} (p : α → Bool) (l : List α) : (l.filter p).isEmpty = !l.any p := by
  rw [Bool.eq_iff_iff, List.isEmpty_iff, List.filter_eq_nil_iff, Bool.not_eq_true', List.any_eq_false]
theorem quB_cols (rs : List (List Nat)) (n : Nat) : quB rs n = (!((colsM rs n).filter fun c => decide (45 ∈ c)).isEmpty && ((colsM rs n).filter fun c => decide (43 ∈ c) && !decide (45 ∈ c)).isEmpty) := by
  unfold quB
  rw [fz_cols, filt_isE, filt_isE, Bool.not_not]
  congr 1
  · rw [Bool.eq_iff_iff, decide_eq_true_eq, List.mem_map, List.any_eq_true]
    exact exists_congr fun c => and_congr Iff.rfl (by rw [fuse45, decide_eq_true_eq])
  · congr 1
    rw [Bool.eq_iff_iff, decide_eq_true_eq, List.mem_map, List.any_eq_true]
    exact exists_congr fun c => and_congr Iff.rfl (by rw [fuse43, Bool.and_eq_true, Bool.not_eq_true', decide_eq_true_eq, decide_eq_false_iff_not])
theorem quB_nil (n m : Nat) : quB [] n = quB [] m := by
  have h : ∀ n, quB [] n = false := fun n => by
    unfold quB
    have : 45 ∉ fz [] n := fun h => by
      obtain ⟨k, _, e⟩ := List.mem_map.mp h
      exact absurd ((fuse45 _).mp e) (by simp)
    rw [decide_eq_false this]; rfl
  rw [h, h]
def lolC (cs : List (List Nat)) : List D := cs.map fun c => .lst (chD c)
theorem ok_chL {c : List Nat} (h : ∀ x ∈ c, isSign x) : dOk 1 (.lst (chD c)) = true := dOks_map fun x hx => okS_ch (h x hx).lt
theorem ok_lolC {cs : List (List Nat)} (h : ∀ c ∈ cs, ∀ x ∈ c, isSign x) : dOk 2 (.lst (lolC cs)) = true := dOks_map fun c hc => ok_chL (h c hc)
theorem ok_nameL {rs : List (List Nat)} (h : ∀ r ∈ rs, ∀ c ∈ r, isSign c) : dOk 1 (.lst (nameD rs)) = true := dOks_map fun r hr => okS_tx fun c hc => (h r hr c hc).lt
theorem ev_nin_ch {K : PySem.W.Frag} {t : TE} {Γ : Gam} {r' : R2} {s : Str} {c : Nat} {l : List Nat} (hs : s = ch c) (h : EvB t Γ (chD l)) : Ev (tOp (rOr (rIn K true) r') (tC (.str s)) t) Γ (.bl (!decide (c ∈ l))) := by
  have e := ev_in (neg := true) (K := K) (r' := r') (ev_str (z := s) (Γ := Γ)) h rfl (sc_ch l)
  rw [hs] at e ⊢
  rw [show (if true = true then !inV (scV (.str (ch c))) ((chD l).map scV) else inV (scV (.str (ch c))) ((chD l).map scV)) = !decide (c ∈ l) from congrArg not (inV_ch c l)] at e
  exact e
def spClash : Spc where
  ty := List (List Nat) × Nat
  args := fun x => [.lst (nameD x.1)]
  ok := fun x => (∀ r ∈ x.1, RowOk r x.2) ∧ x.2 ≤ 8 ∧ x.1.length ≤ 1000
  rel := fun x d => d = .bl (quB x.1 x.2)
theorem isE_map {α β : Type} (f : α → β) (l : List α) : (l.map f).isEmpty = l.isEmpty := by cases l <;> rfl
def spLLot : Spc where
  ty := Nat
  args := fun n => [.purse, .int n]
  ok := fun n => n ≤ 20
  rel := fun n d => ∃ o, d = .tup (ordD o) ∧ o.length ≤ n
def spStuck : Spc where
  ty := List (List Nat) × Nat
  args := fun x => [.tup (nameD x.1), .int x.2]
  ok := fun x => (∀ r ∈ x.1, RowOk r x.2) ∧ x.2 ≤ 8 ∧ x.1.length ≤ 100
  rel := fun x d => ∃ o, d = .tup (ordD o) ∧ o.length ≤ x.1.length ∧ ∀ k ∈ o, k < x.1.length
theorem lotB_tup {d : D} {m : Nat} (h : isTupB d = false) : lotB d m = false := by cases d <;> first | rfl | exact nomatch h
theorem lotB_no {ds : List D} {m : Nat} (h : ∀ o, ds = ordD o → LotOk o m → False) : lotB (.tup ds) m = false := by
  cases q : lotB (.tup ds) m with
  | false => rfl
  | true =>
    obtain ⟨o, e, ho⟩ := lotB_iff.mp q
    injection e with e
    exact (h o e ho).elim
theorem ordD_inj2 {o p : List Nat} (h : ordD o = ordD p) : o = p := by
  have := congrArg (fun l => l.map fun d => (intOf d).toNat) h
  unfold ordD at this
  rw [List.map_map, List.map_map] at this
  have e : ((fun d => (intOf d).toNat) ∘ fun k : Nat => D.int k) = id := by funext k; exact Int.toNat_natCast k
  rw [e, List.map_id, List.map_id] at this
  exact this
theorem take_ord {ds : List D} {o : List Nat} {i : Nat} {y : D} (tk : ds.take i = ordD o) (hy : ds[i]? = some y) (o' : List Nat) (e' : ds = ordD o') : ∃ k, o'[i]? = some k ∧ y = .int k ∧ o'.take i = o := by
  have h3 : (o'.map fun k : Nat => D.int k)[i]? = some y := by rw [← show ds = o'.map _ from e']; exact hy
  rw [List.getElem?_map] at h3
  cases q : o'[i]? with
  | none => rw [q] at h3; cases h3
  | some k =>
    rw [q] at h3; cases h3
    refine ⟨k, rfl, rfl, ordD_inj2 ?_⟩
    rw [← tk, e']
    unfold ordD
    rw [List.map_take]
theorem lot_snoc {o : List Nat} {m i k : Nat} (h : LotOk o m) (hl : o.length = i) (hk : k < m) (hlast : ∀ (h : 0 < i), o[i - 1]'(by omega) < k) : LotOk (o ++ [k]) m := by
  refine ⟨fun j hj => ?_, List.pairwise_append.mpr ⟨h.inc, List.pairwise_singleton .., fun a ha b hb => ?_⟩⟩
  · rcases List.mem_append.mp hj with hj | hj
    · exact h.lt j hj
    · rw [List.mem_singleton.mp hj]; exact hk
  · rw [List.mem_singleton.mp hb]
    obtain ⟨j, hj, rfl⟩ := List.getElem_of_mem ha
    have hi : 0 < i := by omega
    have hl2 := hlast hi
    by_cases e : j = i - 1
    · subst e; exact hl2
    · exact Nat.lt_trans (List.pairwise_iff_getElem.mp h.inc j (i - 1) hj (by omega) (by omega)) hl2
end K26

namespace K26
open PySem PySem.Spec PyProof.Rows L2 Dw
/-! all rankings, and pairs of them -/
def stepO (n : Nat) (o : List Nat) : List (List Nat) := ((List.range n).filter fun k => !decide (k ∈ o)).map fun k => o ++ [k]
def ordersM (n : Nat) : Nat → List (List Nat)
  | 0 => [[]]
  | i + 1 => (ordersM n i).flatMap (stepO n)
structure OrdI (n i : Nat) (o : List Nat) : Prop where
  len : o.length = i
  nd : o.Nodup
  lt : ∀ k ∈ o, k < n
theorem stepO_ok {n i : Nat} {o : List Nat} (h : OrdI n i o) : ∀ p ∈ stepO n o, OrdI n (i + 1) p := fun p hp => by
  obtain ⟨k, hk, rfl⟩ := List.mem_map.mp hp
  obtain ⟨h1, h2⟩ := List.mem_filter.mp hk
  have h1 := List.mem_range.mp h1
  rw [Bool.not_eq_true', decide_eq_false_iff_not] at h2
  refine ⟨by rw [List.length_append, h.len]; rfl, ?_, fun j hj => ?_⟩
  · rw [List.nodup_append]
    refine ⟨h.nd, List.nodup_cons.mpr ⟨by simp, List.nodup_nil⟩, fun a ha b hb z => ?_⟩
    rw [List.mem_singleton.mp hb] at z
    exact h2 (z ▸ ha)
  · rcases List.mem_append.mp hj with hj | hj
    · exact h.lt j hj
    · rw [List.mem_singleton.mp hj]; exact h1
theorem stepO_len (n : Nat) (o : List Nat) : (stepO n o).length ≤ n := by
  unfold stepO
  rw [List.length_map]
  exact Nat.le_trans (List.length_filter_le _ _) (by rw [List.length_range]; exact Nat.le_refl _)
theorem flat_len {α : Type} {n : Nat} (f : α → List α) (h : ∀ a, (f a).length ≤ n) : ∀ l : List α, (l.flatMap f).length ≤ l.length * n
  | [] => Nat.zero_le _
  | a :: l => by
    rw [List.flatMap_cons, List.length_append, List.length_cons, Nat.add_mul, Nat.one_mul]
    have := flat_len f h l
    have := h a
    omega
theorem ordersM_ok (n : Nat) : ∀ i, ∀ o ∈ ordersM n i, OrdI n i o
  | 0, o, h => by
    rw [List.mem_singleton.mp h]
    exact ⟨rfl, List.nodup_nil, fun k h => absurd h (by simp)⟩
  | i + 1, o, h => by
    obtain ⟨p, hp, ho⟩ := List.mem_flatMap.mp h
    exact stepO_ok (ordersM_ok n i p hp) o ho
theorem ordersM_len (n : Nat) : ∀ i, (ordersM n i).length ≤ n ^ i
  | 0 => Nat.le_refl _
  | i + 1 => by
    have h1 := flat_len (stepO n) (stepO_len n) (ordersM n i)
    have h2 := ordersM_len n i
    rw [Nat.pow_succ]
    exact Nat.le_trans h1 (Nat.mul_le_mul_right n h2)
theorem pow5' {i n : Nat} (h : i ≤ 5) (hn : n ≤ 5) : n ^ i ≤ 3125 := Nat.le_trans (Nat.pow_le_pow_left hn i) (Nat.le_trans (Nat.pow_le_pow_right (by decide) h) (by decide))
theorem orders_perm {n : Nat} {o : List Nat} (h : o ∈ ordersM n n) : o.Perm (List.range n) := by
  have := ordersM_ok n n o h
  exact perm_iff.mpr ⟨this.len, this.nd, this.lt⟩
def spOrders : Spc where
  ty := Nat
  args := fun n => [.int n]
  ok := fun n => n ≤ 5
  rel := fun n d => d = .lst (ordT (ordersM n n))
def fittersM (rs : List (List Nat)) (n : Nat) : List (List Nat) := (ordersM n n).filter fun o => rs.all fun r => holdsB r o
def spFitters : Spc where
  ty := List (List Nat) × Nat
  args := fun x => [.tup (nameD x.1), .int x.2]
  ok := fun x => (∀ r ∈ x.1, RowOk r x.2) ∧ x.2 ≤ 5 ∧ x.1.length ≤ 1000
  rel := fun x d => d = .lst (ordT (fittersM x.1 x.2))
theorem fitters_len {rs : List (List Nat)} {n : Nat} (h : n ≤ 5) : (fittersM rs n).length ≤ 3125 := Nat.le_trans (List.length_filter_le _ _) (Nat.le_trans (ordersM_len n n) (pow5' h h))
theorem ev_ninT {K : PySem.W.Frag} {Γ : Gam} {ta tb : TE} {r' : R2} {c : Nat} {l : List Nat} (ha : Ev ta Γ (.int c)) (h : Ev tb Γ (.tup (ordD l))) : Ev (tOp (rOr (rIn K true) r') ta tb) Γ (.bl (!decide (c ∈ l))) := by
  have e := ev_inT (neg := true) (K := K) (r' := r') ha h rfl (sc_ord l)
  rw [show scV (.int (c : Int)) = V.int (c : Int) from rfl] at e
  have e2 : inV (.int (c : Int)) ((ordD l).map scV) = decide (c ∈ l) := inV_ord c l
  rw [e2] at e
  exact e
def spOpenDue : Spc where
  ty := List (List Nat) × List Nat × D × Nat
  args := fun x => [.tup (nameD x.1), .str (tx x.2.1), x.2.2.1, .int x.2.2.2]
  ok := fun x => (∀ r ∈ x.1, RowOk r x.2.2.2) ∧ RowOk x.2.1 x.2.2.2 ∧ x.2.2.2 ≤ 8 ∧ Pv x.2.2.1 ∧ x.1.length ≤ 900
  rel := fun x d => d = .bl (soB x.2.2.1 x.1 x.2.1 x.2.2.2)
theorem soB_not {d : D} {rs : List (List Nat)} {r : List Nat} {n : Nat} (h : isTupB d = false) : soB d rs r n = false := by cases d <;> first | rfl | exact nomatch h
theorem soB_len {ds : List D} {rs : List (List Nat)} {r : List Nat} {n : Nat} (h : ds.length ≠ 2) : soB (.tup ds) rs r n = false := by
  match ds, h with
  | [], _ => rfl
  | [_], _ => rfl
  | [_, _], h => exact absurd rfl h
  | _ :: _ :: _ :: _, _ => rfl
theorem filt2 (p : D → Bool) (a b : D) : (!(([a, b].filter fun x => !p x).map fun x => x).isEmpty) = !(p a && p b) := by
  rw [List.map_id']
  cases ha : p a <;> cases hb : p b <;> simp [ha, hb]
end K26

namespace K26
open PySem PySem.Spec PyProof.Rows L2 Dw
/-! which rankings fit, by the layers and by walking through all -/
theorem walked_id (ls : List (List Nat)) : walked (fun l => l) ls = ls.flatten := by unfold walked; rw [List.map_id']
def rankM (rs : List (List Nat)) (n : Nat) : List Nat := (splitM rs n).1.flatten
theorem rank_fits {rs : List (List Nat)} {n : Nat} (h : SgnOk rs n) (e : Still rs n = []) : (rankM rs n).Perm (List.range n) ∧ ∀ r ∈ rs, holdsB r (rankM rs n) = true := by
  rcases layF_end h.1 (n + 1) [] (List.range n) (open0 rs) (layI_0 rs n) (by rw [List.length_range]; omega) with ⟨ls, e1, hh⟩ | ⟨ls, lf, st, e1, h1, hh, h2⟩
  · have e1 : splitM rs n = (ls, []) := e1
    obtain ⟨w1, w2⟩ := lay_fits h.1 hh (g := fun l => l) (fun l => .refl _)
    unfold rankM
    rw [e1]
    rw [walked_id] at w1 w2
    exact ⟨w1, all_rows.mpr w2⟩
  · have e1 : splitM rs n = (ls, st) := e1
    unfold Still at e
    rw [e1] at e
    exact absurd e h1
theorem orders_all (n : Nat) : ∀ i, ordersM n i = allM n i
  | 0 => rfl
  | i + 1 => by
    show (ordersM n i).flatMap (stepO n) = (allM n i).flatMap _
    rw [orders_all n i]; rfl
theorem fitters_mem {rs : List (List Nat)} {n : Nat} {o : List Nat} : o ∈ fittersM rs n ↔ o.Perm (List.range n) ∧ ∀ r ∈ rs, holdsB r o = true := by
  unfold fittersM
  rw [List.mem_filter, orders_all, allM_mem, List.all_eq_true, perm_iff]
theorem fitters_some {rs : List (List Nat)} {n : Nat} (h : SgnOk rs n) (e : Still rs n = []) : rankM rs n ∈ fittersM rs n := fitters_mem.mpr (rank_fits h e)
theorem fitters_none {rs : List (List Nat)} {n : Nat} (h : SgnOk rs n) (e : Still rs n ≠ []) : fittersM rs n = [] := by
  cases q : fittersM rs n with
  | nil => rfl
  | cons o l =>
    have : o ∈ fittersM rs n := by rw [q]; exact List.mem_cons_self
    exact absurd ((still_fit h).mpr ⟨o, fitters_mem.mp this⟩) e
theorem quar_quB (rs : List (List Nat)) (n : Nat) : quB rs n = quarB rs n := rfl
theorem quar_lot {rs : List (List Nat)} {n : Nat} (h : SgnOk rs n) (e : Still rs n ≠ []) : LotOk (quarM rs n) rs.length ∧ quB (pick rs (quarM rs n)) n = true := by
  have q := quarM_I h e
  refine ⟨⟨fun k hk => List.mem_range.mp (q.sub.subset hk), List.Pairwise.sublist q.sub (List.pairwise_lt_range)⟩, ?_⟩
  have := lot_quar h e (List.Sublist.refl (quarM rs n))
  rw [decide_eq_true rfl] at this
  exact this
def certO (rs : List (List Nat)) (n : Nat) : List Nat := if Still rs n = [] then rankM rs n else quarM rs n
def certC (rs : List (List Nat)) (n : Nat) : Cw := if Still rs n = [] then .fits else .quarrels
def spBText (C : Addr) : Spc where
  ty := Bk
  args := fun x => [bookD C x.1 x.2]
  ok := fun _ => True
  rel := fun x d => d = .str (tx (bookTx x.1 x.2))
def spRank : Spc where
  ty := List (List Nat) × Nat × Bool
  args := fun x => [rowsD x.2.2 x.1, .int x.2.1]
  ok := fun x => (∀ r ∈ x.1, RowOk r x.2.1) ∧ x.2.1 ≤ 8 ∧ x.1.length ≤ 1000
  rel := fun x d => d = .tup (ordD (rankM x.1 x.2.1))
def spCertF (C : Addr) : Spc where
  ty := Bk
  args := fun x => [bookD C x.1 x.2]
  ok := fun x => BookOk x.1 x.2
  rel := fun x d => d = .tup [.tup [.str (certC x.2 x.1.length).word, .str (tx (bookTx x.1 x.2))], .tup (ordD (certO x.2 x.1.length))]
theorem splitM_few (rs : List (List Nat)) (n : Nat) (h : SgnOk rs n) : ((splitM rs n).1.flatten).length ≤ n := by
  rcases layF_end h.1 (n + 1) [] (List.range n) (open0 rs) (layI_0 rs n) (by rw [List.length_range]; omega) with ⟨ls, e1, hh⟩ | ⟨ls, lf, st, e1, h1, hh, h2⟩
  · have e1 : splitM rs n = (ls, []) := e1
    rw [e1]
    have := hh.perm.length_eq
    rw [List.length_append, List.length_range] at this
    show ls.flatten.length ≤ n
    omega
  · have e1 : splitM rs n = (ls, st) := e1
    rw [e1]
    have := hh.perm.length_eq
    rw [List.length_append, List.length_range] at this
    show ls.flatten.length ≤ n
    omega
end K26

namespace K26
open PySem PySem.Spec PyProof.Rows L2 Dw
/-! cases: names with marks -/
structure NumOk (l : List Nat) (k : Nat) : Prop where
  lo : 1 ≤ l.length
  hi : l.length ≤ 2
  dig : ∀ c ∈ l, 48 ≤ c ∧ c ≤ 57
  lead : (decide (l = [48]) || !decide (sgn l 0 = 48)) = true
  val : NumText.digitsVal l = k
def numB (k : Nat) : Bool := decide (1 ≤ (TL.numL k).length) && decide ((TL.numL k).length ≤ 2) && (TL.numL k).all (fun c => decide (48 ≤ c) && decide (c ≤ 57)) && (decide (TL.numL k = [48]) || !decide (sgn (TL.numL k) 0 = 48)) && decide (NumText.digitsVal (TL.numL k) = k)
theorem num_all : (List.range 100).all numB = true := by decide +kernel
theorem num_ok {k : Nat} (h : k < 100) : NumOk (TL.numL k) k := by
  have := List.all_eq_true.mp num_all k (List.mem_range.mpr h)
  unfold numB at this
  rw [Bool.and_eq_true, Bool.and_eq_true, Bool.and_eq_true, Bool.and_eq_true, decide_eq_true_eq, decide_eq_true_eq, decide_eq_true_eq, List.all_eq_true] at this
  obtain ⟨⟨⟨⟨a, b⟩, c⟩, d⟩, e⟩ := this
  refine ⟨a, b, fun x hx => ?_, d, e⟩
  have := c x hx
  rw [Bool.and_eq_true, decide_eq_true_eq, decide_eq_true_eq] at this
  exact this
theorem digitsS : Str.ofString "0123456789" = tx ((List.range 10).map (48 + ·)) := by decide +kernel
theorem zeroS : Str.ofString "0" = ch 48 := by decide +kernel
theorem semiS : Str.ofString "; " = tx [59, 32] := by decide +kernel
def spIsNum : Spc where
  ty := List Nat × Nat
  args := fun x => [.str (tx x.1)]
  ok := fun x => NumOk x.1 x.2
  rel := fun _ d => d = .bl true
def spMark : Spc where
  ty := List Nat × Nat
  args := fun x => [.str (tx x.1)]
  ok := fun x => NumOk x.1 x.2 ∧ x.2 < 100
  rel := fun x d => d = .int x.2
def wordsL (p : List Nat × List Nat) : List (List Nat) := p.1 :: p.2.map TL.numL
def partT (p : List Nat × List Nat) : List Nat := TL.joinL [32] (wordsL p)
def caseTx (ls ms : List (List Nat)) : List Nat := TL.joinL [59, 32] ((ls.zip ms).map partT)
structure CaseOk (ls ms : List (List Nat)) (n : Nat) : Prop where
  names : NamesOk ls
  two : 2 ≤ ls.length
  same : ms.length = ls.length
  wide : ∀ m ∈ ms, m.length = n
  lo : 1 ≤ n
  hi : n ≤ 8
  marks : ∀ m ∈ ms, ∀ k ∈ m, k < 100
def caseD (ls ms : List (List Nat)) : D := .tup [.tupN (nameD ls), .tup (ms.map fun m => .tup (ordD m))]
def spReadC (f : Addr) (b : Bool) : Spc where
  ty := List (List Nat) × List (List Nat) × Nat
  args := fun x => .str (tx (caseTx x.1 x.2.1)) :: (if b then [.raw (.ref f)] else [])
  ok := fun x => CaseOk x.1 x.2.1 x.2.2
  rel := fun x d => d = caseD x.1 x.2.1
def agC (a b : Nat) : Nat := if a < b then 43 else if b < a then 45 else 46
def agR (a b : List Nat) : List Nat := (a.zip b).map fun p => agC p.1 p.2
theorem agR_ok {a b : List Nat} {n : Nat} (h1 : a.length = n) (h2 : b.length = n) : RowOk (agR a b) n := ⟨by unfold agR; rw [List.length_map, List.length_zip]; omega, fun c hc => by
  obtain ⟨p, _, rfl⟩ := List.mem_map.mp hc
  unfold agC
  by_cases h : p.1 < p.2
  · rw [if_pos h]; exact .inl rfl
  · rw [if_neg h]
    by_cases h2 : p.2 < p.1
    · rw [if_pos h2]; exact .inr (.inl rfl)
    · rw [if_neg h2]; exact .inr (.inr rfl)⟩
def spSignOf : Spc where
  ty := Nat × Nat
  args := fun x => [.int x.1, .int x.2]
  ok := fun _ => True
  rel := fun x d => d = .str (ch (agC x.1 x.2))
def spBetween : Spc where
  ty := List Nat × List Nat × Nat
  args := fun x => [.tup (ordD x.1), .tup (ordD x.2.1)]
  ok := fun x => x.1.length = x.2.2 ∧ x.2.1.length = x.2.2 ∧ x.2.2 ≤ 8
  rel := fun x d => d = .str (tx (agR x.1 x.2.1))
theorem ch_sameC {a b : Nat} : decide (ch a = ch b) = decide (a = b) := decide_eq_decide.mpr ch_eq
theorem zip_ord (a b : List Nat) : zipD (ordD a) (ordD b) = (a.zip b).map fun p => D.tup [.int (p.1 : Nat), .int (p.2 : Nat)] := by
  unfold zipD ordD
  rw [List.zip_map, List.map_map]; rfl
theorem ev_strK {Γ : Gam} {ta : TE} {i : Int} (h : Ev ta Γ (.int i)) (hz : i.natAbs.log2 < 1920) : Ev (tCB (fun xs H Q => ∃ i, xs = [.int i] ∧ i.natAbs.log2 < 1920 ∧ Q (.str (toString i)) H) (tCons ta tNil)) Γ (.str (Str.ofString (toString i))) := fun F σ W Q g k =>
  h F σ W _ g fun v H s r => ⟨i, by rw [show v = V.int i from r], hz, k _ H s rfl⟩
theorem ev_intS {Γ : Gam} {ta : TE} {a : Str} {n : Int} (h : Ev ta Γ (.str a)) (hn : PySem.intText? a = some n) (hl : a.length ≤ 640) : Ev (tCB (fun xs H Q => ∃ a n, xs = [.str a] ∧ PySem.intText? a = some n ∧ a.length ≤ 640 ∧ Q (.int n) H) (tCons ta tNil)) Γ (.int n) := fun F σ W Q g k =>
  h F σ W _ g fun v H s r => ⟨a, n, by rw [show v = V.str a from r], hn, hl, k _ H s rfl⟩
theorem NumOk.int {l : List Nat} {k : Nat} (h : NumOk l k) : PySem.intText? (tx l) = some (k : Int) := by
  have := SX.int_S (a := l) (List.all_eq_true.mpr fun c hc => by
    have := h.dig c hc
    rw [Bool.and_eq_true, decide_eq_true_eq, decide_eq_true_eq]; exact this) (fun e => by have := h.lo; rw [e] at this; cases this) (by have := h.hi; omega)
  rw [h.val] at this
  exact this
theorem names_zip {ls ms : List (List Nat)} (h : ms.length = ls.length) : (ls.zip ms).map (·.1) = ls := List.map_fst_zip (by omega)
theorem marks_zip {ls ms : List (List Nat)} (h : ms.length = ls.length) : (ls.zip ms).map (·.2) = ms := List.map_snd_zip (by omega)
theorem joinX_c {c : Nat} {sep : List Nat} (hs : c ∉ sep) : ∀ ps : List (List Nat), (∀ p ∈ ps, c ∉ p) → c ∉ TL.joinL sep ps
  | [], _, hc => absurd hc (by simp [TL.joinL])
  | [l], h, hc => h l List.mem_cons_self (by simpa [TL.joinL] using hc)
  | l :: m :: r, h, hc => by
    have e : TL.joinL sep (l :: m :: r) = l ++ (sep ++ TL.joinL sep (m :: r)) := by simp [TL.joinL]
    rw [e, List.mem_append, List.mem_append] at hc
    rcases hc with hc | hc | hc
    · exact h l List.mem_cons_self hc
    · exact hs hc
    · exact joinX_c hs (m :: r) (fun l' hl => h l' (List.mem_cons_of_mem _ hl)) hc
theorem joinL_lenB {m : Nat} (sep : List Nat) : ∀ ps : List (List Nat), (∀ p ∈ ps, p.length ≤ m) → (TL.joinL sep ps).length ≤ ps.length * (m + sep.length)
  | [], _ => by simp [TL.joinL]
  | [l], h => by
    have := h l List.mem_cons_self
    simp [TL.joinL]; omega
  | l :: q :: r, h => by
    have e : TL.joinL sep (l :: q :: r) = l ++ (sep ++ TL.joinL sep (q :: r)) := by simp [TL.joinL]
    have ih := joinL_lenB sep (q :: r) fun p hp => h p (List.mem_cons_of_mem _ hp)
    have h1 := h l List.mem_cons_self
    rw [e, List.length_append, List.length_append, List.length_cons (a := l), Nat.succ_mul]
    omega
theorem CaseOk.zip {ls ms : List (List Nat)} {n : Nat} (h : CaseOk ls ms n) {p : List Nat × List Nat} (hp : p ∈ ls.zip ms) : NameOk p.1 ∧ p.2.length = n ∧ ∀ k ∈ p.2, k < 100 :=
  ⟨h.names.all _ (List.of_mem_zip hp).1, h.wide _ (List.of_mem_zip hp).2, h.marks _ (List.of_mem_zip hp).2⟩
theorem words_no {p : List Nat × List Nat} {n c : Nat} (h : NameOk p.1 ∧ p.2.length = n ∧ ∀ k ∈ p.2, k < 100) (hc : c = 32 ∨ c = 59) : ∀ w ∈ wordsL p, c ∉ w := fun w hw hm => by
  rcases List.mem_cons.mp hw with rfl | hw
  · have := h.1.all c hm; omega
  · obtain ⟨k, hk, rfl⟩ := List.mem_map.mp hw
    have := (num_ok (h.2.2 k hk)).dig c hm; omega
theorem words_len {p : List Nat × List Nat} {n : Nat} (h : NameOk p.1 ∧ p.2.length = n ∧ ∀ k ∈ p.2, k < 100) : (wordsL p).length = n + 1 := by
  unfold wordsL
  rw [List.length_cons, List.length_map, h.2.1]
theorem words_8 {p : List Nat × List Nat} {n : Nat} (h : NameOk p.1 ∧ p.2.length = n ∧ ∀ k ∈ p.2, k < 100) : ∀ w ∈ wordsL p, w.length ≤ 8 := fun w hw => by
  rcases List.mem_cons.mp hw with rfl | hw
  · exact h.1.hi
  · obtain ⟨k, hk, rfl⟩ := List.mem_map.mp hw
    have := (num_ok (h.2.2 k hk)).hi; omega
theorem CaseOk.part {ls ms : List (List Nat)} {n : Nat} (h : CaseOk ls ms n) {q : List Nat} (hq : q ∈ (ls.zip ms).map partT) : q.length ≤ 81 ∧ 59 ∉ q := by
  obtain ⟨p, hp, rfl⟩ := List.mem_map.mp hq
  have hz := h.zip hp
  refine ⟨?_, joinX_c (by simp) _ fun w hw => words_no hz (.inr rfl) w hw⟩
  have := joinL_lenB (m := 8) [32] (wordsL p) fun w hw => words_8 hz w hw
  rw [words_len hz] at this
  have h8 := h.hi
  have : (n + 1) * (8 + [32].length) ≤ 9 * 9 := Nat.mul_le_mul (by omega) (by decide)
  show (TL.joinL [32] (wordsL p)).length ≤ 81
  omega
theorem CaseOk.zl {ls ms : List (List Nat)} {n : Nat} (h : CaseOk ls ms n) : (ls.zip ms).length = ls.length := by
  rw [List.length_zip, h.same, Nat.min_self]
theorem CaseOk.len {ls ms : List (List Nat)} {n : Nat} (h : CaseOk ls ms n) : (caseTx ls ms).length ≤ 664 := by
  have := joinL_lenB (m := 81) [59, 32] ((ls.zip ms).map partT) fun q hq => (h.part hq).1
  rw [List.length_map, h.zl] at this
  have h8 := h.names.hi
  have : ls.length * (81 + [59, 32].length) ≤ 8 * 83 := Nat.mul_le_mul h8 (by decide)
  unfold caseTx
  omega
theorem CaseOk.split {ls ms : List (List Nat)} {n : Nat} (h : CaseOk ls ms n) : (Txt.split (tx (caseTx ls ms)) (Str.ofString "; ")).map D.str = (ls.zip ms).map fun p => D.str (tx (partT p)) := by
  have hne : (ls.zip ms).map partT ≠ [] := fun e => by
    have h2 := h.two
    have := congrArg List.length e
    rw [List.length_map, h.zl] at this
    have : ls.length = 0 := this
    omega
  have e := SX.split_S (a := caseTx ls ms) (b := [59, 32]) (by simp) (by decide)
  unfold caseTx at e
  rw [SX.spl_join hne fun q hq => (h.part hq).2] at e
  rw [semiS]
  show (Txt.split (tx (TL.joinL [59, 32] ((ls.zip ms).map partT))) (tx [59, 32])).map D.str = _
  rw [show Txt.split (tx (TL.joinL [59, 32] ((ls.zip ms).map partT))) (tx [59, 32]) = ((ls.zip ms).map partT).map tx from e, List.map_map, List.map_map]; rfl
theorem words_split {p : List Nat × List Nat} {n : Nat} (h : NameOk p.1 ∧ p.2.length = n ∧ ∀ k ∈ p.2, k < 100) : (Txt.split (tx (partT p)) (Str.ofString " ")).map D.str = nameD (wordsL p) := by
  unfold partT
  rw [split_sp (by unfold wordsL; simp) (words_no h (.inl rfl)), nameD_map]
theorem inV_non (o : List Nat) : inV .non ((ordD o).map scV) = false := by
  unfold inV ordD
  rw [List.map_map, List.any_map, List.any_eq_false]
  intro k _
  show ¬ (eqV (V.int (k : Int)) V.non = true)
  exact Bool.false_ne_true
end K26

namespace K26
open PySem PySem.Spec PyProof.Rows L2 Dw
theorem d_is_number {P : Program} {w : World} {K : PySem.W.Frag} {mg : Str → Option Value} {base : Heap} (T : Txt K w mg) : FnOk P w K mg base CX0 1 T.f_is_number T.e_is_number ["word"] (toSp (spIsNum)) := by
  refine fn_ok T.F_is_number sc_is_number (fun _ => rfl) fun cdv A outer s' H E hr => ?_
  refine ⟨_, (pss_cons (ps_if (PW.pt (pw_or (pt_cmpR (eqA K hr.units) (pv 0) pe_str (nomark _)) (pw_or1 (pt_not (truA K (pe_callB (allA K) (by rfl) T.n_all (by decide +kernel) (pa_cons (pe_lc (own := [("digit", 1)]) rfl sc_is_number.nd (piR K (pv 0)) (blkOk_by (own := [("digit", 1)]) (N := N_is_number) (sc := (defScope s_is_number)) (by decide +kernel)) (fun _ _ _ _ _ => pg_name (i := 1) sc_is_number.nd rfl (Or.inl rfl)) (fun _ _ _ _ _ => pts_nil) (fun _ _ _ _ _ => (pe_cmpR (inA K) (pv 1) (pe_glob (v := .str "0123456789") (by rfl) T.c_DIGITS ⟨_, rfl⟩) (by rfl)))) pa_nil))))))) (pss_one (ps_ret pe_bl)) pss_nil) (pss_one (ps_ret (pe_or (pe_cmpR (eqA K hr.units) (pv 0) pe_str (nomark _)) (pe_one (pe_cmpR (neA K hr.units) (pe_ix (ixA K) (pv 0) pe_int (fun _ _ => rfl)) pe_str (nomark _))))))), fun x hx => ?_⟩
  obtain ⟨l, k⟩ := x
  have ho : NumOk l k := hx
  have h1 := ho.lo
  have h2 := ho.hi
  have ne : decide (tx l = Str.ofString "") = false := decide_eq_false fun e => by
    rw [show Str.ofString "" = tx [] by decide +kernel, tx_eq] at e
    rw [e] at h1; exact absurd h1 (by decide)
  refine ds_seq (ds_if (EvT.dl (b := false) (evt_or (a := false) (b := false) (evt_test (ev_op (ev_var rfl) ev_str (eq_sb ne))) fun _ => evt_not (a := true) (evt_tru_bl (ev_cast (congrArg D.bl (all_yes (xs := l) (b := fun _ => true) fun _ _ => rfl)) (ev_all_lc (K := K) (xs := l) (c := fun c => .str (ch c)) (b := fun _ => true) ?it (by omega) fun c hc => ⟨[1], _, dg_name, fun i hi => hi, evt_yes, ev_op (ev_var rfl) ev_str ?dg⟩)))) ⟨fun h => (nomatch h), fun _ => ds_next ?_⟩))
  case it =>
    have := ej_str (K := K) (ta := tVar 0) (Γ := Gz0 2 (spIsNum.args (l, k))) (x := tx l) (ev_var rfl)
    rw [signs_tx, List.map_map] at this
    exact this
  case dg =>
    rw [digitsS]
    have e : decide (c ∈ (List.range 10).map (48 + ·)) = true := decide_eq_true (by
      have := ho.dig c hc
      exact List.mem_map.mpr ⟨c - 48, List.mem_range.mpr (by omega), by omega⟩)
    exact e ▸ in_code
  · refine ds_ret (Ev.dl (ev_cast (congrArg D.bl ho.lead) (ev_orV (ev_op (ev_var rfl) ev_str (eq_sb ?a)) fun _ => ev_op (ev_op (ev_var rfl) ev_int (dr2_ixS (x := tx l) (by rw [tx_len]; exact small (by omega)) (sgn_at (l := l) (k := 0) rfl (by omega)))) ev_str (ne_sb ?b))) rfl)
    case a =>
      rw [zeroS]
      exact decide_eq_decide.mpr (tx_eq (b := [48]))
    case b =>
      rw [zeroS]
      show (!decide (ch (sgn l 0) = ch 48)) = _
      rw [ch_sameC]
end K26

namespace K26
open PySem PySem.Spec PyProof.Rows L2 Dw
theorem d_read_mark {P : Program} {w : World} {K : PySem.W.Frag} {mg : Str → Option Value} {base : Heap} (T : Txt K w mg) : FnOk P w K mg base CX0 2 T.f_read_mark T.e_read_mark ["word"] (toSp (spMark)) := by
  refine fn_ok T.F_read_mark sc_read_mark (fun _ => rfl) fun cdv A outer s' H E hr => ?_
  refine ⟨_, (pss_cons (ps_if (PW.pt (pw_or (pt_not (truA K (pe_call (d_is_number T) (hr.mono (by decide)) (by rfl) T.m_is_number T.F_is_number.kp T.b_is_number .nil pass0 (pa_cons (pv 0) pa_nil)))) (pw_or (pt_cmpR opGt (pe_callB (lenA K) (by rfl) T.n_len (by decide +kernel) (pa_cons (pv 0) pa_nil)) (pe_callB (lenA K) (by rfl) T.n_len (by decide +kernel) (pa_cons (pe_callTy call_str_int (by rfl) T.n_str (by decide +kernel) (pa_cons (pe_glob (v := .int 99) (by rfl) T.c_MOST_MARKS ⟨_, rfl⟩) pa_nil)) pa_nil)) (nomark _)) (pw_or1 (pt_cmpR opGt (pe_callTy call_int_str (by rfl) T.n_int (by decide +kernel) (pa_cons (pv 0) pa_nil)) (pe_glob (v := .int 99) (by rfl) T.c_MOST_MARKS ⟨_, rfl⟩) (nomark _)))))) (pss_one (ps_ret pe_non)) pss_nil) (pss_one (ps_ret (pe_callTy call_int_str (by rfl) T.n_int (by decide +kernel) (pa_cons (pv 0) pa_nil))))), fun x hx => ?_⟩
  obtain ⟨l, k⟩ := x
  obtain ⟨ho, hk⟩ := hx
  have ho : NumOk l k := ho
  have hk : k < 100 := hk
  have h2 := ho.hi
  have s2 : (Str.ofString (toString (99 : Int))).length = 2 := by decide +kernel
  have hl2 : (tx l).length ≤ 2 := by rw [tx_len]; exact h2
  have hz : (tx l).length ≤ sizeLine := by rw [tx_len]; exact small (by omega)
  have hi : Ev (tCB (fun xs H Q => ∃ a n, xs = [.str a] ∧ PySem.intText? a = some n ∧ a.length ≤ 640 ∧ Q (.int n) H) (tCons (tVar 0) tNil)) (Gz0 1 (spMark.args (l, k))) (.int k) := ev_intS (ev_var rfl) ho.int (Nat.le_trans hl2 (by decide))
  refine ds_seq (ds_if (EvT.dl (b := false) (evt_or (a := false) (b := false) (evt_not (a := true) (evt_tru_bl (ev_call (s := spIsNum) (x := (l, k)) (eva_cons (ev_var rfl) eva_nil) rfl ho fun d h => h))) fun _ => evt_or (a := false) (b := false) (evt_test (ev_op (ev_lenS (ev_var rfl) hz) (ev_lenS (ev_strK ev_int (by decide)) (by rw [s2]; decide)) (gt_b (decide_eq_false (by rw [s2]; show ¬ ((2 : Nat) : Int) < ((tx l).length : Int); omega))))) fun _ => evt_test (ev_op hi ev_int (gt_b (decide_eq_false (by omega))))) ⟨fun h => (nomatch h), fun _ => ds_next (ds_ret (Ev.dl hi rfl))⟩))
end K26

namespace K26
open PySem PySem.Spec PyProof.Rows L2 Dw
theorem d_sign_of {P : Program} {w : World} {K : PySem.W.Frag} {mg : Str → Option Value} {base : Heap} (T : Txt K w mg) : FnOk P w K mg base CX0 1 T.f_sign_of T.e_sign_of ["mark", "rival"] (toSp (spSignOf)) := by
  refine fn_ok T.F_sign_of sc_sign_of (fun _ => rfl) fun cdv A outer s' H E hr => ?_
  refine ⟨_, (pss_cons (ps_if (pt_cmpR opLt (pv 0) (pv 1) (nomark _)) (pss_one (ps_ret pe_str)) pss_nil) (pss_one (ps_ret (pe_ifExp (pt_cmpR opGt (pv 0) (pv 1) (nomark _)) pe_str pe_str)))), fun x hx => ?_⟩
  obtain ⟨a, b⟩ := x
  refine ds_seq (ds_if (EvT.dl (evt_test (ev_op (ev_var rfl) (ev_var rfl) lt_int')) ⟨fun h => ds_ret (Ev.dl ev_str ?_), fun h => ds_next (ds_ret (Ev.dl (ev_if (evt_test (ev_op (ev_var rfl) (ev_var rfl) dr2_gt)) (fun _ => ev_str) fun _ => ev_str) ?_))⟩))
  · have h : decide ((a : Int) < (b : Int)) = true := h
    have h := of_decide_eq_true h
    show D.str (Str.ofString "+") = D.str (ch (agC a b))
    rw [ch_plus, show agC a b = 43 from if_pos (by omega)]
  · have h : decide ((a : Int) < (b : Int)) = false := h
    have h := of_decide_eq_false h
    by_cases h2 : b < a
    · have e : agC a b = 45 := (if_neg (by omega)).trans (if_pos h2)
      refine (if_pos (decide_eq_true (show (b : Int) < (a : Int) by omega))).trans ?_
      show D.str (Str.ofString "-") = D.str (ch (agC a b))
      rw [ch_minus, e]
    · have e : agC a b = 46 := (if_neg (by omega)).trans (if_neg h2)
      refine (if_neg (by rw [decide_eq_true_eq]; show ¬ (b : Int) < (a : Int); omega)).trans ?_
      show D.str (Str.ofString ".") = D.str (ch (agC a b))
      rw [ch_dot, e]
end K26

namespace K26
open PySem PySem.Spec PyProof.Rows L2 Dw
theorem d_row_between {P : Program} {w : World} {K : PySem.W.Frag} {mg : Str → Option Value} {base : Heap} (T : Txt K w mg) : FnOk P w K mg base CX0 2 T.f_row_between T.e_row_between ["mine", "theirs"] (toSp (spBetween)) := by
  refine fn_ok T.F_row_between sc_row_between (fun _ => rfl) fun cdv A outer s' H E hr => ?_
  refine ⟨_, (pss_one (ps_ret (joinA K pe_str (pe_lc (own := [("mark", 2), ("rival", 3)]) rfl sc_row_between.nd (zipA K (by rfl) T.n_zip (pa_cons (pv 0) (pa_cons (pv 1) pa_nil))) (blkOk_by (own := [("mark", 2), ("rival", 3)]) (N := N_row_between) (sc := (defScope s_row_between)) (by decide +kernel)) (fun _ _ _ _ _ => tupA K 2 rfl (pgs_cons (pg_name (i := 2) sc_row_between.nd rfl (Or.inl rfl)) (pgs_cons (pg_name (i := 3) sc_row_between.nd rfl (Or.inl rfl)) pgs_nil))) (fun _ _ _ _ _ => pts_nil) (fun _ _ _ _ _ => (pe_call (d_sign_of T) (hr.mono (by decide)) (by rfl) T.m_sign_of T.F_sign_of.kp T.b_sign_of .nil pass0 (pa_cons (pv 2) (pa_cons (pv 3) pa_nil)))))))), fun x hx => ?_⟩
  obtain ⟨a, b, n⟩ := x
  obtain ⟨ha, hb, h8⟩ := hx
  have ha : a.length = n := ha
  have hb : b.length = n := hb
  have h8 : n ≤ 8 := h8
  have hl : (agR a b).length = n := (agR_ok ha hb).len
  refine ds_ret (Ev.dl (ev_join (x := Str.ofString "") (ys := (agR a b).map ch) ev_str (EvN.b ?_) ?_) ?_)
  · have e1 : ((agR a b).map ch).map D.str = (a.zip b).map fun p => D.str (ch (agC p.1 p.2)) := by
      unfold agR
      rw [List.map_map, List.map_map]; rfl
    rw [e1]
    refine evn_lc1 (xs := a.zip b) (c := fun p => .tup [.int (p.1 : Nat), .int (p.2 : Nat)]) (by rw [← zip_ord]; exact ei_zipT (ev_var rfl) (ev_var rfl)) (by rw [List.length_zip]; omega) fun p hp => ⟨[2] ++ [3], _, dg_tup2 dg_name dg_name, fun i hi => hi, evt_yes, ev_call (s := spSignOf) (x := (p.1, p.2)) (eva_cons (ev_var rfl) (eva_cons (ev_var rfl) eva_nil)) rfl trivial fun d h => h⟩
  · rw [chs_len, List.length_map, hl]
    show n + n * 0 ≤ _
    omega
  · show D.str _ = D.str _
    rw [join_chs]
end K26

namespace K26
open PySem PySem.Spec PyProof.Rows L2 Dw
theorem d_read_candidates {P : Program} {w : World} {K : PySem.W.Frag} {mg : Str → Option Value} {base : Heap} (T : Txt K w mg) : FnOk P w K mg base CX0 3 T.f_read_candidates T.e_read_candidates ["text", "read_word"] (toSp (spReadC T.f_read_mark true)) := by
  refine fn_ok T.F_read_candidates sc_read_candidates (fun _ => rfl) fun cdv A outer s' H E hr => ?_
  refine ⟨_, (pss_cons (ps_if (pt_not (truA K (pe_callB (isiA K) (by rfl) T.n_isinstance (by decide +kernel) (pa_cons (pv 0) (pa_cons (pe_bltn (v := .ty "str") (by rfl) T.n_str (by decide +kernel) rfl) pa_nil))))) (pss_one (ps_ret pe_non)) pss_nil) (pss_cons (ps_setLc (i := 2) (own := [("part", 6)]) rfl sc_read_candidates.nd rfl rfl (sw_true rfl rfl rfl (by decide +kernel)) (piR K (pe_split (pv 0) pe_str)) (blkOk_by (own := [("part", 6)]) (N := N_read_candidates) (sc := (defScope s_read_candidates)) (by decide +kernel)) (fun _ _ _ _ _ => pg_name (i := 6) sc_read_candidates.nd rfl (Or.inl rfl)) (fun _ _ _ _ _ => pts_nil) (fun _ _ _ _ _ => (pe_split (pv 6) pe_str))) (pss_cons (ps_set (i := 3) sc_read_candidates.nd rfl (Or.inl rfl) (pe_callTy (tupleFA K) (by rfl) T.n_tuple (by decide +kernel) (pa_cons (pe_lc (own := [("words", 7)]) rfl sc_read_candidates.nd (piR K (pv 2)) (blkOk_by (own := [("words", 7)]) (N := N_read_candidates) (sc := (defScope s_read_candidates)) (by decide +kernel)) (fun _ _ _ _ _ => pg_name (i := 7) sc_read_candidates.nd rfl (Or.inl rfl)) (fun _ _ _ _ _ => pts_nil) (fun _ _ _ _ _ => (pe_ix (ixA K) (pv 7) pe_int (fun _ _ => rfl)))) pa_nil))) (pss_cons (ps_if (PW.pt (pw_or (pt_not (pt_chain opLe opLe (pe_glob (v := .int 2) (by rfl) T.c_LEAST_CANDIDATES ⟨_, rfl⟩) (pe_callB (lenA K) (by rfl) T.n_len (by decide +kernel) (pa_cons (pv 3) pa_nil)) (pe_glob (v := .int 8) (by rfl) T.c_MOST_CANDIDATES ⟨_, rfl⟩))) (pw_or1 (pt_not (truA K (pe_call (d_are_names T) (hr.mono (by decide)) (by rfl) T.m_are_names T.F_are_names.kp T.b_are_names .nil pass0 (pa_cons (pv 3) pa_nil))))))) (pss_one (ps_ret pe_non)) pss_nil) (pss_cons (ps_set (i := 4) sc_read_candidates.nd rfl (Or.inr rfl) (pe_op op_sub (pe_callB (lenA K) (by rfl) T.n_len (by decide +kernel) (pa_cons (pe_ix (ixA K) (pv 2) pe_int (fun _ _ => rfl)) pa_nil)) pe_int)) (pss_cons (ps_if (PW.pt (pw_or (pt_not (pt_chain opLe opLe pe_int (pv 4) (pe_glob (v := .int 8) (by rfl) T.c_MOST_RULES ⟨_, rfl⟩))) (pw_or1 (pt_not (truA K (pe_callB (allA K) (by rfl) T.n_all (by decide +kernel) (pa_cons (pe_lc (own := [("words", 7)]) rfl sc_read_candidates.nd (piR K (pv 2)) (blkOk_by (own := [("words", 7)]) (N := N_read_candidates) (sc := (defScope s_read_candidates)) (by decide +kernel)) (fun _ _ _ _ _ => pg_name (i := 7) sc_read_candidates.nd rfl (Or.inl rfl)) (fun _ _ _ _ _ => pts_nil) (fun _ _ _ _ _ => (pe_cmpR (eqA K hr.units) (pe_callB (lenA K) (by rfl) T.n_len (by decide +kernel) (pa_cons (pv 7) pa_nil)) (pe_op (plusF K) (pv 4) pe_int) (nomark _)))) pa_nil))))))) (pss_one (ps_ret pe_non)) pss_nil) (pss_cons (ps_set (i := 5) sc_read_candidates.nd rfl (Or.inl rfl) (pe_callTy (tupleFA K) (by rfl) T.n_tuple (by decide +kernel) (pa_cons (pe_lc (own := [("words", 7)]) rfl sc_read_candidates.nd (piR K (pv 2)) (blkOk_by (own := [("words", 7)]) (N := N_read_candidates) (sc := (defScope s_read_candidates)) (by decide +kernel)) (fun _ _ _ _ _ => pg_name (i := 7) sc_read_candidates.nd rfl (Or.inl rfl)) (fun _ _ _ _ _ => pts_nil) (fun _ _ _ _ _ => (pe_callTy (tupleFA K) (by rfl) T.n_tuple (by decide +kernel) (pa_cons (pe_lc (own := [("word", 9)]) rfl sc_read_candidates.nd (piR K (pe_slice (slXA K) (pv 7) (po_some pe_int) po_none)) (blkOk_by (own := [("word", 9)]) (N := N_read_candidates) (sc := (relS { kind := .function, names := [(".0", .local), ("words", .local), ("tuple", .globalImplicit), ("read_word", .free)], isGenerator := false, isCoroutine := false, more := [] } (defScope s_read_candidates))) (by decide +kernel)) (fun _ _ _ _ _ => pg_name (i := 9) sc_read_candidates.nd rfl (Or.inl rfl)) (fun _ _ _ _ _ => pts_nil) (fun _ _ _ _ _ => (pe_callL (i := 1) (d_read_mark T) (hr.mono (by decide)) (by rfl) (Or.inr (Or.inl (by rfl))) T.F_read_mark.kp T.b_read_mark .nil pass0 (pa_cons (pv 9) pa_nil)))) pa_nil)))) pa_nil))) (pss_cons (ps_if (pt_not (truA K (pe_callB (allA K) (by rfl) T.n_all (by decide +kernel) (pa_cons (pe_lc (own := [("row", 8)]) rfl sc_read_candidates.nd (piR K (pv 5)) (blkOk_by (own := [("row", 8)]) (N := N_read_candidates) (sc := (defScope s_read_candidates)) (by decide +kernel)) (fun _ _ _ _ _ => pg_name (i := 8) sc_read_candidates.nd rfl (Or.inl rfl)) (fun _ _ _ _ _ => pts_nil) (fun _ _ _ _ _ => (pe_cmpR (ninA K) pe_non (pv 8) (by rfl)))) pa_nil)))) (pss_one (ps_ret pe_non)) pss_nil) (pss_one (ps_ret (pe_tupF (pa_cons (pv 3) (pa_cons (pv 5) pa_nil))))))))))))), fun x hx => ?_⟩
  obtain ⟨ls, ms, n⟩ := x
  have hc : CaseOk ls ms n := hx
  have h8 := hc.names.hi
  have h2 := hc.two
  have n1 := hc.lo
  have n8 := hc.hi
  have hlen := hc.len
  have zl := hc.zl
  have zz : ∀ p ∈ ls.zip ms, NameOk p.1 ∧ p.2.length = n ∧ ∀ k ∈ p.2, k < 100 := fun p hp => hc.zip hp
  have l1 : (nameD ls).length = ls.length := List.length_map ..
  have wl : ∀ p ∈ ls.zip ms, (nameD (wordsL p)).length = n + 1 := fun p hp => (List.length_map ..).trans (words_len (zz p hp))
  have en : (ls.zip ms).map (fun p => D.str (tx p.1)) = nameD ls := by
    unfold nameD
    conv => rhs; rw [← names_zip hc.same]
    rw [List.map_map]; rfl
  have em : (ls.zip ms).map (fun p => D.tup (ordD p.2)) = ms.map fun m => D.tup (ordD m) := by
    conv => rhs; rw [← marks_zip hc.same]
    rw [List.map_map]; rfl
  obtain ⟨z0, hz0⟩ : ∃ z, (ls.zip ms)[0]? = some z := ⟨_, List.getElem?_eq_getElem (by omega)⟩
  have hz0m := List.mem_of_getElem? hz0
  refine ds_seq (ds_if (EvT.dl (b := false) (evt_not (a := true) (evt_tru_bl (ev_isi (ev_var rfl) ev_raw (.inl rfl) (.ty "str") rfl))) ⟨fun h => (nomatch h), fun _ => ds_next ?_⟩))
  refine ds_seq (ds_asg (Ev.dl (EvN.ev (evn_lc1 (xs := ls.zip ms) (c := fun p => .str (tx (partT p))) (f := fun p => .lst (nameD (wordsL p))) (hc.split ▸ ej_list (EvN.b (evn_split (a := tx (caseTx ls ms)) (ev_var rfl) ev_str (by decide +kernel) (by rw [tx_len]; exact small (by omega))))) (by omega) fun p hp => ⟨[6], _, dg_name, fun i hi => hi, evt_yes, ev_cast (congrArg D.lst (words_split (zz p hp))) (EvN.ev (evn_split (a := tx (partT p)) (ev_var rfl) ev_str (by decide +kernel) (by rw [tx_len]; have := (hc.part (List.mem_map_of_mem (f := partT) hp)).1; exact small (by omega))))⟩)) ?_))
  have pv : ∀ Γ : Gam, Γ[2]? = some (.val (.lst ((ls.zip ms).map fun p => D.lst (nameD (wordsL p))))) → Ei (iAnyR K (tVar 2)) Γ ((ls.zip ms).map fun p => D.lst (nameD (wordsL p))) := fun Γ h => ej_list (ev_var h).b
  refine ds_seq (ds_asg (Ev.dl (ev_cast (congrArg D.tupN en) (ev_tupleN (EvN.b (evn_lc1 (xs := ls.zip ms) (c := fun p => .lst (nameD (wordsL p))) (f := fun p => .str (tx p.1)) (pv _ rfl) (by omega) fun p hp => ⟨[7], _, dg_name, fun i hi => hi, evt_yes, ev_ix (ev_var (d := .lst (nameD (wordsL p))) rfl).b ev_int (atI_nat (j := 0) rfl)⟩)))) ?_))
  refine ds_seq (ds_if (EvT.dl (b := false) (evt_or (a := false) (b := false) (evt_not (a := true) (evt_chain (p := true) (q := true) ev_int (ev_lenT (ds := nameD ls) (ev_dn (ev_var rfl))) (fun _ => ev_int) (le_b (decide_eq_true (by omega))) fun _ => le_b (decide_eq_true (by omega)))) fun _ => evt_not (a := true) (evt_tru_bl (ev_call (s := spNamesG) (x := nameD ls) (eva_cons (ev_dn (ev_var rfl)) eva_nil) (np_tup (np_name _)) (pv_names hc.names.all (by omega)) fun d h => by rw [h, names_ok hc.names]))) ⟨fun h => (nomatch h), fun _ => ds_next ?_⟩))
  refine ds_seq (ds_asg (Ev.dl (ev_cast (d' := .int (n : Nat)) (congrArg D.int (by rw [wl z0 hz0m]; omega)) (ev_op (ev_len (ds := nameD (wordsL z0)) (Ev.b (ev_ix (ev_var (d := .lst ((ls.zip ms).map fun p => D.lst (nameD (wordsL p)))) rfl).b ev_int (atI_nat (j := 0) (by rw [List.getElem?_map, hz0]; rfl))))) ev_int dr2_sub)) ?_))
  refine ds_seq (ds_if (EvT.dl (b := false) (evt_or (a := false) (b := false) (evt_not (a := true) (evt_chain (p := true) (q := true) ev_int (ev_var rfl) (fun _ => ev_int) (le_b (decide_eq_true (by omega))) fun _ => le_b (decide_eq_true (by omega)))) fun _ => evt_not (a := true) (evt_tru_bl (ev_cast (congrArg D.bl (all_yes (xs := ls.zip ms) (b := fun _ => true) fun _ _ => rfl)) (ev_all_lc (K := K) (xs := ls.zip ms) (c := fun p => .lst (nameD (wordsL p))) (b := fun _ => true) (pv _ rfl) (by omega) fun p hp => ⟨[7], _, dg_name, fun i hi => hi, evt_yes, ev_op (ev_len (ds := nameD (wordsL p)) (ev_var rfl).b) (ev_op (ev_var rfl) ev_int (plF_of (pl_int (i := (n : Int)) (j := 1)))) (eq_ib (by rw [wl p hp]; exact decide_eq_true (by omega)))⟩)))) ⟨fun h => (nomatch h), fun _ => ds_next ?_⟩))
  refine ds_seq (ds_asg (Ev.dl (ev_cast (congrArg D.tup em) (ev_tupleF (EvN.b (evn_lc1 (xs := ls.zip ms) (c := fun p => .lst (nameD (wordsL p))) (f := fun p => .tup (ordD p.2)) (pv _ rfl) (by omega) fun p hp => ⟨[7], _, dg_name, fun i hi => hi, evt_yes, ev_tupleF (EvN.b (evn_lc1 (xs := p.2) (c := fun k => .str (tx (TL.numL k))) (f := fun k : Nat => D.int k) ?sl (by have := (zz p hp).2.1; omega) fun k hk => ⟨[9], _, dg_name, fun i hi => hi, evt_yes, ev_callL (s := spMark) (x := (TL.numL k, k)) rfl (eva_cons (ev_var rfl) eva_nil) rfl ⟨num_ok ((zz p hp).2.2 k hk), (zz p hp).2.2 k hk⟩ fun d h => h⟩))⟩)))) ?_))
  case sl =>
    have e : Dw.cutD (nameD (wordsL p)) (some 1) none = p.2.map fun k => D.str (tx (TL.numL k)) := by
      rw [cut_tail]
      unfold wordsL nameD
      rw [List.map_cons, List.drop_one, List.tail_cons, List.map_map]; rfl
    exact e ▸ ej_list (EvN.b (evn_sliceY (ds := nameD (wordsL p)) (ev_var rfl).b (eo_some ev_int) eo_none))
  refine ds_seq (ds_if (EvT.dl (b := false) (evt_not (a := true) (evt_tru_bl (ev_cast (congrArg D.bl (all_yes (xs := ms) (b := fun _ => true) fun _ _ => rfl)) (ev_all_lc (K := K) (xs := ms) (c := fun m => .tup (ordD m)) (b := fun _ => true) (ej_tup (ev_var rfl)) (by have := hc.same; omega) fun m hm => ⟨[8], _, dg_name, fun i hi => hi, evt_yes, ev_cast (congrArg D.bl (congrArg not (inV_non m))) (ev_inT (K := K) (neg := true) (d := .non) (ds := ordD m) ev_non (ev_var rfl) rfl (sc_ord m))⟩)))) ⟨fun h => (nomatch h), fun _ => ds_next ?_⟩))
  exact ds_ret (Ev.dl (ev_tupF (eva_cons (ev_var rfl) (eva_cons (ev_var rfl) eva_nil)) (small (show 2 ≤ 100000 by decide))) rfl)
end K26

namespace K26
open PySem PySem.Spec PyProof.Rows L2 Dw
theorem d_read_case {P : Program} {w : World} {K : PySem.W.Frag} {mg : Str → Option Value} {base : Heap} (T : Txt K w mg) : FnOk P w K mg base CX0 4 T.f_read_case T.e_read_case ["text"] (toSp (spReadC T.f_read_mark false)) := by
  refine fn_ok T.F_read_case sc_read_case (fun _ => rfl) fun cdv A outer s' H E hr => ?_
  refine ⟨_, (pss_one (ps_ret (pe_call (d_read_candidates T) (hr.mono (by decide)) (by rfl) T.m_read_candidates T.F_read_candidates.kp T.b_read_candidates .nil pass0 (pa_cons (pv 0) (pa_cons (pe_glob (v := .ref T.f_read_mark) (by rfl) T.m_read_mark rfl) pa_nil))))), fun x hx => ?_⟩
  obtain ⟨ls, ms, n⟩ := x
  exact ds_ret (Ev.dl (ev_call (s := spReadC T.f_read_mark true) (x := (ls, ms, n)) (eva_cons (ev_var rfl) (eva_cons ev_raw eva_nil)) rfl hx fun d h => h) rfl)
end K26

namespace K26
open PySem PySem.Spec PyProof.Rows L2 Dw
theorem inc_pair : ∀ {ls : List (List Nat)}, (∀ p ∈ ls.zip (ls.drop 1), p.1 < p.2) → ls.Pairwise (· < ·)
  | [], _ => .nil
  | [a], _ => List.pairwise_singleton ..
  | a :: b :: r, h => by
    have hab : a < b := h (a, b) List.mem_cons_self
    have ih := inc_pair (ls := b :: r) fun p hp => h p (List.mem_cons_of_mem _ hp)
    refine List.pairwise_cons.mpr ⟨fun x hx => ?_, ih⟩
    rcases List.mem_cons.mp hx with rfl | hx
    · exact hab
    · exact List.lt_trans hab ((List.pairwise_cons.mp ih).1 x hx)
theorem pair_inc : ∀ {ls : List (List Nat)}, ls.Pairwise (· < ·) → ∀ p ∈ ls.zip (ls.drop 1), p.1 < p.2
  | [], _, p, hp => absurd hp (by simp)
  | [a], _, p, hp => absurd hp (by simp)
  | a :: b :: r, h, p, hp => by
    obtain ⟨h1, h2⟩ := List.pairwise_cons.mp h
    rcases List.mem_cons.mp hp with rfl | hp
    · exact h1 b List.mem_cons_self
    · exact pair_inc h2 p hp
theorem NamesOk.pw {ls : List (List Nat)} (h : NamesOk ls) : ls.Pairwise (· < ·) := inc_pair h.inc
theorem rowAt_get {ls : List (List Nat)} {a : Nat} (h : a < ls.length) : rowAt ls a = ls[a] := by
  unfold rowAt
  rw [List.getD_eq_getElem?_getD, List.getElem?_eq_getElem h]; rfl
theorem rowAt_lt {ls : List (List Nat)} (h : ls.Pairwise (· < ·)) {a b : Nat} (hb : b < ls.length) (hab : a < b) : rowAt ls a < rowAt ls b := by
  rw [rowAt_get hb, rowAt_get (by omega)]
  exact List.pairwise_iff_getElem.mp h a b (by omega) hb hab
theorem rowAt_inj {ls : List (List Nat)} (h : ls.Pairwise (· < ·)) {a b : Nat} (ha : a < ls.length) (hb : b < ls.length) (e : rowAt ls a = rowAt ls b) : a = b := by
  rcases Nat.lt_trichotomy a b with h1 | h1 | h1
  · have := rowAt_lt h hb h1
    rw [e] at this
    exact absurd this (List.lt_irrefl _)
  · exact h1
  · have := rowAt_lt h ha h1
    rw [e] at this
    exact absurd this (List.lt_irrefl _)
theorem rowAt_mem {ls : List (List Nat)} {a : Nat} (h : a < ls.length) : rowAt ls a ∈ ls := by rw [rowAt_get h]; exact List.getElem_mem h
theorem inV_name (c : List Nat) : ∀ ls : List (List Nat), inV (.str (tx c)) ((nameD ls).map scV) = decide (c ∈ ls)
  | [] => rfl
  | b :: l => by
    show ((tx b == tx c) || inV (.str (tx c)) ((nameD l).map scV)) = _
    rw [inV_name c l, Bool.eq_iff_iff]
    simp only [Bool.or_eq_true, beq_iff_eq, tx_eq, decide_eq_true_eq, List.mem_cons]
    constructor
    · rintro (h | h)
      · exact .inl h.symm
      · exact .inr h
    · rintro (h | h)
      · exact .inl h.symm
      · exact .inr h
theorem sc_names (ls : List (List Nat)) : (nameD ls).all isSc = true := by
  unfold nameD
  rw [List.all_map, List.all_eq_true]
  exact fun _ _ => rfl
theorem idx_notB {α : Type} [BEq α] [LawfulBEq α] {o : List α} {c : α} {m : Nat} (h : m < o.idxOf c) (hm : m < o.length) : o[m] ≠ c := fun e => by
  have h2 : m < o.findIdx (· == c) := h
  have := List.not_of_lt_findIdx h2
  simp [e] at this
theorem idx_atB {α : Type} [BEq α] [LawfulBEq α] {o : List α} {c : α} (h : c ∈ o) : o[o.idxOf c]? = some c := by
  have hl : o.idxOf c < o.length := List.idxOf_lt_length_iff.mpr h
  rw [List.getElem?_eq_getElem hl, List.getElem_idxOf hl]
def idxM (m i : Nat) : List Nat := (List.range m).filter fun k => !decide (k = i)
def osM (ls : List (List Nat)) (i : Nat) : List (List Nat) := (idxM ls.length i).map (rowAt ls)
def rwM (ms : List (List Nat)) (i : Nat) : List (List Nat) := (idxM ms.length i).map fun k => agR (rowAt ms i) (rowAt ms k)
def losB (os rs : List (List Nat)) (n : Nat) : D → Bool
  | .tup ds => namesB ds && (ds.all fun d => decide (codesOf d ∈ os)) && quB (pick rs (ds.map fun d => os.idxOf (codesOf d))) n
  | _ => false
theorem idxM_lt {m i k : Nat} (h : k ∈ idxM m i) : k < m ∧ k ≠ i := by
  obtain ⟨h1, h2⟩ := List.mem_filter.mp h
  exact ⟨List.mem_range.mp h1, by simpa using h2⟩
theorem idxM_len (m i : Nat) : (idxM m i).length ≤ m := by
  refine Nat.le_trans (List.length_filter_le _ _) ?_
  rw [List.length_range]; exact Nat.le_refl _
theorem rwM_ok {ls ms : List (List Nat)} {n i : Nat} (h : CaseOk ls ms n) (hi : i < ls.length) : ∀ r ∈ rwM ms i, RowOk r n := fun r hr => by
  obtain ⟨k, hk, rfl⟩ := List.mem_map.mp hr
  have := idxM_lt hk
  have e := h.same
  exact agR_ok (h.wide _ (rowAt_mem (by omega))) (h.wide _ (rowAt_mem this.1))
theorem os_rw {ls ms : List (List Nat)} {n i : Nat} (h : CaseOk ls ms n) : (osM ls i).length = (rwM ms i).length := by
  unfold osM rwM
  rw [List.length_map, List.length_map, h.same]
theorem osM_pw {ls : List (List Nat)} (h : ls.Pairwise (· < ·)) (i : Nat) : (osM ls i).Pairwise (· < ·) := by
  unfold osM
  rw [List.pairwise_map]
  have : (idxM ls.length i).Pairwise (· < ·) := List.pairwise_lt_range.filter _
  refine List.Pairwise.imp_of_mem ?_ this
  intro a b ha hb hab
  exact rowAt_lt h (idxM_lt hb).1 hab
theorem osM_mem {ls : List (List Nat)} {i : Nat} {c : List Nat} (h : c ∈ osM ls i) : c ∈ ls := by
  obtain ⟨k, hk, rfl⟩ := List.mem_map.mp h
  exact rowAt_mem (idxM_lt hk).1
theorem zip_case (ls ms : List (List Nat)) (h : ms.length = ls.length) : zipD (nameD ls) (ms.map fun m => D.tup (ordD m)) = (List.range ls.length).map fun k => D.tup [.str (tx (rowAt ls k)), .tup (ordD (rowAt ms k))] := by
  unfold zipD nameD
  rw [List.zip_map, List.map_map]
  refine List.ext_getElem (by simp [h]) fun k h1 h2 => ?_
  have hk : k < ls.length := by simpa using h2
  rw [List.getElem_map, List.getElem_map, List.getElem_range, List.getElem_zip, rowAt_get hk, rowAt_get (by omega)]; rfl
def spAOC : Spc where
  ty := (List (List Nat) × List (List Nat) × Nat) × Nat × D
  args := fun x => [.str "loses", caseD x.1.1 x.1.2.1, .str (tx (rowAt x.1.1 x.2.1)), x.2.2]
  ok := fun x => CaseOk x.1.1 x.1.2.1 x.1.2.2 ∧ x.2.1 < x.1.1.length ∧ Pv x.2.2
  rel := fun x d => d = .bl (losB (osM x.1.1 x.2.1) (rwM x.1.2.1 x.2.1) x.1.2.2 x.2.2)
def spAccL : Spc where
  ty := (List (List Nat) × List (List Nat) × Nat) × Nat × D
  args := fun x => [.tup [.str "loses", .str (tx (caseTx x.1.1 x.1.2.1)), .str (tx (rowAt x.1.1 x.2.1))], x.2.2]
  ok := fun x => CaseOk x.1.1 x.1.2.1 x.1.2.2 ∧ x.2.1 < x.1.1.length ∧ Pv x.2.2
  rel := fun x d => d = .bl (losB (osM x.1.1 x.2.1) (rwM x.1.2.1 x.2.1) x.1.2.2 x.2.2)
theorem losB_no {os rs : List (List Nat)} {n : Nat} {p : D} (h : isTupB p = false) : losB os rs n p = false := by cases p <;> first | rfl | exact nomatch h
theorem losB_nn {os rs : List (List Nat)} {n : Nat} {ds : List D} (h : namesB ds = false) : losB os rs n (.tup ds) = false := by
  show (namesB ds && _ && _) = false
  rw [h]; rfl
theorem losB_cs {os rs : List (List Nat)} {n : Nat} {cs : List (List Nat)} (h : namesB (nameD cs) = true) : losB os rs n (.tup (nameD cs)) = ((cs.all fun c => decide (c ∈ os)) && quB (pick rs (cs.map fun c => os.idxOf c)) n) := by
  show (namesB (nameD cs) && ((nameD cs).all fun d => decide (codesOf d ∈ os)) && quB (pick rs ((nameD cs).map fun d => os.idxOf (codesOf d))) n) = _
  rw [h, Bool.true_and]
  unfold nameD
  rw [List.all_map, List.map_map]
  have e : ∀ c, codesOf (.str (tx c)) = c := fun c => tx_cps c
  have e1 : (codesOf ∘ fun l => D.str (tx l)) = id := funext e
  have e2 : (fun d => decide (codesOf d ∈ os)) ∘ (fun l => D.str (tx l)) = fun c => decide (c ∈ os) := funext fun c => by show decide (codesOf (.str (tx c)) ∈ os) = _; rw [e]
  have e3 : (fun d => os.idxOf (codesOf d)) ∘ (fun l => D.str (tx l)) = fun c => os.idxOf c := funext fun c => by show os.idxOf (codesOf (.str (tx c))) = _; rw [e]
  rw [e2, e3]
theorem ds_wordC {K : PySem.W.Frag} {x y : Str} {i : Nat} {t : TS} {Γ : Gam} {De : DE} (b : Bool) (h : decide (x = y) = b) (hv : Γ[i]? = some (.val (.str x))) (h1 : b = true → Ds t Γ De) (h2 : b = false → De.nx Γ) : Ds (tIfS (tTest (tOp (rEqX K) (tVar i) (tC (.str y)))) t tNext) Γ De :=
  ds_if (EvT.dl (evt_test (ev_op (ev_var hv) ev_str (eq_sb h))) ⟨h1, fun z => ds_next (h2 z)⟩)
theorem np_case {ls ms : List (List Nat)} {r : List D} (h : noPs r = true) : noPs (caseD ls ms :: r) = true := by
  have e : noPs (ms.map fun m => D.tup (ordD m)) = true := noPs_map (f := fun m => D.tup (ordD m)) (fun m => np_ord m) ms
  show ((noPs (nameD ls) && (noPs (ms.map fun m => D.tup (ordD m)) && true)) && noPs r) = true
  rw [np_name, e, h]; rfl
end K26

namespace K26
open PySem PySem.Spec PyProof.Rows L2 Dw
/-! cases drawn and told by the law -/
def msD (ms : List (List Nat)) : List D := ms.map fun m => D.tup (ordD m)
theorem ok_msD (ms : List (List Nat)) : dOk 2 (.lst (msD ms)) = true := dOks_map fun m _ => ok_ordT1 m
theorem msD_len (ms : List (List Nat)) : (msD ms).length = ms.length := List.length_map ..
theorem msD_snoc (ms : List (List Nat)) (m : List Nat) : msD ms ++ [.tup (ordD m)] = msD (ms ++ [m]) := by unfold msD; rw [List.map_append]; rfl
theorem msD_at {ms : List (List Nat)} {k : Nat} (h : k < ms.length) : (msD ms)[k]? = some (.tup (ordD (rowAt ms k))) := by
  unfold msD
  rw [List.getElem?_map, List.getElem?_eq_getElem h, rowAt_get h]; rfl
theorem nameD_ix {ls : List (List Nat)} {k : Nat} (h : k < ls.length) : (nameD ls)[k]? = some (.str (tx (rowAt ls k))) := by
  unfold nameD
  rw [List.getElem?_map, List.getElem?_eq_getElem h, rowAt_get h]; rfl
theorem ordD_ix {o : List Nat} {k : Nat} (h : k < o.length) : (ordD o)[k]? = some (.int ((o.getD k 0 : Nat) : Int)) := by
  unfold ordD
  rw [List.getElem?_map, List.getD_eq_getElem?_getD, List.getElem?_eq_getElem h]; rfl
theorem zip_range {ls ms : List (List Nat)} (h : ms.length = ls.length) : ls.zip ms = (List.range ls.length).map fun k => (rowAt ls k, rowAt ms k) := by
  refine List.ext_getElem (by simp [h]) fun k h1 h2 => ?_
  have hk : k < ls.length := by simpa using h2
  rw [List.getElem_map, List.getElem_range, List.getElem_zip, rowAt_get hk, rowAt_get (by omega)]
theorem agR_range {a b : List Nat} {n : Nat} (ha : a.length = n) (hb : b.length = n) : agR a b = (List.range n).map fun k => agC (a.getD k 0) (b.getD k 0) := by
  unfold agR
  refine List.ext_getElem (by simp [ha, hb]) fun k h1 h2 => ?_
  have hk : k < n := by simpa using h2
  rw [List.getElem_map, List.getElem_map, List.getElem_range, List.getElem_zip, List.getD_eq_getElem?_getD, List.getD_eq_getElem?_getD, List.getElem?_eq_getElem (by omega), List.getElem?_eq_getElem (by omega)]; rfl
theorem ag_if (x y : Nat) : (if decide ((x : Int) < (y : Int)) = true then D.str (Str.ofString "+") else if decide ((y : Int) < (x : Int)) = true then D.str (Str.ofString "-") else D.str (Str.ofString ".")) = D.str (ch (agC x y)) := by
  unfold agC
  by_cases h : x < y
  · rw [if_pos (decide_eq_true (show (x : Int) < (y : Int) by omega)), if_pos h, ch_plus]
  · rw [if_neg (by rw [decide_eq_true_eq]; show ¬ (x : Int) < (y : Int); omega), if_neg h]
    by_cases h2 : y < x
    · rw [if_pos (decide_eq_true (show (y : Int) < (x : Int) by omega)), if_pos h2, ch_minus]
    · rw [if_neg (by rw [decide_eq_true_eq]; show ¬ (y : Int) < (x : Int); omega), if_neg h2, ch_dot]
def spToldL : Spc where
  ty := spAccL.ty
  args := fun x => spAccL.args x
  ok := fun x => spAccL.ok x
  rel := fun x d => d = .lst [.bl (losB (osM x.1.1 x.2.1) (rwM x.1.2.1 x.2.1) x.1.2.2 x.2.2), .bl (losB (osM x.1.1 x.2.1) (rwM x.1.2.1 x.2.1) x.1.2.2 x.2.2)]
def spMarks : Spc where
  ty := Nat
  args := fun n => [.purse, .int n]
  ok := fun n => 1 ≤ n ∧ n ≤ 8
  rel := fun n d => ∃ ms : List (List Nat), d = .tup (msD ms) ∧ 2 ≤ ms.length ∧ ms.length ≤ 5 ∧ (∀ m ∈ ms, m.length = n) ∧ ∀ m ∈ ms, ∀ k ∈ m, k < 100
def spCSaid : Spc where
  ty := List (List Nat) × List (List Nat) × Nat
  args := fun x => [.tup (nameD x.1), .tup (msD x.2.1)]
  ok := fun x => CaseOk x.1 x.2.1 x.2.2
  rel := fun x d => d = .str (tx (caseTx x.1 x.2.1))
def spOwnRows : Spc where
  ty := List (List Nat) × Nat × Nat
  args := fun x => [.tup (msD x.1), .int x.2.1]
  ok := fun x => (∀ m ∈ x.1, m.length = x.2.2) ∧ x.2.2 ≤ 8 ∧ x.2.1 < x.1.length ∧ x.1.length ≤ 8
  rel := fun x d => d = .lst (nameD (rwM x.1 x.2.1))
def spDue : Spc where
  ty := D × List (List Nat) × List (List Nat) × Nat
  args := fun x => [x.1, .lst (nameD x.2.1), .lst (nameD x.2.2.1)]
  ok := fun x => Pv x.1 ∧ x.2.1.Pairwise (· < ·) ∧ (∀ l ∈ x.2.1, NameOk l) ∧ x.2.1.length = x.2.2.1.length ∧ (∀ r ∈ x.2.2.1, RowOk r x.2.2.2) ∧ x.2.2.2 ≤ 8 ∧ x.2.1.length ≤ 8
  rel := fun x d => d = .bl (losB x.2.1 x.2.2.1 x.2.2.2 x.1)
def spPaperC : Spc where
  ty := List (List Nat) × List (List Nat) × Nat
  args := fun x => [.purse, .lst (nameD x.1), .lst (nameD x.2.1), .int x.2.2]
  ok := fun x => (∀ l ∈ x.1, NameOk l) ∧ x.1.length = x.2.1.length ∧ (∀ r ∈ x.2.1, RowOk r x.2.2) ∧ x.2.2 ≤ 8 ∧ x.1.length ≤ 8
  rel := fun _ d => plW 24 5 d = true
def spRight : Spc where
  ty := Unit
  args := fun _ => [.purse]
  ok := fun _ => True
  rel := fun _ d => d = .bl true
def spLotK : Spc where
  ty := Nat
  args := fun n => [.purse, .int n]
  ok := fun n => n ≤ 20
  rel := fun n d => ∃ o, d = .tup (ordD o) ∧ o.length ≤ n ∧ ∀ k ∈ o, k < n
def spStuckL : Spc where
  ty := List (List Nat) × Nat
  args := fun x => [.lst (nameD x.1), .int x.2]
  ok := fun x => (∀ r ∈ x.1, RowOk r x.2) ∧ x.2 ≤ 8 ∧ x.1.length ≤ 100
  rel := fun x d => ∃ o, d = .tup (ordD o) ∧ o.length ≤ x.1.length ∧ ∀ k ∈ o, k < x.1.length
theorem two_ok (a b : Bool) : dOk 1 (.lst [.bl a, .bl b]) = true := rfl
theorem two_sh (a b : Bool) : shOk (.lst [.bl a, .bl b]) = true := rfl
theorem two_len (a b : Bool) : (PyData.shown (py (.lst [.bl a, .bl b]))).length ≤ sizeLine := by
  have : (PyData.shown (py (.lst [.bl a, .bl b]))).length ≤ 100 := by cases a <;> cases b <;> decide +kernel
  exact Nat.le_trans this (by decide)
theorem np_clm {a b c : Str} {r : List D} (h : noPs r = true) : noPs (.tup [.str a, .str b, .str c] :: r) = true := by
  show ((true && (true && (true && true))) && noPs r) = true
  rw [h]; rfl
theorem strs_name {ds : List D} (h : ∀ d ∈ ds, isStrB d = true) : ds = nameD (ds.map codesOf) := by
  unfold nameD
  rw [List.map_map]
  conv => lhs; rw [← List.map_id ds]
  refine List.map_congr_left fun d hd => ?_
  obtain ⟨s, rfl⟩ := str_of (h d hd)
  exact congrArg D.str (of_tx s)
theorem idx_lt {os : List (List Nat)} (pw : os.Pairwise (· < ·)) {a b : List Nat} (ha : a ∈ os) (hb : b ∈ os) : os.idxOf a < os.idxOf b ↔ a < b := by
  have la := List.idxOf_lt_length_iff.mpr ha
  have lb := List.idxOf_lt_length_iff.mpr hb
  have ea : os[os.idxOf a] = a := List.getElem_idxOf la
  have eb : os[os.idxOf b] = b := List.getElem_idxOf lb
  have lt : ∀ {i j : Nat} (hi : i < os.length) (hj : j < os.length), i < j → os[i] < os[j] := fun hi hj h => List.pairwise_iff_getElem.mp pw _ _ hi hj h
  constructor
  · intro h
    have := lt la lb h
    rw [ea, eb] at this
    exact this
  · intro h
    rcases Nat.lt_trichotomy (os.idxOf a) (os.idxOf b) with h1 | h1 | h1
    · exact h1
    · have e : a = b := by
        have h2 := idx_atB ha
        rw [h1, idx_atB hb] at h2
        exact (Option.some.inj h2).symm
      rw [e] at h
      exact absurd h (List.lt_irrefl _)
    · have := lt lb la h1
      rw [ea, eb] at this
      exact absurd (List.lt_trans h this) (List.lt_irrefl _)
theorem lot_places {os cs : List (List Nat)} (pw : os.Pairwise (· < ·)) (ok : ∀ l ∈ os, NameOk l) (h : ∀ c ∈ cs, c ∈ os) : lotB (.tup (ordD (cs.map fun c => os.idxOf c))) os.length = namesB (nameD cs) := by
  rw [Bool.eq_iff_iff]
  constructor
  · intro hl
    obtain ⟨o, e, ho⟩ := lotB_iff.mp hl
    injection e with e
    have e := ordD_inj2 e
    subst e
    refine namesB_iff.mpr ⟨cs, rfl, fun l hl => ok l (h l hl), pair_inc ?_⟩
    have := List.pairwise_map.mp ho.inc
    exact this.imp_of_mem fun ha hb hab => (idx_lt pw (h _ ha) (h _ hb)).mp hab
  · intro hn
    obtain ⟨ls, e, _, hi⟩ := namesB_iff.mp hn
    have e : cs = ls := by
      have := congrArg (fun ds => ds.map codesOf) e
      rw [codes_name, codes_name] at this
      exact this
    subst e
    refine lotB_iff.mpr ⟨_, rfl, ⟨fun k hk => ?_, ?_⟩⟩
    · obtain ⟨c, hc, rfl⟩ := List.mem_map.mp hk
      exact List.idxOf_lt_length_iff.mpr (h c hc)
    · rw [List.pairwise_map]
      exact (inc_pair hi).imp_of_mem fun ha hb hab => (idx_lt pw (h _ ha) (h _ hb)).mpr hab
end K26

namespace K26
open PySem PySem.Spec PyProof.Rows L2 Dw
/-! cases as things of the program, and what they certify -/
def caseO (C : Addr) (ls ms : List (List Nat)) : D := .obj C ["_text", "_names", "_marks"] [.str (tx (caseTx ls ms)), .tupN (nameD ls), .tup (msD ms)]
theorem np_msD (ms : List (List Nat)) : noPs (msD ms) = true := noPs_map (f := fun m => D.tup (ordD m)) (fun m => np_ord m) ms
theorem np_caseO {C : Addr} {ls ms : List (List Nat)} {r : List D} (h : noPs r = true) : noPs (caseO C ls ms :: r) = true := by
  show ((true && (noPs (nameD ls) && (noPs (msD ms) && true))) && noPs r) = true
  rw [np_name, np_msD, h]; rfl
theorem idx_name {ls : List (List Nat)} {i : Nat} (pw : ls.Pairwise (· < ·)) (hi : i < ls.length) : (ls.map tx).idxOf (tx (rowAt ls i)) = i := by
  have hm : tx (rowAt ls i) ∈ ls.map tx := List.mem_map_of_mem (rowAt_mem hi)
  have h1 := idx_at hm
  have hlt : (ls.map tx).idxOf (tx (rowAt ls i)) < ls.length := by
    have := List.idxOf_lt_length_iff.mpr hm
    rw [List.length_map] at this
    exact this
  generalize (ls.map tx).idxOf (tx (rowAt ls i)) = j at h1 hlt
  rw [List.getElem?_map, List.getElem?_eq_getElem hlt] at h1
  have h1 : tx ls[j] = tx (rowAt ls i) := Option.some.inj h1
  exact rowAt_inj pw hlt hi (by rw [rowAt_get hlt]; exact tx_eq.mp h1)
theorem names_range (ls : List (List Nat)) : (List.range ls.length).map (fun k => D.str (tx (rowAt ls k))) = nameD ls := by
  unfold nameD
  refine List.ext_getElem (by simp) fun k h1 h2 => ?_
  have hk : k < ls.length := by simpa using h2
  rw [List.getElem_map, List.getElem_map, List.getElem_range, rowAt_get hk]
abbrev CaseT := List (List Nat) × List (List Nat) × Nat
def spCInit : Spc where
  ty := CaseT
  args := fun x => [.str (tx (caseTx x.1 x.2.1))]
  ok := fun x => CaseOk x.1 x.2.1 x.2.2
  rel := fun x d => d = .tup [.str (tx (caseTx x.1 x.2.1)), .tupN (nameD x.1), .tup (msD x.2.1)]
def spCkCase (C : Addr) : Spc where
  ty := CaseT
  args := fun x => [caseO C x.1 x.2.1]
  ok := fun _ => True
  rel := fun _ d => d = .non
def spCText (C : Addr) : Spc where
  ty := CaseT
  args := fun x => [caseO C x.1 x.2.1]
  ok := fun _ => True
  rel := fun x d => d = .str (tx (caseTx x.1 x.2.1))
def spCNames (C : Addr) : Spc where
  ty := CaseT
  args := fun x => [caseO C x.1 x.2.1]
  ok := fun _ => True
  rel := fun x d => d = .tupN (nameD x.1)
def spCMarks (C : Addr) : Spc where
  ty := CaseT
  args := fun x => [caseO C x.1 x.2.1]
  ok := fun _ => True
  rel := fun x d => d = .tup (msD x.2.1)
def spKnown : Spc where
  ty := List (List Nat) × Nat
  args := fun x => [.str (tx (rowAt x.1 x.2)), .tupN (nameD x.1)]
  ok := fun x => x.2 < x.1.length
  rel := fun _ d => d = .non
def spAgC (C : Addr) : Spc where
  ty := CaseT × Nat × Nat
  args := fun x => [caseO C x.1.1 x.1.2.1, .str (tx (rowAt x.1.1 x.2.1)), .str (tx (rowAt x.1.1 x.2.2))]
  ok := fun x => CaseOk x.1.1 x.1.2.1 x.1.2.2 ∧ x.2.1 < x.1.1.length ∧ x.2.2 < x.1.1.length
  rel := fun x d => d = .str (tx (agR (rowAt x.1.2.1 x.2.1) (rowAt x.1.2.1 x.2.2)))
def spRowsOf (C : Addr) : Spc where
  ty := CaseT × Nat
  args := fun x => [caseO C x.1.1 x.1.2.1, .str (tx (rowAt x.1.1 x.2))]
  ok := fun x => CaseOk x.1.1 x.1.2.1 x.1.2.2 ∧ x.2 < x.1.1.length
  rel := fun x d => d = .tup (nameD (rwM x.1.2.1 x.2))
def certW (rs : List (List Nat)) (n : Nat) : Str := if Still rs n = [] then "wins" else "loses"
def certP (os rs : List (List Nat)) (n : Nat) : D := if Still rs n = [] then .tup (ordD (rankM rs n)) else .tup (nameD (pick os (quarM rs n)))
def spCertC (C : Addr) : Spc where
  ty := CaseT × Nat
  args := fun x => [caseO C x.1.1 x.1.2.1, .str (tx (rowAt x.1.1 x.2))]
  ok := fun x => CaseOk x.1.1 x.1.2.1 x.1.2.2 ∧ x.2 < x.1.1.length
  rel := fun x d => d = .tup [.tup [.str (certW (rwM x.1.2.1 x.2) x.1.2.2), .str (tx (caseTx x.1.1 x.1.2.1)), .str (tx (rowAt x.1.1 x.2))], certP (osM x.1.1 x.2) (rwM x.1.2.1 x.2) x.1.2.2]
end K26

namespace K26
open PySem PySem.Spec PyProof.Rows L2 Dw
theorem d_Case___init__ {P : Program} {w : World} {K : PySem.W.Frag} {mg : Str → Option Value} {base : Heap} (T : Txt K w mg) : FnOk P w K mg base CX0 5 T.f_Case___init__ T.e_Case___init__ ["self", "text"] (toIn T.C_Case ["_text", "_names", "_marks"] spCInit) := by
  refine in_ok T.F_Case___init__ sc_Case___init__ (fun _ => rfl) fun cdv A outer s' H E hr => ?_
  refine ⟨_, (pss_cons (ps_set (i := 2) sc_Case___init__.nd rfl (Or.inl rfl) (pe_call (d_read_case T) (hr.mono (by decide)) (by rfl) T.m_read_case T.F_read_case.kp T.b_read_case .nil pass0 (pa_cons (pv 1) pa_nil))) (pss_cons (ps_if (pt_cmpR op_isN (pv 2) pe_non (nomark _)) (pss_one ps_never) pss_nil) (pss_cons (ps_fld (pv 0) (pv 1) rfl) (pss_one (ps_asg (pv 2) (tupA K 2 rfl (pgs_cons (pg_fld (pv 0)) (pgs_cons (pg_fld (pv 0)) pgs_nil)))))))), fun x hx a => ?_⟩
  obtain ⟨ls, ms, n⟩ := x
  have hc : CaseOk ls ms n := hx
  refine di_seq (di_of (ds_asg (Ev.dl (ev_call (s := spReadC T.f_read_mark false) (d := .tup [.tupN (nameD ls), .tup (msD ms)]) (x := (ls, ms, n)) (eva_cons (ev_var rfl) eva_nil) rfl hc fun d h => h) ?_)))
  refine di_seq (di_of (ds_if (EvT.dl (b := false) (evt_test (ev_op (ev_var rfl) ev_non (dr2_isN fun W v h => ?_))) ⟨fun h => (nomatch h), fun _ => ds_next ?_⟩)))
  · obtain ⟨p, vs, e, _⟩ := h
    rw [e]; exact decide_eq_false fun h => nomatch h
  refine di_seq (di_fld T.cl_Case T.cno_text (by simp) (by decide) (ev_var rfl) (ev_var rfl) ?_)
  exact di_fld2 T.cl_Case T.cno_names T.cno_marks (by decide +kernel) (by decide +kernel) (by decide) (ev_var rfl) (ev_var rfl) ⟨rfl, rfl⟩

end K26

namespace K26
open PySem PySem.Spec PyProof.Rows L2 Dw
theorem d_check_case {P : Program} {w : World} {K : PySem.W.Frag} {mg : Str → Option Value} {base : Heap} (T : Txt K w mg) : FnOk P w K mg base CX0 1 T.f_check_case T.e_check_case ["case"] (toSp (spCkCase T.C_Case)) := by
  refine fn_ok T.F_check_case sc_check_case (fun _ => rfl) fun cdv A outer s' H E hr => ?_
  refine ⟨_, (pss_one (ps_if (pt_not (truA K (pe_callB (isiA K) (by rfl) T.n_isinstance (by decide +kernel) (pa_cons (pv 0) (pa_cons (pe_glob (v := .ref T.C_Case) (by rfl) T.m_Case rfl) pa_nil))))) (pss_one ps_never) pss_nil)), fun x hx => ?_⟩
  obtain ⟨ls, ms, n⟩ := x
  exact ds_if (EvT.dl (b := false) (evt_not (a := true) (evt_tru_bl (ev_isi (ev_var rfl) ev_raw (.inr ⟨_, _, _, rfl, T.ins_Case⟩) (.own _) kit_self))) ⟨fun h => (nomatch h), fun _ => ds_next rfl⟩)
end K26

namespace K26
open PySem PySem.Spec PyProof.Rows L2 Dw
theorem d_Case_names {P : Program} {w : World} {K : PySem.W.Frag} {mg : Str → Option Value} {base : Heap} (T : Txt K w mg) : FnOk P w K mg base CX0 1 T.f_Case_names T.e_Case_names ["self"] (toSp (spCNames T.C_Case)) := by
  refine fn_ok T.F_Case_names sc_Case_names (fun _ => rfl) fun cdv A outer s' H E hr => ?_
  refine ⟨_, (pss_one (ps_ret (fldA K (pv 0)))), fun x hx => ?_⟩
  obtain ⟨ls, ms, n⟩ := x
  exact ds_ret (Ev.dl (ev_fld T.cl_Case T.cno_names (ev_var rfl) (by rfl)) rfl)
end K26

namespace K26
open PySem PySem.Spec PyProof.Rows L2 Dw
theorem d_Case_marks {P : Program} {w : World} {K : PySem.W.Frag} {mg : Str → Option Value} {base : Heap} (T : Txt K w mg) : FnOk P w K mg base CX0 1 T.f_Case_marks T.e_Case_marks ["self"] (toSp (spCMarks T.C_Case)) := by
  refine fn_ok T.F_Case_marks sc_Case_marks (fun _ => rfl) fun cdv A outer s' H E hr => ?_
  refine ⟨_, (pss_one (ps_ret (fldA K (pv 0)))), fun x hx => ?_⟩
  obtain ⟨ls, ms, n⟩ := x
  exact ds_ret (Ev.dl (ev_fld T.cl_Case T.cno_marks (ev_var rfl) (by rfl)) rfl)
end K26

namespace K26
open PySem PySem.Spec PyProof.Rows L2 Dw
theorem d_check_known {P : Program} {w : World} {K : PySem.W.Frag} {mg : Str → Option Value} {base : Heap} (T : Txt K w mg) : FnOk P w K mg base CX0 1 T.f_check_known T.e_check_known ["name", "names"] (toSp (spKnown)) := by
  refine fn_ok T.F_check_known sc_check_known (fun _ => rfl) fun cdv A outer s' H E hr => ?_
  refine ⟨_, (pss_one (ps_if (PW.pt (pw_or (pt_not (truA K (pe_callB (isiA K) (by rfl) T.n_isinstance (by decide +kernel) (pa_cons (pv 0) (pa_cons (pe_bltn (v := .ty "str") (by rfl) T.n_str (by decide +kernel) rfl) pa_nil))))) (pw_or1 (pt_cmpR (ninA K) (pv 0) (pv 1) (by rfl))))) (pss_one ps_never) pss_nil)), fun x hx => ?_⟩
  obtain ⟨ls, i⟩ := x
  have hi : i < ls.length := hx
  have ein : inV (.str (tx (rowAt ls i))) ((nameD ls).map scV) = true := by rw [inV_name]; exact decide_eq_true (rowAt_mem hi)
  exact ds_if (EvT.dl (b := false) (evt_or (a := false) (b := false) (evt_not (a := true) (evt_tru_bl (ev_isi (ev_var rfl) ev_raw (.inl rfl) (.ty "str") rfl))) fun _ => evt_test (ev_cast (congrArg D.bl (congrArg not ein)) (ev_inT (K := K) (neg := true) (d := .str (tx (rowAt ls i))) (ds := nameD ls) (ev_var rfl) (ev_dn (ev_var rfl)) rfl (sc_names ls)))) ⟨fun h => (nomatch h), fun _ => ds_next rfl⟩)
end K26

namespace K26
open PySem PySem.Spec PyProof.Rows L2 Dw
theorem d_row_against {P : Program} {w : World} {K : PySem.W.Frag} {mg : Str → Option Value} {base : Heap} (T : Txt K w mg) : FnOk P w K mg base CX0 3 T.f_row_against T.e_row_against ["case", "one", "other"] (toSp (spAgC T.C_Case)) := by
  refine fn_ok T.F_row_against sc_row_against (fun _ => rfl) fun cdv A outer s' H E hr => ?_
  refine ⟨_, (pss_one (ps_ret (pe_call (d_row_between T) (hr.mono (by decide)) (by rfl) T.m_row_between T.F_row_between.kp T.b_row_between .nil pass0 (pa_cons (pe_ix (ixA K) (pe_prop (pv 0) T.cl_Case T.p_Case_marks (d_Case_marks T) (hr.mono (by decide)) T.b_Case_marks .nil pass0 rfl) (pe_tm PySem.F.slot_tuple_index PySem.F.type_tuple_index (tidxA K) (pe_prop (pv 0) T.cl_Case T.p_Case_names (d_Case_names T) (hr.mono (by decide)) T.b_Case_names .nil pass0 rfl) (pa_cons (pv 1) pa_nil)) (fun _ _ => rfl)) (pa_cons (pe_ix (ixA K) (pe_prop (pv 0) T.cl_Case T.p_Case_marks (d_Case_marks T) (hr.mono (by decide)) T.b_Case_marks .nil pass0 rfl) (pe_tm PySem.F.slot_tuple_index PySem.F.type_tuple_index (tidxA K) (pe_prop (pv 0) T.cl_Case T.p_Case_names (d_Case_names T) (hr.mono (by decide)) T.b_Case_names .nil pass0 rfl) (pa_cons (pv 2) pa_nil)) (fun _ _ => rfl)) pa_nil))))), fun x hx => ?_⟩
  obtain ⟨⟨ls, ms, n⟩, i, k⟩ := x
  obtain ⟨hc, hi, hk⟩ := hx
  have hc : CaseOk ls ms n := hc
  have hi : i < ls.length := hi
  have hk : k < ls.length := hk
  have sm := hc.same
  have pw := hc.names.pw
  refine ds_ret (Ev.dl (ev_call (s := spBetween) (x := (rowAt ms i, rowAt ms k, n)) (eva_cons (ev_ixT (d := .tup (ordD (rowAt ms i))) (ds := msD ms) (ev_prop (s := spCMarks T.C_Case) (x := (ls, ms, n)) (ev_var rfl) rfl (np_caseO (r := []) rfl) trivial fun d h => h) (ev_cast (congrArg (fun j : Nat => D.int j) (idx_name pw hi)) (ev_tidxS (o := ls.map tx) (c := tx (rowAt ls i)) (ev_cast (congrArg D.tupN (nameD_map ls).symm) (ev_prop (s := spCNames T.C_Case) (x := (ls, ms, n)) (ev_var rfl) rfl (np_caseO (r := []) rfl) trivial fun d h => h)) (ev_var rfl) (List.mem_map_of_mem (rowAt_mem hi)))) (atI_nat (msD_at (by omega)))) (eva_cons (ev_ixT (d := .tup (ordD (rowAt ms k))) (ds := msD ms) (ev_prop (s := spCMarks T.C_Case) (x := (ls, ms, n)) (ev_var rfl) rfl (np_caseO (r := []) rfl) trivial fun d h => h) (ev_cast (congrArg (fun j : Nat => D.int j) (idx_name pw hk)) (ev_tidxS (o := ls.map tx) (c := tx (rowAt ls k)) (ev_cast (congrArg D.tupN (nameD_map ls).symm) (ev_prop (s := spCNames T.C_Case) (x := (ls, ms, n)) (ev_var rfl) rfl (np_caseO (r := []) rfl) trivial fun d h => h)) (ev_var rfl) (List.mem_map_of_mem (rowAt_mem hk)))) (atI_nat (msD_at (by omega)))) eva_nil)) (np_to (np_to (r := []) rfl)) ⟨hc.wide _ (rowAt_mem (by omega)), hc.wide _ (rowAt_mem (by omega)), hc.hi⟩ fun d h => h) rfl)
end K26

namespace K26
open PySem PySem.Spec PyProof.Rows L2 Dw
theorem d_rows_of {P : Program} {w : World} {K : PySem.W.Frag} {mg : Str → Option Value} {base : Heap} (T : Txt K w mg) : FnOk P w K mg base CX0 4 T.f_rows_of T.e_rows_of ["case", "one"] (toSp (spRowsOf T.C_Case)) := by
  refine fn_ok T.F_rows_of sc_rows_of (fun _ => rfl) fun cdv A outer s' H E hr => ?_
  refine ⟨_, (pss_one (ps_ret (pe_callTy (tupleA K) (by rfl) T.n_tuple (by decide +kernel) (pa_cons (pe_lc (own := [("other", 2)]) rfl sc_rows_of.nd (piR K (pe_prop (pv 0) T.cl_Case T.p_Case_names (d_Case_names T) (hr.mono (by decide)) T.b_Case_names .nil pass0 rfl)) (blkOk_by (own := [("other", 2)]) (N := N_rows_of) (sc := (defScope s_rows_of)) (by decide +kernel)) (fun _ _ _ _ _ => pg_name (i := 2) sc_rows_of.nd rfl (Or.inl rfl)) (fun _ _ _ _ _ => pts_one (pt_cmpR (neA K hr.units) (pv 2) (pv 1) (nomark _))) (fun _ _ _ _ _ => (pe_call (d_row_against T) (hr.mono (by decide)) (by rfl) T.m_row_against T.F_row_against.kp T.b_row_against .nil pass0 (pa_cons (pv 0) (pa_cons (pv 1) (pa_cons (pv 2) pa_nil)))))) pa_nil)))), fun x hx => ?_⟩
  obtain ⟨⟨ls, ms, n⟩, i⟩ := x
  obtain ⟨hc, hi⟩ := hx
  have hc : CaseOk ls ms n := hc
  have hi : i < ls.length := hi
  have sm := hc.same
  have pw := hc.names.pw
  have h8 := hc.names.hi
  refine ds_ret (Ev.dl (ev_cast (d' := .tup (nameD (rwM ms i))) (by unfold rwM idxM nameD; rw [List.map_map, sm]; rfl) (ev_tuple (EvN.b (evn_lc (xs := List.range ls.length) (c := fun k => .str (tx (rowAt ls k))) (p := fun k => !decide (k = i)) (f := fun k => .str (tx (agR (rowAt ms i) (rowAt ms k)))) ?ej (by rw [List.length_range]; omega) fun k hk => ⟨[2], _, dg_name, fun i hi => hi, evt_test (ev_op (ev_var rfl) (ev_var rfl) (ne_sb (congrArg not (decide_eq_decide.mpr ⟨fun e => rowAt_inj pw (List.mem_range.mp hk) hi (tx_eq.mp e), fun e => by rw [e]⟩)))), fun _ => ev_call (s := spAgC T.C_Case) (x := ((ls, ms, n), i, k)) (eva_cons (ev_var rfl) (eva_cons (ev_var rfl) (eva_cons (ev_var rfl) eva_nil))) (np_caseO (r := [_, _]) rfl) ⟨hc, hi, List.mem_range.mp hk⟩ fun d h => h⟩)))) rfl)
  rw [names_range]
  exact ej_tup (ev_dn (ev_prop (s := spCNames T.C_Case) (x := (ls, ms, n)) (ev_var rfl) rfl (np_caseO (r := []) rfl) trivial fun d h => h))
end K26

namespace K26
open PySem PySem.Spec PyProof.Rows L2 Dw
/-! what can be told -/
mutual
def rOk : Nat → D → Bool
  | _, .non => true | _, .int i => shOk (.int i) && decide (shB (.int i) ≤ 10) | _, .str x => PyData.strOk x && decide (x.length ≤ 300)
  | k + 1, .tup ds => rOks k ds | k + 1, .lst ds => rOks k ds
  | _, _ => false
def rOks : Nat → List D → Bool
  | _, [] => true
  | k, d :: ds => rOk k d && rOks k ds
end
mutual
def cnt : D → Nat
  | .tup ds => cnts ds + 1 | .lst ds => cnts ds + 1
  | _ => 1
def cnts : List D → Nat
  | [] => 0
  | d :: ds => cnt d + cnts ds
end
mutual
theorem rOk_sh : ∀ (k : Nat) (d : D), rOk k d = true → dOk k d = true ∧ shOk d = true ∧ shB d + 2 ≤ 3010 * cnt d
  | k, .non, _ => ⟨by cases k <;> rfl, rfl, by show 5 + 2 ≤ 3010 * 1; decide⟩
  | k, .int i, h => by
    have h : (shOk (.int i) && decide (shB (.int i) ≤ 10)) = true := by cases k <;> exact h
    rw [Bool.and_eq_true, decide_eq_true_eq] at h
    exact ⟨by cases k <;> rfl, h.1, by show _ ≤ 3010 * 1; have := h.2; omega⟩
  | k, .str x, h => by
    have h : (PyData.strOk x && decide (x.length ≤ 300)) = true := by cases k <;> exact h
    rw [Bool.and_eq_true, decide_eq_true_eq] at h
    obtain ⟨h1, h2⟩ := h
    exact ⟨by cases k <;> exact h1, rfl, by show 10 * x.length + 2 + 2 ≤ 3010 * 1; omega⟩
  | k + 1, .tup ds, h => by
    obtain ⟨h1, h2, h3⟩ := rOks_sh k ds h
    exact ⟨h1, h2, by show shBs ds + 4 + 2 ≤ 3010 * (cnts ds + 1); omega⟩
  | k + 1, .lst ds, h => by
    obtain ⟨h1, h2, h3⟩ := rOks_sh k ds h
    exact ⟨h1, h2, by show shBs ds + 4 + 2 ≤ 3010 * (cnts ds + 1); omega⟩
  | 0, .tup _, h => nomatch h
  | 0, .lst _, h => nomatch h
  | k, .bl _, h => by cases k <;> exact nomatch h
  | k, .dct _ _, h => by cases k <;> exact nomatch h
  | k, .obj _ _ _, h => by cases k <;> exact nomatch h
  | k, .raw _, h => by cases k <;> exact nomatch h
  | k, .purse, h => by cases k <;> exact nomatch h
  | k, .rng _ _, h => by cases k <;> exact nomatch h
  | k, .scr _ _, h => by cases k <;> exact nomatch h
  | k, .tupN _, h => by cases k <;> exact nomatch h
theorem rOks_sh : ∀ (k : Nat) (ds : List D), rOks k ds = true → dOks k ds = true ∧ shOks ds = true ∧ shBs ds ≤ 3010 * cnts ds
  | k, [], _ => ⟨by cases k <;> rfl, rfl, by show 0 ≤ _; exact Nat.zero_le _⟩
  | k, d :: ds, h => by
    have e : rOks k (d :: ds) = (rOk k d && rOks k ds) := by cases k <;> rfl
    rw [e, Bool.and_eq_true] at h
    obtain ⟨a1, a2, a3⟩ := rOk_sh k d h.1
    obtain ⟨b1, b2, b3⟩ := rOks_sh k ds h.2
    have e2 : dOks k (d :: ds) = (dOk k d && dOks k ds) := by cases k <;> rfl
    refine ⟨by rw [e2, a1, b1]; rfl, by show (shOk d && shOks ds) = true; rw [a2, b2]; rfl, ?_⟩
    show shB d + 2 + shBs ds ≤ 3010 * (cnt d + cnts ds)
    omega
end
theorem rk_t {k : Nat} {ds : List D} (h : rOks k ds = true) : rOk (k + 1) (.tup ds) = true := h
theorem rk_l {k : Nat} {ds : List D} (h : rOks k ds = true) : rOk (k + 1) (.lst ds) = true := h
theorem rk_n {k : Nat} : rOks k [] = true := by cases k <;> rfl
theorem rk_c {k : Nat} {d : D} {ds : List D} (h : rOk k d = true) (h2 : rOks k ds = true) : rOks k (d :: ds) = true := by
  have e : rOks k (d :: ds) = (rOk k d && rOks k ds) := by cases k <;> rfl
  rw [e, h, h2]; rfl
theorem rk_s {k : Nat} {x : Str} (h : PyData.strOk x = true) (h2 : x.length ≤ 300) : rOk k (.str x) = true := by
  have e : rOk k (.str x) = (PyData.strOk x && decide (x.length ≤ 300)) := by cases k <;> rfl
  rw [e, h, decide_eq_true h2]; rfl
theorem rk_non {k : Nat} : rOk k .non = true := by cases k <;> rfl

end K26

namespace K26
open PySem PySem.Spec PyProof.Rows L2 Dw
/-! the jar and what is drawn from it -/
def strs2 : List Str := ["a", "ann", "b", "bob", "cid", "cost", "near", "safe", "zzzzzzzz", "tell", "rows", "undo", "x", "none", "sure", "count", "m"]
def lab2 : List (List Nat) := strs2.map fun s => s.cps.toList
theorem lab2_D : nameD lab2 = strs2.map D.str := by
  unfold nameD lab2
  rw [List.map_map]
  exact List.map_congr_left fun s _ => congrArg D.str (of_tx s)
theorem lab2_ok : ∀ l ∈ lab2, NameOk l := by
  have h : lab2.all nameB = true := by decide +kernel
  exact fun l hl => nameB_ok (List.all_eq_true.mp h l hl)
theorem lab2_nd : lab2.Nodup := by decide +kernel
theorem lab2_len : lab2.length = 17 := rfl
/-- names of their own, put in order -/
theorem names_ofN {lab : List (List Nat)} (hok : ∀ l ∈ lab, NameOk l) {zs : List Str} {acc : List (List Nat)} {n : Nat} (hn : acc.Nodup) (hp : ∀ l ∈ acc, l ∈ lab) (hz : zs.Perm (acc.map tx)) (hs : sortedS zs = true) (hl : acc.length = n) (h1 : 1 ≤ n) (h8 : n ≤ 8) :
    NamesOk (zs.map fun s => s.cps.toList) := by
  have ln : zs.length = n := by rw [hz.length_eq, List.length_map, hl]
  have nd : zs.Nodup := hz.nodup_iff.mpr (nodup_tx hn)
  refine ⟨by rw [List.length_map]; omega, by rw [List.length_map]; omega, fun l h => ?_, ?_⟩
  · obtain ⟨s, h1, rfl⟩ := List.mem_map.mp h
    obtain ⟨m, h2, rfl⟩ := List.mem_map.mp (hz.mem_iff.mp h1)
    show NameOk (tx m).cps.toList
    rw [tx_cps]
    exact hok m (hp m h2)
  · cases zs with
    | nil => exact fun p hp => by cases hp
    | cons x r => exact rising_inc x r hs nd
def stepAt (a s : Nat) (k : Nat) : Nat := (a + s * k) % 17
theorem step_lt (a s k : Nat) : stepAt a s k < 17 := Nat.mod_lt _ (by decide)
theorem steps_nd : ∀ a < 17, ∀ s < 17, 1 ≤ s → ((List.range 8).map (stepAt a s)).Nodup := by decide +kernel
theorem tags_nd {a s n : Nat} (ha : a < 17) (hs : s < 17) (h1 : 1 ≤ s) (h8 : n ≤ 8) : ((List.range n).map fun k => rowAt lab2 (stepAt a s k)).Nodup := by
  have h := steps_nd a ha s hs h1
  have e : List.range n = (List.range 8).take n := by rw [List.take_range]; congr 1; omega
  have h2 : ((List.range n).map (stepAt a s)).Nodup := by
    rw [e, List.map_take]
    exact h.sublist (List.take_sublist _ _)
  have h3 : (List.range n).map (fun k => rowAt lab2 (stepAt a s k)) = ((List.range n).map (stepAt a s)).map (rowAt lab2) := by rw [List.map_map]; rfl
  rw [h3]
  unfold List.Nodup at h2 ⊢
  rw [List.pairwise_map]
  refine h2.imp_of_mem fun {x y} hx hy hxy he => hxy ?_
  obtain ⟨i, _, rfl⟩ := List.mem_map.mp hx
  obtain ⟨j, _, rfl⟩ := List.mem_map.mp hy
  have l1 := step_lt a s i
  have l2 := step_lt a s j
  rw [rowAt_get (show _ < lab2.length from l1), rowAt_get (show _ < lab2.length from l2)] at he
  exact (List.getElem_inj lab2_nd).mp he
def spTags : Spc where
  ty := Nat
  args := fun n => [.purse, .int n]
  ok := fun n => 1 ≤ n ∧ n ≤ 8
  rel := fun n d => ∃ ls, d = .lst (nameD ls) ∧ NamesOk ls ∧ ls.length = n
def pairDm (p : List Nat × List Nat) : D := .tup [.str (tx p.1), .tup (ordD p.2)]
def folkD (ls ms : List (List Nat)) : List D := (ls.zip ms).map pairDm
def spFolk : Spc where
  ty := Nat × Nat × Nat
  args := fun x => [.purse, .int x.1, .int x.2.1, .int x.2.2]
  ok := fun x => 1 ≤ x.1 ∧ x.1 ≤ 8 ∧ 2 ≤ x.2.1 ∧ x.2.1 ≤ x.2.2 ∧ x.2.2 ≤ 8
  rel := fun x d => ∃ ls ms, d = .lst (folkD ls ms) ∧ CaseOk ls ms x.1 ∧ x.2.1 ≤ ls.length ∧ ls.length ≤ x.2.2
def spPage : Spc where
  ty := List (List Nat) × List (List Nat) × Nat
  args := fun x => [.lst (folkD x.1 x.2.1)]
  ok := fun x => CaseOk x.1 x.2.1 x.2.2
  rel := fun x d => d = .str (tx (caseTx x.1 x.2.1))
def spCell (K : PySem.W.Frag) : Spc where
  ty := List Int × Nat
  args := fun x => [.scr K (x.1.map V.int), .int x.2]
  ok := fun x => x.1.length ≤ 63
  rel := fun _ d => ∃ z : Int, d = .int z
theorem at_step (a s k : Nat) : atI (nameD lab2) (((a : Int) + (s : Int) * (k : Int)) % 17) = some (.str (tx (rowAt lab2 (stepAt a s k)))) := by
  have e : ((a : Int) + (s : Int) * (k : Int)) % 17 = ((stepAt a s k : Nat) : Int) := by
    unfold stepAt
    rw [Int.natCast_emod, Int.natCast_add, Int.natCast_mul]; rfl
  rw [e]
  exact rowAt_at (show _ < lab2.length from step_lt a s k)
theorem dg_tup3J {K : PySem.W.Frag} {g1 g2 g3 : TG} {is js ks : List Nat} {x y z : D} {Γ Γ1 Γ2 Γ3 : Gam} (h1 : DG g1 is x Γ Γ1) (h2 : DG g2 js y Γ1 Γ2) (h3 : DG g3 ks z Γ2 Γ3) : DG (gTup K 3 (gCons g1 (gCons g2 (gCons g3 gNil)))) (is ++ (js ++ ks)) (.tup [x, y, z]) Γ Γ3 := fun F σ W v R g r k => by
  obtain ⟨a, vs, e, ha, nu, v1, _, rfl, r1, v2, _, rfl, r2, v3, _, rfl, r3, rfl⟩ := r
  refine ⟨a, [v1, v2, v3], e, ha.sq, rfl, v1, [v2, v3], rfl, h1 F σ W v1 _ g r1 fun σ1 g1 w1 => ⟨v2, [v3], rfl, h2 F σ1 W v2 _ g1 r2 fun σ2 g2 w2 => ⟨v3, [], rfl, h3 F σ2 W v3 _ g2 r3 fun σ3 g3 w3 => ⟨rfl, k σ3 g3 fun vs h => ?_⟩⟩⟩⟩
  rw [w3 vs fun i hi => h i (List.mem_append_right _ (List.mem_append_right _ hi)), w2 vs fun i hi => h i (List.mem_append_right _ (List.mem_append_left _ hi)), w1 vs fun i hi => h i (List.mem_append_left _ hi)]
end K26

namespace K26
open PySem PySem.Spec PyProof.Rows L2 Dw
theorem d__law_cell {P : Program} {w : World} {K : PySem.W.Frag} {mg : Str → Option Value} {base : Heap} (T : Txt K w mg) : FnOk P w K mg base CX0 1 T.f__law_cell T.e__law_cell ["_law_cells", "_law_k"] (toSp (spCell K)) := by
  refine fn_ok T.F__law_cell sc__law_cell (fun _ => rfl) fun cdv A outer s' H E hr => ?_
  refine ⟨_, (pss_cons (ps_if (pt_cmpR opLt (pv 1) (pe_callB (lenA K) (by rfl) T.n_len (by decide +kernel) (pa_cons (pv 0) pa_nil)) (nomark _)) (pss_one (ps_ret (pe_ix (ixA K) (pv 0) (pv 1) (fun _ _ => rfl)))) pss_nil) (pss_cons (ps_set (i := 2) sc__law_cell.nd rfl (Or.inl rfl) (pe_op (plusE K) pe_int (pe_op opTimes pe_int (pv 1)))) (pss_cons (ps_for PassesOwn.never rfl (piR K (pe_slice (slXA K) (pv 0) po_none (po_some pe_int))) (pg_name (i := 3) sc__law_cell.nd rfl (Or.inl rfl)) (pss_one (ps_set (i := 2) sc__law_cell.nd rfl (Or.inl rfl) (pe_op op_mod (pe_callTy call_int1 (by rfl) T.n_int (by decide +kernel) (pa_cons (pe_op (plusE K) (pe_op (plusE K) (pe_op opTimes (pv 2) pe_int) (pe_op opTimes (pv 3) pe_int)) (pv 1)) pa_nil)) pe_int)))) (pss_one (ps_ret (pv 2)))))), fun x hx => ?_⟩
  obtain ⟨ns, k⟩ := x
  have hn : ns.length ≤ 63 := hx
  have l0 : (ns.map V.int).length = ns.length := List.length_map ..
  refine ds_seq (ds_if (EvT.dl (b := decide ((k : Int) < ((ns.map V.int).length : Int))) (evt_test (ev_op (ev_var rfl) (ev_lenX (ev_var rfl)) lt_int')) ⟨fun h => ds_ret (Ev.dl (ev_ixX (z := ns.getD k 0) (ev_var rfl) (ev_var rfl) (scr_at ?_)) ⟨_, rfl⟩), fun _ => ds_next ?_⟩))
  · have := of_decide_eq_true h
    rw [l0] at this
    show k < ns.length
    omega
  refine ds_seq (ds_asg (Ev.dl (ev_op ev_int (ev_op ev_int (ev_var rfl) (times_int (.inl ⟨by decide, by decide⟩))) pl_int) ?_))
  refine ds_seq (ds_for (fun xs i Γ' => (∀ x ∈ xs, ∃ z : Int, x = .int z) ∧ ∃ (made : Int) (s3 : Sl), Γ' = [.val (.scr K (ns.map V.int)), .val (.int k), .val (.int made), s3])
      (dj_list (Ev.dl (EvN.ev (evn_sliceXY (hi := some 5) (ev_var rfl) eo_none (eo_some ev_int))) ⟨_, rfl, ⟨fun x hx => ?_, _, _, rfl⟩, fun i x Γ' hx' ⟨hx0, made, s3, e⟩ => ?_, fun Γ' ⟨hx0, made, s3, e⟩ => ?_⟩)))
  · obtain ⟨z, _, rfl⟩ := List.mem_map.mp hx
    exact ⟨z, rfl⟩
  · subst e
    obtain ⟨z, rfl⟩ := hx0 x (List.mem_of_getElem? hx')
    exact ⟨[3], _, dg_name, ds_asg (Ev.dl (ev_op (ev_int1 (ev_op (ev_op (ev_op (ev_var rfl) ev_int (times_int (.inr ⟨by decide, by decide⟩))) (ev_op (ev_var rfl) ev_int (times_int (.inr ⟨by decide, by decide⟩))) pl_int) (ev_var rfl) pl_int)) ev_int (dr2_mod (by decide))) ⟨hx0, _, _, rfl⟩)⟩
  · subst e
    exact ds_ret (Ev.dl (ev_var rfl) ⟨_, rfl⟩)
end K26

namespace K26
open PySem PySem.Spec PyProof.Rows L2 Dw
theorem d__law_well {P : Program} {w : World} {K : PySem.W.Frag} {mg : Str → Option Value} {base : Heap} (T : Txt K w mg) : FnOk P w K mg base CX0 1 T.f__law_well T.e__law_well ["_law_cell_here"] toWell := by
  refine T.F__law_well.ok sc__law_well (fun vs H Q E ⟨F, W, cell, _, _, r, _⟩ => by rw [← r.length]; rfl) fun cdv A outer s' H vs Q E hr h => ?_
  refine ⟨_, (pss_one (ps_ret (pe_lst (pa_cons (pe_ifExp (PW.pt (pw_or (pt_cmpR opLt (pv 0) pe_int (nomark _)) (pw_or1 (pt_cmpR opGe (pv 0) (pe_op op_pow pe_int pe_int) (nomark _))))) (pe_callB call_abs (by rfl) T.n_abs (by decide +kernel) (pa_cons (pv 0) pa_nil)) pe_int) (pa_cons (pe_op op_mod (pe_callTy call_int1 (by rfl) T.n_int (by decide +kernel) (pa_cons (pv 0) pa_nil)) pe_int) (pa_cons pe_int pa_nil)))))), ?_⟩
  obtain ⟨F, W, cell, rfl, ok, r, k⟩ := h
  have g0 : SR F (Gz0 1 [.int cell]) (L2.start N__law_well vs) W := sr_start (N := N__law_well) ok r
  have ep : (10 : Int) ^ (18 : Int).toNat = 1000000000000000000 := by decide +kernel
  refine evn_lst (ds := [.int (if (decide (cell < 0) || decide ((10 : Int) ^ (18 : Int).toNat ≤ cell)) = true then (if cell < 0 then -cell else cell) else 0), .int (cell % 2147483587), .int 0]) (eva_cons (ev_cast ?_ (ev_if (a := (decide (cell < 0) || decide ((10 : Int) ^ (18 : Int).toNat ≤ cell))) (evt_or (evt_test (ev_op (ev_var rfl) ev_int lt_int')) fun _ => evt_test (ev_op (ev_var rfl) (ev_op ev_int ev_int (dr2_pow ?_)) dr2_ge)) (fun _ => ev_abs (ev_var rfl)) fun _ => ev_int)) (eva_cons (ev_op (ev_int1 (ev_var rfl)) ev_int (dr2_mod (by decide))) (eva_cons ev_int eva_nil))) (small (show 3 ≤ 100000 by decide)) F _ W _ g0 fun a vs H' sm hn ha rl => ?_
  · cases (decide (cell < 0) || decide ((10 : Int) ^ (18 : Int).toNat ≤ cell)) <;> rfl
  · exact ⟨by decide, by decide, by decide⟩
  · have ev := RepL.ints (ns := [_, _, _]) |>.mp rl
    rw [ev] at ha
    refine k a _ _ _ W H' (Stp.refl _) ok sm hn ha ?_ (Int.emod_nonneg _ (by decide)) (Int.lt_trans (Int.emod_lt_of_pos _ (by decide)) (by decide))
    by_cases hq : (decide (cell < 0) || decide ((10 : Int) ^ (18 : Int).toNat ≤ cell)) = true
    · rw [if_pos hq]
      by_cases h : cell < 0 <;> simp [h] <;> omega
    · rw [if_neg hq]; exact Int.le_refl _

end K26

namespace K26
open PySem PySem.Spec PyProof.Rows L2 Dw
theorem d__law_dip {P : Program} {w : World} {K : PySem.W.Frag} {mg : Str → Option Value} {base : Heap} (T : Txt K w mg) : FnOk P w K mg base CX0 1 T.f__law_dip T.e__law_dip ["_law_jar", "_law_many"] (toSp (spDraw)) := by
  refine fn_ok T.F__law_dip sc__law_dip (fun _ => rfl) fun cdv A outer s' H E hr => ?_
  refine ⟨_, (pss_cons (ps_asg (pe_op (plusE K) (pe_ix (ixA K) (pv 0) pe_int (fun _ _ => rfl)) pe_int) (pg_sub (pv 0) pe_int set_list)) (pss_cons (ps_set (i := 2) sc__law_dip.nd rfl (Or.inl rfl) (pe_op op_mod (pe_callTy call_int1 (by rfl) T.n_int (by decide +kernel) (pa_cons (pe_op (plusE K) (pe_ix (ixA K) (pv 0) pe_int (fun _ _ => rfl)) (pe_op opTimes pe_int (pe_ix (ixA K) (pv 0) pe_int (fun _ _ => rfl)))) pa_nil)) pe_int)) (pss_cons (ps_asg (pe_op op_mod (pe_callTy call_int1 (by rfl) T.n_int (by decide +kernel) (pa_cons (pe_op (plusE K) (pe_op (plusE K) (pe_op op_mulX (pv 2) (pv 2)) (pe_op opTimes pe_int (pv 2))) pe_int) pa_nil)) pe_int) (pg_sub (pv 0) pe_int set_list)) (pss_cons (ps_if (pt_cmpR (eqA K hr.units) (pe_ix (ixA K) (pv 0) pe_int (fun _ _ => rfl)) pe_int (nomark _)) (pss_one (ps_ret (pe_op op_mod (pe_callTy call_int1 (by rfl) T.n_int (by decide +kernel) (pa_cons (pe_op op_fdiv (pe_ix (ixA K) (pv 0) pe_int (fun _ _ => rfl)) pe_int) pa_nil)) (pv 1)))) pss_nil) (pss_cons (ps_asg (pe_callB call_divmod (by rfl) T.n_divmod (by decide +kernel) (pa_cons (pe_ix (ixA K) (pv 0) pe_int (fun _ _ => rfl)) (pa_cons (pv 1) pa_nil))) (tupA K 2 rfl (pgs_cons (pg_name (i := 3) sc__law_dip.nd rfl (Or.inl rfl)) (pgs_cons (pg_name (i := 4) sc__law_dip.nd rfl (Or.inl rfl)) pgs_nil)))) (pss_cons (ps_asg (pv 3) (pg_sub (pv 0) pe_int set_list)) (pss_one (ps_ret (pv 4))))))))), fun x hx => ?_⟩
  obtain ⟨x, rfl⟩ : ∃ n : Nat, n = x := ⟨x, rfl⟩
  obtain ⟨hn0, hn1⟩ := hx
  have hn0 : 0 < x := hn0
  have hn1 : x < 100000 := hn1
  refine fun F σ W Dr g l => ?_
  obtain ⟨v0, e0, a, ev, hp⟩ := g.val 0 .purse rfl
  obtain ⟨v1, e1, r1⟩ := g.val 1 (.int x) rfl
  subst ev
  rw [show v1 = V.int x from r1] at e1
  have l2 : 2 < σ.length := by rw [← g.len]; exact (show 2 < 5 by decide)
  have l3 : 3 < σ.length := by rw [← g.len]; exact (show 3 < 5 by decide)
  have l4 : 4 < σ.length := by rw [← g.len]; exact (show 4 < 5 by decide)
  obtain ⟨u, f, ⟨p, c⟩, q, hp0, hq0, hq1, hH⟩ := g.ok.pu a hp
  have hp0 : 0 ≤ p := hp0
  have hH : W.H a = some (.lst [.int p, .int q, .int c]) := hH
  have i0 : ∀ y c : Int, atI [V.int p, V.int y, V.int c] 0 = some (V.int p) := fun y c => atI_nat (j := 0) rfl
  have i1 : ∀ y c : Int, atI [V.int p, V.int y, V.int c] 1 = some (V.int y) := fun y c => atI_nat (j := 1) rfl
  have i2 : ∀ y c : Int, atI [V.int p, V.int y, V.int c] 2 = some (V.int c) := fun y c => atI_nat (j := 2) rfl
  have md : ∀ z : Int, ∃ r : Nat, r < x ∧ V.int (z % (x : Int)) = V.int r := fun z => ⟨(z % (x : Int)).toNat, by
    have h1 := Int.emod_nonneg z (show (x : Int) ≠ 0 by omega)
    have h2 := Int.emod_lt_of_pos z (show (0 : Int) < x by omega)
    omega, by
    have h1 := Int.emod_nonneg z (show (x : Int) ≠ 0 by omega)
    rw [Int.toNat_of_nonneg h1]⟩
  refine ⟨.ref a, e0, .inl ⟨a, _, 2, .int c, rfl, rfl, .of hH, i2 q c, .inl (.inl ⟨c, 1, rfl, rfl, ?_⟩)⟩⟩
  obtain ⟨st1, ok1⟩ := purse_step (x := p) (y := q) (c := c + 1) g.ok hp hp0 hq0 hq1
  refine ⟨.ref a, e0, a, _, 2, 2, rfl, rfl, hH, rfl, ?_⟩
  refine ⟨.ref a, e0, .inl ⟨a, [.int p, .int q, .int (c + 1)], 1, .int q, rfl, rfl, .of upd_same, i1 _ _, ?_⟩⟩
  refine ⟨.ref a, e0, .inl ⟨a, [.int p, .int q, .int (c + 1)], 2, .int (c + 1), rfl, rfl, .of upd_same, i2 _ _, .inl ⟨770551, c + 1, rfl, rfl, .inl ⟨by decide, by decide⟩, ?_⟩⟩⟩
  refine .inl (.inl ⟨_, _, rfl, rfl, .inl ⟨_, rfl, _, _, rfl, rfl, (show (0 : Int) < 2147483587 by decide), ?_⟩⟩)
  have b0 := Int.emod_nonneg (q + 770551 * (c + 1)) (show (2147483587 : Int) ≠ 0 by decide)
  have b1 := Int.emod_lt_of_pos (q + 770551 * (c + 1)) (show (0 : Int) < 2147483587 by decide)
  obtain ⟨m, hm⟩ : ∃ m : Int, (q + 770551 * (c + 1)) % 2147483587 = m := ⟨_, rfl⟩
  refine (show gName 2 (V.int ((q + 770551 * (c + 1)) % 2147483587)) σ _ _ from ?_)
  rw [hm] at b0 b1 ⊢
  have cm : CMulX m m := mulx_ok (a := 31) (b := 31) (by omega) (by omega) (by decide)
  have e0' : (σ.set 2 (some (V.int m)))[0]? = some (some (.ref a)) := (List.getElem?_set_ne (by decide)).trans e0
  have e1' : (σ.set 2 (some (V.int m)))[1]? = some (some (.int x)) := (List.getElem?_set_ne (by decide)).trans e1
  refine ⟨.int m, List.getElem?_set_self l2, .int m, List.getElem?_set_self l2, m, m, rfl, rfl, cm, ?_⟩
  refine ⟨.int m, List.getElem?_set_self l2, .inl ⟨2753159, m, rfl, rfl, .inl ⟨by decide, by decide⟩, ?_⟩⟩
  refine .inl (.inl ⟨_, _, rfl, rfl, .inl (.inl ⟨_, 519371, rfl, rfl, .inl ⟨_, rfl, _, _, rfl, rfl, (show (0 : Int) < 2147483587 by decide), ?_⟩⟩)⟩)
  have d0 := Int.emod_nonneg (m * m + 2753159 * m + 519371) (show (2147483587 : Int) ≠ 0 by decide)
  have d1 := Int.emod_lt_of_pos (m * m + 2753159 * m + 519371) (show (0 : Int) < 2147483587 by decide)
  obtain ⟨st2, ok2⟩ := purse_step (x := p) (y := (m * m + 2753159 * m + 519371) % 2147483587) (c := c + 1) ok1 hp hp0 d0 (Int.lt_trans d1 (by decide))
  refine ⟨.ref a, e0', a, _, 1, 1, rfl, rfl, upd_same, rfl, ?_⟩
  refine ⟨.ref a, e0', .inl ⟨a, [.int p, .int ((m * m + 2753159 * m + 519371) % 2147483587), .int (c + 1)], 0, .int p, rfl, rfl, .of upd_same, i0 _ _, .inl ⟨rfl, _, rfl, ?_⟩⟩⟩
  have ifB : ∀ {b : Bool} {A B : Prop}, (b = true → A) → (b = false → B) → (if b = true then A else B) := fun {b A B} h1 h2 => by
    cases b with
    | true => exact h1 rfl
    | false => exact h2 rfl
  refine ifB (fun hz => ?_) fun hz => ?_
  · have hz : p = 0 := by
      have := of_decide_eq_true hz
      injection this
    obtain ⟨r, hr1, hr2⟩ := md (((m * m + 2753159 * m + 519371) % 2147483587) / 103)
    refine ⟨.ref a, e0', .inl ⟨a, [.int p, .int ((m * m + 2753159 * m + 519371) % 2147483587), .int (c + 1)], 1, .int ((m * m + 2753159 * m + 519371) % 2147483587), rfl, rfl, .of upd_same, i1 _ _, _, 103, rfl, rfl, ⟨by decide, by decide⟩, .inl ⟨_, rfl, .int x, e1', _, _, rfl, rfl, (show (0 : Int) < x by omega), ?_⟩⟩⟩
    exact l.rt _ (Wd.at _ _) (.int r) (st1.trans st2) ok2 hr2 ⟨r, hr1, rfl⟩
  · have hz : ¬ p = 0 := fun h => by
      have := of_decide_eq_false hz
      exact this (congrArg V.int h)
    refine ⟨.ref a, e0', .inl ⟨a, [.int p, .int ((m * m + 2753159 * m + 519371) % 2147483587), .int (c + 1)], 0, .int p, rfl, rfl, .of upd_same, i0 _ _, .int x, e1', p, x, rfl, ⟨by omega, by omega⟩, fun t ht => ?_⟩⟩
    have na : a ≠ t := ne_of_none upd_same ht
    have s1 := same_upd (o := .tup [.int (p / x), .int (p % x)]) ht
    obtain ⟨st3, ok3⟩ := purse_step (x := p / x) (y := ((m * m + 2753159 * m + 519371) % 2147483587)) (c := c + 1) (ok2.same s1) hp (Int.ediv_nonneg hp0 (by omega)) d0 (Int.lt_trans d1 (by decide))
    obtain ⟨r, hr1, hr2⟩ := md p
    refine ⟨t, _, rfl, .of upd_same, rfl, .int (p / x), [.int (p % x)], rfl, .int (p % x), [], rfl, rfl, ?_⟩
    have e0'' : (((σ.set 2 (some (V.int m))).set 3 (some (V.int (p / x)))).set 4 (some (V.int (p % x))))[0]? = some (some (.ref a)) := (List.getElem?_set_ne (by decide)).trans ((List.getElem?_set_ne (by decide)).trans e0')
    have e3 : (((σ.set 2 (some (V.int m))).set 3 (some (V.int (p / x)))).set 4 (some (V.int (p % x))))[3]? = some (some (.int (p / x))) := (List.getElem?_set_ne (by decide)).trans (List.getElem?_set_self (by rw [List.length_set]; exact l3))
    have e4 : (((σ.set 2 (some (V.int m))).set 3 (some (V.int (p / x)))).set 4 (some (V.int (p % x))))[4]? = some (some (.int (p % x))) := List.getElem?_set_self (by rw [List.length_set, List.length_set]; exact l4)
    refine ⟨.int (p / x), e3, .ref a, e0'', a, _, 0, 0, rfl, rfl, (upd_ne na).trans upd_same, rfl, ?_⟩
    refine ⟨.int (p % x), e4, ?_⟩
    exact l.rt _ (Wd.at _ _) (.int r) ((st1.trans st2).trans ((Stp.of_same ok2 s1).trans st3)) ok3 hr2 ⟨r, hr1, rfl⟩
end K26

namespace K26
open PySem PySem.Spec PyProof.Rows L2 Dw
theorem d__law_pick {P : Program} {w : World} {K : PySem.W.Frag} {mg : Str → Option Value} {base : Heap} (T : Txt K w mg) : FnOk P w K mg base CX0 2 T.f__law_pick T.e__law_pick ["_law_jar", "_law_things"] (toSp (spAnyOf)) := by
  refine fn_ok T.F__law_pick sc__law_pick (fun _ => rfl) fun cdv A outer s' H E hr => ?_
  refine ⟨_, (pss_one (ps_ret (pe_ix (ixA K) (pv 1) (pe_call (d__law_dip T) (hr.mono (by decide)) (by rfl) T.m__law_dip T.F__law_dip.kp T.b__law_dip .nil pass0 (pa_cons (pv 0) (pa_cons (pe_callB (lenA K) (by rfl) T.n_len (by decide +kernel) (pa_cons (pv 1) pa_nil)) pa_nil))) (fun _ _ => rfl)))), fun x hx => ?_⟩
  obtain ⟨b, ds⟩ := x
  obtain ⟨h0, h1⟩ := hx
  have h0 : 0 < ds.length := h0
  have h1 : ds.length < 100000 := h1
  cases b with
  | true =>
    refine ds_ret (dl_op (Ev.dl (ev_var rfl) (dl_call (s := spDraw) (dla_cons (Ev.dl (ev_var rfl) (dla_cons (Ev.dl (ev_len (ds := ds) (ev_var rfl).b) (dla_nil ⟨ds.length, rfl, ⟨h0, h1⟩, fun d hd => ?_⟩))))))))
    obtain ⟨r, hr1, rfl⟩ := hd
    exact ⟨_, dr2_ixL (atI_nat (List.getElem?_eq_getElem hr1)), List.getElem_mem hr1⟩
  | false =>
    refine ds_ret (dl_op (Ev.dl (ev_var rfl) (dl_call (s := spDraw) (dla_cons (Ev.dl (ev_var rfl) (dla_cons (Ev.dl (ev_lenT (ds := ds) (ev_var rfl)) (dla_nil ⟨ds.length, rfl, ⟨h0, h1⟩, fun d hd => ?_⟩))))))))
    obtain ⟨r, hr1, rfl⟩ := hd
    exact ⟨_, dr2_ixT (atI_nat (List.getElem?_eq_getElem hr1)), List.getElem_mem hr1⟩
end K26

namespace K26
open PySem PySem.Spec PyProof.Rows L2 Dw
theorem d__law_tags {P : Program} {w : World} {K : PySem.W.Frag} {mg : Str → Option Value} {base : Heap} (T : Txt K w mg) : FnOk P w K mg base CX0 2 T.f__law_tags T.e__law_tags ["_law_jar", "_law_many"] (toSp (spTags)) := by
  refine fn_ok T.F__law_tags sc__law_tags (fun _ => rfl) fun cdv A outer s' H E hr => ?_
  refine ⟨_, (pss_cons (ps_set (i := 2) sc__law_tags.nd rfl (Or.inr rfl) (pe_lst (pa_cons pe_str (pa_cons pe_str (pa_cons pe_str (pa_cons pe_str (pa_cons pe_str (pa_cons pe_str (pa_cons pe_str (pa_cons pe_str (pa_cons pe_str (pa_cons pe_str (pa_cons pe_str (pa_cons pe_str (pa_cons pe_str pa_nil))))))))))))))) (pss_cons (ps_asg (pe_tup (pa_cons (pe_op (plusE K) (pv 2) (pe_lst (pa_cons pe_str (pa_cons pe_str (pa_cons pe_str (pa_cons pe_str pa_nil)))))) (pa_cons (pe_call (d__law_dip T) (hr.mono (by decide)) (by rfl) T.m__law_dip T.F__law_dip.kp T.b__law_dip .nil pass0 (pa_cons (pv 0) (pa_cons pe_int pa_nil))) (pa_cons (pe_op (plusE K) pe_int (pe_call (d__law_dip T) (hr.mono (by decide)) (by rfl) T.m__law_dip T.F__law_dip.kp T.b__law_dip .nil pass0 (pa_cons (pv 0) (pa_cons pe_int pa_nil)))) pa_nil)))) (tupA K 3 rfl (pgs_cons (pg_name (i := 2) sc__law_tags.nd rfl (Or.inr rfl)) (pgs_cons (pg_name (i := 3) sc__law_tags.nd rfl (Or.inr rfl)) (pgs_cons (pg_name (i := 4) sc__law_tags.nd rfl (Or.inr rfl)) pgs_nil))))) (pss_one (ps_ret (pe_callB (sortedA K) (by rfl) T.n_sorted (by decide +kernel) (pa_cons (pe_lc (own := [("_law_k", 5)]) rfl sc__law_tags.nd (pi_range1 (by rfl) T.n_range (pa_cons (pv 1) pa_nil)) (blkOk_by (own := [("_law_k", 5)]) (N := N__law_tags) (sc := (defScope s__law_tags)) (by decide +kernel)) (fun _ _ _ _ _ => pg_name (i := 5) sc__law_tags.nd rfl (Or.inl rfl)) (fun _ _ _ _ _ => pts_nil) (fun _ _ _ _ _ => (pe_ix (ixA K) (pv 2) (pe_op op_mod (pe_callTy call_int1 (by rfl) T.n_int (by decide +kernel) (pa_cons (pe_op (plusE K) (pv 3) (pe_op opTimes (pv 4) (pv 5))) pa_nil)) pe_int) (fun _ _ => rfl)))) pa_nil)))))), fun x hx => ?_⟩
  obtain ⟨n, rfl⟩ : ∃ l : Nat, l = x := ⟨x, rfl⟩
  obtain ⟨h1, h8⟩ := hx
  have h1 : 1 ≤ n := h1
  have h8 : n ≤ 8 := h8
  refine ds_seq (ds_asg (Ev.dl (EvN.ev (evn_lst (ds := (strs2.take 13).map D.str) (eva_cons ev_str (eva_cons ev_str (eva_cons ev_str (eva_cons ev_str (eva_cons ev_str (eva_cons ev_str (eva_cons ev_str (eva_cons ev_str (eva_cons ev_str (eva_cons ev_str (eva_cons ev_str (eva_cons ev_str (eva_cons ev_str eva_nil))))))))))))) (small (show 13 ≤ 100000 by decide)))) ?_))
  refine ds_seq (ds_asg_g (dl_tup (dla_cons (Ev.dl (ev_cast (d' := .lst (nameD lab2)) (congrArg D.lst lab2_D.symm) (EvN.ev (pl_evn (ds := (strs2.take 13).map D.str) (es := (strs2.drop 13).map D.str) (ev_var rfl).b (EvN.b (evn_lst (eva_cons ev_str (eva_cons ev_str (eva_cons ev_str (eva_cons ev_str eva_nil)))) (small (show 4 ≤ 100000 by decide)))) (small (show 13 + 4 ≤ 100000 by decide))))) (dla_cons (dl_call (s := spDraw) (dla_cons (Ev.dl (ev_var rfl) (dla_cons (Ev.dl ev_int (dla_nil ⟨(17 : Nat), rfl, ⟨by decide, by decide⟩, fun d hd => ?_⟩)))))))))))
  obtain ⟨a, ha, rfl⟩ := hd
  have ha : a < 17 := ha
  refine dla_cons (dl_op (Ev.dl ev_int (dl_call (s := spDraw) (dla_cons (Ev.dl (ev_var rfl) (dla_cons (Ev.dl ev_int (dla_nil ⟨(16 : Nat), rfl, ⟨by decide, by decide⟩, fun d hd => ?_⟩))))))))
  obtain ⟨q, hq, rfl⟩ := hd
  have hq : q < 16 := hq
  refine ⟨.int ((1 + q : Nat) : Int), ?pl, ?_⟩
  case pl =>
    have e := pl_int (K := K) (i := 1) (j := (q : Int))
    rw [show (1 : Int) + (q : Int) = ((1 + q : Nat) : Int) by omega] at e
    exact e
  generalize hs : 1 + q = st
  have s1 : 1 ≤ st := by omega
  have s17 : st < 17 := by omega
  refine dla_nil ⟨small (show 3 ≤ 100000 by decide), [2] ++ ([3] ++ [4]), _, dg_tup3J dg_name dg_name dg_name, ?_⟩
  have nd := tags_nd (n := n) ha s17 s1 h8
  refine ds_ret (dl_sortedS (Ev.dl (EvN.ev (evn_lc1 (xs := List.range n) (c := fun k : Nat => D.int k) (f := fun k => .str (tx (rowAt lab2 (stepAt a st k)))) (ei_range (n := n) (eva_cons (ev_var rfl) eva_nil) (by omega)) (by rw [List.length_range]; omega) fun k hk => ⟨[5], _, dg_name, fun i hi => hi, evt_yes, ev_ix (ds := nameD lab2) (ev_var rfl).b (ev_op (ev_int1 (ev_op (ev_var rfl) (ev_op (ev_var rfl) (ev_var rfl) (times_int (.inl ⟨by omega, by omega⟩))) pl_int)) ev_int (dr2_mod (by decide))) (at_step a st k)⟩)) ⟨((List.range n).map fun k => rowAt lab2 (stepAt a st k)).map tx, ?_, by rw [List.length_map, List.length_map, List.length_range]; omega, fun zs hz hs => ⟨zs.map fun s => s.cps.toList, ?_, names_ofN lab2_ok nd (fun l hl => ?_) hz hs (by rw [List.length_map, List.length_range]) h1 h8, ?_⟩⟩))
  · rw [List.map_map, List.map_map]; rfl
  · unfold nameD
    rw [List.map_map]
    exact congrArg D.lst (List.map_congr_left fun s _ => congrArg D.str (of_tx s)).symm
  · obtain ⟨k, _, rfl⟩ := List.mem_map.mp hl
    exact rowAt_mem (show _ < lab2.length from step_lt a st k)
  · rw [List.length_map, hz.length_eq, List.length_map, List.length_map, List.length_range]
end K26

namespace K26
open PySem PySem.Spec PyProof.Rows L2 Dw
theorem d__law_holds {P : Program} {w : World} {K : PySem.W.Frag} {mg : Str → Option Value} {base : Heap} (T : Txt K w mg) : FnOk P w K mg base CX0 1 T.f__law_holds T.e__law_holds ["_law_row", "_law_order"] (toSp (spHas)) := by
  refine fn_ok T.F__law_holds sc__law_holds (fun _ => rfl) fun cdv A outer s' H E hr => ?_
  refine ⟨_, (pss_cons (ps_for PassesOwn.never rfl (piR K (pv 1)) (pg_name (i := 2) sc__law_holds.nd rfl (Or.inl rfl)) (pss_one (ps_if (pt_cmpR (neA K hr.units) (pe_ix (ixA K) (pv 0) (pv 2) (fun _ _ => rfl)) pe_str (nomark _)) (pss_one (ps_ret (pe_cmpR (eqA K hr.units) (pe_ix (ixA K) (pv 0) (pv 2) (fun _ _ => rfl)) pe_str (nomark _)))) pss_nil))) (pss_one (ps_ret pe_bl))), fun x hx => ?_⟩
  obtain ⟨l, o⟩ := x
  obtain ⟨n, hl, h8, hk⟩ := hx
  have hl : RowOk l n := hl
  have hk : ∀ k ∈ o, k < n := hk
  refine ds_seq (ds_for (fun xs i Γ' => xs = ordD o ∧ ∃ s : Sl, Γ' = [.val (.str (tx l)), .val (.tup (ordD o)), s] ∧ ∀ k ∈ o.take i, sgn l k = 46)
    (dj_tup (Ev.dl (ev_var rfl) ⟨ordD o, rfl, ⟨rfl, _, rfl, fun k h => absurd h (by simp)⟩, fun i x Γ' hx' ⟨exs, s, e, hd⟩ => ?_, fun Γ' ⟨exs, s, e, hd⟩ => ?_⟩)))
  · subst e
    have hx3 : (o.map fun k : Nat => D.int k)[i]? = some x := hx'
    rw [List.getElem?_map] at hx3
    cases q : o[i]? with
    | none => rw [q] at hx3; cases hx3
    | some k =>
      rw [q] at hx3; cases hx3
      have hkn := hk k (List.mem_of_getElem? q)
      refine ⟨[2], _, dg_name, ds_if (EvT.dl (evt_test (ev_op (sgn_ev hl h8 hkn (ev_var rfl) (ev_var rfl)) ev_str ne_str')) ⟨fun h => ?_, fun h => ?_⟩)⟩
      · refine ds_ret (Ev.dl (ev_op (sgn_ev hl h8 hkn (ev_var rfl) (ev_var rfl)) ev_str eq_str') ?_)
        show D.bl _ = D.bl (holdsB l o)
        have hne : sgn l k ≠ 46 := fun z => by
          rw [z, ← ch_dot] at h
          simp at h
        rw [holds_at q hd hne, ch_plus]
        congr 1
        rw [Bool.eq_iff_iff]; simp [ch_eq]
      · refine ds_next ⟨exs, _, rfl, fun j hj => ?_⟩
        have hz : sgn l k = 46 := by
          rw [ch_dot] at h
          simpa [ch_eq] using h
        rw [List.take_add_one, q] at hj
        rcases List.mem_append.mp hj with hj | hj
        · exact hd j hj
        · rw [List.mem_singleton.mp hj]; exact hz
  · subst e
    rw [ordD_len, List.take_length] at hd
    exact ds_ret (Ev.dl ev_bl (congrArg D.bl (holds_dots hd).symm))

end K26

namespace K26
open PySem PySem.Spec PyProof.Rows L2 Dw
theorem d__law_orders {P : Program} {w : World} {K : PySem.W.Frag} {mg : Str → Option Value} {base : Heap} (T : Txt K w mg) : FnOk P w K mg base CX0 1 T.f__law_orders T.e__law_orders ["_law_many"] (toSp (spOrders)) := by
  refine fn_ok T.F__law_orders sc__law_orders (fun _ => rfl) fun cdv A outer s' H E hr => ?_
  refine ⟨_, (pss_cons (ps_set (i := 1) sc__law_orders.nd rfl (Or.inl rfl) (pe_lst (pa_cons (pe_tup pa_nil) pa_nil))) (pss_cons (ps_for PassesOwn.never rfl (pi_range1 (by rfl) T.n_range (pa_cons (pv 0) pa_nil)) (pg_name (i := 2) sc__law_orders.nd rfl (Or.inl rfl)) (pss_cons (ps_set (i := 3) sc__law_orders.nd rfl (Or.inl rfl) (pe_lst pa_nil)) (pss_cons (ps_for PassesOwn.never rfl (piR K (pv 1)) (pg_name (i := 4) sc__law_orders.nd rfl (Or.inr rfl)) (pss_one (ps_expr (bmA K PySem.F.plainAttrs_list PySem.F.slot_list_extend PySem.F.type_list_extend mt_extend (pv 3) (pa_cons (pe_lc (own := [("_law_k", 5)]) rfl sc__law_orders.nd (pi_range1 (by rfl) T.n_range (pa_cons (pv 0) pa_nil)) (blkOk_by (own := [("_law_k", 5)]) (N := N__law_orders) (sc := (defScope s__law_orders)) (by decide +kernel)) (fun _ _ _ _ _ => pg_name (i := 5) sc__law_orders.nd rfl (Or.inl rfl)) (fun _ _ _ _ _ => pts_one (pt_cmpR (ninA K) (pv 5) (pv 4) (by rfl))) (fun _ _ _ _ _ => (pe_op (plusE K) (pv 4) (pe_tup (pa_cons (pv 5) pa_nil))))) pa_nil))))) (pss_one (ps_set (i := 1) sc__law_orders.nd rfl (Or.inl rfl) (pv 3)))))) (pss_one (ps_ret (pv 1))))), fun x hx => ?_⟩
  obtain ⟨n, rfl⟩ : ∃ l : Nat, l = x := ⟨x, rfl⟩
  have hn : n ≤ 5 := hx
  refine ds_seq (ds_asg (Ev.dl (EvN.ev (evn_lst (ds := ordT (ordersM n 0)) (eva_cons (ev_tup eva_nil (Nat.zero_le _)) eva_nil) (small (show 1 ≤ 100000 by decide)))) ?_))
  refine ds_seq (ds_for (fun xs i Γ' => ∃ (s2 s3 s4 : Sl), Γ' = [.val (.int n), .val (.lst (ordT (ordersM n i))), s2, s3, s4, .unset]) (di_range (dla_cons (Ev.dl (ev_var rfl) (dla_nil ⟨n, rfl, by omega, ⟨_, _, _, rfl⟩, fun i x Γ' hx' ⟨s2, s3, s4, e⟩ => ?_, fun Γ' ⟨s2, s3, s4, e⟩ => ?_⟩)))))
  · subst e
    obtain ⟨hi, rfl⟩ := rng_get hx'
    have hl : (ordersM n i).length ≤ 3125 := Nat.le_trans (ordersM_len n i) (pow5' (by omega) hn)
    refine ⟨[2], _, dg_name, ds_seq (ds_asg_own (evn_lst eva_nil (Nat.zero_le _)) ?_)⟩
    refine ds_seq (ds_for (fun xs j Γ' => ∃ s4 : Sl, Γ' = [.val (.int n), .val (.lst (ordT (ordersM n i))), .val (.int i), .own (ordT (((ordersM n i).take j).flatMap (stepO n))), s4, .unset]) (dj_list (Ev.dl (ev_var rfl) ⟨ordT (ordersM n i), rfl, ⟨_, rfl⟩, fun j x Γ' hx2 ⟨s4, e⟩ => ?_, fun Γ' ⟨s4, e⟩ => ?_⟩)))
    · subst e
      have hx3 : ((ordersM n i).map fun o => D.tup (ordD o))[j]? = some x := hx2
      rw [List.getElem?_map] at hx3
      cases q : (ordersM n i)[j]? with
      | none => rw [q] at hx3; cases hx3
      | some o =>
        rw [q] at hx3; cases hx3
        have ho := ordersM_ok n i o (List.mem_of_getElem? q)
        have hj : j < (ordersM n i).length := (List.getElem?_eq_some_iff.mp q).1
        have e1 : ((ordersM n i).take (j + 1)).flatMap (stepO n) = ((ordersM n i).take j).flatMap (stepO n) ++ stepO n o := by
          rw [List.take_add_one, q, List.flatMap_append]
          simp
        have b1 := flat_len (stepO n) (stepO_len n) ((ordersM n i).take j)
        have b2 := stepO_len n o
        have b3 : ((ordersM n i).take j).length * n ≤ 3125 * 5 := Nat.mul_le_mul (by rw [List.length_take]; omega) hn
        have c1 : ordT (((ordersM n i).take (j + 1)).flatMap (stepO n)) = ordT (((ordersM n i).take j).flatMap (stepO n)) ++ ((List.range n).filter fun k => !decide (k ∈ o)).map fun k : Nat => D.tup (ordD o ++ [.int k]) := by
          rw [e1]
          unfold ordT
          rw [List.map_append]
          congr 1
          unfold stepO
          rw [List.map_map]
          exact List.map_congr_left fun k _ => (congrArg D.tup (ordD_snoc o k)).symm
        refine ⟨[4], _, dg_name, ds_drop (dl_extend (i := 3) (ds := ordT (((ordersM n i).take j).flatMap (stepO n))) rfl (EvN.b (evn_lc (xs := List.range n) (c := fun k : Nat => D.int k) (p := fun k => !decide (k ∈ o)) (f := fun k => .tup (ordD o ++ [.int k])) (ei_range (n := n) (eva_cons (ev_var rfl) eva_nil) (by omega)) (by rw [List.length_range]; omega) fun k hk => ⟨[5], _, dg_name, fun i hi => hi, evt_test (ev_ninT (ev_var rfl) (ev_var rfl)), fun _ => ev_op (ev_var rfl) (ev_tup (eva_cons (ev_var rfl) eva_nil) (small (show 1 ≤ 100000 by decide))) (pl_tup (by rw [ordD_len, ho.len]; show i + 1 ≤ _; exact small (by omega)))⟩)) ?_ ⟨_, by rw [c1]; rfl⟩)⟩
        rw [ordT_len, List.length_map]
        have b4 : ((List.range n).filter fun k => !decide (k ∈ o)).length ≤ n := Nat.le_trans (List.length_filter_le _ _) (by rw [List.length_range]; exact Nat.le_refl _)
        exact small (by omega)
    · subst e
      rw [ordT_len, List.take_length]
      exact ds_freeze 3 rfl (ds_asg (Ev.dl (ev_var rfl) ⟨_, _, _, rfl⟩))
  · subst e
    rw [rng_length]
    exact ds_ret (Ev.dl (ev_var rfl) rfl)

end K26

namespace K26
open PySem PySem.Spec PyProof.Rows L2 Dw
/-! winners, by the law's own look and by the rows -/
def minN : List Nat → Nat
  | [] => 0
  | [a] => a
  | a :: b :: r => min a (minN (b :: r))
theorem minN_le : ∀ (l : List Nat) (x : Nat), x ∈ l → minN l ≤ x
  | [a], x, h => by rw [List.mem_singleton.mp h]; exact Nat.le_refl _
  | a :: b :: r, x, h => by
    show min a (minN (b :: r)) ≤ x
    rcases List.mem_cons.mp h with rfl | h
    · exact Nat.min_le_left _ _
    · exact Nat.le_trans (Nat.min_le_right _ _) (minN_le (b :: r) x h)
theorem minN_mem : ∀ (l : List Nat), l ≠ [] → minN l ∈ l
  | [a], _ => List.mem_singleton.mpr rfl
  | a :: b :: r, _ => by
    show min a (minN (b :: r)) ∈ _
    rcases Nat.le_total a (minN (b :: r)) with h | h
    · rw [Nat.min_eq_left h]; exact List.mem_cons_self
    · rw [Nat.min_eq_right h]; exact List.mem_cons_of_mem _ (minN_mem (b :: r) (by simp))
abbrev Pr := List Nat × List Nat
def mk (p : Pr) (k : Nat) : Nat := p.2.getD k 0
def stepB (ps : List Pr) (k : Nat) : List Pr := ps.filter fun p => decide (mk p k = minN (ps.map fun q => mk q k))
def bestF (ps : List Pr) (o : List Nat) : List Pr := o.foldl stepB ps
def leB : List Nat → Pr → Pr → Bool
  | [], _, _ => true
  | k :: o, p, q => if mk p k < mk q k then true else if mk q k < mk p k then false else leB o p q
theorem best_leB : ∀ (o : List Nat) (ps : List Pr), bestF ps o = ps.filter fun p => ps.all fun q => leB o p q
  | [], ps => by
    have : ps.filter (fun p => ps.all fun q => leB [] p q) = ps := List.filter_eq_self.mpr fun p _ => List.all_eq_true.mpr fun _ _ => rfl
    rw [this]; rfl
  | k :: o, ps => by
    show bestF (stepB ps k) o = _
    rw [best_leB o (stepB ps k)]
    unfold stepB
    rw [List.filter_filter]
    refine List.filter_congr fun p hp => ?_
    have hne : (ps.map fun q => mk q k) ≠ [] := fun h => by
      have := List.map_eq_nil_iff.mp h
      rw [this] at hp; cases hp
    obtain ⟨q0, hq0, e0⟩ := List.mem_map.mp (minN_mem _ hne)
    have le : ∀ q ∈ ps, minN (ps.map fun q => mk q k) ≤ mk q k := fun q hq => minN_le _ _ (List.mem_map_of_mem (f := fun q => mk q k) hq)
    generalize minN (ps.map fun q => mk q k) = m at e0 le
    by_cases hm : mk p k = m
    · rw [decide_eq_true hm, Bool.and_true]
      rw [Bool.eq_iff_iff, List.all_eq_true, List.all_eq_true]
      constructor
      · intro h q hq
        show (if mk p k < mk q k then true else if mk q k < mk p k then false else leB o p q) = true
        have l1 := le q hq
        by_cases h1 : mk p k < mk q k
        · rw [if_pos h1]
        · rw [if_neg h1, if_neg (by omega)]
          exact h q (List.mem_filter.mpr ⟨hq, decide_eq_true (by omega)⟩)
      · intro h q hq
        obtain ⟨hq1, hq2⟩ := List.mem_filter.mp hq
        have hq2 := of_decide_eq_true hq2
        have h3 : (if mk p k < mk q k then true else if mk q k < mk p k then false else leB o p q) = true := h q hq1
        rw [if_neg (by omega), if_neg (by omega)] at h3
        exact h3
    · rw [decide_eq_false hm, Bool.and_false]
      refine (Bool.eq_false_iff.mpr fun h => ?_).symm
      have h3 : (if mk p k < mk q0 k then true else if mk q0 k < mk p k then false else leB o p q0) = true := List.all_eq_true.mp h q0 hq0
      have l1 := le p hp
      rw [if_neg (by omega), if_pos (by omega)] at h3
      exact absurd h3 (by decide)
theorem sgn_agR {a b : List Nat} {n k : Nat} (ha : a.length = n) (hb : b.length = n) (hk : k < n) : sgn (agR a b) k = agC (a.getD k 0) (b.getD k 0) := by
  unfold sgn agR
  have h1 : a[k]? = some (a[k]'(by omega)) := List.getElem?_eq_getElem (by omega)
  have h2 : b[k]? = some (b[k]'(by omega)) := List.getElem?_eq_getElem (by omega)
  have h3 : (a.zip b)[k]? = some (a[k]'(by omega), b[k]'(by omega)) := List.getElem?_zip_eq_some.mpr ⟨h1, h2⟩
  rw [List.getD_eq_getElem?_getD, List.getElem?_map, h3, List.getD_eq_getElem?_getD, List.getD_eq_getElem?_getD, h1, h2]; rfl
theorem holds_consJ {r : List Nat} (k : Nat) (o : List Nat) : holdsB r (k :: o) = if sgn r k = 46 then holdsB r o else decide (sgn r k = 43) := by
  by_cases z : sgn r k = 46
  · rw [if_pos z]
    have : holdsB r ([k] ++ o) = holdsB r o := holds_pre fun j hj => by rw [List.mem_singleton.mp hj]; exact z
    exact this
  · rw [if_neg z]
    unfold holdsB told
    rw [List.map_cons, List.filter_cons_of_pos (by simp [z])]
/-- rows that no plus settles yet hold along the rest of a way, and only then is it a way -/
theorem holds_leB {p q : Pr} {n : Nat} (hp : p.2.length = n) (hq : q.2.length = n) : ∀ o : List Nat, (∀ k ∈ o, k < n) → holdsB (agR p.2 q.2) o = leB o p q
  | [], _ => rfl
  | k :: o, hk => by
    rw [holds_consJ, sgn_agR hp hq (hk k List.mem_cons_self), holds_leB hp hq o fun j hj => hk j (List.mem_cons_of_mem _ hj)]
    show (if agC (mk p k) (mk q k) = 46 then leB o p q else decide (agC (mk p k) (mk q k) = 43)) = if mk p k < mk q k then true else if mk q k < mk p k then false else leB o p q
    unfold agC
    by_cases h1 : mk p k < mk q k
    · rw [if_pos h1, if_pos h1]; rfl
    · rw [if_neg h1, if_neg h1]
      by_cases h2 : mk q k < mk p k
      · rw [if_pos h2, if_pos h2]; rfl
      · rw [if_neg h2, if_neg h2]; rfl
def winI (ms : List (List Nat)) (o : List Nat) : List Nat := (List.range ms.length).filter fun i => (rwM ms i).all fun r => holdsB r o
def winM (ls ms : List (List Nat)) (o : List Nat) : List (List Nat) := (winI ms o).map (rowAt ls)
theorem ag_self (a : List Nat) (o : List Nat) : holdsB (agR a a) o = true := holds_dots fun k _ => by
  unfold sgn agR
  rw [List.getD_eq_getElem?_getD, List.getElem?_map]
  cases h : (a.zip a)[k]? with
  | none => rfl
  | some p =>
    obtain ⟨h1, h2⟩ := List.getElem?_zip_eq_some.mp h
    have : p.1 = p.2 := by rw [h1] at h2; exact Option.some.inj h2
    show agC p.1 p.2 = 46
    unfold agC
    rw [this, if_neg (Nat.lt_irrefl _), if_neg (Nat.lt_irrefl _)]
theorem zip_rangeJ {ls ms : List (List Nat)} (h : ms.length = ls.length) : ls.zip ms = (List.range ls.length).map fun k => (rowAt ls k, rowAt ms k) := by
  refine List.ext_getElem (by simp [h]) fun k h1 h2 => ?_
  have hk : k < ls.length := by simpa using h2
  rw [List.getElem_map, List.getElem_range, List.getElem_zip, rowAt_get hk, rowAt_get (by omega)]
theorem best_win {ls ms : List (List Nat)} {n : Nat} {o : List Nat} (hc : CaseOk ls ms n) (ho : ∀ k ∈ o, k < n) : bestF (ls.zip ms) o = (winI ms o).map fun i => (rowAt ls i, rowAt ms i) := by
  rw [best_leB, zip_rangeJ hc.same, List.filter_map]
  unfold winI
  rw [hc.same]
  congr 1
  refine List.filter_congr fun i hi => ?_
  have hi := List.mem_range.mp hi
  have wd : ∀ k, k < ls.length → (rowAt ms k).length = n := fun k hk => hc.wide _ (rowAt_mem (by rw [hc.same]; exact hk))
  show (((List.range ls.length).map fun k => (rowAt ls k, rowAt ms k)).all fun q => leB o (rowAt ls i, rowAt ms i) q) = _
  rw [Bool.eq_iff_iff, List.all_eq_true, List.all_eq_true]
  constructor
  · intro h r hr
    obtain ⟨k, hk, rfl⟩ := List.mem_map.mp hr
    obtain ⟨hk1, _⟩ := idxM_lt hk
    rw [hc.same] at hk1
    rw [holds_leB (p := (rowAt ls i, rowAt ms i)) (q := (rowAt ls k, rowAt ms k)) (wd i hi) (wd k hk1) o ho]
    exact h _ (List.mem_map.mpr ⟨k, List.mem_range.mpr hk1, rfl⟩)
  · intro h q hq
    obtain ⟨k, hk, rfl⟩ := List.mem_map.mp hq
    have hk := List.mem_range.mp hk
    rw [← holds_leB (p := (rowAt ls i, rowAt ms i)) (q := (rowAt ls k, rowAt ms k)) (wd i hi) (wd k hk) o ho]
    by_cases e : k = i
    · subst e; exact ag_self _ _
    · exact h _ (List.mem_map.mpr ⟨k, List.mem_filter.mpr ⟨List.mem_range.mpr (by rw [hc.same]; exact hk), by simpa using e⟩, rfl⟩)
theorem folk_map {ls ms : List (List Nat)} (h : ms.length = ls.length) : folkD ls ms = (List.range ls.length).map fun k => pairDm (rowAt ls k, rowAt ms k) := by
  unfold folkD
  rw [zip_rangeJ h, List.map_map]; rfl
theorem folk_len {ls ms : List (List Nat)} (h : ms.length = ls.length) : (folkD ls ms).length = ls.length := by rw [folk_map h, List.length_map, List.length_range]
/-! the program's cases -/
def spCkRkJ : Spc where
  ty := List Nat × Nat
  args := fun x => [.tup (ordD x.1), .int x.2]
  ok := fun x => x.1.Perm (List.range x.2) ∧ x.2 ≤ 8
  rel := fun _ d => d = .non
def spAgP (C : Addr) : Spc where
  ty := CaseT × Nat × Nat
  args := fun x => [caseO C x.1.1 x.1.2.1, .str (tx (rowAt x.1.1 x.2.1)), .str (tx (rowAt x.1.1 x.2.2))]
  ok := fun x => CaseOk x.1.1 x.1.2.1 x.1.2.2 ∧ x.2.1 < x.1.1.length ∧ x.2.2 < x.1.1.length ∧ x.2.1 ≠ x.2.2
  rel := fun x d => d = .str (tx (agR (rowAt x.1.2.1 x.2.1) (rowAt x.1.2.1 x.2.2)))
def spWinn (C : Addr) : Spc where
  ty := CaseT × List Nat
  args := fun x => [caseO C x.1.1 x.1.2.1, .tup (ordD x.2)]
  ok := fun x => CaseOk x.1.1 x.1.2.1 x.1.2.2 ∧ x.2.Perm (List.range x.1.2.2)
  rel := fun x d => d = .tup (nameD (winM x.1.1 x.1.2.1 x.2))
def barI (ms : List (List Nat)) (n : Nat) : List Nat := (List.range ms.length).filter fun i => !decide (Still (rwM ms i) n = [])
def spBarred (C : Addr) : Spc where
  ty := CaseT
  args := fun x => [caseO C x.1 x.2.1]
  ok := fun x => CaseOk x.1 x.2.1 x.2.2
  rel := fun x d => d = .tup (nameD ((barI x.2.1 x.2.2).map (rowAt x.1)))
theorem rw_len {ms : List (List Nat)} {i : Nat} : (rwM ms i).length ≤ ms.length := by unfold rwM; rw [List.length_map]; exact idxM_len _ _
end K26

namespace K26
open PySem PySem.Spec PyProof.Rows L2 Dw
theorem d_check_ranking {P : Program} {w : World} {K : PySem.W.Frag} {mg : Str → Option Value} {base : Heap} (T : Txt K w mg) : FnOk P w K mg base CX0 3 T.f_check_ranking T.e_check_ranking ["ranking", "many"] (toSp (spCkRkJ)) := by
  refine fn_ok T.F_check_ranking sc_check_ranking (fun _ => rfl) fun cdv A outer s' H E hr => ?_
  refine ⟨_, (pss_one (ps_if (pt_not (truA K (pe_call (d_is_ranking T) (hr.mono (by decide)) (by rfl) T.m_is_ranking T.F_is_ranking.kp T.b_is_ranking .nil pass0 (pa_cons (pv 0) (pa_cons (pv 1) pa_nil))))) (pss_one ps_never) pss_nil)), fun x hx => ?_⟩
  obtain ⟨o, n⟩ := x
  obtain ⟨ho, h8⟩ := hx
  have ho : o.Perm (List.range n) := ho
  have h8 : n ≤ 8 := h8
  have pv : Pv (.tup (ordD o)) := plW_pv (z := 60) (k := 1) (plW_ord (by rw [ho.length_eq, List.length_range]; omega)) (by decide) (by decide)
  exact ds_if (EvT.dl (b := false) (evt_not (a := true) (evt_tru_bl (ev_call (s := spIsRkG) (d := .bl true) (x := (.tup (ordD o), n)) (eva_cons (ev_var rfl) (eva_cons (ev_var rfl) eva_nil)) (np_to rfl) ⟨pv, h8⟩ fun d h => h.trans (congrArg D.bl (rkB_iff.mpr ⟨o, rfl, ho⟩))))) ⟨fun h => (nomatch h), fun _ => ds_next rfl⟩)
end K26

namespace K26
open PySem PySem.Spec PyProof.Rows L2 Dw
theorem d_against {P : Program} {w : World} {K : PySem.W.Frag} {mg : Str → Option Value} {base : Heap} (T : Txt K w mg) : FnOk P w K mg base CX0 4 T.f_against T.e_against ["case", "one", "other"] (toSp (spAgP T.C_Case)) := by
  refine fn_ok T.F_against sc_against (fun _ => rfl) fun cdv A outer s' H E hr => ?_
  refine ⟨_, (pss_cons (ps_expr (pe_call (d_check_case T) (hr.mono (by decide)) (by rfl) T.m_check_case T.F_check_case.kp T.b_check_case .nil pass0 (pa_cons (pv 0) pa_nil))) (pss_cons (ps_expr (pe_call (d_check_known T) (hr.mono (by decide)) (by rfl) T.m_check_known T.F_check_known.kp T.b_check_known .nil pass0 (pa_cons (pv 1) (pa_cons (pe_prop (pv 0) T.cl_Case T.p_Case_names (d_Case_names T) (hr.mono (by decide)) T.b_Case_names .nil pass0 rfl) pa_nil)))) (pss_cons (ps_expr (pe_call (d_check_known T) (hr.mono (by decide)) (by rfl) T.m_check_known T.F_check_known.kp T.b_check_known .nil pass0 (pa_cons (pv 2) (pa_cons (pe_prop (pv 0) T.cl_Case T.p_Case_names (d_Case_names T) (hr.mono (by decide)) T.b_Case_names .nil pass0 rfl) pa_nil)))) (pss_cons (ps_if (pt_cmpR (eqA K hr.units) (pv 1) (pv 2) (nomark _)) (pss_one ps_never) pss_nil) (pss_one (ps_ret (pe_call (d_row_against T) (hr.mono (by decide)) (by rfl) T.m_row_against T.F_row_against.kp T.b_row_against .nil pass0 (pa_cons (pv 0) (pa_cons (pv 1) (pa_cons (pv 2) pa_nil)))))))))), fun x hx => ?_⟩
  obtain ⟨⟨ls, ms, n⟩, i, k⟩ := x
  obtain ⟨hc, hi, hk, hik⟩ := hx
  have hc : CaseOk ls ms n := hc
  have hi : i < ls.length := hi
  have hk : k < ls.length := hk
  have hik : i ≠ k := hik
  have npk : ∀ j, noPs [.str (tx (rowAt ls j)), .tupN (nameD ls)] = true := fun j => by
    show (true && (noPs (nameD ls) && true)) = true
    rw [np_name]; rfl
  refine ds_seq (ds_drop (Ev.dl (ev_call (s := spCkCase T.C_Case) (x := (ls, ms, n)) (eva_cons (ev_var rfl) eva_nil) (np_caseO (r := []) rfl) trivial fun d h => h) ?_))
  refine ds_seq (ds_drop (Ev.dl (ev_call (s := spKnown) (x := (ls, i)) (eva_cons (ev_var rfl) (eva_cons (ev_prop (s := spCNames T.C_Case) (x := (ls, ms, n)) (ev_var rfl) rfl (np_caseO (r := []) rfl) trivial fun d h => h) eva_nil)) (npk i) hi fun d h => h) ?_))
  refine ds_seq (ds_drop (Ev.dl (ev_call (s := spKnown) (x := (ls, k)) (eva_cons (ev_var rfl) (eva_cons (ev_prop (s := spCNames T.C_Case) (x := (ls, ms, n)) (ev_var rfl) rfl (np_caseO (r := []) rfl) trivial fun d h => h) eva_nil)) (npk k) hk fun d h => h) ?_))
  have ne : decide (tx (rowAt ls i) = tx (rowAt ls k)) = false := decide_eq_false fun h => hik (rowAt_inj hc.names.pw hi hk (tx_eq.mp h))
  refine ds_seq (ds_if (EvT.dl (b := false) (evt_test (ev_cast (congrArg D.bl ne) (ev_op (ev_var rfl) (ev_var rfl) eq_str'))) ⟨fun h => (nomatch h), fun _ => ds_next ?_⟩))
  exact ds_ret (Ev.dl (ev_call (s := spAgC T.C_Case) (x := ((ls, ms, n), i, k)) (eva_cons (ev_var rfl) (eva_cons (ev_var rfl) (eva_cons (ev_var rfl) eva_nil))) (np_caseO (r := [_, _]) rfl) ⟨hc, hi, hk⟩ fun d h => h) rfl)
end K26

namespace K26
open PySem PySem.Spec PyProof.Rows L2 Dw
theorem d_told_by {P : Program} {w : World} {K : PySem.W.Frag} {mg : Str → Option Value} {base : Heap} (T : Txt K w mg) : FnOk P w K mg base CX0 5 T.f_told_by T.e_told_by ["case", "one"] (toSp (spRowsOf T.C_Case)) := by
  refine fn_ok T.F_told_by sc_told_by (fun _ => rfl) fun cdv A outer s' H E hr => ?_
  refine ⟨_, (pss_cons (ps_expr (pe_call (d_check_case T) (hr.mono (by decide)) (by rfl) T.m_check_case T.F_check_case.kp T.b_check_case .nil pass0 (pa_cons (pv 0) pa_nil))) (pss_cons (ps_expr (pe_call (d_check_known T) (hr.mono (by decide)) (by rfl) T.m_check_known T.F_check_known.kp T.b_check_known .nil pass0 (pa_cons (pv 1) (pa_cons (pe_prop (pv 0) T.cl_Case T.p_Case_names (d_Case_names T) (hr.mono (by decide)) T.b_Case_names .nil pass0 rfl) pa_nil)))) (pss_one (ps_ret (pe_call (d_rows_of T) (hr.mono (by decide)) (by rfl) T.m_rows_of T.F_rows_of.kp T.b_rows_of .nil pass0 (pa_cons (pv 0) (pa_cons (pv 1) pa_nil))))))), fun x hx => ?_⟩
  obtain ⟨⟨ls, ms, n⟩, i⟩ := x
  obtain ⟨hc, hi⟩ := hx
  have hc : CaseOk ls ms n := hc
  have hi : i < ls.length := hi
  refine ds_seq (ds_drop (Ev.dl (ev_call (s := spCkCase T.C_Case) (x := (ls, ms, n)) (eva_cons (ev_var rfl) eva_nil) (np_caseO (r := []) rfl) trivial fun d h => h) ?_))
  refine ds_seq (ds_drop (Ev.dl (ev_call (s := spKnown) (x := (ls, i)) (eva_cons (ev_var rfl) (eva_cons (ev_prop (s := spCNames T.C_Case) (x := (ls, ms, n)) (ev_var rfl) rfl (np_caseO (r := []) rfl) trivial fun d h => h) eva_nil)) ?npk hi fun d h => h) ?_))
  case npk =>
    show (true && (noPs (nameD ls) && true)) = true
    rw [np_name]; rfl
  exact ds_ret (Ev.dl (ev_call (s := spRowsOf T.C_Case) (x := ((ls, ms, n), i)) (eva_cons (ev_var rfl) (eva_cons (ev_var rfl) eva_nil)) (np_caseO (r := [_]) rfl) ⟨hc, hi⟩ fun d h => h) rfl)
end K26

namespace K26
open PySem PySem.Spec PyProof.Rows L2 Dw
theorem d_winners {P : Program} {w : World} {K : PySem.W.Frag} {mg : Str → Option Value} {base : Heap} (T : Txt K w mg) : FnOk P w K mg base CX0 5 T.f_winners T.e_winners ["case", "ranking"] (toSp (spWinn T.C_Case)) := by
  refine fn_ok T.F_winners sc_winners (fun _ => rfl) fun cdv A outer s' H E hr => ?_
  refine ⟨_, (pss_cons (ps_expr (pe_call (d_check_case T) (hr.mono (by decide)) (by rfl) T.m_check_case T.F_check_case.kp T.b_check_case .nil pass0 (pa_cons (pv 0) pa_nil))) (pss_cons (ps_expr (pe_call (d_check_ranking T) (hr.mono (by decide)) (by rfl) T.m_check_ranking T.F_check_ranking.kp T.b_check_ranking .nil pass0 (pa_cons (pv 1) (pa_cons (pe_callB (lenA K) (by rfl) T.n_len (by decide +kernel) (pa_cons (pe_ix (ixA K) (pe_prop (pv 0) T.cl_Case T.p_Case_marks (d_Case_marks T) (hr.mono (by decide)) T.b_Case_marks .nil pass0 rfl) pe_int (fun _ _ => rfl)) pa_nil)) pa_nil)))) (pss_one (ps_ret (pe_callTy (tupleA K) (by rfl) T.n_tuple (by decide +kernel) (pa_cons (pe_lc (own := [("name", 2)]) rfl sc_winners.nd (piR K (pe_prop (pv 0) T.cl_Case T.p_Case_names (d_Case_names T) (hr.mono (by decide)) T.b_Case_names .nil pass0 rfl)) (blkOk_by (own := [("name", 2)]) (N := N_winners) (sc := (defScope s_winners)) (by decide +kernel)) (fun _ _ _ _ _ => pg_name (i := 2) sc_winners.nd rfl (Or.inl rfl)) (fun _ _ _ _ _ => pts_one (truA K (pe_call (d_all_hold T) (hr.mono (by decide)) (by rfl) T.m_all_hold T.F_all_hold.kp T.b_all_hold .nil pass0 (pa_cons (pe_call (d_rows_of T) (hr.mono (by decide)) (by rfl) T.m_rows_of T.F_rows_of.kp T.b_rows_of .nil pass0 (pa_cons (pv 0) (pa_cons (pv 2) pa_nil))) (pa_cons (pv 1) pa_nil))))) (fun _ _ _ _ _ => (pv 2))) pa_nil)))))), fun x hx => ?_⟩
  obtain ⟨⟨ls, ms, n⟩, o⟩ := x
  obtain ⟨hc, ho⟩ := hx
  have hc : CaseOk ls ms n := hc
  have ho : o.Perm (List.range n) := ho
  have h8 := hc.names.hi
  have n8 := hc.hi
  have sm := hc.same
  have h2 := hc.two
  have hm0 : (rowAt ms 0).length = n := hc.wide _ (rowAt_mem (by omega))
  refine ds_seq (ds_drop (Ev.dl (ev_call (s := spCkCase T.C_Case) (x := (ls, ms, n)) (eva_cons (ev_var rfl) eva_nil) (np_caseO (r := []) rfl) trivial fun d h => h) ?_))
  refine ds_seq (ds_drop (Ev.dl (ev_call (s := spCkRkJ) (x := (o, n)) (eva_cons (ev_var rfl) (eva_cons (ev_cast (congrArg (fun n : Nat => D.int n) ((ordD_len (rowAt ms 0)).trans hm0)) (ev_lenT (ds := ordD (rowAt ms 0)) (ev_ixT (d := .tup (ordD (rowAt ms 0))) (ds := msD ms) (ev_prop (s := spCMarks T.C_Case) (x := (ls, ms, n)) (ev_var rfl) rfl (np_caseO (r := []) rfl) trivial fun d h => h) ev_int (atI_nat (j := 0) (msD_at (show 0 < ms.length by omega)))))) eva_nil)) (np_to (r := [_]) rfl) ⟨ho, n8⟩ fun d h => h) ?_))
  refine ds_ret (Ev.dl (ev_cast (d' := .tup (nameD (winM ls ms o))) (by unfold winM winI nameD; rw [List.map_map, sm]; rfl) (ev_tuple (EvN.b (evn_lc (xs := List.range ls.length) (c := fun k => .str (tx (rowAt ls k))) (p := fun i => (rwM ms i).all fun r => holdsB r o) (f := fun k => .str (tx (rowAt ls k))) ?ej (by rw [List.length_range]; omega) fun i hi => ⟨[2], _, dg_name, fun i hi => hi, evt_tru_bl (ev_call (s := spAllHoldG) (d := .bl ((rwM ms i).all fun r => holdsB r o)) (x := (rwM ms i, o, false)) (eva_cons (ev_call (s := spRowsOf T.C_Case) (d := .tup (nameD (rwM ms i))) (x := ((ls, ms, n), i)) (eva_cons (ev_var rfl) (eva_cons (ev_var rfl) eva_nil)) (np_caseO (r := [_]) rfl) ⟨hc, List.mem_range.mp hi⟩ fun d h => h) (eva_cons (ev_var rfl) eva_nil)) (np_tn (np_to (r := []) rfl)) ⟨n, rwM_ok hc (List.mem_range.mp hi), n8, (by show (rwM ms i).length ≤ 1000; have := rw_len (ms := ms) (i := i); omega), fun k hk => List.mem_range.mp (ho.subset hk)⟩ fun d h => h), fun _ => ev_var rfl⟩)))) rfl)
  rw [names_range]
  exact ej_tup (ev_dn (ev_prop (s := spCNames T.C_Case) (x := (ls, ms, n)) (ev_var rfl) rfl (np_caseO (r := []) rfl) trivial fun d h => h))
end K26

namespace K26
open PySem PySem.Spec PyProof.Rows L2 Dw
theorem d_barred {P : Program} {w : World} {K : PySem.W.Frag} {mg : Str → Option Value} {base : Heap} (T : Txt K w mg) : FnOk P w K mg base CX0 5 T.f_barred T.e_barred ["case"] (toSp (spBarred T.C_Case)) := by
  refine fn_ok T.F_barred sc_barred (fun _ => rfl) fun cdv A outer s' H E hr => ?_
  refine ⟨_, (pss_cons (ps_expr (pe_call (d_check_case T) (hr.mono (by decide)) (by rfl) T.m_check_case T.F_check_case.kp T.b_check_case .nil pass0 (pa_cons (pv 0) pa_nil))) (pss_cons (ps_set (i := 1) sc_barred.nd rfl (Or.inr rfl) (pe_callB (lenA K) (by rfl) T.n_len (by decide +kernel) (pa_cons (pe_ix (ixA K) (pe_prop (pv 0) T.cl_Case T.p_Case_marks (d_Case_marks T) (hr.mono (by decide)) T.b_Case_marks .nil pass0 rfl) pe_int (fun _ _ => rfl)) pa_nil))) (pss_one (ps_ret (pe_callTy (tupleA K) (by rfl) T.n_tuple (by decide +kernel) (pa_cons (pe_lc (own := [("name", 2)]) rfl sc_barred.nd (piR K (pe_prop (pv 0) T.cl_Case T.p_Case_names (d_Case_names T) (hr.mono (by decide)) T.b_Case_names .nil pass0 rfl)) (blkOk_by (own := [("name", 2)]) (N := N_barred) (sc := (defScope s_barred)) (by decide +kernel)) (fun _ _ _ _ _ => pg_name (i := 2) sc_barred.nd rfl (Or.inl rfl)) (fun _ _ _ _ _ => pts_one (pt_not (truA K (pe_call (d_some_fits T) (hr.mono (by decide)) (by rfl) T.m_some_fits T.F_some_fits.kp T.b_some_fits .nil pass0 (pa_cons (pe_call (d_rows_of T) (hr.mono (by decide)) (by rfl) T.m_rows_of T.F_rows_of.kp T.b_rows_of .nil pass0 (pa_cons (pv 0) (pa_cons (pv 2) pa_nil))) (pa_cons (pv 1) pa_nil)))))) (fun _ _ _ _ _ => (pv 2))) pa_nil)))))), fun x hx => ?_⟩
  obtain ⟨ls, ms, n⟩ := x
  have hc : CaseOk ls ms n := hx
  have h8 := hc.names.hi
  have n8 := hc.hi
  have sm := hc.same
  have h2 := hc.two
  have hm0 : (rowAt ms 0).length = n := hc.wide _ (rowAt_mem (by omega))
  refine ds_seq (ds_drop (Ev.dl (ev_call (s := spCkCase T.C_Case) (x := (ls, ms, n)) (eva_cons (ev_var rfl) eva_nil) (np_caseO (r := []) rfl) trivial fun d h => h) ?_))
  refine ds_seq (ds_asg (Ev.dl (ev_cast (congrArg (fun n : Nat => D.int n) ((ordD_len (rowAt ms 0)).trans hm0)) (ev_lenT (ds := ordD (rowAt ms 0)) (ev_ixT (d := .tup (ordD (rowAt ms 0))) (ds := msD ms) (ev_prop (s := spCMarks T.C_Case) (x := (ls, ms, n)) (ev_var rfl) rfl (np_caseO (r := []) rfl) trivial fun d h => h) ev_int (atI_nat (j := 0) (msD_at (show 0 < ms.length by omega)))))) ?_))
  refine ds_ret (Ev.dl (ev_cast (d' := .tup (nameD ((barI ms n).map (rowAt ls)))) (by unfold barI nameD; rw [List.map_map, sm]; rfl) (ev_tuple (EvN.b (evn_lc (xs := List.range ls.length) (c := fun k => .str (tx (rowAt ls k))) (p := fun i => !decide (Still (rwM ms i) n = [])) (f := fun k => .str (tx (rowAt ls k))) ?ej (by rw [List.length_range]; omega) fun i hi => ⟨[2], _, dg_name, fun i hi => hi, evt_not (evt_tru_bl (ev_call (s := spSome) (d := .bl (decide (Still (rwM ms i) n = []))) (x := (rwM ms i, n, false)) (eva_cons (ev_call (s := spRowsOf T.C_Case) (d := .tup (nameD (rwM ms i))) (x := ((ls, ms, n), i)) (eva_cons (ev_var rfl) (eva_cons (ev_var rfl) eva_nil)) (np_caseO (r := [_]) rfl) ⟨hc, List.mem_range.mp hi⟩ fun d h => h) (eva_cons (ev_var rfl) eva_nil)) (np_rd (b := false) (r := [_]) rfl) ⟨rwM_ok hc (List.mem_range.mp hi), n8, (by show (rwM ms i).length ≤ 1000; have := rw_len (ms := ms) (i := i); omega)⟩ fun d h => h)), fun _ => ev_var rfl⟩)))) rfl)
  rw [names_range]
  exact ej_tup (ev_dn (ev_prop (s := spCNames T.C_Case) (x := (ls, ms, n)) (ev_var rfl) rfl (np_caseO (r := []) rfl) trivial fun d h => h))

end K26

namespace K26
open PySem PySem.Spec PyProof.Rows L2 Dw
/-! folk that is drawn, and told again -/
theorem folkD_snoc {ls ms : List (List Nat)} {m : List Nat} {i : Nat} (h : ms.length = i) (hi : i < ls.length) : folkD (ls.take i) ms ++ [.tup [.str (tx (rowAt ls i)), .tup (ordD m)]] = folkD (ls.take (i + 1)) (ms ++ [m]) := by
  have e : ls.take (i + 1) = ls.take i ++ [rowAt ls i] := by rw [List.take_add_one, List.getElem?_eq_getElem hi, rowAt_get hi]; rfl
  unfold folkD
  rw [e, List.zip_append (by rw [List.length_take, h]; omega), List.map_append]; rfl
theorem folkD_len (ls ms : List (List Nat)) : (folkD ls ms).length = min ls.length ms.length := by unfold folkD; rw [List.length_map, List.length_zip]
theorem ok_folk {ls ms : List (List Nat)} (h : ∀ l ∈ ls, NameOk l) : dOk 3 (.lst (folkD ls ms)) = true := dOks_map fun p hp => by
  have hn := h p.1 (List.of_mem_zip hp).1
  have h1 : okS (tx p.1) := okS_tx fun c hc => by have := hn.all c hc; omega
  have h2 : dOk 1 (.tup (ordD p.2)) = true := ok_ordT1 p.2
  show (dOk 1 (.str (tx p.1)) && (dOk 1 (.tup (ordD p.2)) && true)) = true
  rw [show dOk 1 (.str (tx p.1)) = true from h1, h2]; rfl
theorem ag_ifJ (x y : Nat) : (if decide ((x : Int) < (y : Int)) = true then D.str (Str.ofString "+") else if decide ((y : Int) < (x : Int)) = true then D.str (Str.ofString "-") else D.str (Str.ofString ".")) = D.str (ch (agC x y)) := by
  unfold agC
  by_cases h : x < y
  · rw [if_pos (decide_eq_true (show (x : Int) < (y : Int) by omega)), if_pos h, ch_plus]
  · rw [if_neg (by rw [decide_eq_true_eq]; show ¬ (x : Int) < (y : Int); omega), if_neg h]
    by_cases h2 : y < x
    · rw [if_pos (decide_eq_true (show (y : Int) < (x : Int) by omega)), if_pos h2, ch_minus]
    · rw [if_neg (by rw [decide_eq_true_eq]; show ¬ (y : Int) < (x : Int); omega), if_neg h2, ch_dot]
theorem dec_iffJ {p q : Prop} [Decidable p] [Decidable q] (h : p ↔ q) : decide p = decide q := by
  rw [Bool.eq_iff_iff, decide_eq_true_iff, decide_eq_true_iff]; exact h
theorem np_folk {ls ms : List (List Nat)} {r : List D} (h : noPs r = true := by rfl) : noPs (.lst (folkD ls ms) :: r) = true := by
  have one : ∀ p : List Nat × List Nat, noP (pairDm p) = true := fun p => by
    show (true && (noPs (ordD p.2) && true)) = true
    rw [np_ord]; rfl
  show (noPs (folkD ls ms) && noPs r) = true
  unfold folkD
  rw [noPs_map one, h]; rfl
def spBest : Spc where
  ty := (List (List Nat) × List (List Nat) × Nat) × List Nat
  args := fun x => [.lst (folkD x.1.1 x.1.2.1), .tup (ordD x.2)]
  ok := fun x => CaseOk x.1.1 x.1.2.1 x.1.2.2 ∧ x.2.Perm (List.range x.1.2.2)
  rel := fun x d => d = .tup (nameD (winM x.1.1 x.1.2.1 x.2))
def spRowsR (C : Addr) : Spc where
  ty := CaseT
  args := fun x => [caseO C x.1 x.2.1, .lst (folkD x.1 x.2.1)]
  ok := fun x => CaseOk x.1 x.2.1 x.2.2
  rel := fun _ d => d = .bl true
def spRightJ : Spc where
  ty := Unit
  args := fun _ => [.purse]
  ok := fun _ => True
  rel := fun _ d => d = .bl true
theorem best_ne {ps : List Pr} {o : List Nat} (h : ps ≠ []) : bestF ps o ≠ [] := by
  induction o generalizing ps with
  | nil => exact h
  | cons k o ih =>
    refine ih (ps := stepB ps k) fun he => ?_
    have hne : (ps.map fun q => mk q k) ≠ [] := fun z => h (List.map_eq_nil_iff.mp z)
    obtain ⟨q, hq, e⟩ := List.mem_map.mp (minN_mem _ hne)
    have : q ∈ stepB ps k := List.mem_filter.mpr ⟨hq, decide_eq_true e⟩
    rw [he] at this; cases this
theorem best_sub {ps : List Pr} {o : List Nat} : ∀ p ∈ bestF ps o, p ∈ ps := by
  induction o generalizing ps with
  | nil => exact fun p h => h
  | cons k o ih => exact fun p h => (List.mem_filter.mp (ih (ps := stepB ps k) p h)).1
theorem min_ints {l : List Nat} {m : Int} (h : m ∈ l.map fun k : Nat => (k : Int)) (hy : ∀ y ∈ l.map fun k : Nat => (k : Int), m ≤ y) : m = (minN l : Int) := by
  obtain ⟨k, hk, rfl⟩ := List.mem_map.mp h
  have h1 := minN_le l k hk
  have h2 := minN_mem l (fun z => by rw [z] at hk; cases hk)
  have h3 := hy _ (List.mem_map_of_mem h2)
  omega
theorem rk_names {k : Nat} {ls : List (List Nat)} (h : ∀ l ∈ ls, okS (tx l) ∧ l.length ≤ 300) : rOks k (nameD ls) = true := by
  induction ls with
  | nil => exact rk_n
  | cons a r ih =>
    have := h a List.mem_cons_self
    exact rk_c (rk_s this.1 (by rw [tx_len]; exact this.2)) (ih fun l hl => h l (List.mem_cons_of_mem _ hl))
theorem cnt_names (ls : List (List Nat)) : cnts (nameD ls) = ls.length := by
  induction ls with
  | nil => rfl
  | cons a r ih =>
    show 1 + cnts (nameD r) = r.length + 1
    omega
theorem ev_repr2 {K : PySem.W.Frag} {Γ : Gam} {ta : TE} {ds : List D} {k : Nat} (h : Ev ta Γ (.lst ds)) (h1 : rOk k (.lst ds) = true) (hk : k ≤ 64) (hc : cnt (.lst ds) ≤ 5000) : Ev (tCB (rRepr K) (tCons ta tNil)) Γ (.str (PyData.shown (py (.lst ds)))) := by
  obtain ⟨a, b, c⟩ := rOk_sh k _ h1
  have := shB_le k _ a
  exact ev_reprL h a hk b (by show _ ≤ 2 ^ 24; omega)
theorem ev_repr2T {K : PySem.W.Frag} {Γ : Gam} {ta : TE} {ds : List D} {k : Nat} (h : Ev ta Γ (.tup ds)) (h1 : rOk k (.tup ds) = true) (hk : k ≤ 64) (hc : cnt (.tup ds) ≤ 5000) : Ev (tCB (rRepr K) (tCons ta tNil)) Γ (.str (PyData.shown (py (.tup ds)))) := by
  obtain ⟨a, b, c⟩ := rOk_sh k _ h1
  have := shB_le k _ a
  exact ev_reprT h a hk b (by show _ ≤ 2 ^ 24; omega)
theorem okS_row {r : List Nat} {n : Nat} (h : RowOk r n) (h8 : n ≤ 8) : okS (tx r) ∧ r.length ≤ 300 := ⟨okS_tx fun c hc => (h.all c hc).lt, by rw [h.len]; omega⟩
theorem okS_nm {l : List Nat} (h : NameOk l) : okS (tx l) ∧ l.length ≤ 300 := ⟨okS_tx fun c hc => by have := h.all c hc; omega, by have := h.hi; omega⟩
end K26

namespace K26
open PySem PySem.Spec PyProof.Rows L2 Dw
theorem d__law_folk {P : Program} {w : World} {K : PySem.W.Frag} {mg : Str → Option Value} {base : Heap} (T : Txt K w mg) : FnOk P w K mg base CX0 3 T.f__law_folk T.e__law_folk ["_law_jar", "_law_many", "_law_least", "_law_most"] (toSp (spFolk)) := by
  refine fn_ok T.F__law_folk sc__law_folk (fun _ => rfl) fun cdv A outer s' H E hr => ?_
  refine ⟨_, (pss_cons (ps_asg (pe_tup (pa_cons (pe_ix (ixA K) (pe_lst (pa_cons pe_int (pa_cons pe_int (pa_cons pe_int pa_nil)))) (pe_call (d__law_dip T) (hr.mono (by decide)) (by rfl) T.m__law_dip T.F__law_dip.kp T.b__law_dip .nil pass0 (pa_cons (pv 0) (pa_cons pe_int pa_nil))) (fun _ _ => rfl)) (pa_cons (pe_lst pa_nil) pa_nil))) (tupA K 2 rfl (pgs_cons (pg_name (i := 4) sc__law_folk.nd rfl (Or.inr rfl)) (pgs_cons (pg_name (i := 5) sc__law_folk.nd rfl (Or.inl rfl)) pgs_nil)))) (pss_cons (ps_for PassesOwn.never rfl (piR K (pe_call (d__law_tags T) (hr.mono (by decide)) (by rfl) T.m__law_tags T.F__law_tags.kp T.b__law_tags .nil pass0 (pa_cons (pv 0) (pa_cons (pe_op (plusE K) (pv 2) (pe_call (d__law_dip T) (hr.mono (by decide)) (by rfl) T.m__law_dip T.F__law_dip.kp T.b__law_dip .nil pass0 (pa_cons (pv 0) (pa_cons (pe_op (plusE K) (pe_op op_sub (pv 3) (pv 2)) pe_int) pa_nil)))) pa_nil)))) (pg_name (i := 6) sc__law_folk.nd rfl (Or.inl rfl)) (pss_cons (ps_set (i := 7) sc__law_folk.nd rfl (Or.inl rfl) (pe_callTy (tupleA K) (by rfl) T.n_tuple (by decide +kernel) (pa_cons (pe_lc (own := [("_law_k", 8)]) rfl sc__law_folk.nd (pi_range1 (by rfl) T.n_range (pa_cons (pv 1) pa_nil)) (blkOk_by (own := [("_law_k", 8)]) (N := N__law_folk) (sc := (defScope s__law_folk)) (by decide +kernel)) (fun _ _ _ _ _ => pg_name (i := 8) sc__law_folk.nd rfl (Or.inl rfl)) (fun _ _ _ _ _ => pts_nil) (fun _ _ _ _ _ => (pe_call (d__law_dip T) (hr.mono (by decide)) (by rfl) T.m__law_dip T.F__law_dip.kp T.b__law_dip .nil pass0 (pa_cons (pv 0) (pa_cons (pv 4) pa_nil))))) pa_nil))) (pss_one (ps_expr (bmA K PySem.F.plainAttrs_list PySem.F.slot_list_append PySem.F.type_list_append mt_append (pv 5) (pa_cons (pe_tup (pa_cons (pv 6) (pa_cons (pe_ifExp (PW.pt (pw_and (pt_cmpR (neA K hr.units) (pv 5) (pe_lst pa_nil) (nomark _)) (pw_and1 (pt_cmpR (eqA K hr.units) (pe_call (d__law_dip T) (hr.mono (by decide)) (by rfl) T.m__law_dip T.F__law_dip.kp T.b__law_dip .nil pass0 (pa_cons (pv 0) (pa_cons pe_int pa_nil))) pe_int (nomark _))))) (pe_ix (ixA K) (pe_call (d__law_pick T) (hr.mono (by decide)) (by rfl) T.m__law_pick T.F__law_pick.kp T.b__law_pick .nil pass0 (pa_cons (pv 0) (pa_cons (pv 5) pa_nil))) pe_int (fun _ _ => rfl)) (pv 7)) pa_nil))) pa_nil)))))) (pss_one (ps_ret (pv 5))))), fun x hx => ?_⟩
  obtain ⟨n, lo, hi⟩ := x
  obtain ⟨n1, n8, h2, hlh, h8⟩ := hx
  have n1 : 1 ≤ n := n1
  have n8 : n ≤ 8 := n8
  have h2 : 2 ≤ lo := h2
  have hlh : lo ≤ hi := hlh
  have h8 : hi ≤ 8 := h8
  refine ds_seq (ds_asg_2o (dl_op (Ev.dl (EvN.ev (evn_lst (ds := [.int 2, .int 4, .int 100]) (eva_cons ev_int (eva_cons ev_int (eva_cons ev_int eva_nil))) (small (show 3 ≤ 100000 by decide)))) (dl_call (s := spDraw) (dla_cons (Ev.dl (ev_var rfl) (dla_cons (Ev.dl ev_int (dla_nil ⟨(3 : Nat), rfl, ⟨by decide, by decide⟩, fun d hd => ?_⟩)))))))))
  obtain ⟨r, hr, rfl⟩ := hd
  have hr : r < 3 := hr
  obtain ⟨tp, e, t1, t2⟩ : ∃ tp : Nat, [D.int 2, .int 4, .int 100][r]? = some (.int tp) ∧ 1 ≤ tp ∧ tp ≤ 100 := by
    match r, hr with
    | 0, _ => exact ⟨2, rfl, by decide, by decide⟩
    | 1, _ => exact ⟨4, rfl, by decide, by decide⟩
    | 2, _ => exact ⟨100, rfl, by decide, by decide⟩
  refine ⟨.int tp, dr2_ixL (atI_nat e), [], evn_lst eva_nil (Nat.zero_le _), ?_⟩
  refine ds_seq (ds_for (fun xs i Γ' => ∃ (ls ms : List (List Nat)) (s6 s7 : Sl), xs = nameD ls ∧ NamesOk ls ∧ lo ≤ ls.length ∧ ls.length ≤ hi ∧ Γ' = [.val .purse, .val (.int n), .val (.int lo), .val (.int hi), .val (.int tp), .own (folkD (ls.take i) ms), s6, s7, .unset] ∧ ms.length = i ∧ (∀ m ∈ ms, m.length = n) ∧ ∀ m ∈ ms, ∀ k ∈ m, k < 100) (dj_list (dl_call (s := spTags) (dla_cons (Ev.dl (ev_var rfl) (dla_cons (dl_op (Ev.dl (ev_var rfl) (dl_call (s := spDraw) (dla_cons (Ev.dl (ev_var rfl) (dla_cons (Ev.dl (ev_cast (congrArg D.int (by omega : (hi : Int) - (lo : Int) + 1 = ((hi - lo + 1 : Nat) : Int))) (ev_op (ev_op (ev_var rfl) (ev_var rfl) dr2_sub) ev_int pl_int)) (dla_nil ⟨hi - lo + 1, rfl, ⟨by omega, by omega⟩, fun d hd => ?_⟩))))))))))))))
  obtain ⟨q, hq, rfl⟩ := hd
  have hq : q < hi - lo + 1 := hq
  refine ⟨.int ((lo + q : Nat) : Int), ?pl, dla_nil ⟨lo + q, rfl, ⟨by omega, by omega⟩, fun d hd => ?_⟩⟩
  case pl =>
    have e := pl_int (K := K) (i := (lo : Int)) (j := (q : Int))
    rw [show (lo : Int) + (q : Int) = ((lo + q : Nat) : Int) by omega] at e
    exact e
  obtain ⟨ls0, rfl, hls0, hll0⟩ := hd
  have hll0 : ls0.length = lo + q := hll0
  refine ⟨nameD ls0, rfl, ⟨ls0, [], _, _, rfl, hls0, by omega, by omega, rfl, rfl, fun k h => absurd h (by simp), fun k h => absurd h (by simp)⟩, fun i x Γ' hx' ⟨ls, ms, s6, s7, exs, hls, l1, l2, e, p1, p2, p3⟩ => ?_, fun Γ' ⟨ls, ms, s6, s7, exs, hls, l1, l2, e, p1, p2, p3⟩ => ?_⟩
  · subst e
    rw [exs] at hx'
    have hil : i < ls.length := by
      have := (List.getElem?_eq_some_iff.mp hx').1
      rw [nameD_len] at this; exact this
    obtain rfl : x = .str (tx (rowAt ls i)) := by
      rw [nameD_ix hil] at hx'
      exact (Option.some.inj hx').symm
    refine ⟨[6], _, dg_name, ds_seq (ds_asg (dl_tuple (dl_lc (di_range (dla_cons (Ev.dl (ev_var rfl) (dla_nil ⟨n, rfl, by omega, by rw [rng_length]; omega, fun j acc Γ' => Γ' = [.val .purse, .val (.int n), .val (.int lo), .val (.int hi), .val (.int tp), .own (folkD (ls.take i) ms), .val (.str (tx (rowAt ls i))), s7, .unset] ∧ ∃ l : List Nat, acc = ordD l ∧ l.length = j ∧ ∀ k ∈ l, k < 100, ⟨rfl, [], rfl, rfl, fun c h => absurd h (by simp)⟩, fun j x acc Γ' hx2 ⟨e, l, ea, hl, hk⟩ => ?_, fun acc Γ' ⟨e, l, ea, hl, hk⟩ => ?_⟩)))))))⟩
    · subst e
      refine ⟨[8], _, dg_name, fun i hi => hi, dlt_yes ⟨fun _ => dl_call (s := spDraw) (dla_cons (Ev.dl (ev_var rfl) (dla_cons (Ev.dl (ev_var rfl) (dla_nil ⟨tp, rfl, ⟨by omega, by omega⟩, fun d hd => ?_⟩))))), fun h => nomatch h⟩⟩
      obtain ⟨q, hq, rfl⟩ := hd
      have hq : q < tp := hq
      refine ⟨rfl, l ++ [q], ?_, by rw [List.length_append, hl]; rfl, fun k hk' => ?_⟩
      · rw [ea, ← ordD_snoc]
      · rcases List.mem_append.mp hk' with hk' | hk'
        · exact hk k hk'
        · rw [List.mem_singleton.mp hk']; omega
    · subst e
      rw [rng_length] at hl
      refine ⟨ordD l, congrArg D.lst ea, ?_⟩
      have okm : ∀ m : List Nat, m.length = n → (∀ k ∈ m, k < 100) → (ms ++ [m]).length = i + 1 ∧ (∀ q ∈ ms ++ [m], q.length = n) ∧ ∀ q ∈ ms ++ [m], ∀ k ∈ q, k < 100 := fun m a b => ⟨by rw [List.length_append, p1]; rfl, fun q hq => by
        rcases List.mem_append.mp hq with hq | hq
        · exact p2 q hq
        · rw [List.mem_singleton.mp hq]; exact a, fun q hq => by
        rcases List.mem_append.mp hq with hq | hq
        · exact p3 q hq
        · rw [List.mem_singleton.mp hq]; exact b⟩
      have okn : ∀ l ∈ ls.take i, NameOk l := fun l hl => hls.all l (List.mem_of_mem_take hl)
      have hfl : (folkD (ls.take i) ms).length = i := by rw [folkD_len, List.length_take]; omega
      have hlt : (folkD (ls.take i) ms).length < sizeLine := by rw [hfl]; exact Nat.lt_of_lt_of_le (by omega : i < 100) (by decide)
      have fin : ∀ m : List Nat, m.length = n → (∀ k ∈ m, k < 100) → ∃ (ls' ms' : List (List Nat)) (s6 s7 : Sl), nameD ls0 = nameD ls' ∧ NamesOk ls' ∧ lo ≤ ls'.length ∧ ls'.length ≤ hi ∧ [Sl.val .purse, .val (.int n), .val (.int lo), .val (.int hi), .val (.int tp), .own (folkD (ls.take i) ms ++ [.tup [.str (tx (rowAt ls i)), .tup (ordD m)]]), .val (.str (tx (rowAt ls i))), .val (.tup (ordD l)), .unset] = [.val .purse, .val (.int n), .val (.int lo), .val (.int hi), .val (.int tp), .own (folkD (ls'.take (i + 1)) ms'), s6, s7, .unset] ∧ ms'.length = i + 1 ∧ (∀ m ∈ ms', m.length = n) ∧ ∀ m ∈ ms', ∀ k ∈ m, k < 100 := fun m a b => by
        obtain ⟨x1, x2, x3⟩ := okm m a b
        exact ⟨ls, ms ++ [m], _, _, exs, hls, l1, l2, by rw [folkD_snoc p1 hil], x1, x2, x3⟩
      refine ds_drop (dl_append ⟨_, rfl⟩ (dla_cons (dl_tup (dla_cons (Ev.dl (ev_var rfl) (dla_cons (dl_lend 5 rfl ?one (dl_if (dlt_and (EvT.dl (evt_test (ev_op (ev_var (d := .lst (folkD (ls.take i) ms)) rfl) (evn_lst eva_nil (Nat.zero_le _)).ev (ne_nil (ok_folk okn) (by decide)))) ⟨fun hne => dlt_test (dl_op (dl_call (s := spDraw) (dla_cons (Ev.dl (ev_var rfl) (dla_cons (Ev.dl ev_int (dla_nil ⟨(8 : Nat), rfl, ⟨by decide, by decide⟩, fun d1 hd1 => ?_⟩))))))), fun h => ⟨fun z => (nomatch z), fun _ => Ev.dl (ev_var rfl) ?_⟩⟩))))))))))
      case one =>
        intro j es e
        rcases j with _ | _ | _ | _ | _ | _ | _ | _ | _ | j <;> first | rfl | cases e
      · obtain ⟨q, _, rfl⟩ := hd1
        refine Ev.dl ev_int ⟨_, eq_int', _, rfl, fun _ => dl_op (dl_call (s := spAnyOf) (dla_cons (Ev.dl (ev_var rfl) (dla_cons (Ev.dl (ev_var (d := .lst (folkD (ls.take i) ms)) rfl) (dla_nil ⟨(true, folkD (ls.take i) ms), rfl, ⟨?_, ?_⟩, fun d2 hd2 => ?_⟩)))))), fun _ => Ev.dl (ev_var rfl) ?_⟩
        · show 0 < (folkD (ls.take i) ms).length
          cases hm : folkD (ls.take i) ms with
          | nil => rw [hm] at hne; exact absurd hne (by decide)
          | cons _ _ => exact Nat.succ_pos _
        · show (folkD (ls.take i) ms).length < 100000
          omega
        · obtain ⟨p, hp, rfl⟩ := List.mem_map.mp hd2
          have hpm := (List.of_mem_zip hp).2
          exact Ev.dl ev_int ⟨.tup (ordD p.2), dr2_ixT (atI_nat (j := 1) rfl), rfl, ⟨p.2, rfl⟩, dla_nil ⟨small (show 2 ≤ 100000 by decide), dla_nil ⟨_, folkD (ls.take i) ms, rfl, rfl, hlt, fin p.2 (p2 _ hpm) (p3 _ hpm)⟩⟩⟩
        · exact ⟨rfl, ⟨l, rfl⟩, dla_nil ⟨small (show 2 ≤ 100000 by decide), dla_nil ⟨_, folkD (ls.take i) ms, rfl, rfl, hlt, fin l hl hk⟩⟩⟩
      · exact ⟨rfl, ⟨l, rfl⟩, dla_nil ⟨small (show 2 ≤ 100000 by decide), dla_nil ⟨_, folkD (ls.take i) ms, rfl, rfl, hlt, fin l hl hk⟩⟩⟩
  · subst e
    have hxl : (nameD ls0).length = ls.length := by rw [exs, nameD_len]
    rw [hxl, List.take_length]
    rw [hxl] at p1
    exact ds_freeze 5 rfl (ds_ret (Ev.dl (ev_var rfl) ⟨ls, ms, rfl, ⟨hls, (by omega), p1, p2, n1, n8, p3⟩, l1, l2⟩))
end K26

namespace K26
open PySem PySem.Spec PyProof.Rows L2 Dw
theorem d__law_case_page {P : Program} {w : World} {K : PySem.W.Frag} {mg : Str → Option Value} {base : Heap} (T : Txt K w mg) : FnOk P w K mg base CX0 1 T.f__law_case_page T.e__law_case_page ["_law_folk_here"] (toSp (spPage)) := by
  refine fn_ok T.F__law_case_page sc__law_case_page (fun _ => rfl) fun cdv A outer s' H E hr => ?_
  refine ⟨_, (pss_one (ps_ret (joinA K pe_str (pe_lc (own := [("_law_tag", 1), ("_law_marks", 2)]) rfl sc__law_case_page.nd (piR K (pv 0)) (blkOk_by (own := [("_law_tag", 1), ("_law_marks", 2)]) (N := N__law_case_page) (sc := (defScope s__law_case_page)) (by decide +kernel)) (fun _ _ _ _ _ => tupA K 2 rfl (pgs_cons (pg_name (i := 1) sc__law_case_page.nd rfl (Or.inl rfl)) (pgs_cons (pg_name (i := 2) sc__law_case_page.nd rfl (Or.inl rfl)) pgs_nil))) (fun _ _ _ _ _ => pts_nil) (fun _ _ _ _ _ => (joinA K pe_str (pe_op (plusE K) (pe_lst (pa_cons (pv 1) pa_nil)) (pe_lc (own := [("_law_mark", 3)]) rfl sc__law_case_page.nd (piR K (pv 2)) (blkOk_by (own := [("_law_mark", 3)]) (N := N__law_case_page) (sc := (relS { kind := .function, names := [(".0", .local), ("_law_tag", .local), ("_law_marks", .local)], isGenerator := false, isCoroutine := false, more := [] } (defScope s__law_case_page))) (by decide +kernel)) (fun _ _ _ _ _ => pg_name (i := 3) sc__law_case_page.nd rfl (Or.inl rfl)) (fun _ _ _ _ _ => pts_nil) (fun _ _ _ _ _ => (pe_callTy call_str_int (by rfl) T.n_str (by decide +kernel) (pa_cons (pv 3) pa_nil))))))))))), fun x hx => ?_⟩
  obtain ⟨ls, ms, n⟩ := x
  have hc : CaseOk ls ms n := hx
  have h8 := hc.names.hi
  have n8 := hc.hi
  have s1 := sum_tx (m := 81) ((ls.zip ms).map partT) fun q hq => (hc.part hq).1
  rw [List.length_map, hc.zl] at s1
  refine ds_ret (Ev.dl (ev_join (x := Str.ofString "; ") (ys := ((ls.zip ms).map partT).map tx) ev_str (EvN.b ?_) ?_) ?_)
  · have e1 : (((ls.zip ms).map partT).map tx).map D.str = (ls.zip ms).map fun p => D.str (tx (partT p)) := by
      rw [List.map_map, List.map_map]; rfl
    rw [e1]
    refine evn_lc1 (xs := ls.zip ms) (c := pairDm) (f := fun p => .str (tx (partT p))) (ej_list (ev_var (d := .lst (folkD ls ms)) rfl).b) (by rw [hc.zl]; omega) fun p hp => ?_
    have hz := hc.zip hp
    have s2 := sum_tx (m := 8) (wordsL p) (words_8 hz)
    have wl : (wordsL p).length = n + 1 := words_len hz
    have els : [D.str (tx p.1)] ++ (p.2.map fun k => D.str (tx (TL.numL k))) = ((wordsL p).map tx).map D.str := by
      unfold wordsL
      rw [List.map_cons, List.map_cons, List.map_map, List.map_map]; rfl
    refine ⟨[1] ++ [2], _, dg_tup2 dg_name dg_name, by decide, evt_yes, ev_cast (d := .str (Txt.join (Str.ofString " ") ((wordsL p).map tx))) ?ej (ev_join (x := Str.ofString " ") (ys := (wordsL p).map tx) ev_str (EvN.b (els ▸ pl_evn (ds := [D.str (tx p.1)]) (es := p.2.map fun k => D.str (tx (TL.numL k))) (EvN.b (evn_lst (eva_cons (ev_var rfl) eva_nil) (small (show 1 ≤ 100000 by decide)))) (EvN.b (evn_lc1 (xs := p.2) (c := fun k : Nat => D.int k) (f := fun k => .str (tx (TL.numL k))) (ej_tup (ev_var (d := .tup (ordD p.2)) rfl)) (by have := hz.2.1; omega) fun k hk => ⟨[3], _, dg_name, by decide, evt_yes, ev_cast (congrArg D.str (SX.num_S k)) (ev_strK (ev_var rfl) (show k.log2 < 1920 from Nat.lt_of_le_of_lt (Nat.log2_le_self k) (by have := hz.2.2 k hk; omega)))⟩)) ?hz1)) ?hz2)⟩
    case ej => rw [spaceS, join_tx]; rfl
    case hz1 => rw [List.length_map, hz.2.1]; exact small (show 1 + n ≤ 100000 by omega)
    case hz2 =>
      rw [List.length_map, wl, spaceS, tx_len]
      show _ + (n + 1) * 1 ≤ _
      have : 8 * (wordsL p).length ≤ 8 * 9 := Nat.mul_le_mul (Nat.le_refl _) (by omega)
      omega
  · rw [List.length_map, List.length_map, hc.zl, semiS, tx_len]
    show _ + ls.length * 2 ≤ _
    omega
  · show D.str _ = D.str _
    rw [semiS, join_tx]; rfl
end K26

namespace K26
open PySem PySem.Spec PyProof.Rows L2 Dw
theorem d__law_best {P : Program} {w : World} {K : PySem.W.Frag} {mg : Str → Option Value} {base : Heap} (T : Txt K w mg) : FnOk P w K mg base CX0 1 T.f__law_best T.e__law_best ["_law_folk_here", "_law_order"] (toSp (spBest)) := by
  refine fn_ok T.F__law_best sc__law_best (fun _ => rfl) fun cdv A outer s' H E hr => ?_
  refine ⟨_, (pss_cons (ps_set (i := 2) sc__law_best.nd rfl (Or.inl rfl) (pv 0)) (pss_cons (ps_for PassesOwn.never rfl (piR K (pv 1)) (pg_name (i := 3) sc__law_best.nd rfl (Or.inr rfl)) (pss_cons (ps_set (i := 4) sc__law_best.nd rfl (Or.inr rfl) (pe_callB (minA K) (by rfl) T.n_min (by decide +kernel) (pa_cons (pe_lc (own := [("_law_tag", 6), ("_law_marks", 7)]) rfl sc__law_best.nd (piR K (pv 2)) (blkOk_by (own := [("_law_tag", 6), ("_law_marks", 7)]) (N := N__law_best) (sc := (defScope s__law_best)) (by decide +kernel)) (fun _ _ _ _ _ => tupA K 2 rfl (pgs_cons (pg_name (i := 6) sc__law_best.nd rfl (Or.inl rfl)) (pgs_cons (pg_name (i := 7) sc__law_best.nd rfl (Or.inl rfl)) pgs_nil))) (fun _ _ _ _ _ => pts_nil) (fun _ _ _ _ _ => (pe_ix (ixA K) (pv 7) (pv 3) (fun _ _ => rfl)))) pa_nil))) (pss_one (ps_setLc (i := 2) (own := [("_law_pair", 5)]) rfl sc__law_best.nd rfl rfl (sw_true rfl rfl rfl (by decide +kernel)) (piR K (pv 2)) (blkOk_by (own := [("_law_pair", 5)]) (N := N__law_best) (sc := (defScope s__law_best)) (by decide +kernel)) (fun _ _ _ _ _ => pg_name (i := 5) sc__law_best.nd rfl (Or.inl rfl)) (fun _ _ _ _ _ => pts_one (pt_cmpR (eqA K hr.units) (pe_ix (ixA K) (pe_ix (ixA K) (pv 5) pe_int (fun _ _ => rfl)) (pv 3) (fun _ _ => rfl)) (pv 4) (nomark _))) (fun _ _ _ _ _ => (pv 5)))))) (pss_one (ps_ret (pe_callTy (tupleA K) (by rfl) T.n_tuple (by decide +kernel) (pa_cons (pe_lc (own := [("_law_tag", 6), ("_law_marks", 7)]) rfl sc__law_best.nd (piR K (pv 2)) (blkOk_by (own := [("_law_tag", 6), ("_law_marks", 7)]) (N := N__law_best) (sc := (defScope s__law_best)) (by decide +kernel)) (fun _ _ _ _ _ => tupA K 2 rfl (pgs_cons (pg_name (i := 6) sc__law_best.nd rfl (Or.inl rfl)) (pgs_cons (pg_name (i := 7) sc__law_best.nd rfl (Or.inl rfl)) pgs_nil))) (fun _ _ _ _ _ => pts_nil) (fun _ _ _ _ _ => (pv 6))) pa_nil)))))), fun x hx => ?_⟩
  obtain ⟨⟨ls, ms, n⟩, o⟩ := x
  obtain ⟨hc, ho⟩ := hx
  have hc : CaseOk ls ms n := hc
  have ho : o.Perm (List.range n) := ho
  have h8 := hc.names.hi
  have h2 := hc.two
  have hlt : ∀ k ∈ o, k < n := fun k hk => List.mem_range.mp (ho.subset hk)
  have hne : ls.zip ms ≠ [] := fun h => by
    have := congrArg List.length h
    rw [hc.zl] at this
    have : ls.length = 0 := this
    omega
  have wd : ∀ (o' : List Nat), ∀ p ∈ bestF (ls.zip ms) o', p.2.length = n := fun o' p hp => (hc.zip (best_sub p hp)).2.1
  have bl : ∀ (o' : List Nat), (bestF (ls.zip ms) o').length ≤ 8 := fun o' => by
    rw [best_leB]
    refine Nat.le_trans (List.length_filter_le _ _) ?_
    rw [hc.zl]; exact h8
  refine ds_seq (ds_asg (Ev.dl (ev_var rfl) ?_))
  refine ds_seq (ds_for (fun xs i Γ' => xs = ordD o ∧ ∃ s3 s4 : Sl, Γ' = [.val (.lst (folkD ls ms)), .val (.tup (ordD o)), .val (.lst ((bestF (ls.zip ms) (o.take i)).map pairDm)), s3, s4, .unset, .unset, .unset]) (dj_tup (Ev.dl (ev_var rfl) ⟨ordD o, rfl, ⟨rfl, _, _, rfl⟩, fun i x Γ' hx' ⟨exs, s3, s4, e⟩ => ?_, fun Γ' ⟨exs, s3, s4, e⟩ => ?_⟩)))
  · subst e
    have hx3 : (o.map fun k : Nat => D.int k)[i]? = some x := hx'
    rw [List.getElem?_map] at hx3
    cases q : o[i]? with
    | none => rw [q] at hx3; cases hx3
    | some k =>
      rw [q] at hx3; cases hx3
      have hk := hlt k (List.mem_of_getElem? q)
      have nx : bestF (ls.zip ms) (o.take (i + 1)) = stepB (bestF (ls.zip ms) (o.take i)) k := by
        unfold bestF
        rw [List.take_add_one, q, List.foldl_append]; rfl
      have wdi := wd (o.take i)
      have bli := bl (o.take i)
      have nei := best_ne (o := o.take i) hne
      rw [nx]
      generalize bestF (ls.zip ms) (o.take i) = ps at wdi bli nei
      have mkI : ∀ p ∈ ps, (ordD p.2)[k]? = some (.int ((mk p k : Nat) : Int)) := fun p hp => by
        have hl := wdi p hp
        unfold ordD mk
        rw [List.getElem?_map, List.getD_eq_getElem?_getD, List.getElem?_eq_getElem (by omega)]; rfl
      have mapI : (ps.map fun q => D.int ((mk q k : Nat) : Int)) = ((ps.map fun q => mk q k).map fun j : Nat => (j : Int)).map D.int := by
        rw [List.map_map, List.map_map]; rfl
      refine ⟨[3], _, dg_name, ds_seq (ds_asg (Ev.dl (ev_min1 (ns := (ps.map fun q => mk q k).map fun j : Nat => (j : Int)) (M := (minN (ps.map fun q => mk q k) : Int)) ?lst ?pos fun m hm hy => min_ints hm hy) ?_))⟩
      case lst =>
        rw [← mapI]
        exact EvN.b (evn_lc1 (xs := ps) (c := pairDm) (f := fun q => .int ((mk q k : Nat) : Int)) (ej_list (ev_var (d := .lst (ps.map pairDm)) rfl).b) (by omega) fun p hp => ⟨[6] ++ [7], _, dg_tup2 dg_name dg_name, by decide, evt_yes, ev_ixT (ds := ordD p.2) (ev_var rfl) (ev_var rfl) (atI_nat (mkI p hp))⟩)
      case pos =>
        rw [List.length_map, List.length_map]
        exact List.length_pos_iff.mpr nei
      refine ds_asg (Ev.dl (ev_cast (d' := .lst ((stepB ps k).map pairDm)) rfl (EvN.ev (evn_lc (xs := ps) (c := pairDm) (p := fun p => decide (mk p k = minN (ps.map fun q => mk q k))) (f := pairDm) (ej_list (ev_var (d := .lst (ps.map pairDm)) rfl).b) (by omega) fun p hp => ⟨[5], _, dg_name, by decide, evt_test (ev_cast (congrArg D.bl (decide_eq_decide.mpr (by omega) : decide (((mk p k : Nat) : Int) = ((minN (ps.map fun q => mk q k) : Nat) : Int)) = decide (mk p k = minN (ps.map fun q => mk q k)))) (ev_op (ev_ixT (ds := ordD p.2) (ev_ixT (d := .tup (ordD p.2)) (ds := [.str (tx p.1), .tup (ordD p.2)]) (ev_var (d := .tup [.str (tx p.1), .tup (ordD p.2)]) rfl) ev_int (atI_nat (j := 1) rfl)) (ev_var rfl) (atI_nat (mkI p hp))) (ev_var rfl) eq_int')), fun _ => ev_var rfl⟩))) ⟨exs, _, _, rfl⟩)
  · subst e
    rw [ordD_len, List.take_length, best_win hc hlt]
    refine ds_ret (Ev.dl (ev_cast (d' := .tup (nameD (winM ls ms o))) ?cc (ev_tuple (EvN.b (evn_lc1 (xs := winI ms o) (c := fun i => pairDm (rowAt ls i, rowAt ms i)) (f := fun i => .str (tx (rowAt ls i))) ?ej ?ll fun i hi => ⟨[6] ++ [7], _, dg_tup2 dg_name dg_name, by decide, evt_yes, ev_var rfl⟩)))) rfl)
    case cc => unfold winM nameD; rw [List.map_map]; rfl
    case ej =>
      rw [← show ((winI ms o).map fun i => (rowAt ls i, rowAt ms i)).map pairDm = (winI ms o).map fun i => pairDm (rowAt ls i, rowAt ms i) by rw [List.map_map]; rfl]
      exact ej_list (ev_var rfl).b
    case ll =>
      unfold winI
      refine Nat.le_trans (List.length_filter_le _ _) ?_
      rw [List.length_range, hc.same]; omega
end K26

namespace K26
open PySem PySem.Spec PyProof.Rows L2 Dw
theorem d__law_beside {P : Program} {w : World} {K : PySem.W.Frag} {mg : Str → Option Value} {base : Heap} (T : Txt K w mg) : FnOk P w K mg base CX0 1 T.f__law_beside T.e__law_beside ["_law_own", "_law_rival"] (toSp (spBetween)) := by
  refine fn_ok T.F__law_beside sc__law_beside (fun _ => rfl) fun cdv A outer s' H E hr => ?_
  refine ⟨_, (pss_one (ps_ret (joinA K pe_str (pe_lc (own := [("_law_a", 2), ("_law_b", 3)]) rfl sc__law_beside.nd (zipA K (by rfl) T.n_zip (pa_cons (pv 0) (pa_cons (pv 1) pa_nil))) (blkOk_by (own := [("_law_a", 2), ("_law_b", 3)]) (N := N__law_beside) (sc := (defScope s__law_beside)) (by decide +kernel)) (fun _ _ _ _ _ => tupA K 2 rfl (pgs_cons (pg_name (i := 2) sc__law_beside.nd rfl (Or.inl rfl)) (pgs_cons (pg_name (i := 3) sc__law_beside.nd rfl (Or.inl rfl)) pgs_nil))) (fun _ _ _ _ _ => pts_nil) (fun _ _ _ _ _ => (pe_ifExp (pt_cmpR opLt (pv 2) (pv 3) (nomark _)) pe_str (pe_ifExp (pt_cmpR opGt (pv 2) (pv 3) (nomark _)) pe_str pe_str))))))), fun x hx => ?_⟩
  obtain ⟨a, b, n⟩ := x
  obtain ⟨ha, hb, h8⟩ := hx
  have ha : a.length = n := ha
  have hb : b.length = n := hb
  have h8 : n ≤ 8 := h8
  have hl : (agR a b).length = n := (agR_ok ha hb).len
  refine ds_ret (Ev.dl (ev_join (x := Str.ofString "") (ys := (agR a b).map ch) ev_str (EvN.b ?_) ?_) ?_)
  · have e1 : ((agR a b).map ch).map D.str = (a.zip b).map fun p => D.str (ch (agC p.1 p.2)) := by
      unfold agR
      rw [List.map_map, List.map_map]; rfl
    rw [e1]
    refine evn_lc1 (xs := a.zip b) (c := fun p => .tup [.int (p.1 : Nat), .int (p.2 : Nat)]) (by rw [← zip_ord]; exact ei_zipT (ev_var rfl) (ev_var rfl)) (by rw [List.length_zip]; omega) fun p hp => ⟨[2] ++ [3], _, dg_tup2 dg_name dg_name, by decide, evt_yes, ev_cast (ag_ifJ p.1 p.2) (ev_if (evt_test (ev_op (ev_var rfl) (ev_var rfl) (dr2_l dr2_lt))) (fun _ => ev_str) fun _ => ev_if (evt_test (ev_op (ev_var rfl) (ev_var rfl) dr2_gt)) (fun _ => ev_str) fun _ => ev_str)⟩
  · rw [chs_len, List.length_map, hl]
    show n + n * 0 ≤ _
    omega
  · show D.str _ = D.str _
    rw [join_chs]

end K26

namespace K26
open PySem PySem.Spec PyProof.Rows L2 Dw
theorem d__law_rows_right {P : Program} {w : World} {K : PySem.W.Frag} {mg : Str → Option Value} {base : Heap} (T : Txt K w mg) : FnG P w K mg base 6 T.f__law_rows_right T.e__law_rows_right ["_law_mine", "_law_folk_here"] (spRowsR T.C_Case) := by
  refine fnG_ok T.F__law_rows_right sc__law_rows_right (fun _ => rfl) fun cdv A outer s' H E hr hG => ?_
  refine ⟨_, (pss_cons (ps_for PassesOwn.never rfl (piR K (pv 1)) (tupA K 2 rfl (pgs_cons (pg_name (i := 2) sc__law_rows_right.nd rfl (Or.inr rfl)) (pgs_cons (pg_name (i := 3) sc__law_rows_right.nd rfl (Or.inr rfl)) pgs_nil))) (pss_cons (ps_set (i := 4) sc__law_rows_right.nd rfl (Or.inl rfl) (pe_callTy (tupleA K) (by rfl) T.n_tuple (by decide +kernel) (pa_cons (pe_lc (own := [("_law_pair", 8)]) rfl sc__law_rows_right.nd (piR K (pv 1)) (blkOk_by (own := [("_law_pair", 8)]) (N := N__law_rows_right) (sc := (defScope s__law_rows_right)) (by decide +kernel)) (fun _ _ _ _ _ => pg_name (i := 8) sc__law_rows_right.nd rfl (Or.inl rfl)) (fun _ _ _ _ _ => pts_one (pt_cmpR (neA K hr.units) (pe_ix (ixA K) (pv 8) pe_int (fun _ _ => rfl)) (pv 2) (nomark _))) (fun _ _ _ _ _ => (pe_call (d__law_beside T) (hr.mono (by decide)) (by rfl) T.m__law_beside T.F__law_beside.kp T.b__law_beside .nil pass0 (pa_cons (pv 3) (pa_cons (pe_ix (ixA K) (pv 8) pe_int (fun _ _ => rfl)) pa_nil))))) pa_nil))) (pss_cons (ps_if (pt_cmpR (neA K hr.units) (pe_callB (reprA K hr hG) (by rfl) T.n_repr (by decide +kernel) (pa_cons (pe_lst (pa_cons (pe_call (d_told_by T) (hr.mono (by decide)) (by rfl) T.m_told_by T.F_told_by.kp T.b_told_by .nil pass0 (pa_cons (pv 0) (pa_cons (pv 2) pa_nil))) (pa_cons (pe_callK0 (d_told_by T) (hr.mono (by decide)) (by rfl) T.m_told_by T.F_told_by.kp T.k_told_by_one_case pass0 (pk_cons (pv 2) (pk_cons (pv 0) pk_nil))) pa_nil))) pa_nil)) (pe_callB (reprA K hr hG) (by rfl) T.n_repr (by decide +kernel) (pa_cons (pe_lst (pa_cons (pv 4) (pa_cons (pv 4) pa_nil))) pa_nil)) (nomark _)) (pss_one (ps_ret pe_bl)) pss_nil) (pss_one (ps_for PassesOwn.never rfl (piR K (pv 1)) (tupA K 2 rfl (pgs_cons (pg_name (i := 5) sc__law_rows_right.nd rfl (Or.inl rfl)) (pgs_cons (pg_name (i := 6) sc__law_rows_right.nd rfl (Or.inl rfl)) pgs_nil))) (pss_cons (ps_set (i := 7) sc__law_rows_right.nd rfl (Or.inl rfl) (pe_call (d__law_beside T) (hr.mono (by decide)) (by rfl) T.m__law_beside T.F__law_beside.kp T.b__law_beside .nil pass0 (pa_cons (pv 3) (pa_cons (pv 6) pa_nil)))) (pss_cons (ps_if (PW.pt (pw_and (pt_cmpR (neA K hr.units) (pv 5) (pv 2) (nomark _)) (pw_and1 (pt_cmpR (neA K hr.units) (pe_call (d_against T) (hr.mono (by decide)) (by rfl) T.m_against T.F_against.kp T.b_against .nil pass0 (pa_cons (pv 0) (pa_cons (pv 2) (pa_cons (pv 5) pa_nil)))) (pv 7) (nomark _))))) (pss_one (ps_ret pe_bl)) pss_nil) (pss_one (ps_if (PW.pt (pw_and (pt_cmpR (neA K hr.units) (pv 5) (pv 2) (nomark _)) (pw_and1 (pt_cmpR (neA K hr.units) (pe_callK0 (d_against T) (hr.mono (by decide)) (by rfl) T.m_against T.F_against.kp T.k_against_other_one_case pass0 (pk_cons (pv 5) (pk_cons (pv 2) (pk_cons (pv 0) pk_nil)))) (pv 7) (nomark _))))) (pss_one (ps_ret pe_bl)) pss_nil))))))))) (pss_one (ps_ret pe_bl))), fun x hx => ?_⟩
  obtain ⟨ls, ms, n⟩ := x
  have hc : CaseOk ls ms n := hx
  have h8 := hc.names.hi
  have n8 := hc.hi
  have sm := hc.same
  have pw := hc.names.pw
  have fm : folkD ls ms = (List.range ls.length).map fun k => pairDm (rowAt ls k, rowAt ms k) := folk_map sm
  have wd : ∀ k, k < ls.length → (rowAt ms k).length = n := fun k hk => hc.wide _ (rowAt_mem (by rw [sm]; exact hk))
  have getF : ∀ {i : Nat} {x : D}, (folkD ls ms)[i]? = some x → i < ls.length ∧ x = pairDm (rowAt ls i, rowAt ms i) := fun {i x} h => by
    have hi : i < ls.length := by
      have := (List.getElem?_eq_some_iff.mp h).1
      rw [folk_len sm] at this; exact this
    rw [fm, List.getElem?_map, List.getElem?_range hi] at h
    exact ⟨hi, (Option.some.inj h).symm⟩
  have nmE : ∀ i k, i < ls.length → k < ls.length → decide (tx (rowAt ls k) = tx (rowAt ls i)) = decide (k = i) := fun i k hi hk => dec_iffJ ⟨fun h => rowAt_inj pw hk hi (tx_eq.mp h), fun h => by rw [h]⟩
  refine ds_seq (ds_for (fun xs i Γ' => xs = folkD ls ms ∧ ∃ s2 s3 s4 s5 s6 s7 : Sl, Γ' = [.val (caseO T.C_Case ls ms), .val (.lst (folkD ls ms)), s2, s3, s4, s5, s6, s7, .unset]) (dj_list (Ev.dl (ev_var rfl) ⟨_, rfl, ⟨rfl, _, _, _, _, _, _, rfl⟩, fun i x Γ' hx' ⟨exs, s2, s3, s4, s5, s6, s7, e⟩ => ?_, fun Γ' ⟨exs, s2, s3, s4, s5, s6, s7, e⟩ => ?_⟩)))
  · subst e
    rw [exs] at hx'
    obtain ⟨hi, rfl⟩ := getF hx'
    refine ⟨[2] ++ [3], _, dg_tup2 dg_name dg_name, ?_⟩
    refine ds_seq (ds_asg (Ev.dl (ev_cast (d' := .tup (nameD (rwM ms i))) ?c1 (ev_tuple (EvN.b (evn_lc (xs := List.range ls.length) (c := fun k => pairDm (rowAt ls k, rowAt ms k)) (p := fun k => !decide (k = i)) (f := fun k => .str (tx (agR (rowAt ms i) (rowAt ms k)))) (fm ▸ ej_list (ev_var (d := .lst (folkD ls ms)) rfl).b) (by rw [List.length_range]; omega) fun k hk => ⟨[8], _, dg_name, by decide, evt_test (ev_cast (congrArg (fun b => D.bl (!b)) (nmE i k hi (List.mem_range.mp hk))) (ev_op (ev_ixT (d := .str (tx (rowAt ls k))) (ds := [.str (tx (rowAt ls k)), .tup (ordD (rowAt ms k))]) (ev_var (d := .tup [.str (tx (rowAt ls k)), .tup (ordD (rowAt ms k))]) rfl) ev_int (atI_nat (j := 0) rfl)) (ev_var rfl) ne_str')), fun _ => ev_call (s := spBetween) (x := (rowAt ms i, rowAt ms k, n)) (eva_cons (ev_var rfl) (eva_cons (ev_ixT (d := .tup (ordD (rowAt ms k))) (ds := [.str (tx (rowAt ls k)), .tup (ordD (rowAt ms k))]) (ev_var (d := .tup [.str (tx (rowAt ls k)), .tup (ordD (rowAt ms k))]) rfl) ev_int (atI_nat (j := 1) rfl)) eva_nil)) (np_to (np_to (r := []) rfl)) ⟨wd i hi, wd k (List.mem_range.mp hk), n8⟩ fun d h => h⟩)))) ?_))
    case c1 => unfold rwM idxM nameD; rw [List.map_map, sm]; rfl
    have rok := rwM_ok hc hi
    have rlen : (rwM ms i).length ≤ 8 := Nat.le_trans rw_len (by omega)
    have okR : rOk 2 (.lst [.tup (nameD (rwM ms i)), .tup (nameD (rwM ms i))]) = true := rk_l (rk_c (rk_t (rk_names fun r hr => okS_row (rok r hr) n8)) (rk_c (rk_t (rk_names fun r hr => okS_row (rok r hr) n8)) rk_n))
    have cR : cnt (.lst [.tup (nameD (rwM ms i)), .tup (nameD (rwM ms i))]) ≤ 5000 := by
      show (cnts (nameD (rwM ms i)) + 1) + ((cnts (nameD (rwM ms i)) + 1) + 0) + 1 ≤ 5000
      rw [cnt_names]; omega
    have npT : noPs [caseO T.C_Case ls ms, .str (tx (rowAt ls i))] = true := np_caseO (r := [_]) rfl
    refine ds_seq (ds_if (EvT.dl (b := false) (evt_test (ev_op (ev_repr2 (k := 2) (ds := [.tup (nameD (rwM ms i)), .tup (nameD (rwM ms i))]) (EvN.ev (evn_lst (eva_cons (ev_call (s := spRowsOf T.C_Case) (x := ((ls, ms, n), i)) (eva_cons (ev_var rfl) (eva_cons (ev_var rfl) eva_nil)) npT ⟨hc, hi⟩ fun d h => h) (eva_cons (ev_callK (s := spRowsOf T.C_Case) (d := .tup (nameD (rwM ms i))) (x := ((ls, ms, n), i)) eva_nil (eva_cons (ev_var rfl) (eva_cons (ev_var rfl) eva_nil)) (fun W vs zs h1 h2 => ?kw) npT ⟨hc, hi⟩ fun d h => h) eva_nil)) (small (show 2 ≤ 100000 by decide)))) okR (by decide) cR) (ev_repr2 (k := 2) (ds := [.tup (nameD (rwM ms i)), .tup (nameD (rwM ms i))]) (EvN.ev (evn_lst (eva_cons (ev_var rfl) (eva_cons (ev_var rfl) eva_nil)) (small (show 2 ≤ 100000 by decide)))) okR (by decide) cR) (ne_sb (b := false) (by rw [decide_eq_true rfl]; rfl)))) ⟨fun h => (nomatch h), fun _ => ds_next ?_⟩))
    case kw =>
      obtain rfl : vs = [] := h1
      obtain ⟨a, _, rfl, ra, b, _, rfl, rb, rfl⟩ := h2
      exact ⟨b, _, rfl, rb, a, _, rfl, ra, rfl⟩
    refine ds_for (fun xs k Γ' => xs = folkD ls ms ∧ ∃ s5 s6 s7 : Sl, Γ' = [.val (caseO T.C_Case ls ms), .val (.lst (folkD ls ms)), .val (.str (tx (rowAt ls i))), .val (.tup (ordD (rowAt ms i))), .val (.tup (nameD (rwM ms i))), s5, s6, s7, .unset]) (dj_list (Ev.dl (ev_var rfl) ⟨_, rfl, ⟨rfl, _, _, _, rfl⟩, fun k x Γ' hx2 ⟨exs2, s5, s6, s7, e⟩ => ?_, fun Γ' ⟨exs2, s5, s6, s7, e⟩ => ?_⟩))
    · subst e
      rw [exs2] at hx2
      obtain ⟨hk, rfl⟩ := getF hx2
      refine ⟨[5] ++ [6], _, dg_tup2 dg_name dg_name, ?_⟩
      refine ds_seq (ds_asg (Ev.dl (ev_call (s := spBetween) (x := (rowAt ms i, rowAt ms k, n)) (eva_cons (ev_var rfl) (eva_cons (ev_var rfl) eva_nil)) (np_to (np_to (r := []) rfl)) ⟨wd i hi, wd k hk, n8⟩ fun d h => h) ?_))
      show Ds _ [.val (caseO T.C_Case ls ms), .val (.lst (folkD ls ms)), .val (.str (tx (rowAt ls i))), .val (.tup (ordD (rowAt ms i))), .val (.tup (nameD (rwM ms i))), .val (.str (tx (rowAt ls k))), .val (.tup (ordD (rowAt ms k))), .val (.str (tx (agR (rowAt ms i) (rowAt ms k)))), .unset] _
      have npA : noPs [caseO T.C_Case ls ms, .str (tx (rowAt ls i)), .str (tx (rowAt ls k))] = true := np_caseO (r := [_, _]) rfl
      have ne1 : ∀ Γ : Gam, Γ[5]? = some (.val (.str (tx (rowAt ls k)))) → Γ[2]? = some (.val (.str (tx (rowAt ls i)))) → EvT (tTest (tOp (rNeX K) (tVar 5) (tVar 2))) Γ (!decide (k = i)) := fun Γ a b => evt_test (ev_cast (congrArg (fun b => D.bl (!b)) (nmE i k hi hk)) (ev_op (ev_var a) (ev_var b) ne_str'))
      have fls : (!decide (k = i) && false) = false := Bool.and_false _
      refine ds_seq (ds_if (EvT.dl (b := false) (evt_castB fls (evt_and (b := false) (ne1 _ rfl rfl) fun h => evt_test (ev_op (ev_call (s := spAgP T.C_Case) (x := ((ls, ms, n), i, k)) (eva_cons (ev_var rfl) (eva_cons (ev_var rfl) (eva_cons (ev_var rfl) eva_nil))) npA ⟨hc, hi, hk, fun z => by have z : i = k := z; rw [z] at h; simp at h⟩ fun d h => h) (ev_var rfl) (ne_sb (b := false) (by rw [decide_eq_true rfl]; rfl))))) ⟨fun h => (nomatch h), fun _ => ds_next ?_⟩))
      refine ds_if (EvT.dl (b := false) (evt_castB fls (evt_and (b := false) (ne1 _ rfl rfl) fun h => evt_test (ev_op (ev_callK (s := spAgP T.C_Case) (d := .str (tx (agR (rowAt ms i) (rowAt ms k)))) (x := ((ls, ms, n), i, k)) eva_nil (eva_cons (ev_var rfl) (eva_cons (ev_var rfl) (eva_cons (ev_var rfl) eva_nil))) (fun W vs zs h1 h2 => ?kw2) npA ⟨hc, hi, hk, fun z => by have z : i = k := z; rw [z] at h; simp at h⟩ fun d h => h) (ev_var rfl) (ne_sb (b := false) (by rw [decide_eq_true rfl]; rfl))))) ⟨fun h => (nomatch h), fun _ => ds_next ⟨exs2, _, _, _, rfl⟩⟩)
      case kw2 =>
        obtain rfl : vs = [] := h1
        obtain ⟨a, _, rfl, ra, b, _, rfl, rb, c, _, rfl, rc, rfl⟩ := h2
        exact ⟨c, _, rfl, rc, b, _, rfl, rb, a, _, rfl, ra, rfl⟩
    · subst e
      exact ⟨exs, _, _, _, _, _, _, rfl⟩
  · subst e
    exact ds_ret (Ev.dl ev_bl rfl)
end K26

namespace K26
open PySem PySem.Spec PyProof.Rows L2 Dw
theorem everP {ls ms : List (List Nat)} {n : Nat} {ev : List (List Nat)} (hc : CaseOk ls ms n) (h : ∀ l, l ∈ ev ↔ ∃ o ∈ ordersM n n, l ∈ winM ls ms o) {i : Nat} (hi : i < ls.length) : decide (rowAt ls i ∈ ev) = decide (Still (rwM ms i) n = []) := by
  have sm := hc.same
  have rok := rwM_ok hc hi
  have hs : SgnOk (rwM ms i) n := sgnOk rok
  refine dec_iffJ ⟨fun hm => ?_, fun he => ?_⟩
  · obtain ⟨o, ho, hw⟩ := (h _).mp hm
    obtain ⟨k, hk, e⟩ := List.mem_map.mp hw
    obtain ⟨hk1, hk2⟩ := List.mem_filter.mp hk
    have hk1 : k < ls.length := by rw [← sm]; exact List.mem_range.mp hk1
    obtain rfl := rowAt_inj hc.names.pw hk1 hi e
    refine Classical.byContradiction fun hne => ?_
    have := fitters_none hs hne
    have hf : o ∈ fittersM (rwM ms k) n := List.mem_filter.mpr ⟨ho, hk2⟩
    rw [this] at hf; cases hf
  · have hf := fitters_some hs he
    obtain ⟨h1, h2⟩ := List.mem_filter.mp hf
    exact (h _).mpr ⟨_, h1, List.mem_map.mpr ⟨i, List.mem_filter.mpr ⟨List.mem_range.mpr (by rw [sm]; exact hi), h2⟩, rfl⟩⟩
theorem win_few {ms : List (List Nat)} {o : List Nat} : (winI ms o).length ≤ ms.length := by
  unfold winI
  refine Nat.le_trans (List.length_filter_le _ _) ?_
  rw [List.length_range]; exact Nat.le_refl _
theorem win_lt {ms : List (List Nat)} {o : List Nat} {i : Nat} (h : i ∈ winI ms o) : i < ms.length ∧ ∀ r ∈ rwM ms i, holdsB r o = true := by
  obtain ⟨h1, h2⟩ := List.mem_filter.mp h
  exact ⟨List.mem_range.mp h1, List.all_eq_true.mp h2⟩
end K26

namespace K26
open PySem PySem.Spec PyProof.Rows L2 Dw
theorem d__law_right {P : Program} {w : World} {K : PySem.W.Frag} {mg : Str → Option Value} {base : Heap} (T : Txt K w mg) : FnG P w K mg base 7 T.f__law_right T.e__law_right ["_law_jar"] (spRightJ) := by
  refine fnG_ok T.F__law_right sc__law_right (fun _ => rfl) fun cdv A outer s' H E hr hG => ?_
  refine ⟨_, (pss_cons (ps_for PassesOwn.never rfl (pi_range1 (by rfl) T.n_range (pa_cons pe_int pa_nil)) (pg_name (i := 1) sc__law_right.nd rfl (Or.inl rfl)) (pss_cons (ps_set (i := 2) sc__law_right.nd rfl (Or.inl rfl) (pe_op (plusE K) pe_int (pe_call (d__law_dip T) (hr.mono (by decide)) (by rfl) T.m__law_dip T.F__law_dip.kp T.b__law_dip .nil pass0 (pa_cons (pv 0) (pa_cons pe_int pa_nil))))) (pss_cons (ps_set (i := 3) sc__law_right.nd rfl (Or.inl rfl) (pe_call (d__law_folk T) (hr.mono (by decide)) (by rfl) T.m__law_folk T.F__law_folk.kp T.b__law_folk .nil pass0 (pa_cons (pv 0) (pa_cons (pv 2) (pa_cons pe_int (pa_cons pe_int pa_nil)))))) (pss_cons (ps_asg (pe_tup (pa_cons (pe_make T.mk_Case (d_Case___init__ T) (hr.mono (by decide)) (by rfl) T.m_Case T.b_Case___init__ .nil pass0 (pa_cons (pe_call (d__law_case_page T) (hr.mono (by decide)) (by rfl) T.m__law_case_page T.F__law_case_page.kp T.b__law_case_page .nil pass0 (pa_cons (pv 3) pa_nil)) pa_nil)) (pa_cons (pe_lst pa_nil) pa_nil))) (tupA K 2 rfl (pgs_cons (pg_name (i := 4) sc__law_right.nd rfl (Or.inr rfl)) (pgs_cons (pg_name (i := 5) sc__law_right.nd rfl (Or.inr rfl)) pgs_nil)))) (pss_cons (ps_if (pt_not (truA K (pe_callG (E := E0) (d__law_rows_right T) (hr.mono (by decide)) hG (by rfl) T.m__law_rows_right T.F__law_rows_right.kp T.b__law_rows_right (pa_cons (pv 4) (pa_cons (pv 3) pa_nil))))) (pss_one (ps_ret pe_bl)) pss_nil) (pss_cons (ps_for PassesOwn.never rfl (piR K (pe_call (d__law_orders T) (hr.mono (by decide)) (by rfl) T.m__law_orders T.F__law_orders.kp T.b__law_orders .nil pass0 (pa_cons (pv 2) pa_nil))) (pg_name (i := 6) sc__law_right.nd rfl (Or.inr rfl)) (pss_cons (ps_set (i := 7) sc__law_right.nd rfl (Or.inl rfl) (pe_call (d__law_best T) (hr.mono (by decide)) (by rfl) T.m__law_best T.F__law_best.kp T.b__law_best .nil pass0 (pa_cons (pv 3) (pa_cons (pv 6) pa_nil)))) (pss_cons (ps_if (pt_cmpR (neA K hr.units) (pe_callB (reprA K hr hG) (by rfl) T.n_repr (by decide +kernel) (pa_cons (pe_call (d_winners T) (hr.mono (by decide)) (by rfl) T.m_winners T.F_winners.kp T.b_winners .nil pass0 (pa_cons (pv 4) (pa_cons (pv 6) pa_nil))) pa_nil)) (pe_callB (reprA K hr hG) (by rfl) T.n_repr (by decide +kernel) (pa_cons (pv 7) pa_nil)) (nomark _)) (pss_one (ps_ret pe_bl)) pss_nil) (pss_cons (ps_set (i := 5) sc__law_right.nd rfl (Or.inr rfl) (pe_op (plusE K) (pv 5) (pe_lc (own := [("_law_tag", 8)]) rfl sc__law_right.nd (piR K (pv 7)) (blkOk_by (own := [("_law_tag", 8)]) (N := N__law_right) (sc := (defScope s__law_right)) (by decide +kernel)) (fun _ _ _ _ _ => pg_name (i := 8) sc__law_right.nd rfl (Or.inl rfl)) (fun _ _ _ _ _ => pts_one (pt_cmpR (ninA K) (pv 8) (pv 5) (by rfl))) (fun _ _ _ _ _ => (pv 8))))) (pss_one (ps_if (pt_cmpR (neL0A K hr.units) (pe_lc (own := [("_law_tag", 8)]) rfl sc__law_right.nd (piR K (pv 7)) (blkOk_by (own := [("_law_tag", 8)]) (N := N__law_right) (sc := (defScope s__law_right)) (by decide +kernel)) (fun _ _ _ _ _ => pg_name (i := 8) sc__law_right.nd rfl (Or.inl rfl)) (fun _ _ _ _ _ => pts_one (pt_cmpR (neL0A K hr.units) (pe_lc (own := [("_law_row", 10)]) rfl sc__law_right.nd (piR K (pe_call (d_told_by T) (hr.mono (by decide)) (by rfl) T.m_told_by T.F_told_by.kp T.b_told_by .nil pass0 (pa_cons (pv 4) (pa_cons (pv 8) pa_nil)))) (blkOk_by (own := [("_law_row", 10)]) (N := N__law_right) (sc := (relS { kind := .function, names := [(".0", .local), ("_law_tag", .local), ("told_by", .globalImplicit), ("_law_mine", .free), ("_law_order", .free)], isGenerator := false, isCoroutine := false, more := [] } (defScope s__law_right))) (by decide +kernel)) (fun _ _ _ _ _ => pg_name (i := 10) sc__law_right.nd rfl (Or.inl rfl)) (fun _ _ _ _ _ => pts_one (pt_not (truA K (pe_call (d__law_holds T) (hr.mono (by decide)) (by rfl) T.m__law_holds T.F__law_holds.kp T.b__law_holds .nil pass0 (pa_cons (pv 10) (pa_cons (pv 6) pa_nil)))))) (fun _ _ _ _ _ => (pv 10))) (pe_lst pa_nil) (nomark _))) (fun _ _ _ _ _ => (pv 8))) (pe_lst pa_nil) (nomark _)) (pss_one (ps_ret pe_bl)) pss_nil)))))) (pss_cons (ps_if (pt_cmpR (neA K hr.units) (pe_callB (reprA K hr hG) (by rfl) T.n_repr (by decide +kernel) (pa_cons (pe_callK0 (d_winners T) (hr.mono (by decide)) (by rfl) T.m_winners T.F_winners.kp T.k_winners_ranking_case pass0 (pk_cons (pv 6) (pk_cons (pv 4) pk_nil))) pa_nil)) (pe_callB (reprA K hr hG) (by rfl) T.n_repr (by decide +kernel) (pa_cons (pv 7) pa_nil)) (nomark _)) (pss_one (ps_ret pe_bl)) pss_nil) (pss_cons (ps_set (i := 7) sc__law_right.nd rfl (Or.inl rfl) (pe_callTy (tupleA K) (by rfl) T.n_tuple (by decide +kernel) (pa_cons (pe_lc (own := [("_law_tag", 8), ("_law_marks", 9)]) rfl sc__law_right.nd (piR K (pv 3)) (blkOk_by (own := [("_law_tag", 8), ("_law_marks", 9)]) (N := N__law_right) (sc := (defScope s__law_right)) (by decide +kernel)) (fun _ _ _ _ _ => tupA K 2 rfl (pgs_cons (pg_name (i := 8) sc__law_right.nd rfl (Or.inl rfl)) (pgs_cons (pg_name (i := 9) sc__law_right.nd rfl (Or.inl rfl)) pgs_nil))) (fun _ _ _ _ _ => pts_one (pt_cmpR (ninA K) (pv 8) (pv 5) (by rfl))) (fun _ _ _ _ _ => (pv 8))) pa_nil))) (pss_one (ps_if (pt_cmpR (neA K hr.units) (pe_callB (reprA K hr hG) (by rfl) T.n_repr (by decide +kernel) (pa_cons (pe_lst (pa_cons (pe_call (d_barred T) (hr.mono (by decide)) (by rfl) T.m_barred T.F_barred.kp T.b_barred .nil pass0 (pa_cons (pv 4) pa_nil)) (pa_cons (pe_callK0 (d_barred T) (hr.mono (by decide)) (by rfl) T.m_barred T.F_barred.kp T.k_barred_case pass0 (pk_cons (pv 4) pk_nil)) pa_nil))) pa_nil)) (pe_callB (reprA K hr hG) (by rfl) T.n_repr (by decide +kernel) (pa_cons (pe_lst (pa_cons (pv 7) (pa_cons (pv 7) pa_nil))) pa_nil)) (nomark _)) (pss_one (ps_ret pe_bl)) pss_nil)))))))))) (pss_one (ps_ret pe_bl))), fun x hx => ?_⟩
  refine ds_seq (ds_for (fun xs t Γ' => ∃ s1 s2 s3 s4 s5 s6 s7 : Sl, Γ' = [.val .purse, s1, s2, s3, s4, s5, s6, s7, .unset, .unset, .unset]) (di_range (dla_cons (Ev.dl ev_int (dla_nil ⟨(3 : Nat), rfl, by decide, ⟨_, _, _, _, _, _, _, rfl⟩, fun t x Γ' hx' ⟨s1, s2, s3, s4, s5, s6, s7, e⟩ => ?_, fun Γ' ⟨s1, s2, s3, s4, s5, s6, s7, e⟩ => ?_⟩)))))
  · subst e
    obtain ⟨ht, rfl⟩ := rng_get hx'
    refine ⟨[1], _, dg_name, ds_seq (ds_asg (dl_op (Ev.dl ev_int (dl_call (s := spDraw) (dla_cons (Ev.dl (ev_var rfl) (dla_cons (Ev.dl ev_int (dla_nil ⟨(5 : Nat), rfl, ⟨by decide, by decide⟩, fun d hd => ?_⟩)))))))))⟩
    obtain ⟨q, hq, rfl⟩ := hd
    have hq : q < 5 := hq
    refine ⟨.int ((1 + q : Nat) : Int), ?pl, ?_⟩
    case pl =>
      have e := pl_int (K := K) (i := 1) (j := (q : Int))
      rw [show (1 : Int) + (q : Int) = ((1 + q : Nat) : Int) by omega] at e
      exact e
    generalize hn : 1 + q = n
    have n1 : 1 ≤ n := by omega
    have n5 : n ≤ 5 := by omega
    refine ds_seq (ds_asg (dl_call (s := spFolk) (dla_cons (Ev.dl (ev_var rfl) (dla_cons (Ev.dl (ev_var rfl) (dla_cons (Ev.dl ev_int (dla_cons (Ev.dl ev_int (dla_nil ⟨(n, 2, 6), rfl, ⟨n1, (by show n ≤ 8; omega), (show 2 ≤ 2 by decide), (show 2 ≤ 6 by decide), (show 6 ≤ 8 by decide)⟩, fun d hd => ?_⟩)))))))))))
    obtain ⟨ls, ms, rfl, hc, m2, m6⟩ := hd
    have hc : CaseOk ls ms n := hc
    have m6 : ls.length ≤ 6 := m6
    have sm := hc.same
    have npP : noPs [.lst (folkD ls ms)] = true := np_folk
    refine ds_seq (ds_asg_g (dl_tup (dla_cons (dl_make (s := spCInit) (dla_cons (Ev.dl (ev_call (s := spPage) (x := (ls, ms, n)) (eva_cons (ev_var rfl) eva_nil) npP hc fun d h => h) (dla_nil ⟨(ls, ms, n), rfl, hc, fun es hes => ?_⟩)))))))
    injection hes with hes
    subst hes
    refine dla_cons (Ev.dl (EvN.ev (evn_lst eva_nil (Nat.zero_le _))) (dla_nil ⟨small (show 2 ≤ 100000 by decide), [4] ++ [5], _, dg_tup2 dg_name dg_name, ?_⟩))
    show Ds _ [.val .purse, .val (.int (t : Int)), .val (.int (n : Int)), .val (.lst (folkD ls ms)), .val (caseO T.C_Case ls ms), .val (.lst (nameD [])), s6, s7, .unset, .unset, .unset] _
    have npC : ∀ {r : List D}, noPs r = true → noPs (caseO T.C_Case ls ms :: r) = true := np_caseO
    refine ds_seq (ds_if (EvT.dl (b := false) (evt_not (a := true) (evt_tru_bl (ev_call (s := spRowsR T.C_Case) (d := .bl true) (x := (ls, ms, n)) (eva_cons (ev_var rfl) (eva_cons (ev_var rfl) eva_nil)) (npC npP) hc fun d h => h))) ⟨fun h => (nomatch h), fun _ => ds_next ?_⟩))
    have nok : ∀ l ∈ ls, NameOk l := hc.names.all
    have wok : ∀ o, ∀ l ∈ winM ls ms o, NameOk l := fun o l hl => by
      obtain ⟨i, hi, rfl⟩ := List.mem_map.mp hl
      exact nok _ (rowAt_mem (by rw [← sm]; exact (win_lt hi).1))
    have wl : ∀ o, (winM ls ms o).length ≤ 6 := fun o => by
      unfold winM
      rw [List.length_map]
      have := win_few (ms := ms) (o := o)
      omega
    have okW : ∀ o, rOk 1 (.tup (nameD (winM ls ms o))) = true := fun o => rk_t (rk_names fun l hl => okS_nm (wok o l hl))
    have cW : ∀ o, cnt (.tup (nameD (winM ls ms o))) ≤ 5000 := fun o => by
      show cnts (nameD (winM ls ms o)) + 1 ≤ 5000
      rw [cnt_names]
      have := wl o
      omega
    have npW : ∀ o : List Nat, noPs [caseO T.C_Case ls ms, .tup (ordD o)] = true := fun o => npC (np_to (r := []) rfl)
    have om : ∀ o ∈ ordersM n n, o.Perm (List.range n) := fun o ho => by
      have := ordersM_ok n n o ho
      exact perm_iff.mpr ⟨this.len, this.nd, this.lt⟩
    have ol : (ordersM n n).length ≤ 3125 := Nat.le_trans (ordersM_len n n) (pow5' n5 n5)
    refine ds_seq (ds_for (fun xs j Γ' => xs = ordT (ordersM n n) ∧ ∃ (ev : List (List Nat)) (s6 s7 : Sl), Γ' = [.val .purse, .val (.int (t : Int)), .val (.int (n : Int)), .val (.lst (folkD ls ms)), .val (caseO T.C_Case ls ms), .val (.lst (nameD ev)), s6, s7, .unset, .unset, .unset] ∧ ev.length ≤ 6 * j ∧ (∀ l, l ∈ ev ↔ ∃ o ∈ (ordersM n n).take j, l ∈ winM ls ms o) ∧ (0 < j → ∃ o ∈ ordersM n n, s6 = .val (.tup (ordD o)) ∧ s7 = .val (.tup (nameD (winM ls ms o))))) (dj_list (Ev.dl (ev_call (s := spOrders) (d := .lst (ordT (ordersM n n))) (x := n) (eva_cons (ev_var rfl) eva_nil) rfl n5 fun d h => h) ⟨_, rfl, ⟨rfl, [], _, _, rfl, Nat.zero_le _, fun l => ⟨fun h => (nomatch h), fun ⟨o, ho, _⟩ => (by simp at ho)⟩, fun h => absurd h (by decide)⟩, fun j x Γ' hx2 ⟨exs, ev, s6, s7, e, hel, hev, _⟩ => ?_, fun Γ' ⟨exs, ev, s6, s7, e, hel, hev, hlast⟩ => ?_⟩)))
    · subst e
      have hx3 : ((ordersM n n).map fun o => D.tup (ordD o))[j]? = some x := by rw [exs] at hx2; exact hx2
      rw [List.getElem?_map] at hx3
      cases q2 : (ordersM n n)[j]? with
      | none => rw [q2] at hx3; cases hx3
      | some o =>
        rw [q2] at hx3; cases hx3
        have hom := List.mem_of_getElem? q2
        have ho := om o hom
        have hj : j < (ordersM n n).length := (List.getElem?_eq_some_iff.mp q2).1
        refine ⟨[6], _, dg_name, ds_seq (ds_asg (Ev.dl (ev_call (s := spBest) (x := ((ls, ms, n), o)) (eva_cons (ev_var rfl) (eva_cons (ev_var rfl) eva_nil)) (np_folk (np_to (r := []) rfl)) ⟨hc, ho⟩ fun d h => h) ?_))⟩
        refine ds_seq (ds_if (EvT.dl (b := false) (evt_test (ev_op (ev_repr2T (k := 1) (ds := nameD (winM ls ms o)) (ev_call (s := spWinn T.C_Case) (x := ((ls, ms, n), o)) (eva_cons (ev_var rfl) (eva_cons (ev_var rfl) eva_nil)) (npW o) ⟨hc, ho⟩ fun d h => h) (okW o) (by decide) (cW o)) (ev_repr2T (k := 1) (ds := nameD (winM ls ms o)) (ev_var rfl) (okW o) (by decide) (cW o)) (ne_sb (b := false) (by rw [decide_eq_true rfl]; rfl)))) ⟨fun h => (nomatch h), fun _ => ds_next ?_⟩))
        have few := wl o
        refine ds_seq (ds_asg (Ev.dl (ev_cast (d' := .lst (nameD (ev ++ (winM ls ms o).filter fun l => !decide (l ∈ ev)))) ?cE (EvN.ev (pl_evn (ds := nameD ev) (ev_var rfl).b (EvN.b (evn_lc (xs := winM ls ms o) (c := fun l => .str (tx l)) (p := fun l => !decide (l ∈ ev)) (f := fun l => .str (tx l)) (ej_tup (ev_var (d := .tup (nameD (winM ls ms o))) rfl)) (by omega) fun l hl => ⟨[8], _, dg_name, by decide, evt_test (ev_cast (congrArg (fun b => D.bl (!b)) (inV_name l ev)) (ev_in (neg := true) (ev_var (d := .str (tx l)) rfl) (ev_var (d := .lst (nameD ev)) rfl).b rfl (sc_names ev))), fun _ => ev_var rfl⟩)) ?hE))) ?_))
        case cE => unfold nameD; rw [List.map_append]
        case hE =>
          rw [nameD_len, List.length_map]
          have := List.length_filter_le (fun l => !decide (l ∈ ev)) (winM ls ms o)
          exact small (by omega)
        have none : (([] : List D).isEmpty) = true := rfl
        refine ds_if (EvT.dl (b := false) (evt_test (ev_op (x := .lst []) (y := .lst []) (ev_cast (d' := .lst []) ?cN (EvN.ev (evn_lc (xs := winI ms o) (c := fun i => .str (tx (rowAt ls i))) (p := fun _ => false) (f := fun i => .str (tx (rowAt ls i))) ?itN (by have := win_few (ms := ms) (o := o); omega) fun i hi => ⟨[8], _, dg_name, by decide, ?tsN, fun _ => ev_var rfl⟩))) (evn_lst eva_nil (Nat.zero_le _)).ev ne_L0)) ⟨fun h => (nomatch h), fun _ => ds_next ⟨exs, _, _, _, rfl, ?g1, ?g2, fun _ => ⟨o, hom, rfl, rfl⟩⟩⟩)
        case cN => rw [List.filter_eq_nil_iff.mpr (fun _ _ => Bool.false_ne_true)]; rfl
        case itN =>
          rw [← show nameD (winM ls ms o) = (winI ms o).map fun i => D.str (tx (rowAt ls i)) by unfold winM nameD; rw [List.map_map]; rfl]
          exact ej_tup (ev_var rfl)
        case tsN =>
          obtain ⟨hil, hall⟩ := win_lt hi
          have hil2 : i < ls.length := by omega
          have rlen : (rwM ms i).length ≤ 8 := Nat.le_trans rw_len (by omega)
          exact evt_test (ev_op (x := .lst []) (y := .lst []) (ev_cast (d' := .lst []) (by rw [List.filter_eq_nil_iff.mpr (fun r hr => by rw [hall r hr]; exact Bool.false_ne_true)]; rfl) (EvN.ev (evn_lc (xs := rwM ms i) (c := fun r => .str (tx r)) (p := fun r => !holdsB r o) (f := fun r => .str (tx r)) (ej_tup (ev_call (s := spRowsOf T.C_Case) (d := .tup (nameD (rwM ms i))) (x := ((ls, ms, n), i)) (eva_cons (ev_var rfl) (eva_cons (ev_var rfl) eva_nil)) (npC (r := [_]) rfl) ⟨hc, hil2⟩ fun d h => h)) (by omega) fun r hr => ⟨[10], _, dg_name, by decide, evt_not (evt_tru_bl (ev_call (s := spHas) (x := (r, o)) (eva_cons (ev_var rfl) (eva_cons (ev_var rfl) eva_nil)) (np_to (r := []) rfl) ⟨n, rwM_ok hc hil2 r hr, (by omega), fun k hk => List.mem_range.mp (ho.subset hk)⟩ fun d h => h)), fun _ => ev_var rfl⟩))) (evn_lst eva_nil (Nat.zero_le _)).ev ne_L0)
        case g1 =>
          rw [List.length_append]
          have := List.length_filter_le (fun l => !decide (l ∈ ev)) (winM ls ms o)
          omega
        case g2 =>
          intro l
          have tk : (ordersM n n).take (j + 1) = (ordersM n n).take j ++ [o] := by rw [List.take_add_one, q2]; rfl
          rw [List.mem_append, hev l, tk]
          constructor
          · rintro (⟨p, hp, hl⟩ | hl)
            · exact ⟨p, List.mem_append_left _ hp, hl⟩
            · exact ⟨o, List.mem_append_right _ (List.mem_singleton.mpr rfl), (List.mem_filter.mp hl).1⟩
          · rintro ⟨p, hp, hl⟩
            rcases List.mem_append.mp hp with hp | hp
            · exact .inl ⟨p, hp, hl⟩
            · rw [List.mem_singleton.mp hp] at hl
              by_cases h : ∃ o ∈ (ordersM n n).take j, l ∈ winM ls ms o
              · exact .inl h
              · exact .inr (List.mem_filter.mpr ⟨hl, by rw [decide_eq_false (fun z => h ((hev l).mp z))]; rfl⟩)
    · subst e
      have xl : (ordT (ordersM n n)).length = (ordersM n n).length := ordT_len _
      rw [exs] at hev hlast hel
      rw [xl] at hev hlast hel
      rw [List.take_length] at hev
      have pos : 0 < (ordersM n n).length := by
        have : List.range n ∈ ordersM n n := by rw [orders_all]; exact (allM_mem n n _).mpr (perm_iff.mp (.refl _))
        exact List.length_pos_of_mem this
      obtain ⟨o, hom, rfl, rfl⟩ := hlast pos
      have ho := om o hom
      refine ds_seq (ds_if (EvT.dl (b := false) (evt_test (ev_op (ev_repr2T (k := 1) (ds := nameD (winM ls ms o)) (ev_callK (s := spWinn T.C_Case) (d := .tup (nameD (winM ls ms o))) (x := ((ls, ms, n), o)) eva_nil (eva_cons (ev_var rfl) (eva_cons (ev_var rfl) eva_nil)) (fun W vs zs h1 h2 => ?kw) (npW o) ⟨hc, ho⟩ fun d h => h) (okW o) (by decide) (cW o)) (ev_repr2T (k := 1) (ds := nameD (winM ls ms o)) (ev_var rfl) (okW o) (by decide) (cW o)) (ne_sb (b := false) (by rw [decide_eq_true rfl]; rfl)))) ⟨fun h => (nomatch h), fun _ => ds_next ?_⟩))
      case kw =>
        obtain rfl : vs = [] := h1
        obtain ⟨a, _, rfl, ra, b, _, rfl, rb, rfl⟩ := h2
        exact ⟨b, _, rfl, rb, a, _, rfl, ra, rfl⟩
      have fm : folkD ls ms = (List.range ls.length).map fun k => pairDm (rowAt ls k, rowAt ms k) := folk_map sm
      refine ds_seq (ds_asg (Ev.dl (ev_cast (d' := .tup (nameD ((barI ms n).map (rowAt ls)))) ?cB (ev_tuple (EvN.b (evn_lc (xs := List.range ls.length) (c := fun k => pairDm (rowAt ls k, rowAt ms k)) (p := fun i => !decide (Still (rwM ms i) n = [])) (f := fun k => .str (tx (rowAt ls k))) (fm ▸ ej_list (ev_var (d := .lst (folkD ls ms)) rfl).b) (by rw [List.length_range]; omega) fun i hi => ⟨[8] ++ [9], _, dg_tup2 dg_name dg_name, by decide, evt_test (ev_cast (congrArg (fun b => D.bl (!b)) ((inV_name (rowAt ls i) ev).trans (everP hc hev (List.mem_range.mp hi)))) (ev_in (neg := true) (ev_var (d := .str (tx (rowAt ls i))) rfl) (ev_var (d := .lst (nameD ev)) rfl).b rfl (sc_names ev))), fun _ => ev_var rfl⟩)))) ?_))
      case cB => unfold barI nameD; rw [List.map_map, sm]; rfl
      have blen : ((barI ms n).map (rowAt ls)).length ≤ 6 := by
        unfold barI
        rw [List.length_map]
        refine Nat.le_trans (List.length_filter_le _ _) ?_
        rw [List.length_range]; omega
      have bok : ∀ l ∈ (barI ms n).map (rowAt ls), NameOk l := fun l hl => by
        obtain ⟨i, hi, rfl⟩ := List.mem_map.mp hl
        exact nok _ (rowAt_mem (by rw [← sm]; exact List.mem_range.mp (List.mem_filter.mp hi).1))
      generalize hB : (barI ms n).map (rowAt ls) = B at blen bok
      have okB : rOk 2 (.lst [.tup (nameD B), .tup (nameD B)]) = true := rk_l (rk_c (rk_t (rk_names fun l hl => okS_nm (bok l hl))) (rk_c (rk_t (rk_names fun l hl => okS_nm (bok l hl))) rk_n))
      have cB2 : cnt (.lst [.tup (nameD B), .tup (nameD B)]) ≤ 5000 := by
        show (cnts (nameD B) + 1) + ((cnts (nameD B) + 1) + 0) + 1 ≤ 5000
        rw [cnt_names]; omega
      refine ds_if (EvT.dl (b := false) (evt_test (ev_op (ev_repr2 (k := 2) (ds := [.tup (nameD B), .tup (nameD B)]) (EvN.ev (evn_lst (eva_cons (ev_call (s := spBarred T.C_Case) (d := .tup (nameD B)) (x := (ls, ms, n)) (eva_cons (ev_var rfl) eva_nil) (npC (r := []) rfl) hc fun d h => h.trans (by rw [← hB])) (eva_cons (ev_callK (s := spBarred T.C_Case) (d := .tup (nameD B)) (x := (ls, ms, n)) eva_nil (eva_cons (ev_var rfl) eva_nil) (fun W vs zs h1 h2 => ?kw3) (npC (r := []) rfl) hc fun d h => h.trans (by rw [← hB])) eva_nil)) (small (show 2 ≤ 100000 by decide)))) okB (by decide) cB2) (ev_repr2 (k := 2) (ds := [.tup (nameD B), .tup (nameD B)]) (EvN.ev (evn_lst (eva_cons (ev_var rfl) (eva_cons (ev_var rfl) eva_nil)) (small (show 2 ≤ 100000 by decide)))) okB (by decide) cB2) (ne_sb (b := false) (by rw [decide_eq_true rfl]; rfl)))) ⟨fun h => (nomatch h), fun _ => ds_next ⟨_, _, _, _, _, _, _, rfl⟩⟩)
      case kw3 =>
        obtain rfl : vs = [] := h1
        obtain ⟨a, _, rfl, ra, rfl⟩ := h2
        exact ⟨a, _, rfl, ra, rfl⟩
  · subst e
    exact ds_ret (Ev.dl ev_bl rfl)

end K26

namespace K26
open PySem PySem.Spec PyProof.Rows L2 Dw
def spLaw (K : PySem.W.Frag) : Spc where
  ty := List Int
  args := fun ns => [.scr K (ns.map V.int)]
  ok := fun ns => ns.length ≤ 63 ∧ ∀ z ∈ ns, Builtin.Int.intBits z ≤ 1048576
  rel := fun _ d => d = .bl true
end K26

namespace K26
open PySem PySem.Spec PyProof.Rows L2 Dw
theorem d_law {P : Program} {w : World} {K : PySem.W.Frag} {mg : Str → Option Value} {base : Heap} (T : Txt K w mg) : FnG P w K mg base 8 T.f_law T.e_law ["_law_cells"] (spLaw K) := by
  refine fnG_ok T.F_law sc_law (fun _ => rfl) fun cdv A outer s' H E hr hG => ?_
  refine ⟨_, (pss_one (ps_ret (pe_cmpR (eqA K hr.units) (pe_lc (own := [("_law_k", 1)]) rfl sc_law.nd (pi_range1 (by rfl) T.n_range (pa_cons (pe_callB (call_max2 rfl) (by rfl) T.n_max (by decide +kernel) (pa_cons pe_int (pa_cons (pe_callB (call_min2 rfl) (by rfl) T.n_min (by decide +kernel) (pa_cons (pe_callB (lenA K) (by rfl) T.n_len (by decide +kernel) (pa_cons (pv 0) pa_nil)) (pa_cons pe_int pa_nil))) pa_nil))) pa_nil)) (blkOk_by (own := [("_law_k", 1)]) (N := N_law) (sc := (defScope s_law)) (by decide +kernel)) (fun _ _ _ _ _ => pg_name (i := 1) sc_law.nd rfl (Or.inl rfl)) (fun _ _ _ _ _ => pts_one (pt_not (truA K (pe_callG (E := E0) (d__law_right T) (hr.mono (by decide)) hG (by rfl) T.m__law_right T.F__law_right.kp T.b__law_right (pa_cons (pe_call (d__law_well T) (hr.mono (by decide)) (by rfl) T.m__law_well T.F__law_well.kp T.b__law_well .nil pass0 (pa_cons (pe_call (d__law_cell T) (hr.mono (by decide)) (by rfl) T.m__law_cell T.F__law_cell.kp T.b__law_cell .nil pass0 (pa_cons (pv 0) (pa_cons (pv 1) pa_nil))) pa_nil)) pa_nil))))) (fun _ _ _ _ _ => (pv 1))) (pe_lst pa_nil) (nomark _)))), fun x hx => ?_⟩
  obtain ⟨ns, rfl⟩ : ∃ l : List Int, l = x := ⟨x, rfl⟩
  obtain ⟨hn, hbit⟩ := hx
  have hn : ns.length ≤ 63 := hn
  have l0 : (ns.map V.int).length = ns.length := List.length_map ..
  have em : ∃ m : Nat, m ≤ 63 ∧ (if (if (5 : Int) < ((ns.map V.int).length : Int) then (5 : Int) else ((ns.map V.int).length : Int)) > 2 then (if (5 : Int) < ((ns.map V.int).length : Int) then (5 : Int) else ((ns.map V.int).length : Int)) else 2) = (m : Int) := by
    rw [l0]
    by_cases h : (5 : Int) < (ns.length : Int)
    · rw [if_pos h, if_pos (by decide)]; exact ⟨5, by decide, rfl⟩
    · rw [if_neg h]
      by_cases h2 : (ns.length : Int) > 2
      · rw [if_pos h2]; exact ⟨ns.length, by omega, rfl⟩
      · rw [if_neg h2]; exact ⟨2, by decide, rfl⟩
  obtain ⟨m, hm, em⟩ := em
  refine ds_ret (dl_op (dl_lc (di_range (dla_cons (Ev.dl (ev_max2 ev_int (ev_min2 (ev_lenX (ev_var rfl)) ev_int)) (dla_nil ⟨m, ?_, by omega, by rw [rng_length]; omega, fun i acc Γ' => Γ' = [.val (.scr K (ns.map V.int)), .unset] ∧ acc = [], ⟨rfl, rfl⟩, fun i x acc Γ' hx' ⟨e, ea⟩ => ?_, fun acc Γ' ⟨e, ea⟩ => ?_⟩))))))
  · rw [em]
  · subst e
    subst ea
    obtain ⟨hi, rfl⟩ := rng_get hx'
    exact ⟨[1], _, dg_name, fun i hi => hi, dlt_not (dlt_tru_bl (dl_wellD (s := spRightJ) (x := ()) rfl trivial (fun d h => h) (dl_call (s := spCell K) (dla_cons (Ev.dl (ev_var rfl) (dla_cons (Ev.dl (ev_var rfl) (dla_nil ⟨(ns, i), rfl, hn, fun d hd => ⟨hd, true, rfl, (fun h => nomatch h), fun _ => ⟨rfl, rfl⟩⟩⟩))))))))⟩
  · subst e
    subst ea
    exact Ev.dl (EvN.ev (evn_lst eva_nil (Nat.zero_le _))) ⟨.bl true, eq_nil (k := 1) rfl (by decide), rfl⟩

end K26

namespace K26
open PySem PySem.Spec PyProof.Rows L2 Dw
theorem kb_against_other_one_case {K : PySem.W.Frag} {f : Addr} {od an : Option Addr} {sl : Array (Option Value)} {oc kV dc pm cd ct : Value} (l : K.lookup f = some ⟨oc, od, .func (PySem.W.fnOf "against" "against" (defArgs s_against) (defBody s_against) (defScope s_against) .none kV dc pm an cd ct), sl⟩) (c : PySem.W.codeIn K cd "against" = true) (k : PySem.W.keepIn K (.ref f) = true) : KBinds K (PySem.W.fnOf "against" "against" (defArgs s_against) (defBody s_against) (defScope s_against) .none kV dc pm an cd ct) ["case", "one", "other"] ["other", "one", "case"] (fun us ws => match us, ws with | [], [k0, k1, k2] => [k2, k1, k0] | _, _ => []) (fun us ws => match us, ws with | [], [k0, k1, k2] => [k2, k1, k0] | _, _ => []) := by
  refine ⟨fun s us ws X hl => ?_, fun {vs us zs ws} r r' => ?_⟩
  · match us, ws, hl with
    | [], [k0, k1, k2], _ => exact .of_eq rfl
    | _ :: _, _, hl => exact absurd (show (0 : Nat) = 3 from hl) (by decide)
    | [], [], hl => exact absurd (show (0 : Nat) = 3 from hl) (by decide)
    | [], [_], hl => exact absurd (show (0 : Nat) = 3 from hl) (by decide)
    | [], [_, _], hl => exact absurd (show (0 : Nat) = 3 from hl) (by decide)
    | [], _ :: _ :: _ :: _ :: _, hl => exact absurd (show (0 : Nat) = 3 from hl) (by decide)
  · match vs, us, zs, ws, r, r' with
    | _, _, _, _, .nil, .cons q0 (.cons q1 (.cons q2 (.nil))) => exact .cons q2 (.cons q1 (.cons q0 (.nil)))
    | _, _, _, _, .cons p0 _, _ => exact .nil
    | _, _, _, _, .nil, .nil => exact .nil
    | _, _, _, _, .nil, .cons q0 (.nil) => exact .nil
    | _, _, _, _, .nil, .cons q0 (.cons q1 (.nil)) => exact .nil
    | _, _, _, _, .nil, .cons q0 (.cons q1 (.cons q2 (.cons q3 _))) => exact .nil
theorem kb_barred_case {K : PySem.W.Frag} {f : Addr} {od an : Option Addr} {sl : Array (Option Value)} {oc kV dc pm cd ct : Value} (l : K.lookup f = some ⟨oc, od, .func (PySem.W.fnOf "barred" "barred" (defArgs s_barred) (defBody s_barred) (defScope s_barred) .none kV dc pm an cd ct), sl⟩) (c : PySem.W.codeIn K cd "barred" = true) (k : PySem.W.keepIn K (.ref f) = true) : KBinds K (PySem.W.fnOf "barred" "barred" (defArgs s_barred) (defBody s_barred) (defScope s_barred) .none kV dc pm an cd ct) ["case"] ["case"] (fun us ws => match us, ws with | [], [k0] => [k0] | _, _ => []) (fun us ws => match us, ws with | [], [k0] => [k0] | _, _ => []) := by
  refine ⟨fun s us ws X hl => ?_, fun {vs us zs ws} r r' => ?_⟩
  · match us, ws, hl with
    | [], [k0], _ => exact .of_eq rfl
    | _ :: _, _, hl => exact absurd (show (0 : Nat) = 1 from hl) (by decide)
    | [], [], hl => exact absurd (show (0 : Nat) = 1 from hl) (by decide)
    | [], _ :: _ :: _, hl => exact absurd (show (0 : Nat) = 1 from hl) (by decide)
  · match vs, us, zs, ws, r, r' with
    | _, _, _, _, .nil, .cons q0 (.nil) => exact .cons q0 (.nil)
    | _, _, _, _, .cons p0 _, _ => exact .nil
    | _, _, _, _, .nil, .nil => exact .nil
    | _, _, _, _, .nil, .cons q0 (.cons q1 _) => exact .nil
theorem kb_told_by_one_case {K : PySem.W.Frag} {f : Addr} {od an : Option Addr} {sl : Array (Option Value)} {oc kV dc pm cd ct : Value} (l : K.lookup f = some ⟨oc, od, .func (PySem.W.fnOf "told_by" "told_by" (defArgs s_told_by) (defBody s_told_by) (defScope s_told_by) .none kV dc pm an cd ct), sl⟩) (c : PySem.W.codeIn K cd "told_by" = true) (k : PySem.W.keepIn K (.ref f) = true) : KBinds K (PySem.W.fnOf "told_by" "told_by" (defArgs s_told_by) (defBody s_told_by) (defScope s_told_by) .none kV dc pm an cd ct) ["case", "one"] ["one", "case"] (fun us ws => match us, ws with | [], [k0, k1] => [k1, k0] | _, _ => []) (fun us ws => match us, ws with | [], [k0, k1] => [k1, k0] | _, _ => []) := by
  refine ⟨fun s us ws X hl => ?_, fun {vs us zs ws} r r' => ?_⟩
  · match us, ws, hl with
    | [], [k0, k1], _ => exact .of_eq rfl
    | _ :: _, _, hl => exact absurd (show (0 : Nat) = 2 from hl) (by decide)
    | [], [], hl => exact absurd (show (0 : Nat) = 2 from hl) (by decide)
    | [], [_], hl => exact absurd (show (0 : Nat) = 2 from hl) (by decide)
    | [], _ :: _ :: _ :: _, hl => exact absurd (show (0 : Nat) = 2 from hl) (by decide)
  · match vs, us, zs, ws, r, r' with
    | _, _, _, _, .nil, .cons q0 (.cons q1 (.nil)) => exact .cons q1 (.cons q0 (.nil))
    | _, _, _, _, .cons p0 _, _ => exact .nil
    | _, _, _, _, .nil, .nil => exact .nil
    | _, _, _, _, .nil, .cons q0 (.nil) => exact .nil
    | _, _, _, _, .nil, .cons q0 (.cons q1 (.cons q2 _)) => exact .nil
theorem kb_winners_ranking_case {K : PySem.W.Frag} {f : Addr} {od an : Option Addr} {sl : Array (Option Value)} {oc kV dc pm cd ct : Value} (l : K.lookup f = some ⟨oc, od, .func (PySem.W.fnOf "winners" "winners" (defArgs s_winners) (defBody s_winners) (defScope s_winners) .none kV dc pm an cd ct), sl⟩) (c : PySem.W.codeIn K cd "winners" = true) (k : PySem.W.keepIn K (.ref f) = true) : KBinds K (PySem.W.fnOf "winners" "winners" (defArgs s_winners) (defBody s_winners) (defScope s_winners) .none kV dc pm an cd ct) ["case", "ranking"] ["ranking", "case"] (fun us ws => match us, ws with | [], [k0, k1] => [k1, k0] | _, _ => []) (fun us ws => match us, ws with | [], [k0, k1] => [k1, k0] | _, _ => []) := by
  refine ⟨fun s us ws X hl => ?_, fun {vs us zs ws} r r' => ?_⟩
  · match us, ws, hl with
    | [], [k0, k1], _ => exact .of_eq rfl
    | _ :: _, _, hl => exact absurd (show (0 : Nat) = 2 from hl) (by decide)
    | [], [], hl => exact absurd (show (0 : Nat) = 2 from hl) (by decide)
    | [], [_], hl => exact absurd (show (0 : Nat) = 2 from hl) (by decide)
    | [], _ :: _ :: _ :: _, hl => exact absurd (show (0 : Nat) = 2 from hl) (by decide)
  · match vs, us, zs, ws, r, r' with
    | _, _, _, _, .nil, .cons q0 (.cons q1 (.nil)) => exact .cons q1 (.cons q0 (.nil))
    | _, _, _, _, .cons p0 _, _ => exact .nil
    | _, _, _, _, .nil, .nil => exact .nil
    | _, _, _, _, .nil, .cons q0 (.nil) => exact .nil
    | _, _, _, _, .nil, .cons q0 (.cons q1 (.cons q2 _)) => exact .nil
theorem all_mk {l : PySem.W.OpenLaw} {w : World} {K : PySem.W.Frag} {h : Heap} {mg : Str → Option Value} {fa : Addr} (X : K.In h) (G : h.Ns mainGlobals mg) (hfa : mg "law" = some (.ref fa))
    {C_Case : Addr}
    {f_is_name : Addr} {od_is_name an_is_name : Option Addr} {sl_is_name : Array (Option Value)} {oc_is_name kV_is_name dc_is_name pm_is_name cd_is_name ct_is_name : Value}
    {f_are_names : Addr} {od_are_names an_are_names : Option Addr} {sl_are_names : Array (Option Value)} {oc_are_names kV_are_names dc_are_names pm_are_names cd_are_names ct_are_names : Value}
    {f_is_number : Addr} {od_is_number an_is_number : Option Addr} {sl_is_number : Array (Option Value)} {oc_is_number kV_is_number dc_is_number pm_is_number cd_is_number ct_is_number : Value}
    {f_is_whole : Addr} {od_is_whole an_is_whole : Option Addr} {sl_is_whole : Array (Option Value)} {oc_is_whole kV_is_whole dc_is_whole pm_is_whole cd_is_whole ct_is_whole : Value}
    {f_is_ranking : Addr} {od_is_ranking an_is_ranking : Option Addr} {sl_is_ranking : Array (Option Value)} {oc_is_ranking kV_is_ranking dc_is_ranking pm_is_ranking cd_is_ranking ct_is_ranking : Value}
    {f_check_ranking : Addr} {od_check_ranking an_check_ranking : Option Addr} {sl_check_ranking : Array (Option Value)} {oc_check_ranking kV_check_ranking dc_check_ranking pm_check_ranking cd_check_ranking ct_check_ranking : Value}
    {f_check_known : Addr} {od_check_known an_check_known : Option Addr} {sl_check_known : Array (Option Value)} {oc_check_known kV_check_known dc_check_known pm_check_known cd_check_known ct_check_known : Value}
    {f_read_mark : Addr} {od_read_mark an_read_mark : Option Addr} {sl_read_mark : Array (Option Value)} {oc_read_mark kV_read_mark dc_read_mark pm_read_mark cd_read_mark ct_read_mark : Value}
    {f_read_candidates : Addr} {od_read_candidates an_read_candidates : Option Addr} {sl_read_candidates : Array (Option Value)} {oc_read_candidates kV_read_candidates dc_read_candidates pm_read_candidates cd_read_candidates ct_read_candidates : Value}
    {f_read_case : Addr} {od_read_case an_read_case : Option Addr} {sl_read_case : Array (Option Value)} {oc_read_case kV_read_case dc_read_case pm_read_case cd_read_case ct_read_case : Value}
    {f_row_holds : Addr} {od_row_holds an_row_holds : Option Addr} {sl_row_holds : Array (Option Value)} {oc_row_holds kV_row_holds dc_row_holds pm_row_holds cd_row_holds ct_row_holds : Value}
    {f_all_hold : Addr} {od_all_hold an_all_hold : Option Addr} {sl_all_hold : Array (Option Value)} {oc_all_hold kV_all_hold dc_all_hold pm_all_hold cd_all_hold ct_all_hold : Value}
    {f_sign_of : Addr} {od_sign_of an_sign_of : Option Addr} {sl_sign_of : Array (Option Value)} {oc_sign_of kV_sign_of dc_sign_of pm_sign_of cd_sign_of ct_sign_of : Value}
    {f_row_between : Addr} {od_row_between an_row_between : Option Addr} {sl_row_between : Array (Option Value)} {oc_row_between kV_row_between dc_row_between pm_row_between cd_row_between ct_row_between : Value}
    {f_has_sign : Addr} {od_has_sign an_has_sign : Option Addr} {sl_has_sign : Array (Option Value)} {oc_has_sign kV_has_sign dc_has_sign pm_has_sign cd_has_sign ct_has_sign : Value}
    {f_split : Addr} {od_split an_split : Option Addr} {sl_split : Array (Option Value)} {oc_split kV_split dc_split pm_split cd_split ct_split : Value}
    {f_some_fits : Addr} {od_some_fits an_some_fits : Option Addr} {sl_some_fits : Array (Option Value)} {oc_some_fits kV_some_fits dc_some_fits pm_some_fits cd_some_fits ct_some_fits : Value}
    {f_check_case : Addr} {od_check_case an_check_case : Option Addr} {sl_check_case : Array (Option Value)} {oc_check_case kV_check_case dc_check_case pm_check_case cd_check_case ct_check_case : Value}
    {f_Case_marks : Addr} {od_Case_marks an_Case_marks : Option Addr} {sl_Case_marks : Array (Option Value)} {oc_Case_marks kV_Case_marks dc_Case_marks pm_Case_marks cd_Case_marks ct_Case_marks : Value}
    {q_Case_marks : Addr} {rest_Case_marks : List Value}
    {f_Case_names : Addr} {od_Case_names an_Case_names : Option Addr} {sl_Case_names : Array (Option Value)} {oc_Case_names kV_Case_names dc_Case_names pm_Case_names cd_Case_names ct_Case_names : Value}
    {q_Case_names : Addr} {rest_Case_names : List Value}
    {f_row_against : Addr} {od_row_against an_row_against : Option Addr} {sl_row_against : Array (Option Value)} {oc_row_against kV_row_against dc_row_against pm_row_against cd_row_against ct_row_against : Value}
    {f_rows_of : Addr} {od_rows_of an_rows_of : Option Addr} {sl_rows_of : Array (Option Value)} {oc_rows_of kV_rows_of dc_rows_of pm_rows_of cd_rows_of ct_rows_of : Value}
    {f_against : Addr} {od_against an_against : Option Addr} {sl_against : Array (Option Value)} {oc_against kV_against dc_against pm_against cd_against ct_against : Value}
    {f_winners : Addr} {od_winners an_winners : Option Addr} {sl_winners : Array (Option Value)} {oc_winners kV_winners dc_winners pm_winners cd_winners ct_winners : Value}
    {f_told_by : Addr} {od_told_by an_told_by : Option Addr} {sl_told_by : Array (Option Value)} {oc_told_by kV_told_by dc_told_by pm_told_by cd_told_by ct_told_by : Value}
    {f_barred : Addr} {od_barred an_barred : Option Addr} {sl_barred : Array (Option Value)} {oc_barred kV_barred dc_barred pm_barred cd_barred ct_barred : Value}
    {f__law_cell : Addr} {od__law_cell an__law_cell : Option Addr} {sl__law_cell : Array (Option Value)} {oc__law_cell kV__law_cell dc__law_cell pm__law_cell cd__law_cell ct__law_cell : Value}
    {f__law_well : Addr} {od__law_well an__law_well : Option Addr} {sl__law_well : Array (Option Value)} {oc__law_well kV__law_well dc__law_well pm__law_well cd__law_well ct__law_well : Value}
    {f__law_dip : Addr} {od__law_dip an__law_dip : Option Addr} {sl__law_dip : Array (Option Value)} {oc__law_dip kV__law_dip dc__law_dip pm__law_dip cd__law_dip ct__law_dip : Value}
    {f__law_pick : Addr} {od__law_pick an__law_pick : Option Addr} {sl__law_pick : Array (Option Value)} {oc__law_pick kV__law_pick dc__law_pick pm__law_pick cd__law_pick ct__law_pick : Value}
    {f__law_tags : Addr} {od__law_tags an__law_tags : Option Addr} {sl__law_tags : Array (Option Value)} {oc__law_tags kV__law_tags dc__law_tags pm__law_tags cd__law_tags ct__law_tags : Value}
    {f__law_orders : Addr} {od__law_orders an__law_orders : Option Addr} {sl__law_orders : Array (Option Value)} {oc__law_orders kV__law_orders dc__law_orders pm__law_orders cd__law_orders ct__law_orders : Value}
    {f__law_holds : Addr} {od__law_holds an__law_holds : Option Addr} {sl__law_holds : Array (Option Value)} {oc__law_holds kV__law_holds dc__law_holds pm__law_holds cd__law_holds ct__law_holds : Value}
    {f__law_folk : Addr} {od__law_folk an__law_folk : Option Addr} {sl__law_folk : Array (Option Value)} {oc__law_folk kV__law_folk dc__law_folk pm__law_folk cd__law_folk ct__law_folk : Value}
    {f__law_case_page : Addr} {od__law_case_page an__law_case_page : Option Addr} {sl__law_case_page : Array (Option Value)} {oc__law_case_page kV__law_case_page dc__law_case_page pm__law_case_page cd__law_case_page ct__law_case_page : Value}
    {f__law_best : Addr} {od__law_best an__law_best : Option Addr} {sl__law_best : Array (Option Value)} {oc__law_best kV__law_best dc__law_best pm__law_best cd__law_best ct__law_best : Value}
    {f__law_beside : Addr} {od__law_beside an__law_beside : Option Addr} {sl__law_beside : Array (Option Value)} {oc__law_beside kV__law_beside dc__law_beside pm__law_beside cd__law_beside ct__law_beside : Value}
    {f__law_rows_right : Addr} {od__law_rows_right an__law_rows_right : Option Addr} {sl__law_rows_right : Array (Option Value)} {oc__law_rows_right kV__law_rows_right dc__law_rows_right pm__law_rows_right cd__law_rows_right ct__law_rows_right : Value}
    {f_Case___init__ : Addr} {od_Case___init__ an_Case___init__ : Option Addr} {sl_Case___init__ : Array (Option Value)} {oc_Case___init__ kV_Case___init__ dc_Case___init__ pm_Case___init__ cd_Case___init__ ct_Case___init__ : Value}
    {f__law_right : Addr} {od__law_right an__law_right : Option Addr} {sl__law_right : Array (Option Value)} {oc__law_right kV__law_right dc__law_right pm__law_right cd__law_right ct__law_right : Value}
    {f_law : Addr} {od_law an_law : Option Addr} {sl_law : Array (Option Value)} {oc_law kV_law dc_law pm_law cd_law ct_law : Value}
    {t_DIGITS : Tok}
    {t_LEAST_CANDIDATES : Tok}
    {t_LETTERS : Tok}
    {t_MOST_CANDIDATES : Tok}
    {t_MOST_LETTERS : Tok}
    {t_MOST_MARKS : Tok}
    {t_MOST_RULES : Tok}
    (cm_Case : PySem.W.nsIn K mainGlobals "Case" = some (some (.ref C_Case)))
    (cpg_Case : PySem.W.plainGet K C_Case Str.empty = true)
    (chd_Case : PySem.W.hasDictIn K C_Case = true)
    (cpo_Case : PySem.W.plainOver K C_Case = true)
    (csa_Case : PySem.W.findIn K (.ref C_Case) "__setattr__" = some (some (.builtin "object.__setattr__")))
    (cmk_Case : PySem.W.makesIn K C_Case = true)
    (ckc_Case : PySem.W.keepIn K (.ref C_Case) = true)
    (cia_Case : PySem.W.findIn K (.ref C_Case) "__class__" = some (some (.builtin "object.__class__")))
    (cim_Case : PySem.W.mroIn K C_Case (.type "object") = some true)
    (ihn : PySem.W.specialIn K (.builtin "object.__class__") "__get__" = some (some (.builtin "getset_descriptor.__get__")))
    (iht : PySem.W.takesIn K (.builtin "object.__class__") = some true)
    (a_is_name : PySem.W.nsIn K mainGlobals "is_name" = some (some (.ref f_is_name)))
    (l_is_name : K.lookup f_is_name = some ⟨oc_is_name, od_is_name, .func (PySem.W.fnOf "is_name" "is_name" (defArgs s_is_name) (defBody s_is_name) (defScope s_is_name) .none kV_is_name dc_is_name pm_is_name an_is_name cd_is_name ct_is_name), sl_is_name⟩)
    (c_is_name : PySem.W.codeIn K cd_is_name "is_name" = true)
    (k_is_name : PySem.W.keepIn K (.ref f_is_name) = true)
    (a_are_names : PySem.W.nsIn K mainGlobals "are_names" = some (some (.ref f_are_names)))
    (l_are_names : K.lookup f_are_names = some ⟨oc_are_names, od_are_names, .func (PySem.W.fnOf "are_names" "are_names" (defArgs s_are_names) (defBody s_are_names) (defScope s_are_names) .none kV_are_names dc_are_names pm_are_names an_are_names cd_are_names ct_are_names), sl_are_names⟩)
    (c_are_names : PySem.W.codeIn K cd_are_names "are_names" = true)
    (k_are_names : PySem.W.keepIn K (.ref f_are_names) = true)
    (a_is_number : PySem.W.nsIn K mainGlobals "is_number" = some (some (.ref f_is_number)))
    (l_is_number : K.lookup f_is_number = some ⟨oc_is_number, od_is_number, .func (PySem.W.fnOf "is_number" "is_number" (defArgs s_is_number) (defBody s_is_number) (defScope s_is_number) .none kV_is_number dc_is_number pm_is_number an_is_number cd_is_number ct_is_number), sl_is_number⟩)
    (c_is_number : PySem.W.codeIn K cd_is_number "is_number" = true)
    (k_is_number : PySem.W.keepIn K (.ref f_is_number) = true)
    (a_is_whole : PySem.W.nsIn K mainGlobals "is_whole" = some (some (.ref f_is_whole)))
    (l_is_whole : K.lookup f_is_whole = some ⟨oc_is_whole, od_is_whole, .func (PySem.W.fnOf "is_whole" "is_whole" (defArgs s_is_whole) (defBody s_is_whole) (defScope s_is_whole) .none kV_is_whole dc_is_whole pm_is_whole an_is_whole cd_is_whole ct_is_whole), sl_is_whole⟩)
    (c_is_whole : PySem.W.codeIn K cd_is_whole "is_whole" = true)
    (k_is_whole : PySem.W.keepIn K (.ref f_is_whole) = true)
    (a_is_ranking : PySem.W.nsIn K mainGlobals "is_ranking" = some (some (.ref f_is_ranking)))
    (l_is_ranking : K.lookup f_is_ranking = some ⟨oc_is_ranking, od_is_ranking, .func (PySem.W.fnOf "is_ranking" "is_ranking" (defArgs s_is_ranking) (defBody s_is_ranking) (defScope s_is_ranking) .none kV_is_ranking dc_is_ranking pm_is_ranking an_is_ranking cd_is_ranking ct_is_ranking), sl_is_ranking⟩)
    (c_is_ranking : PySem.W.codeIn K cd_is_ranking "is_ranking" = true)
    (k_is_ranking : PySem.W.keepIn K (.ref f_is_ranking) = true)
    (a_check_ranking : PySem.W.nsIn K mainGlobals "check_ranking" = some (some (.ref f_check_ranking)))
    (l_check_ranking : K.lookup f_check_ranking = some ⟨oc_check_ranking, od_check_ranking, .func (PySem.W.fnOf "check_ranking" "check_ranking" (defArgs s_check_ranking) (defBody s_check_ranking) (defScope s_check_ranking) .none kV_check_ranking dc_check_ranking pm_check_ranking an_check_ranking cd_check_ranking ct_check_ranking), sl_check_ranking⟩)
    (c_check_ranking : PySem.W.codeIn K cd_check_ranking "check_ranking" = true)
    (k_check_ranking : PySem.W.keepIn K (.ref f_check_ranking) = true)
    (a_check_known : PySem.W.nsIn K mainGlobals "check_known" = some (some (.ref f_check_known)))
    (l_check_known : K.lookup f_check_known = some ⟨oc_check_known, od_check_known, .func (PySem.W.fnOf "check_known" "check_known" (defArgs s_check_known) (defBody s_check_known) (defScope s_check_known) .none kV_check_known dc_check_known pm_check_known an_check_known cd_check_known ct_check_known), sl_check_known⟩)
    (c_check_known : PySem.W.codeIn K cd_check_known "check_known" = true)
    (k_check_known : PySem.W.keepIn K (.ref f_check_known) = true)
    (a_read_mark : PySem.W.nsIn K mainGlobals "read_mark" = some (some (.ref f_read_mark)))
    (l_read_mark : K.lookup f_read_mark = some ⟨oc_read_mark, od_read_mark, .func (PySem.W.fnOf "read_mark" "read_mark" (defArgs s_read_mark) (defBody s_read_mark) (defScope s_read_mark) .none kV_read_mark dc_read_mark pm_read_mark an_read_mark cd_read_mark ct_read_mark), sl_read_mark⟩)
    (c_read_mark : PySem.W.codeIn K cd_read_mark "read_mark" = true)
    (k_read_mark : PySem.W.keepIn K (.ref f_read_mark) = true)
    (a_read_candidates : PySem.W.nsIn K mainGlobals "read_candidates" = some (some (.ref f_read_candidates)))
    (l_read_candidates : K.lookup f_read_candidates = some ⟨oc_read_candidates, od_read_candidates, .func (PySem.W.fnOf "read_candidates" "read_candidates" (defArgs s_read_candidates) (defBody s_read_candidates) (defScope s_read_candidates) .none kV_read_candidates dc_read_candidates pm_read_candidates an_read_candidates cd_read_candidates ct_read_candidates), sl_read_candidates⟩)
    (c_read_candidates : PySem.W.codeIn K cd_read_candidates "read_candidates" = true)
    (k_read_candidates : PySem.W.keepIn K (.ref f_read_candidates) = true)
    (a_read_case : PySem.W.nsIn K mainGlobals "read_case" = some (some (.ref f_read_case)))
    (l_read_case : K.lookup f_read_case = some ⟨oc_read_case, od_read_case, .func (PySem.W.fnOf "read_case" "read_case" (defArgs s_read_case) (defBody s_read_case) (defScope s_read_case) .none kV_read_case dc_read_case pm_read_case an_read_case cd_read_case ct_read_case), sl_read_case⟩)
    (c_read_case : PySem.W.codeIn K cd_read_case "read_case" = true)
    (k_read_case : PySem.W.keepIn K (.ref f_read_case) = true)
    (a_row_holds : PySem.W.nsIn K mainGlobals "row_holds" = some (some (.ref f_row_holds)))
    (l_row_holds : K.lookup f_row_holds = some ⟨oc_row_holds, od_row_holds, .func (PySem.W.fnOf "row_holds" "row_holds" (defArgs s_row_holds) (defBody s_row_holds) (defScope s_row_holds) .none kV_row_holds dc_row_holds pm_row_holds an_row_holds cd_row_holds ct_row_holds), sl_row_holds⟩)
    (c_row_holds : PySem.W.codeIn K cd_row_holds "row_holds" = true)
    (k_row_holds : PySem.W.keepIn K (.ref f_row_holds) = true)
    (a_all_hold : PySem.W.nsIn K mainGlobals "all_hold" = some (some (.ref f_all_hold)))
    (l_all_hold : K.lookup f_all_hold = some ⟨oc_all_hold, od_all_hold, .func (PySem.W.fnOf "all_hold" "all_hold" (defArgs s_all_hold) (defBody s_all_hold) (defScope s_all_hold) .none kV_all_hold dc_all_hold pm_all_hold an_all_hold cd_all_hold ct_all_hold), sl_all_hold⟩)
    (c_all_hold : PySem.W.codeIn K cd_all_hold "all_hold" = true)
    (k_all_hold : PySem.W.keepIn K (.ref f_all_hold) = true)
    (a_sign_of : PySem.W.nsIn K mainGlobals "sign_of" = some (some (.ref f_sign_of)))
    (l_sign_of : K.lookup f_sign_of = some ⟨oc_sign_of, od_sign_of, .func (PySem.W.fnOf "sign_of" "sign_of" (defArgs s_sign_of) (defBody s_sign_of) (defScope s_sign_of) .none kV_sign_of dc_sign_of pm_sign_of an_sign_of cd_sign_of ct_sign_of), sl_sign_of⟩)
    (c_sign_of : PySem.W.codeIn K cd_sign_of "sign_of" = true)
    (k_sign_of : PySem.W.keepIn K (.ref f_sign_of) = true)
    (a_row_between : PySem.W.nsIn K mainGlobals "row_between" = some (some (.ref f_row_between)))
    (l_row_between : K.lookup f_row_between = some ⟨oc_row_between, od_row_between, .func (PySem.W.fnOf "row_between" "row_between" (defArgs s_row_between) (defBody s_row_between) (defScope s_row_between) .none kV_row_between dc_row_between pm_row_between an_row_between cd_row_between ct_row_between), sl_row_between⟩)
    (c_row_between : PySem.W.codeIn K cd_row_between "row_between" = true)
    (k_row_between : PySem.W.keepIn K (.ref f_row_between) = true)
    (a_has_sign : PySem.W.nsIn K mainGlobals "has_sign" = some (some (.ref f_has_sign)))
    (l_has_sign : K.lookup f_has_sign = some ⟨oc_has_sign, od_has_sign, .func (PySem.W.fnOf "has_sign" "has_sign" (defArgs s_has_sign) (defBody s_has_sign) (defScope s_has_sign) .none kV_has_sign dc_has_sign pm_has_sign an_has_sign cd_has_sign ct_has_sign), sl_has_sign⟩)
    (c_has_sign : PySem.W.codeIn K cd_has_sign "has_sign" = true)
    (k_has_sign : PySem.W.keepIn K (.ref f_has_sign) = true)
    (a_split : PySem.W.nsIn K mainGlobals "split" = some (some (.ref f_split)))
    (l_split : K.lookup f_split = some ⟨oc_split, od_split, .func (PySem.W.fnOf "split" "split" (defArgs s_split) (defBody s_split) (defScope s_split) .none kV_split dc_split pm_split an_split cd_split ct_split), sl_split⟩)
    (c_split : PySem.W.codeIn K cd_split "split" = true)
    (k_split : PySem.W.keepIn K (.ref f_split) = true)
    (a_some_fits : PySem.W.nsIn K mainGlobals "some_fits" = some (some (.ref f_some_fits)))
    (l_some_fits : K.lookup f_some_fits = some ⟨oc_some_fits, od_some_fits, .func (PySem.W.fnOf "some_fits" "some_fits" (defArgs s_some_fits) (defBody s_some_fits) (defScope s_some_fits) .none kV_some_fits dc_some_fits pm_some_fits an_some_fits cd_some_fits ct_some_fits), sl_some_fits⟩)
    (c_some_fits : PySem.W.codeIn K cd_some_fits "some_fits" = true)
    (k_some_fits : PySem.W.keepIn K (.ref f_some_fits) = true)
    (a_check_case : PySem.W.nsIn K mainGlobals "check_case" = some (some (.ref f_check_case)))
    (l_check_case : K.lookup f_check_case = some ⟨oc_check_case, od_check_case, .func (PySem.W.fnOf "check_case" "check_case" (defArgs s_check_case) (defBody s_check_case) (defScope s_check_case) .none kV_check_case dc_check_case pm_check_case an_check_case cd_check_case ct_check_case), sl_check_case⟩)
    (c_check_case : PySem.W.codeIn K cd_check_case "check_case" = true)
    (k_check_case : PySem.W.keepIn K (.ref f_check_case) = true)
    (a_Case_marks : PySem.W.findIn K (.ref C_Case) "marks" = some (some (.ref q_Case_marks)))
    (g_Case_marks : PySem.W.specialIn K (.ref q_Case_marks) "__get__" = some (some (.builtin "property.__get__")))
    (t_Case_marks : PySem.W.takesIn K (.ref q_Case_marks) = some true)
    (r_Case_marks : PySem.W.recIn K q_Case_marks "property" = some (.ref f_Case_marks :: rest_Case_marks))
    (l_Case_marks : K.lookup f_Case_marks = some ⟨oc_Case_marks, od_Case_marks, .func (PySem.W.fnOf "marks" "Case.marks" (defArgs s_Case_marks) (defBody s_Case_marks) (defScope s_Case_marks) .none kV_Case_marks dc_Case_marks pm_Case_marks an_Case_marks cd_Case_marks ct_Case_marks), sl_Case_marks⟩)
    (c_Case_marks : PySem.W.codeIn K cd_Case_marks "Case.marks" = true)
    (k_Case_marks : PySem.W.keepIn K (.ref f_Case_marks) = true)
    (a_Case_names : PySem.W.findIn K (.ref C_Case) "names" = some (some (.ref q_Case_names)))
    (g_Case_names : PySem.W.specialIn K (.ref q_Case_names) "__get__" = some (some (.builtin "property.__get__")))
    (t_Case_names : PySem.W.takesIn K (.ref q_Case_names) = some true)
    (r_Case_names : PySem.W.recIn K q_Case_names "property" = some (.ref f_Case_names :: rest_Case_names))
    (l_Case_names : K.lookup f_Case_names = some ⟨oc_Case_names, od_Case_names, .func (PySem.W.fnOf "names" "Case.names" (defArgs s_Case_names) (defBody s_Case_names) (defScope s_Case_names) .none kV_Case_names dc_Case_names pm_Case_names an_Case_names cd_Case_names ct_Case_names), sl_Case_names⟩)
    (c_Case_names : PySem.W.codeIn K cd_Case_names "Case.names" = true)
    (k_Case_names : PySem.W.keepIn K (.ref f_Case_names) = true)
    (a_row_against : PySem.W.nsIn K mainGlobals "row_against" = some (some (.ref f_row_against)))
    (l_row_against : K.lookup f_row_against = some ⟨oc_row_against, od_row_against, .func (PySem.W.fnOf "row_against" "row_against" (defArgs s_row_against) (defBody s_row_against) (defScope s_row_against) .none kV_row_against dc_row_against pm_row_against an_row_against cd_row_against ct_row_against), sl_row_against⟩)
    (c_row_against : PySem.W.codeIn K cd_row_against "row_against" = true)
    (k_row_against : PySem.W.keepIn K (.ref f_row_against) = true)
    (a_rows_of : PySem.W.nsIn K mainGlobals "rows_of" = some (some (.ref f_rows_of)))
    (l_rows_of : K.lookup f_rows_of = some ⟨oc_rows_of, od_rows_of, .func (PySem.W.fnOf "rows_of" "rows_of" (defArgs s_rows_of) (defBody s_rows_of) (defScope s_rows_of) .none kV_rows_of dc_rows_of pm_rows_of an_rows_of cd_rows_of ct_rows_of), sl_rows_of⟩)
    (c_rows_of : PySem.W.codeIn K cd_rows_of "rows_of" = true)
    (k_rows_of : PySem.W.keepIn K (.ref f_rows_of) = true)
    (a_against : PySem.W.nsIn K mainGlobals "against" = some (some (.ref f_against)))
    (l_against : K.lookup f_against = some ⟨oc_against, od_against, .func (PySem.W.fnOf "against" "against" (defArgs s_against) (defBody s_against) (defScope s_against) .none kV_against dc_against pm_against an_against cd_against ct_against), sl_against⟩)
    (c_against : PySem.W.codeIn K cd_against "against" = true)
    (k_against : PySem.W.keepIn K (.ref f_against) = true)
    (a_winners : PySem.W.nsIn K mainGlobals "winners" = some (some (.ref f_winners)))
    (l_winners : K.lookup f_winners = some ⟨oc_winners, od_winners, .func (PySem.W.fnOf "winners" "winners" (defArgs s_winners) (defBody s_winners) (defScope s_winners) .none kV_winners dc_winners pm_winners an_winners cd_winners ct_winners), sl_winners⟩)
    (c_winners : PySem.W.codeIn K cd_winners "winners" = true)
    (k_winners : PySem.W.keepIn K (.ref f_winners) = true)
    (a_told_by : PySem.W.nsIn K mainGlobals "told_by" = some (some (.ref f_told_by)))
    (l_told_by : K.lookup f_told_by = some ⟨oc_told_by, od_told_by, .func (PySem.W.fnOf "told_by" "told_by" (defArgs s_told_by) (defBody s_told_by) (defScope s_told_by) .none kV_told_by dc_told_by pm_told_by an_told_by cd_told_by ct_told_by), sl_told_by⟩)
    (c_told_by : PySem.W.codeIn K cd_told_by "told_by" = true)
    (k_told_by : PySem.W.keepIn K (.ref f_told_by) = true)
    (a_barred : PySem.W.nsIn K mainGlobals "barred" = some (some (.ref f_barred)))
    (l_barred : K.lookup f_barred = some ⟨oc_barred, od_barred, .func (PySem.W.fnOf "barred" "barred" (defArgs s_barred) (defBody s_barred) (defScope s_barred) .none kV_barred dc_barred pm_barred an_barred cd_barred ct_barred), sl_barred⟩)
    (c_barred : PySem.W.codeIn K cd_barred "barred" = true)
    (k_barred : PySem.W.keepIn K (.ref f_barred) = true)
    (a__law_cell : PySem.W.nsIn K mainGlobals "_law_cell" = some (some (.ref f__law_cell)))
    (l__law_cell : K.lookup f__law_cell = some ⟨oc__law_cell, od__law_cell, .func (PySem.W.fnOf "_law_cell" "_law_cell" (defArgs s__law_cell) (defBody s__law_cell) (defScope s__law_cell) .none kV__law_cell dc__law_cell pm__law_cell an__law_cell cd__law_cell ct__law_cell), sl__law_cell⟩)
    (c__law_cell : PySem.W.codeIn K cd__law_cell "_law_cell" = true)
    (k__law_cell : PySem.W.keepIn K (.ref f__law_cell) = true)
    (a__law_well : PySem.W.nsIn K mainGlobals "_law_well" = some (some (.ref f__law_well)))
    (l__law_well : K.lookup f__law_well = some ⟨oc__law_well, od__law_well, .func (PySem.W.fnOf "_law_well" "_law_well" (defArgs s__law_well) (defBody s__law_well) (defScope s__law_well) .none kV__law_well dc__law_well pm__law_well an__law_well cd__law_well ct__law_well), sl__law_well⟩)
    (c__law_well : PySem.W.codeIn K cd__law_well "_law_well" = true)
    (k__law_well : PySem.W.keepIn K (.ref f__law_well) = true)
    (a__law_dip : PySem.W.nsIn K mainGlobals "_law_dip" = some (some (.ref f__law_dip)))
    (l__law_dip : K.lookup f__law_dip = some ⟨oc__law_dip, od__law_dip, .func (PySem.W.fnOf "_law_dip" "_law_dip" (defArgs s__law_dip) (defBody s__law_dip) (defScope s__law_dip) .none kV__law_dip dc__law_dip pm__law_dip an__law_dip cd__law_dip ct__law_dip), sl__law_dip⟩)
    (c__law_dip : PySem.W.codeIn K cd__law_dip "_law_dip" = true)
    (k__law_dip : PySem.W.keepIn K (.ref f__law_dip) = true)
    (a__law_pick : PySem.W.nsIn K mainGlobals "_law_pick" = some (some (.ref f__law_pick)))
    (l__law_pick : K.lookup f__law_pick = some ⟨oc__law_pick, od__law_pick, .func (PySem.W.fnOf "_law_pick" "_law_pick" (defArgs s__law_pick) (defBody s__law_pick) (defScope s__law_pick) .none kV__law_pick dc__law_pick pm__law_pick an__law_pick cd__law_pick ct__law_pick), sl__law_pick⟩)
    (c__law_pick : PySem.W.codeIn K cd__law_pick "_law_pick" = true)
    (k__law_pick : PySem.W.keepIn K (.ref f__law_pick) = true)
    (a__law_tags : PySem.W.nsIn K mainGlobals "_law_tags" = some (some (.ref f__law_tags)))
    (l__law_tags : K.lookup f__law_tags = some ⟨oc__law_tags, od__law_tags, .func (PySem.W.fnOf "_law_tags" "_law_tags" (defArgs s__law_tags) (defBody s__law_tags) (defScope s__law_tags) .none kV__law_tags dc__law_tags pm__law_tags an__law_tags cd__law_tags ct__law_tags), sl__law_tags⟩)
    (c__law_tags : PySem.W.codeIn K cd__law_tags "_law_tags" = true)
    (k__law_tags : PySem.W.keepIn K (.ref f__law_tags) = true)
    (a__law_orders : PySem.W.nsIn K mainGlobals "_law_orders" = some (some (.ref f__law_orders)))
    (l__law_orders : K.lookup f__law_orders = some ⟨oc__law_orders, od__law_orders, .func (PySem.W.fnOf "_law_orders" "_law_orders" (defArgs s__law_orders) (defBody s__law_orders) (defScope s__law_orders) .none kV__law_orders dc__law_orders pm__law_orders an__law_orders cd__law_orders ct__law_orders), sl__law_orders⟩)
    (c__law_orders : PySem.W.codeIn K cd__law_orders "_law_orders" = true)
    (k__law_orders : PySem.W.keepIn K (.ref f__law_orders) = true)
    (a__law_holds : PySem.W.nsIn K mainGlobals "_law_holds" = some (some (.ref f__law_holds)))
    (l__law_holds : K.lookup f__law_holds = some ⟨oc__law_holds, od__law_holds, .func (PySem.W.fnOf "_law_holds" "_law_holds" (defArgs s__law_holds) (defBody s__law_holds) (defScope s__law_holds) .none kV__law_holds dc__law_holds pm__law_holds an__law_holds cd__law_holds ct__law_holds), sl__law_holds⟩)
    (c__law_holds : PySem.W.codeIn K cd__law_holds "_law_holds" = true)
    (k__law_holds : PySem.W.keepIn K (.ref f__law_holds) = true)
    (a__law_folk : PySem.W.nsIn K mainGlobals "_law_folk" = some (some (.ref f__law_folk)))
    (l__law_folk : K.lookup f__law_folk = some ⟨oc__law_folk, od__law_folk, .func (PySem.W.fnOf "_law_folk" "_law_folk" (defArgs s__law_folk) (defBody s__law_folk) (defScope s__law_folk) .none kV__law_folk dc__law_folk pm__law_folk an__law_folk cd__law_folk ct__law_folk), sl__law_folk⟩)
    (c__law_folk : PySem.W.codeIn K cd__law_folk "_law_folk" = true)
    (k__law_folk : PySem.W.keepIn K (.ref f__law_folk) = true)
    (a__law_case_page : PySem.W.nsIn K mainGlobals "_law_case_page" = some (some (.ref f__law_case_page)))
    (l__law_case_page : K.lookup f__law_case_page = some ⟨oc__law_case_page, od__law_case_page, .func (PySem.W.fnOf "_law_case_page" "_law_case_page" (defArgs s__law_case_page) (defBody s__law_case_page) (defScope s__law_case_page) .none kV__law_case_page dc__law_case_page pm__law_case_page an__law_case_page cd__law_case_page ct__law_case_page), sl__law_case_page⟩)
    (c__law_case_page : PySem.W.codeIn K cd__law_case_page "_law_case_page" = true)
    (k__law_case_page : PySem.W.keepIn K (.ref f__law_case_page) = true)
    (a__law_best : PySem.W.nsIn K mainGlobals "_law_best" = some (some (.ref f__law_best)))
    (l__law_best : K.lookup f__law_best = some ⟨oc__law_best, od__law_best, .func (PySem.W.fnOf "_law_best" "_law_best" (defArgs s__law_best) (defBody s__law_best) (defScope s__law_best) .none kV__law_best dc__law_best pm__law_best an__law_best cd__law_best ct__law_best), sl__law_best⟩)
    (c__law_best : PySem.W.codeIn K cd__law_best "_law_best" = true)
    (k__law_best : PySem.W.keepIn K (.ref f__law_best) = true)
    (a__law_beside : PySem.W.nsIn K mainGlobals "_law_beside" = some (some (.ref f__law_beside)))
    (l__law_beside : K.lookup f__law_beside = some ⟨oc__law_beside, od__law_beside, .func (PySem.W.fnOf "_law_beside" "_law_beside" (defArgs s__law_beside) (defBody s__law_beside) (defScope s__law_beside) .none kV__law_beside dc__law_beside pm__law_beside an__law_beside cd__law_beside ct__law_beside), sl__law_beside⟩)
    (c__law_beside : PySem.W.codeIn K cd__law_beside "_law_beside" = true)
    (k__law_beside : PySem.W.keepIn K (.ref f__law_beside) = true)
    (a__law_rows_right : PySem.W.nsIn K mainGlobals "_law_rows_right" = some (some (.ref f__law_rows_right)))
    (l__law_rows_right : K.lookup f__law_rows_right = some ⟨oc__law_rows_right, od__law_rows_right, .func (PySem.W.fnOf "_law_rows_right" "_law_rows_right" (defArgs s__law_rows_right) (defBody s__law_rows_right) (defScope s__law_rows_right) .none kV__law_rows_right dc__law_rows_right pm__law_rows_right an__law_rows_right cd__law_rows_right ct__law_rows_right), sl__law_rows_right⟩)
    (c__law_rows_right : PySem.W.codeIn K cd__law_rows_right "_law_rows_right" = true)
    (k__law_rows_right : PySem.W.keepIn K (.ref f__law_rows_right) = true)
    (a_Case___init__ : PySem.W.findIn K (.ref C_Case) "__init__" = some (some (.ref f_Case___init__)))
    (i_Case___init__ : PySem.W.isFn K (.ref f_Case___init__) = true)
    (l_Case___init__ : K.lookup f_Case___init__ = some ⟨oc_Case___init__, od_Case___init__, .func (PySem.W.fnOf "__init__" "Case.__init__" (defArgs s_Case___init__) (defBody s_Case___init__) (defScope s_Case___init__) .none kV_Case___init__ dc_Case___init__ pm_Case___init__ an_Case___init__ cd_Case___init__ ct_Case___init__), sl_Case___init__⟩)
    (c_Case___init__ : PySem.W.codeIn K cd_Case___init__ "Case.__init__" = true)
    (k_Case___init__ : PySem.W.keepIn K (.ref f_Case___init__) = true)
    (a__law_right : PySem.W.nsIn K mainGlobals "_law_right" = some (some (.ref f__law_right)))
    (l__law_right : K.lookup f__law_right = some ⟨oc__law_right, od__law_right, .func (PySem.W.fnOf "_law_right" "_law_right" (defArgs s__law_right) (defBody s__law_right) (defScope s__law_right) .none kV__law_right dc__law_right pm__law_right an__law_right cd__law_right ct__law_right), sl__law_right⟩)
    (c__law_right : PySem.W.codeIn K cd__law_right "_law_right" = true)
    (k__law_right : PySem.W.keepIn K (.ref f__law_right) = true)
    (a_law : PySem.W.nsIn K mainGlobals "law" = some (some (.ref f_law)))
    (l_law : K.lookup f_law = some ⟨oc_law, od_law, .func (PySem.W.fnOf "law" "law" (defArgs s_law) (defBody s_law) (defScope s_law) .none kV_law dc_law pm_law an_law cd_law ct_law), sl_law⟩)
    (c_law : PySem.W.codeIn K cd_law "law" = true)
    (k_law : PySem.W.keepIn K (.ref f_law) = true)
    (z_abs : PySem.W.nsIn K mainGlobals "abs" = some none)
    (z_all : PySem.W.nsIn K mainGlobals "all" = some none)
    (z_bool : PySem.W.nsIn K mainGlobals "bool" = some none)
    (z_divmod : PySem.W.nsIn K mainGlobals "divmod" = some none)
    (z_enumerate : PySem.W.nsIn K mainGlobals "enumerate" = some none)
    (z_int : PySem.W.nsIn K mainGlobals "int" = some none)
    (z_isinstance : PySem.W.nsIn K mainGlobals "isinstance" = some none)
    (z_len : PySem.W.nsIn K mainGlobals "len" = some none)
    (z_list : PySem.W.nsIn K mainGlobals "list" = some none)
    (z_max : PySem.W.nsIn K mainGlobals "max" = some none)
    (z_min : PySem.W.nsIn K mainGlobals "min" = some none)
    (z_range : PySem.W.nsIn K mainGlobals "range" = some none)
    (z_repr : PySem.W.nsIn K mainGlobals "repr" = some none)
    (z_sorted : PySem.W.nsIn K mainGlobals "sorted" = some none)
    (z_str : PySem.W.nsIn K mainGlobals "str" = some none)
    (z_tuple : PySem.W.nsIn K mainGlobals "tuple" = some none)
    (z_zip : PySem.W.nsIn K mainGlobals "zip" = some none)
    (v_DIGITS : PySem.W.nsIn K mainGlobals "DIGITS" = some (some (.str "0123456789" t_DIGITS)))
    (v_LEAST_CANDIDATES : PySem.W.nsIn K mainGlobals "LEAST_CANDIDATES" = some (some (.int 2 t_LEAST_CANDIDATES)))
    (v_LETTERS : PySem.W.nsIn K mainGlobals "LETTERS" = some (some (.str "abcdefghijklmnopqrstuvwxyz" t_LETTERS)))
    (v_MOST_CANDIDATES : PySem.W.nsIn K mainGlobals "MOST_CANDIDATES" = some (some (.int 8 t_MOST_CANDIDATES)))
    (v_MOST_LETTERS : PySem.W.nsIn K mainGlobals "MOST_LETTERS" = some (some (.int 8 t_MOST_LETTERS)))
    (v_MOST_MARKS : PySem.W.nsIn K mainGlobals "MOST_MARKS" = some (some (.int 99 t_MOST_MARKS)))
    (v_MOST_RULES : PySem.W.nsIn K mainGlobals "MOST_RULES" = some (some (.int 8 t_MOST_RULES)))
    (no1 : PySem.W.findIn K (.ref C_Case) "_text" = some none)
    (no2 : PySem.W.findIn K (.ref C_Case) "_names" = some none)
    (no3 : PySem.W.findIn K (.ref C_Case) "_marks" = some none) :
    ∃ fd : FuncData, (∀ (s : Shared) (v : Value), BindsTo s fd ⟨[v], []⟩ [("_law_cells", v)]) ∧ ∀ base : Heap, FnG l.prog w K mg base 8 fa fd ["_law_cells"] (spLaw K) := by
  have e := hfa.symm.trans (PySem.W.mg_of X G a_law)
  cases e
  let T : Txt K w mg := {
    C_Case := C_Case,
    m_Case := PySem.W.mg_of X G cm_Case,
    cl_Case := ⟨cpg_Case, chd_Case, cpo_Case, csa_Case⟩,
    f_is_name := f_is_name,
    e_is_name := PySem.W.fnOf "is_name" "is_name" (defArgs s_is_name) (defBody s_is_name) (defScope s_is_name) .none kV_is_name dc_is_name pm_is_name an_is_name cd_is_name ct_is_name,
    F_is_name := fun_mk (st := s_is_name) l_is_name c_is_name k_is_name,
    b_is_name := Fun.binds (ps := ["value"]) (fun_mk (st := s_is_name) l_is_name c_is_name k_is_name) fun _ _ _ _ _ _ us hl => match us, hl with | [_], _ => rfl,
    m_is_name := PySem.W.mg_of X G a_is_name,
    f_are_names := f_are_names,
    e_are_names := PySem.W.fnOf "are_names" "are_names" (defArgs s_are_names) (defBody s_are_names) (defScope s_are_names) .none kV_are_names dc_are_names pm_are_names an_are_names cd_are_names ct_are_names,
    F_are_names := fun_mk (st := s_are_names) l_are_names c_are_names k_are_names,
    b_are_names := Fun.binds (ps := ["values"]) (fun_mk (st := s_are_names) l_are_names c_are_names k_are_names) fun _ _ _ _ _ _ us hl => match us, hl with | [_], _ => rfl,
    m_are_names := PySem.W.mg_of X G a_are_names,
    f_is_number := f_is_number,
    e_is_number := PySem.W.fnOf "is_number" "is_number" (defArgs s_is_number) (defBody s_is_number) (defScope s_is_number) .none kV_is_number dc_is_number pm_is_number an_is_number cd_is_number ct_is_number,
    F_is_number := fun_mk (st := s_is_number) l_is_number c_is_number k_is_number,
    b_is_number := Fun.binds (ps := ["word"]) (fun_mk (st := s_is_number) l_is_number c_is_number k_is_number) fun _ _ _ _ _ _ us hl => match us, hl with | [_], _ => rfl,
    m_is_number := PySem.W.mg_of X G a_is_number,
    f_is_whole := f_is_whole,
    e_is_whole := PySem.W.fnOf "is_whole" "is_whole" (defArgs s_is_whole) (defBody s_is_whole) (defScope s_is_whole) .none kV_is_whole dc_is_whole pm_is_whole an_is_whole cd_is_whole ct_is_whole,
    F_is_whole := fun_mk (st := s_is_whole) l_is_whole c_is_whole k_is_whole,
    b_is_whole := Fun.binds (ps := ["value"]) (fun_mk (st := s_is_whole) l_is_whole c_is_whole k_is_whole) fun _ _ _ _ _ _ us hl => match us, hl with | [_], _ => rfl,
    m_is_whole := PySem.W.mg_of X G a_is_whole,
    f_is_ranking := f_is_ranking,
    e_is_ranking := PySem.W.fnOf "is_ranking" "is_ranking" (defArgs s_is_ranking) (defBody s_is_ranking) (defScope s_is_ranking) .none kV_is_ranking dc_is_ranking pm_is_ranking an_is_ranking cd_is_ranking ct_is_ranking,
    F_is_ranking := fun_mk (st := s_is_ranking) l_is_ranking c_is_ranking k_is_ranking,
    b_is_ranking := Fun.binds (ps := ["value", "many"]) (fun_mk (st := s_is_ranking) l_is_ranking c_is_ranking k_is_ranking) fun _ _ _ _ _ _ us hl => match us, hl with | [_, _], _ => rfl,
    m_is_ranking := PySem.W.mg_of X G a_is_ranking,
    f_check_ranking := f_check_ranking,
    e_check_ranking := PySem.W.fnOf "check_ranking" "check_ranking" (defArgs s_check_ranking) (defBody s_check_ranking) (defScope s_check_ranking) .none kV_check_ranking dc_check_ranking pm_check_ranking an_check_ranking cd_check_ranking ct_check_ranking,
    F_check_ranking := fun_mk (st := s_check_ranking) l_check_ranking c_check_ranking k_check_ranking,
    b_check_ranking := Fun.binds (ps := ["ranking", "many"]) (fun_mk (st := s_check_ranking) l_check_ranking c_check_ranking k_check_ranking) fun _ _ _ _ _ _ us hl => match us, hl with | [_, _], _ => rfl,
    m_check_ranking := PySem.W.mg_of X G a_check_ranking,
    f_check_known := f_check_known,
    e_check_known := PySem.W.fnOf "check_known" "check_known" (defArgs s_check_known) (defBody s_check_known) (defScope s_check_known) .none kV_check_known dc_check_known pm_check_known an_check_known cd_check_known ct_check_known,
    F_check_known := fun_mk (st := s_check_known) l_check_known c_check_known k_check_known,
    b_check_known := Fun.binds (ps := ["name", "names"]) (fun_mk (st := s_check_known) l_check_known c_check_known k_check_known) fun _ _ _ _ _ _ us hl => match us, hl with | [_, _], _ => rfl,
    m_check_known := PySem.W.mg_of X G a_check_known,
    f_read_mark := f_read_mark,
    e_read_mark := PySem.W.fnOf "read_mark" "read_mark" (defArgs s_read_mark) (defBody s_read_mark) (defScope s_read_mark) .none kV_read_mark dc_read_mark pm_read_mark an_read_mark cd_read_mark ct_read_mark,
    F_read_mark := fun_mk (st := s_read_mark) l_read_mark c_read_mark k_read_mark,
    b_read_mark := Fun.binds (ps := ["word"]) (fun_mk (st := s_read_mark) l_read_mark c_read_mark k_read_mark) fun _ _ _ _ _ _ us hl => match us, hl with | [_], _ => rfl,
    m_read_mark := PySem.W.mg_of X G a_read_mark,
    f_read_candidates := f_read_candidates,
    e_read_candidates := PySem.W.fnOf "read_candidates" "read_candidates" (defArgs s_read_candidates) (defBody s_read_candidates) (defScope s_read_candidates) .none kV_read_candidates dc_read_candidates pm_read_candidates an_read_candidates cd_read_candidates ct_read_candidates,
    F_read_candidates := fun_mk (st := s_read_candidates) l_read_candidates c_read_candidates k_read_candidates,
    b_read_candidates := Fun.binds (ps := ["text", "read_word"]) (fun_mk (st := s_read_candidates) l_read_candidates c_read_candidates k_read_candidates) fun _ _ _ _ _ _ us hl => match us, hl with | [_, _], _ => rfl,
    m_read_candidates := PySem.W.mg_of X G a_read_candidates,
    f_read_case := f_read_case,
    e_read_case := PySem.W.fnOf "read_case" "read_case" (defArgs s_read_case) (defBody s_read_case) (defScope s_read_case) .none kV_read_case dc_read_case pm_read_case an_read_case cd_read_case ct_read_case,
    F_read_case := fun_mk (st := s_read_case) l_read_case c_read_case k_read_case,
    b_read_case := Fun.binds (ps := ["text"]) (fun_mk (st := s_read_case) l_read_case c_read_case k_read_case) fun _ _ _ _ _ _ us hl => match us, hl with | [_], _ => rfl,
    m_read_case := PySem.W.mg_of X G a_read_case,
    f_row_holds := f_row_holds,
    e_row_holds := PySem.W.fnOf "row_holds" "row_holds" (defArgs s_row_holds) (defBody s_row_holds) (defScope s_row_holds) .none kV_row_holds dc_row_holds pm_row_holds an_row_holds cd_row_holds ct_row_holds,
    F_row_holds := fun_mk (st := s_row_holds) l_row_holds c_row_holds k_row_holds,
    b_row_holds := Fun.binds (ps := ["row", "ranking"]) (fun_mk (st := s_row_holds) l_row_holds c_row_holds k_row_holds) fun _ _ _ _ _ _ us hl => match us, hl with | [_, _], _ => rfl,
    m_row_holds := PySem.W.mg_of X G a_row_holds,
    f_all_hold := f_all_hold,
    e_all_hold := PySem.W.fnOf "all_hold" "all_hold" (defArgs s_all_hold) (defBody s_all_hold) (defScope s_all_hold) .none kV_all_hold dc_all_hold pm_all_hold an_all_hold cd_all_hold ct_all_hold,
    F_all_hold := fun_mk (st := s_all_hold) l_all_hold c_all_hold k_all_hold,
    b_all_hold := Fun.binds (ps := ["rows", "ranking"]) (fun_mk (st := s_all_hold) l_all_hold c_all_hold k_all_hold) fun _ _ _ _ _ _ us hl => match us, hl with | [_, _], _ => rfl,
    m_all_hold := PySem.W.mg_of X G a_all_hold,
    f_sign_of := f_sign_of,
    e_sign_of := PySem.W.fnOf "sign_of" "sign_of" (defArgs s_sign_of) (defBody s_sign_of) (defScope s_sign_of) .none kV_sign_of dc_sign_of pm_sign_of an_sign_of cd_sign_of ct_sign_of,
    F_sign_of := fun_mk (st := s_sign_of) l_sign_of c_sign_of k_sign_of,
    b_sign_of := Fun.binds (ps := ["mark", "rival"]) (fun_mk (st := s_sign_of) l_sign_of c_sign_of k_sign_of) fun _ _ _ _ _ _ us hl => match us, hl with | [_, _], _ => rfl,
    m_sign_of := PySem.W.mg_of X G a_sign_of,
    f_row_between := f_row_between,
    e_row_between := PySem.W.fnOf "row_between" "row_between" (defArgs s_row_between) (defBody s_row_between) (defScope s_row_between) .none kV_row_between dc_row_between pm_row_between an_row_between cd_row_between ct_row_between,
    F_row_between := fun_mk (st := s_row_between) l_row_between c_row_between k_row_between,
    b_row_between := Fun.binds (ps := ["mine", "theirs"]) (fun_mk (st := s_row_between) l_row_between c_row_between k_row_between) fun _ _ _ _ _ _ us hl => match us, hl with | [_, _], _ => rfl,
    m_row_between := PySem.W.mg_of X G a_row_between,
    f_has_sign := f_has_sign,
    e_has_sign := PySem.W.fnOf "has_sign" "has_sign" (defArgs s_has_sign) (defBody s_has_sign) (defScope s_has_sign) .none kV_has_sign dc_has_sign pm_has_sign an_has_sign cd_has_sign ct_has_sign,
    F_has_sign := fun_mk (st := s_has_sign) l_has_sign c_has_sign k_has_sign,
    b_has_sign := Fun.binds (ps := ["row", "rules", "sign"]) (fun_mk (st := s_has_sign) l_has_sign c_has_sign k_has_sign) fun _ _ _ _ _ _ us hl => match us, hl with | [_, _, _], _ => rfl,
    m_has_sign := PySem.W.mg_of X G a_has_sign,
    f_split := f_split,
    e_split := PySem.W.fnOf "split" "split" (defArgs s_split) (defBody s_split) (defScope s_split) .none kV_split dc_split pm_split an_split cd_split ct_split,
    F_split := fun_mk (st := s_split) l_split c_split k_split,
    b_split := Fun.binds (ps := ["rows", "many"]) (fun_mk (st := s_split) l_split c_split k_split) fun _ _ _ _ _ _ us hl => match us, hl with | [_, _], _ => rfl,
    m_split := PySem.W.mg_of X G a_split,
    f_some_fits := f_some_fits,
    e_some_fits := PySem.W.fnOf "some_fits" "some_fits" (defArgs s_some_fits) (defBody s_some_fits) (defScope s_some_fits) .none kV_some_fits dc_some_fits pm_some_fits an_some_fits cd_some_fits ct_some_fits,
    F_some_fits := fun_mk (st := s_some_fits) l_some_fits c_some_fits k_some_fits,
    b_some_fits := Fun.binds (ps := ["rows", "many"]) (fun_mk (st := s_some_fits) l_some_fits c_some_fits k_some_fits) fun _ _ _ _ _ _ us hl => match us, hl with | [_, _], _ => rfl,
    m_some_fits := PySem.W.mg_of X G a_some_fits,
    f_check_case := f_check_case,
    e_check_case := PySem.W.fnOf "check_case" "check_case" (defArgs s_check_case) (defBody s_check_case) (defScope s_check_case) .none kV_check_case dc_check_case pm_check_case an_check_case cd_check_case ct_check_case,
    F_check_case := fun_mk (st := s_check_case) l_check_case c_check_case k_check_case,
    b_check_case := Fun.binds (ps := ["case"]) (fun_mk (st := s_check_case) l_check_case c_check_case k_check_case) fun _ _ _ _ _ _ us hl => match us, hl with | [_], _ => rfl,
    m_check_case := PySem.W.mg_of X G a_check_case,
    f_Case_marks := f_Case_marks,
    e_Case_marks := PySem.W.fnOf "marks" "Case.marks" (defArgs s_Case_marks) (defBody s_Case_marks) (defScope s_Case_marks) .none kV_Case_marks dc_Case_marks pm_Case_marks an_Case_marks cd_Case_marks ct_Case_marks,
    F_Case_marks := fun_mk (st := s_Case_marks) l_Case_marks c_Case_marks k_Case_marks,
    b_Case_marks := Fun.binds (ps := ["self"]) (fun_mk (st := s_Case_marks) l_Case_marks c_Case_marks k_Case_marks) fun _ _ _ _ _ _ us hl => match us, hl with | [_], _ => rfl,
    q_Case_marks := q_Case_marks,
    p_Case_marks := ⟨a_Case_marks, g_Case_marks, t_Case_marks, ⟨_, r_Case_marks⟩⟩,
    f_Case_names := f_Case_names,
    e_Case_names := PySem.W.fnOf "names" "Case.names" (defArgs s_Case_names) (defBody s_Case_names) (defScope s_Case_names) .none kV_Case_names dc_Case_names pm_Case_names an_Case_names cd_Case_names ct_Case_names,
    F_Case_names := fun_mk (st := s_Case_names) l_Case_names c_Case_names k_Case_names,
    b_Case_names := Fun.binds (ps := ["self"]) (fun_mk (st := s_Case_names) l_Case_names c_Case_names k_Case_names) fun _ _ _ _ _ _ us hl => match us, hl with | [_], _ => rfl,
    q_Case_names := q_Case_names,
    p_Case_names := ⟨a_Case_names, g_Case_names, t_Case_names, ⟨_, r_Case_names⟩⟩,
    f_row_against := f_row_against,
    e_row_against := PySem.W.fnOf "row_against" "row_against" (defArgs s_row_against) (defBody s_row_against) (defScope s_row_against) .none kV_row_against dc_row_against pm_row_against an_row_against cd_row_against ct_row_against,
    F_row_against := fun_mk (st := s_row_against) l_row_against c_row_against k_row_against,
    b_row_against := Fun.binds (ps := ["case", "one", "other"]) (fun_mk (st := s_row_against) l_row_against c_row_against k_row_against) fun _ _ _ _ _ _ us hl => match us, hl with | [_, _, _], _ => rfl,
    m_row_against := PySem.W.mg_of X G a_row_against,
    f_rows_of := f_rows_of,
    e_rows_of := PySem.W.fnOf "rows_of" "rows_of" (defArgs s_rows_of) (defBody s_rows_of) (defScope s_rows_of) .none kV_rows_of dc_rows_of pm_rows_of an_rows_of cd_rows_of ct_rows_of,
    F_rows_of := fun_mk (st := s_rows_of) l_rows_of c_rows_of k_rows_of,
    b_rows_of := Fun.binds (ps := ["case", "one"]) (fun_mk (st := s_rows_of) l_rows_of c_rows_of k_rows_of) fun _ _ _ _ _ _ us hl => match us, hl with | [_, _], _ => rfl,
    m_rows_of := PySem.W.mg_of X G a_rows_of,
    f_against := f_against,
    e_against := PySem.W.fnOf "against" "against" (defArgs s_against) (defBody s_against) (defScope s_against) .none kV_against dc_against pm_against an_against cd_against ct_against,
    F_against := fun_mk (st := s_against) l_against c_against k_against,
    b_against := Fun.binds (ps := ["case", "one", "other"]) (fun_mk (st := s_against) l_against c_against k_against) fun _ _ _ _ _ _ us hl => match us, hl with | [_, _, _], _ => rfl,
    m_against := PySem.W.mg_of X G a_against,
    f_winners := f_winners,
    e_winners := PySem.W.fnOf "winners" "winners" (defArgs s_winners) (defBody s_winners) (defScope s_winners) .none kV_winners dc_winners pm_winners an_winners cd_winners ct_winners,
    F_winners := fun_mk (st := s_winners) l_winners c_winners k_winners,
    b_winners := Fun.binds (ps := ["case", "ranking"]) (fun_mk (st := s_winners) l_winners c_winners k_winners) fun _ _ _ _ _ _ us hl => match us, hl with | [_, _], _ => rfl,
    m_winners := PySem.W.mg_of X G a_winners,
    f_told_by := f_told_by,
    e_told_by := PySem.W.fnOf "told_by" "told_by" (defArgs s_told_by) (defBody s_told_by) (defScope s_told_by) .none kV_told_by dc_told_by pm_told_by an_told_by cd_told_by ct_told_by,
    F_told_by := fun_mk (st := s_told_by) l_told_by c_told_by k_told_by,
    b_told_by := Fun.binds (ps := ["case", "one"]) (fun_mk (st := s_told_by) l_told_by c_told_by k_told_by) fun _ _ _ _ _ _ us hl => match us, hl with | [_, _], _ => rfl,
    m_told_by := PySem.W.mg_of X G a_told_by,
    f_barred := f_barred,
    e_barred := PySem.W.fnOf "barred" "barred" (defArgs s_barred) (defBody s_barred) (defScope s_barred) .none kV_barred dc_barred pm_barred an_barred cd_barred ct_barred,
    F_barred := fun_mk (st := s_barred) l_barred c_barred k_barred,
    b_barred := Fun.binds (ps := ["case"]) (fun_mk (st := s_barred) l_barred c_barred k_barred) fun _ _ _ _ _ _ us hl => match us, hl with | [_], _ => rfl,
    m_barred := PySem.W.mg_of X G a_barred,
    f__law_cell := f__law_cell,
    e__law_cell := PySem.W.fnOf "_law_cell" "_law_cell" (defArgs s__law_cell) (defBody s__law_cell) (defScope s__law_cell) .none kV__law_cell dc__law_cell pm__law_cell an__law_cell cd__law_cell ct__law_cell,
    F__law_cell := fun_mk (st := s__law_cell) l__law_cell c__law_cell k__law_cell,
    b__law_cell := Fun.binds (ps := ["_law_cells", "_law_k"]) (fun_mk (st := s__law_cell) l__law_cell c__law_cell k__law_cell) fun _ _ _ _ _ _ us hl => match us, hl with | [_, _], _ => rfl,
    m__law_cell := PySem.W.mg_of X G a__law_cell,
    f__law_well := f__law_well,
    e__law_well := PySem.W.fnOf "_law_well" "_law_well" (defArgs s__law_well) (defBody s__law_well) (defScope s__law_well) .none kV__law_well dc__law_well pm__law_well an__law_well cd__law_well ct__law_well,
    F__law_well := fun_mk (st := s__law_well) l__law_well c__law_well k__law_well,
    b__law_well := Fun.binds (ps := ["_law_cell_here"]) (fun_mk (st := s__law_well) l__law_well c__law_well k__law_well) fun _ _ _ _ _ _ us hl => match us, hl with | [_], _ => rfl,
    m__law_well := PySem.W.mg_of X G a__law_well,
    f__law_dip := f__law_dip,
    e__law_dip := PySem.W.fnOf "_law_dip" "_law_dip" (defArgs s__law_dip) (defBody s__law_dip) (defScope s__law_dip) .none kV__law_dip dc__law_dip pm__law_dip an__law_dip cd__law_dip ct__law_dip,
    F__law_dip := fun_mk (st := s__law_dip) l__law_dip c__law_dip k__law_dip,
    b__law_dip := Fun.binds (ps := ["_law_jar", "_law_many"]) (fun_mk (st := s__law_dip) l__law_dip c__law_dip k__law_dip) fun _ _ _ _ _ _ us hl => match us, hl with | [_, _], _ => rfl,
    m__law_dip := PySem.W.mg_of X G a__law_dip,
    f__law_pick := f__law_pick,
    e__law_pick := PySem.W.fnOf "_law_pick" "_law_pick" (defArgs s__law_pick) (defBody s__law_pick) (defScope s__law_pick) .none kV__law_pick dc__law_pick pm__law_pick an__law_pick cd__law_pick ct__law_pick,
    F__law_pick := fun_mk (st := s__law_pick) l__law_pick c__law_pick k__law_pick,
    b__law_pick := Fun.binds (ps := ["_law_jar", "_law_things"]) (fun_mk (st := s__law_pick) l__law_pick c__law_pick k__law_pick) fun _ _ _ _ _ _ us hl => match us, hl with | [_, _], _ => rfl,
    m__law_pick := PySem.W.mg_of X G a__law_pick,
    f__law_tags := f__law_tags,
    e__law_tags := PySem.W.fnOf "_law_tags" "_law_tags" (defArgs s__law_tags) (defBody s__law_tags) (defScope s__law_tags) .none kV__law_tags dc__law_tags pm__law_tags an__law_tags cd__law_tags ct__law_tags,
    F__law_tags := fun_mk (st := s__law_tags) l__law_tags c__law_tags k__law_tags,
    b__law_tags := Fun.binds (ps := ["_law_jar", "_law_many"]) (fun_mk (st := s__law_tags) l__law_tags c__law_tags k__law_tags) fun _ _ _ _ _ _ us hl => match us, hl with | [_, _], _ => rfl,
    m__law_tags := PySem.W.mg_of X G a__law_tags,
    f__law_orders := f__law_orders,
    e__law_orders := PySem.W.fnOf "_law_orders" "_law_orders" (defArgs s__law_orders) (defBody s__law_orders) (defScope s__law_orders) .none kV__law_orders dc__law_orders pm__law_orders an__law_orders cd__law_orders ct__law_orders,
    F__law_orders := fun_mk (st := s__law_orders) l__law_orders c__law_orders k__law_orders,
    b__law_orders := Fun.binds (ps := ["_law_many"]) (fun_mk (st := s__law_orders) l__law_orders c__law_orders k__law_orders) fun _ _ _ _ _ _ us hl => match us, hl with | [_], _ => rfl,
    m__law_orders := PySem.W.mg_of X G a__law_orders,
    f__law_holds := f__law_holds,
    e__law_holds := PySem.W.fnOf "_law_holds" "_law_holds" (defArgs s__law_holds) (defBody s__law_holds) (defScope s__law_holds) .none kV__law_holds dc__law_holds pm__law_holds an__law_holds cd__law_holds ct__law_holds,
    F__law_holds := fun_mk (st := s__law_holds) l__law_holds c__law_holds k__law_holds,
    b__law_holds := Fun.binds (ps := ["_law_row", "_law_order"]) (fun_mk (st := s__law_holds) l__law_holds c__law_holds k__law_holds) fun _ _ _ _ _ _ us hl => match us, hl with | [_, _], _ => rfl,
    m__law_holds := PySem.W.mg_of X G a__law_holds,
    f__law_folk := f__law_folk,
    e__law_folk := PySem.W.fnOf "_law_folk" "_law_folk" (defArgs s__law_folk) (defBody s__law_folk) (defScope s__law_folk) .none kV__law_folk dc__law_folk pm__law_folk an__law_folk cd__law_folk ct__law_folk,
    F__law_folk := fun_mk (st := s__law_folk) l__law_folk c__law_folk k__law_folk,
    b__law_folk := Fun.binds (ps := ["_law_jar", "_law_many", "_law_least", "_law_most"]) (fun_mk (st := s__law_folk) l__law_folk c__law_folk k__law_folk) fun _ _ _ _ _ _ us hl => match us, hl with | [_, _, _, _], _ => rfl,
    m__law_folk := PySem.W.mg_of X G a__law_folk,
    f__law_case_page := f__law_case_page,
    e__law_case_page := PySem.W.fnOf "_law_case_page" "_law_case_page" (defArgs s__law_case_page) (defBody s__law_case_page) (defScope s__law_case_page) .none kV__law_case_page dc__law_case_page pm__law_case_page an__law_case_page cd__law_case_page ct__law_case_page,
    F__law_case_page := fun_mk (st := s__law_case_page) l__law_case_page c__law_case_page k__law_case_page,
    b__law_case_page := Fun.binds (ps := ["_law_folk_here"]) (fun_mk (st := s__law_case_page) l__law_case_page c__law_case_page k__law_case_page) fun _ _ _ _ _ _ us hl => match us, hl with | [_], _ => rfl,
    m__law_case_page := PySem.W.mg_of X G a__law_case_page,
    f__law_best := f__law_best,
    e__law_best := PySem.W.fnOf "_law_best" "_law_best" (defArgs s__law_best) (defBody s__law_best) (defScope s__law_best) .none kV__law_best dc__law_best pm__law_best an__law_best cd__law_best ct__law_best,
    F__law_best := fun_mk (st := s__law_best) l__law_best c__law_best k__law_best,
    b__law_best := Fun.binds (ps := ["_law_folk_here", "_law_order"]) (fun_mk (st := s__law_best) l__law_best c__law_best k__law_best) fun _ _ _ _ _ _ us hl => match us, hl with | [_, _], _ => rfl,
    m__law_best := PySem.W.mg_of X G a__law_best,
    f__law_beside := f__law_beside,
    e__law_beside := PySem.W.fnOf "_law_beside" "_law_beside" (defArgs s__law_beside) (defBody s__law_beside) (defScope s__law_beside) .none kV__law_beside dc__law_beside pm__law_beside an__law_beside cd__law_beside ct__law_beside,
    F__law_beside := fun_mk (st := s__law_beside) l__law_beside c__law_beside k__law_beside,
    b__law_beside := Fun.binds (ps := ["_law_own", "_law_rival"]) (fun_mk (st := s__law_beside) l__law_beside c__law_beside k__law_beside) fun _ _ _ _ _ _ us hl => match us, hl with | [_, _], _ => rfl,
    m__law_beside := PySem.W.mg_of X G a__law_beside,
    f__law_rows_right := f__law_rows_right,
    e__law_rows_right := PySem.W.fnOf "_law_rows_right" "_law_rows_right" (defArgs s__law_rows_right) (defBody s__law_rows_right) (defScope s__law_rows_right) .none kV__law_rows_right dc__law_rows_right pm__law_rows_right an__law_rows_right cd__law_rows_right ct__law_rows_right,
    F__law_rows_right := fun_mk (st := s__law_rows_right) l__law_rows_right c__law_rows_right k__law_rows_right,
    b__law_rows_right := Fun.binds (ps := ["_law_mine", "_law_folk_here"]) (fun_mk (st := s__law_rows_right) l__law_rows_right c__law_rows_right k__law_rows_right) fun _ _ _ _ _ _ us hl => match us, hl with | [_, _], _ => rfl,
    m__law_rows_right := PySem.W.mg_of X G a__law_rows_right,
    f_Case___init__ := f_Case___init__,
    e_Case___init__ := PySem.W.fnOf "__init__" "Case.__init__" (defArgs s_Case___init__) (defBody s_Case___init__) (defScope s_Case___init__) .none kV_Case___init__ dc_Case___init__ pm_Case___init__ an_Case___init__ cd_Case___init__ ct_Case___init__,
    F_Case___init__ := fun_mk (st := s_Case___init__) l_Case___init__ c_Case___init__ k_Case___init__,
    b_Case___init__ := Fun.binds (ps := ["self", "text"]) (fun_mk (st := s_Case___init__) l_Case___init__ c_Case___init__ k_Case___init__) fun _ _ _ _ _ _ us hl => match us, hl with | [_, _], _ => rfl,
    mk_Case := ⟨cmk_Case, a_Case___init__, i_Case___init__, ckc_Case⟩,
    f__law_right := f__law_right,
    e__law_right := PySem.W.fnOf "_law_right" "_law_right" (defArgs s__law_right) (defBody s__law_right) (defScope s__law_right) .none kV__law_right dc__law_right pm__law_right an__law_right cd__law_right ct__law_right,
    F__law_right := fun_mk (st := s__law_right) l__law_right c__law_right k__law_right,
    b__law_right := Fun.binds (ps := ["_law_jar"]) (fun_mk (st := s__law_right) l__law_right c__law_right k__law_right) fun _ _ _ _ _ _ us hl => match us, hl with | [_], _ => rfl,
    m__law_right := PySem.W.mg_of X G a__law_right,
    f_law := fa,
    e_law := PySem.W.fnOf "law" "law" (defArgs s_law) (defBody s_law) (defScope s_law) .none kV_law dc_law pm_law an_law cd_law ct_law,
    F_law := fun_mk (st := s_law) l_law c_law k_law,
    b_law := Fun.binds (ps := ["_law_cells"]) (fun_mk (st := s_law) l_law c_law k_law) fun _ _ _ _ _ _ us hl => match us, hl with | [_], _ => rfl,
    m_law := PySem.W.mg_of X G a_law,
    n_abs := PySem.W.mg_none_of X G z_abs,
    n_all := PySem.W.mg_none_of X G z_all,
    n_bool := PySem.W.mg_none_of X G z_bool,
    n_divmod := PySem.W.mg_none_of X G z_divmod,
    n_enumerate := PySem.W.mg_none_of X G z_enumerate,
    n_int := PySem.W.mg_none_of X G z_int,
    n_isinstance := PySem.W.mg_none_of X G z_isinstance,
    n_len := PySem.W.mg_none_of X G z_len,
    n_list := PySem.W.mg_none_of X G z_list,
    n_max := PySem.W.mg_none_of X G z_max,
    n_min := PySem.W.mg_none_of X G z_min,
    n_range := PySem.W.mg_none_of X G z_range,
    n_repr := PySem.W.mg_none_of X G z_repr,
    n_sorted := PySem.W.mg_none_of X G z_sorted,
    n_str := PySem.W.mg_none_of X G z_str,
    n_tuple := PySem.W.mg_none_of X G z_tuple,
    n_zip := PySem.W.mg_none_of X G z_zip,
    t_DIGITS := t_DIGITS,
    c_DIGITS := PySem.W.mg_of X G v_DIGITS,
    t_LEAST_CANDIDATES := t_LEAST_CANDIDATES,
    c_LEAST_CANDIDATES := PySem.W.mg_of X G v_LEAST_CANDIDATES,
    t_LETTERS := t_LETTERS,
    c_LETTERS := PySem.W.mg_of X G v_LETTERS,
    t_MOST_CANDIDATES := t_MOST_CANDIDATES,
    c_MOST_CANDIDATES := PySem.W.mg_of X G v_MOST_CANDIDATES,
    t_MOST_LETTERS := t_MOST_LETTERS,
    c_MOST_LETTERS := PySem.W.mg_of X G v_MOST_LETTERS,
    t_MOST_MARKS := t_MOST_MARKS,
    c_MOST_MARKS := PySem.W.mg_of X G v_MOST_MARKS,
    t_MOST_RULES := t_MOST_RULES,
    c_MOST_RULES := PySem.W.mg_of X G v_MOST_RULES,
    k_told_by_one_case := kb_told_by_one_case l_told_by c_told_by k_told_by,
    k_against_other_one_case := kb_against_other_one_case l_against c_against k_against,
    k_winners_ranking_case := kb_winners_ranking_case l_winners c_winners k_winners,
    k_barred_case := kb_barred_case l_barred c_barred k_barred,
    cno_text := no1,
    cno_names := no2,
    cno_marks := no3,
    ins_Case := ⟨⟨cpg_Case, chd_Case, cpo_Case, csa_Case⟩, cia_Case, ihn, iht, cim_Case⟩ }
  exact ⟨T.e_law, fun s v => .of_eq rfl, fun base => d_law T⟩
end K26

open PySem PySem.W PyProof.Rows in
set_option maxRecDepth 100000 in
set_option maxHeartbeats 0 in
theorem PySem.Challenge.cw_rankedrules_k26_whole_winners_by_own_com_holds : PySem.Challenge.rw_rankedrules_k26_whole_winners_by_own_com.Holds := by
  w_on; o_law; k_head; (case hw => w_witness2)
  k_fill
  refine Dw.walk_GB (l := PySem.Challenge.rw_rankedrules_k26_whole_winners_by_own_com) (k := 8) (x := "_law_cells") (sp := K26.spLaw) rfl rfl ⟨rfl, by decide, by decide⟩ (fun w h Y => PySem.W.kIn_of Y) (fun K ns h hb => ⟨ns, rfl, ⟨h, hb⟩, fun d h => h⟩) ?F
  case F =>
    intro w mg fa h KX G hmg
    refine' K26.all_mk KX G hmg ?cm_Case ?cpg_Case ?chd_Case ?cpo_Case ?csa_Case ?cmk_Case ?ckc_Case ?cia_Case ?cim_Case ?ihn ?iht ?a_is_name ?l_is_name ?c_is_name ?k_is_name ?a_are_names ?l_are_names ?c_are_names ?k_are_names ?a_is_number ?l_is_number ?c_is_number ?k_is_number ?a_is_whole ?l_is_whole ?c_is_whole ?k_is_whole ?a_is_ranking ?l_is_ranking ?c_is_ranking ?k_is_ranking ?a_check_ranking ?l_check_ranking ?c_check_ranking ?k_check_ranking ?a_check_known ?l_check_known ?c_check_known ?k_check_known ?a_read_mark ?l_read_mark ?c_read_mark ?k_read_mark ?a_read_candidates ?l_read_candidates ?c_read_candidates ?k_read_candidates ?a_read_case ?l_read_case ?c_read_case ?k_read_case ?a_row_holds ?l_row_holds ?c_row_holds ?k_row_holds ?a_all_hold ?l_all_hold ?c_all_hold ?k_all_hold ?a_sign_of ?l_sign_of ?c_sign_of ?k_sign_of ?a_row_between ?l_row_between ?c_row_between ?k_row_between ?a_has_sign ?l_has_sign ?c_has_sign ?k_has_sign ?a_split ?l_split ?c_split ?k_split ?a_some_fits ?l_some_fits ?c_some_fits ?k_some_fits ?a_check_case ?l_check_case ?c_check_case ?k_check_case ?a_Case_marks ?g_Case_marks ?t_Case_marks ?r_Case_marks ?l_Case_marks ?c_Case_marks ?k_Case_marks ?a_Case_names ?g_Case_names ?t_Case_names ?r_Case_names ?l_Case_names ?c_Case_names ?k_Case_names ?a_row_against ?l_row_against ?c_row_against ?k_row_against ?a_rows_of ?l_rows_of ?c_rows_of ?k_rows_of ?a_against ?l_against ?c_against ?k_against ?a_winners ?l_winners ?c_winners ?k_winners ?a_told_by ?l_told_by ?c_told_by ?k_told_by ?a_barred ?l_barred ?c_barred ?k_barred ?a__law_cell ?l__law_cell ?c__law_cell ?k__law_cell ?a__law_well ?l__law_well ?c__law_well ?k__law_well ?a__law_dip ?l__law_dip ?c__law_dip ?k__law_dip ?a__law_pick ?l__law_pick ?c__law_pick ?k__law_pick ?a__law_tags ?l__law_tags ?c__law_tags ?k__law_tags ?a__law_orders ?l__law_orders ?c__law_orders ?k__law_orders ?a__law_holds ?l__law_holds ?c__law_holds ?k__law_holds ?a__law_folk ?l__law_folk ?c__law_folk ?k__law_folk ?a__law_case_page ?l__law_case_page ?c__law_case_page ?k__law_case_page ?a__law_best ?l__law_best ?c__law_best ?k__law_best ?a__law_beside ?l__law_beside ?c__law_beside ?k__law_beside ?a__law_rows_right ?l__law_rows_right ?c__law_rows_right ?k__law_rows_right ?a_Case___init__ ?i_Case___init__ ?l_Case___init__ ?c_Case___init__ ?k_Case___init__ ?a__law_right ?l__law_right ?c__law_right ?k__law_right ?a_law ?l_law ?c_law ?k_law ?z_abs ?z_all ?z_bool ?z_divmod ?z_enumerate ?z_int ?z_isinstance ?z_len ?z_list ?z_max ?z_min ?z_range ?z_repr ?z_sorted ?z_str ?z_tuple ?z_zip ?v_DIGITS ?v_LEAST_CANDIDATES ?v_LETTERS ?v_MOST_CANDIDATES ?v_MOST_LETTERS ?v_MOST_MARKS ?v_MOST_RULES ?no1 ?no2 ?no3
    (case cm_Case => k_is)
    (case cpg_Case => k_is)
    (case chd_Case => k_is)
    (case cpo_Case => k_is)
    (case csa_Case => k_is)
    (case cmk_Case => k_is)
    (case ckc_Case => k_is)
    (case cia_Case => k_is)
    (case cim_Case => k_is)
    (case ihn => k_is)
    (case iht => k_is)
    (case a_is_name => k_is)
    (case l_is_name => k_is)
    (case c_is_name => k_is)
    (case k_is_name => k_is)
    (case a_are_names => k_is)
    (case l_are_names => k_is)
    (case c_are_names => k_is)
    (case k_are_names => k_is)
    (case a_is_number => k_is)
    (case l_is_number => k_is)
    (case c_is_number => k_is)
    (case k_is_number => k_is)
    (case a_is_whole => k_is)
    (case l_is_whole => k_is)
    (case c_is_whole => k_is)
    (case k_is_whole => k_is)
    (case a_is_ranking => k_is)
    (case l_is_ranking => k_is)
    (case c_is_ranking => k_is)
    (case k_is_ranking => k_is)
    (case a_check_ranking => k_is)
    (case l_check_ranking => k_is)
    (case c_check_ranking => k_is)
    (case k_check_ranking => k_is)
    (case a_check_known => k_is)
    (case l_check_known => k_is)
    (case c_check_known => k_is)
    (case k_check_known => k_is)
    (case a_read_mark => k_is)
    (case l_read_mark => k_is)
    (case c_read_mark => k_is)
    (case k_read_mark => k_is)
    (case a_read_candidates => k_is)
    (case l_read_candidates => k_is)
    (case c_read_candidates => k_is)
    (case k_read_candidates => k_is)
    (case a_read_case => k_is)
    (case l_read_case => k_is)
    (case c_read_case => k_is)
    (case k_read_case => k_is)
    (case a_row_holds => k_is)
    (case l_row_holds => k_is)
    (case c_row_holds => k_is)
    (case k_row_holds => k_is)
    (case a_all_hold => k_is)
    (case l_all_hold => k_is)
    (case c_all_hold => k_is)
    (case k_all_hold => k_is)
    (case a_sign_of => k_is)
    (case l_sign_of => k_is)
    (case c_sign_of => k_is)
    (case k_sign_of => k_is)
    (case a_row_between => k_is)
    (case l_row_between => k_is)
    (case c_row_between => k_is)
    (case k_row_between => k_is)
    (case a_has_sign => k_is)
    (case l_has_sign => k_is)
    (case c_has_sign => k_is)
    (case k_has_sign => k_is)
    (case a_split => k_is)
    (case l_split => k_is)
    (case c_split => k_is)
    (case k_split => k_is)
    (case a_some_fits => k_is)
    (case l_some_fits => k_is)
    (case c_some_fits => k_is)
    (case k_some_fits => k_is)
    (case a_check_case => k_is)
    (case l_check_case => k_is)
    (case c_check_case => k_is)
    (case k_check_case => k_is)
    (case a_Case_marks => k_is)
    (case g_Case_marks => k_is)
    (case t_Case_marks => k_is)
    (case r_Case_marks => k_is)
    (case l_Case_marks => k_is)
    (case c_Case_marks => k_is)
    (case k_Case_marks => k_is)
    (case a_Case_names => k_is)
    (case g_Case_names => k_is)
    (case t_Case_names => k_is)
    (case r_Case_names => k_is)
    (case l_Case_names => k_is)
    (case c_Case_names => k_is)
    (case k_Case_names => k_is)
    (case a_row_against => k_is)
    (case l_row_against => k_is)
    (case c_row_against => k_is)
    (case k_row_against => k_is)
    (case a_rows_of => k_is)
    (case l_rows_of => k_is)
    (case c_rows_of => k_is)
    (case k_rows_of => k_is)
    (case a_against => k_is)
    (case l_against => k_is)
    (case c_against => k_is)
    (case k_against => k_is)
    (case a_winners => k_is)
    (case l_winners => k_is)
    (case c_winners => k_is)
    (case k_winners => k_is)
    (case a_told_by => k_is)
    (case l_told_by => k_is)
    (case c_told_by => k_is)
    (case k_told_by => k_is)
    (case a_barred => k_is)
    (case l_barred => k_is)
    (case c_barred => k_is)
    (case k_barred => k_is)
    (case a__law_cell => k_is)
    (case l__law_cell => k_is)
    (case c__law_cell => k_is)
    (case k__law_cell => k_is)
    (case a__law_well => k_is)
    (case l__law_well => k_is)
    (case c__law_well => k_is)
    (case k__law_well => k_is)
    (case a__law_dip => k_is)
    (case l__law_dip => k_is)
    (case c__law_dip => k_is)
    (case k__law_dip => k_is)
    (case a__law_pick => k_is)
    (case l__law_pick => k_is)
    (case c__law_pick => k_is)
    (case k__law_pick => k_is)
    (case a__law_tags => k_is)
    (case l__law_tags => k_is)
    (case c__law_tags => k_is)
    (case k__law_tags => k_is)
    (case a__law_orders => k_is)
    (case l__law_orders => k_is)
    (case c__law_orders => k_is)
    (case k__law_orders => k_is)
    (case a__law_holds => k_is)
    (case l__law_holds => k_is)
    (case c__law_holds => k_is)
    (case k__law_holds => k_is)
    (case a__law_folk => k_is)
    (case l__law_folk => k_is)
    (case c__law_folk => k_is)
    (case k__law_folk => k_is)
    (case a__law_case_page => k_is)
    (case l__law_case_page => k_is)
    (case c__law_case_page => k_is)
    (case k__law_case_page => k_is)
    (case a__law_best => k_is)
    (case l__law_best => k_is)
    (case c__law_best => k_is)
    (case k__law_best => k_is)
    (case a__law_beside => k_is)
    (case l__law_beside => k_is)
    (case c__law_beside => k_is)
    (case k__law_beside => k_is)
    (case a__law_rows_right => k_is)
    (case l__law_rows_right => k_is)
    (case c__law_rows_right => k_is)
    (case k__law_rows_right => k_is)
    (case a_Case___init__ => k_is)
    (case i_Case___init__ => k_is)
    (case l_Case___init__ => k_is)
    (case c_Case___init__ => k_is)
    (case k_Case___init__ => k_is)
    (case a__law_right => k_is)
    (case l__law_right => k_is)
    (case c__law_right => k_is)
    (case k__law_right => k_is)
    (case a_law => k_is)
    (case l_law => k_is)
    (case c_law => k_is)
    (case k_law => k_is)
    (case z_abs => k_is)
    (case z_all => k_is)
    (case z_bool => k_is)
    (case z_divmod => k_is)
    (case z_enumerate => k_is)
    (case z_int => k_is)
    (case z_isinstance => k_is)
    (case z_len => k_is)
    (case z_list => k_is)
    (case z_max => k_is)
    (case z_min => k_is)
    (case z_range => k_is)
    (case z_repr => k_is)
    (case z_sorted => k_is)
    (case z_str => k_is)
    (case z_tuple => k_is)
    (case z_zip => k_is)
    (case v_DIGITS => k_is)
    (case v_LEAST_CANDIDATES => k_is)
    (case v_LETTERS => k_is)
    (case v_MOST_CANDIDATES => k_is)
    (case v_MOST_LETTERS => k_is)
    (case v_MOST_MARKS => k_is)
    (case v_MOST_RULES => k_is)
    (case no1 => k_is)
    (case no2 => k_is)
    (case no3 => k_is)
#print axioms PySem.Challenge.cw_rankedrules_k26_whole_winners_by_own_com_holds

